/- What is proved: the comparison of circuits; the example that each law of gates checks first. -/
import Derived.Test.YtbcabnbgkicfdaaGaCir
import Derived.Test.YtbcabnbgkicfdaaGaREv
set_option linter.unusedVariables false
namespace Go.Proofs.Ytbcabnbgkicfdaa
open Go.RowKit Go.Maps

set_option maxRecDepth 100000 in
set_option maxHeartbeats 4000000 in
theorem same_any (I1 : Int) (A1 : Option Addr) (c1 : Nat) (l1 : List Gt) (I2 : Int) (A2 : Option Addr) (c2 : Nat) (l2 : List Gt) (w : World) (h1 : GRow w A1 l1) (h2 : GRow w A2 l2) (k1 : ∀ x ∈ l1, GtOk x) (k2 : ∀ x ∈ l2, GtOk x) (hl : l1.length ≤ 1000000) :
    Calls Try.prog 16 #[.agg #[.int .i64 I1, .slice A1 l1.length c1], .agg #[.int .i64 I2, .slice A2 l2.length c2]] w fun e w' => e = .returned (.bool (decide (I1 = I2 ∧ l1 = l2))) ∧ Below w.heap.size w w' := by
  have hb1 := (Below.refl w.heap.size w).alloc (Nat.le_refl _) (.cells #[.int .i64 I1, .slice A1 l1.length c1] 30)
  have hb2 := (Below.refl (w.alloc (.cells #[.int .i64 I1, .slice A1 l1.length c1] 30)).heap.size _).alloc (Nat.le_refl _) (.cells #[.int .i64 I2, .slice A2 l2.length c2] 30)
  have HX1 := Lib.hid ((CBx.new w I1 A1 l1.length c1).later hb2)
  have HX2 := Lib.hid (CBx.new (w.alloc (.cells #[.int .i64 I1, .slice A1 l1.length c1] 30)) I2 A2 l2.length c2)
  have HB := Lib.hid (hb1.trans (hb2.mono hb1.size))
  have HR1 := Lib.hid h1
  have HR2 := Lib.hid h2
  have HK1 := Lib.hid k1
  have HK2 := Lib.hid k2
  rw [show (w.alloc (.cells #[.int .i64 I1, .slice A1 l1.length c1] 30)).heap.size = w.heap.size + 1 by simp] at HX2
  clear hb1 hb2 h1 h2 k1 k2
  go_enter Try.func16, Try.ntmps16
  go_upto_region 1 with fail
  generalize hgw : (w.alloc (.cells #[.int .i64 I1, .slice A1 l1.length c1] 30)).alloc (.cells #[.int .i64 I2, .slice A2 l2.length c2] 30) = w1 at *
  clear hgw
  obtain ⟨a0, a1⟩ := HX1.out.cells
  obtain ⟨b0, b1⟩ := HX2.out.cells
  by_cases hI : I1 = I2
  · have d0 : (I1 == I2) = true := by simpa using hI
    have d0' : (I1 != I2) = false := by simpa using hI
    by_cases hn : l1.length = l2.length
    · have d1 : ((l1.length : Int) == (l2.length : Int)) = true := by rw [hn]; simp
      have d1' : ((l1.length : Int) != (l2.length : Int)) = false := by rw [hn]; simp
      have HI := Lib.hid hI
      have HN := Lib.hid hn
      clear hI hn
      go_wp2_with (fail)
      clear a0 a1 b0 b1
      go_loopw [5] (fun jv wr => ∃ (k : Nat), k ≤ l1.length ∧ jv = .int .i64 (k : Int) ∧ Hid (l1.take k = l2.take k) ∧ Hid (CBx wr w.heap.size I1 A1 l1.length c1) ∧ Hid (CBx wr (w.heap.size + 1) I2 A2 l2.length c2) ∧ Hid (Below w.heap.size w wr)) (fun jv _ => l1.length - (intOf jv).toNat)
      case atStart => exact ⟨0, Nat.zero_le _, rfl, Lib.hid (by simp), HX1, HX2, HB⟩
      case round =>
        obtain ⟨k, hk, rfl, hpre, hx1, hx2, hbw⟩ := hrel
        obtain ⟨a0, a1⟩ := hx1.out.cells
        obtain ⟨b0, b1⟩ := hx2.out.cells
        by_cases hlt : k < l1.length
        · have hk2 : k < l2.length := by have := HN.out; omega
          obtain ⟨q1, o1, e1, _, r1⟩ := (HR1.out.later hbw.out).at hlt
          obtain ⟨q2, o2, e2, _, r2⟩ := (HR2.out.later hbw.out).at hk2
          have HG1 := Lib.hid (HK1.out _ (List.getElem_mem hlt))
          have HG2 := Lib.hid (HK2.out _ (List.getElem_mem hk2))
          have HNX := Lib.hid (show l1[k] = l2[k] → l1.take (k + 1) = l2.take (k + 1) from fun e => by rw [List.take_succ_eq_append_getElem hlt, List.take_succ_eq_append_getElem hk2, hpre.out, e])
          have HD := Lib.hid (show l1[k] ≠ l2[k] → decide (I1 = I2 ∧ l1 = l2) = false from fun e => decide_eq_false (fun h => e (by have := h.2; subst this; rfl)))
          obtain ⟨x, HX⟩ : ∃ x, Hid (l1[k] = x) := ⟨_, Lib.hid rfl⟩
          obtain ⟨y, HY⟩ : ∃ y, Hid (l2[k] = y) := ⟨_, Lib.hid rfl⟩
          rw [HX.out] at r1 HNX HD HG1
          rw [HY.out] at r2 HNX HD HG2
          cases e1
          cases e2
          obtain ⟨f0, f1⟩ := r1
          obtain ⟨g0, g1⟩ := r2
          have hki : decide ((k : Int) < (l2.length : Int)) = true := by simpa using hk2
          have heq : ∀ n, (Op.equalIn 10000 76 (.agg #[.int .i64 x.x, .int .i64 x.y]) (.agg #[.int .i64 y.x, .int .i64 y.y])).run Try.prog (wr.drewN n) = .ok (decide (x = y)) (wr.drewN n) := fun n => gt_eq 9998 HG1.out HG2.out _
          by_cases hxy : x = y
          · have HE := Lib.hid (HNX.out hxy)
            rw [decide_eq_true hxy] at heq
            clear hxy
            go_wp2_with (fail)
            go_quiet (fail)
            have hdr := drewN_below wr nq
            have HX5 := Lib.hid (hx1.out.later hdr)
            have HX6 := Lib.hid (hx2.out.later hdr)
            have HB6 := Lib.hid (hbw.out.trans (hdr.mono hbw.out.size))
            clear hdr
            go_wp2_with (fail)
            exact ⟨⟨k + 1, by omega, by go_num, HE, HX5, HX6, HB6⟩, by simp [intOf]; omega⟩
          · have HE := Lib.hid (HD.out hxy)
            rw [decide_eq_false hxy] at heq
            clear hxy
            go_wp2_with (fail)
            go_quiet (fail)
            go_wp2_with (fail)
            go_ret
            rw [HE.out]
            exact ⟨rfl, hbw.out.trans ((drewN_below wr nq).mono hbw.out.size)⟩
        · obtain rfl : k = l1.length := by omega
          have HE := Lib.hid (show decide (I1 = I2 ∧ l1 = l2) = true from decide_eq_true (by
            have := hpre.out
            rw [List.take_length, HN.out, List.take_length] at this
            exact ⟨HI.out, this⟩))
          go_wp2_with (fail)
          go_ret
          rw [HE.out]
          exact ⟨rfl, hbw.out⟩
    · have d1 : ((l1.length : Int) == (l2.length : Int)) = false := by rw [beq_eq_false_iff_ne]; omega
      have HE := Lib.hid (show decide (I1 = I2 ∧ l1 = l2) = false from decide_eq_false (fun h => hn (by rw [h.2])))
      clear hI hn
      go_wp2_with (fail)
      go_ret
      rw [HE.out]
      exact ⟨rfl, HB.out⟩
  · have d0 : (I1 == I2) = false := by rw [beq_eq_false_iff_ne]; exact hI
    have HE := Lib.hid (show decide (I1 = I2 ∧ l1 = l2) = false from decide_eq_false (fun h => hI h.1))
    clear hI
    go_wp2_with (fail)
    go_ret
    rw [HE.out]
    exact ⟨rfl, HB.out⟩

def exG : List Gt := [⟨2, 4⟩, ⟨2, 5⟩, ⟨3, 4⟩, ⟨9, 11⟩]
theorem ex_in : inN 2 0 = 2 ∧ inE 2 0 = 0 ∧ inN 2 1 = 4 ∧ inE 2 1 = 0 := by decide +kernel
theorem ex_a1 : opN 0 (litB 2 ([] : List Gt).length 2 && litB 2 ([] : List Gt).length 4) (andN 2 [] 2 4) = 6 ∧ opL 0 (litB 2 ([] : List Gt).length 2 && litB 2 ([] : List Gt).length 4) [] (andL [] 2 4) = [⟨2, 4⟩] ∧ opE 0 (litB 2 ([] : List Gt).length 2 && litB 2 ([] : List Gt).length 4) = 0 := by decide +kernel
theorem ex_a2 : opN 0 (litB 2 ([⟨2, 4⟩] : List Gt).length 2 && litB 2 ([⟨2, 4⟩] : List Gt).length 4) (andN 2 [⟨2, 4⟩] 2 4) = 6 ∧ opL 0 (litB 2 ([⟨2, 4⟩] : List Gt).length 2 && litB 2 ([⟨2, 4⟩] : List Gt).length 4) [⟨2, 4⟩] (andL [⟨2, 4⟩] 2 4) = [⟨2, 4⟩] ∧ opE 0 (litB 2 ([⟨2, 4⟩] : List Gt).length 2 && litB 2 ([⟨2, 4⟩] : List Gt).length 4) = 0 := by decide +kernel
theorem ex_x : opN 0 (litB 2 ([⟨2, 4⟩] : List Gt).length 2 && litB 2 ([⟨2, 4⟩] : List Gt).length 4) (muxN 2 [⟨2, 4⟩] 2 (notP 4) 4) = 13 ∧ opL 0 (litB 2 ([⟨2, 4⟩] : List Gt).length 2 && litB 2 ([⟨2, 4⟩] : List Gt).length 4) [⟨2, 4⟩] (muxL 2 [⟨2, 4⟩] 2 (notP 4) 4) = exG ∧ opE 0 (litB 2 ([⟨2, 4⟩] : List Gt).length 2 && litB 2 ([⟨2, 4⟩] : List Gt).length 4) = 0 := by decide +kernel
theorem ex_ev : evL 2 exG [true, false] [6, 13] = [false, true] ∧ evE 2 exG [true, false] [6, 13] = 0 ∧ vldB 2 exG = true := by decide +kernel
theorem ex_ok : ∀ x ∈ exG, GtOk x := fun x hx => by
  simp only [exG, List.mem_cons, List.not_mem_nil, or_false] at hx
  rcases hx with rfl | rfl | rfl | rfl <;> exact ⟨i64o_of (by decide), i64o_of (by decide)⟩
theorem BRow.two (w : World) (x y : Bool) : BRow (w.alloc (.cells #[.bool x, .bool y] 4)) (some ⟨w.heap.size, 0, none⟩) [x, y] := fun _ => by
  refine ⟨w.heap.size, 0, rfl, by simp, fun i hi => ?_⟩
  have q := fun j => Lib.cell_of_heap (heap_alloc_new w (.cells #[.bool x, .bool y] 4)) j
  have : i = 0 ∨ i = 1 := by simp at hi; omega
  rcases this with rfl | rfl
  · exact q 0
  · exact q 1
theorem ZRow.two (w : World) (x y : Int) : ZRow (w.alloc (.cells #[.int .i64 x, .int .i64 y] 3)).heap.size (w.alloc (.cells #[.int .i64 x, .int .i64 y] 3)) (some ⟨w.heap.size, 0, none⟩) [x, y] := fun _ => by
  refine ⟨w.heap.size, 0, rfl, by simp, fun i hi => ?_⟩
  have q := fun j => Lib.cell_of_heap (heap_alloc_new w (.cells #[.int .i64 x, .int .i64 y] 3)) j
  have : i = 0 ∨ i = 1 := by simp at hi; omega
  rcases this with rfl | rfl
  · exact q 0
  · exact q 1
def exC : Array Value := #[.int .i64 2, .int .i64 4, .int .i64 2, .int .i64 5, .int .i64 3, .int .i64 4, .int .i64 9, .int .i64 11]
theorem ex_row (w : World) : GRow (w.alloc (.cells exC 76)) (some ⟨w.heap.size, 0, none⟩) exG := fun _ => by
  refine ⟨w.heap.size, 0, rfl, by simp, fun i hi => ?_⟩
  have q := fun j => Lib.cell_of_heap (heap_alloc_new w (.cells exC 76)) j
  have : i = 0 ∨ i = 1 ∨ i = 2 ∨ i = 3 := by simp [exG] at hi; omega
  rcases this with rfl | rfl | rfl | rfl
  · exact ⟨q 0, q 1⟩
  · exact ⟨q 2, q 3⟩
  · exact ⟨q 4, q 5⟩
  · exact ⟨q 6, q 7⟩
set_option maxRecDepth 100000 in
set_option maxHeartbeats 4000000 in
theorem awake_any (w : World) : Calls Try.prog 8 #[] w fun e w' => e = .returned (.bool true) ∧ Below w.heap.size w w' := by
  have HN := Lib.hid (new_any 2 (by decide) w)
  go_enter Try.func8, Try.ntmps8
  go_wp2_with (fail)
  refine HN.out.mono ?_
  rintro e w1 ⟨bb, mb, rfl, ht1, hb1⟩
  have HT1 := Lib.hid ht1
  have HB1 := Lib.hid hb1
  have HM1 := Lib.hid (binput_any 0 ht1)
  rw [ex_in.1, ex_in.2.1] at HM1
  clear ht1 hb1 HN
  go_wp2_with (fail)
  refine HM1.out.mono ?_
  rintro e w2 ⟨rfl, hr⟩
  have HB2 := Lib.hid (hr.below HT1.out (Nat.le_refl _) HB1.out)
  have HT2 := Lib.hid hr.tab
  have HM2 := Lib.hid (binput_any 1 hr.tab)
  rw [ex_in.2.2.1, ex_in.2.2.2] at HM2
  clear hr HT1 HM1
  go_wp2_with (fail)
  refine HM2.out.mono ?_
  rintro e w3 ⟨rfl, hr⟩
  have HB3 := Lib.hid (hr.below HT2.out (Nat.le_refl _) HB2.out)
  have HT3 := Lib.hid hr.tab
  have HM3 := Lib.hid (m_And 2 4 0 hr.tab (by decide))
  rw [ex_a1.1, ex_a1.2.1, ex_a1.2.2] at HM3
  clear hr HT2 HM2
  go_wp2_with (fail)
  refine HM3.out.mono ?_
  rintro e w4 ⟨rfl, rv4, hr⟩
  have HB4 := Lib.hid (hr.below HT3.out (Nat.le_refl _) HB3.out)
  have HT4 := Lib.hid hr.tab
  have HM4 := Lib.hid (m_And 2 4 0 hr.tab (by decide))
  rw [ex_a2.1, ex_a2.2.1, ex_a2.2.2] at HM4
  clear hr HT3 HM3
  go_wp2_with (fail)
  refine HM4.out.mono ?_
  rintro e w5 ⟨rfl, rv5, hr⟩
  have HB5 := Lib.hid (hr.below HT4.out (Nat.le_refl _) HB4.out)
  have HT5 := Lib.hid hr.tab
  have HM5 := Lib.hid (m_Xor 2 4 0 hr.tab (by decide))
  rw [ex_x.1, ex_x.2.1, ex_x.2.2] at HM5
  clear hr HT4 HM4
  go_wp2_with (fail)
  refine HM5.out.mono ?_
  rintro e w6 ⟨rfl, rv6, hr⟩
  have HB6 := Lib.hid (hr.below HT5.out (Nat.le_refl _) HB5.out)
  have HT6 := Lib.hid hr.tab
  have HC := Lib.hid (circuit_any hr.tab)
  clear hr HT5 HM5
  go_wp2_with (fail)
  refine HC.out.mono ?_
  rintro e w7 ⟨X, cap, rfl, ho7, hb7⟩
  have HB7 := Lib.hid (HB6.out.trans (hb7.mono HB6.out.size))
  have HT7 := Lib.hid (HT6.out.later hb7)
  have HO7 := Lib.hid ho7
  clear ho7 hb7 HT6 HC
  go_upto_region 7 with fail
  have hba := (Below.refl w7.heap.size w7).alloc (Nat.le_refl _) (.cells #[.int .i64 2, .slice X exG.length cap] 30)
  have HX8 := Lib.hid (CBx.new w7 2 X exG.length cap)
  have HB8 := Lib.hid (HB7.out.trans (hba.mono HB7.out.size))
  have HT8 := Lib.hid (HT7.out.later hba)
  have HO8 := Lib.hid (HO7.out.later hba)
  clear hba HT7 HO7
  generalize hgw : w7.alloc (.cells #[.int .i64 2, .slice X exG.length cap] 30) = w8 at *
  clear hgw
  obtain ⟨gb, HGB⟩ : ∃ gb, Hid (w7.heap.size = gb) := ⟨_, Lib.hid rfl⟩
  rw [HGB.out] at HX8 ⊢
  obtain ⟨b0, b1⟩ := HX8.out.cells
  have hba := (Below.refl w8.heap.size w8).alloc (Nat.le_refl _) (.cells #[.bool true, .bool false] 4)
  have hbb := (Below.refl (w8.alloc (.cells #[.bool true, .bool false] 4)).heap.size _).alloc (Nat.le_refl _) (.cells #[.int .i64 6, .int .i64 13] 3)
  have hbc := hba.trans (hbb.mono hba.size)
  have HB9 := Lib.hid (HB8.out.trans (hbc.mono HB8.out.size))
  have HT9 := Lib.hid (HT8.out.later hbc)
  have HO9 := Lib.hid (HO8.out.later hbc)
  have HX9 := Lib.hid (HX8.out.later hbc)
  obtain ⟨A9, c9, hX9, _, hrow9, _⟩ := HO9.out.form
  injection hX9 with hX9 _ hc9
  subst hX9
  subst hc9
  have HEV := Lib.hid (eval_any 2 X cap exG (some ⟨w8.heap.size, 0, none⟩) 2 [true, false] (some ⟨(w8.alloc (.cells #[.bool true, .bool false] 4)).heap.size, 0, none⟩) 2 [6, 13] _ hrow9 ex_ok (by decide) ((BRow.two w8 true false).later hbb) (by decide) (ZRow.two _ 6 13) (by decide))
  rw [ex_ev.1, ex_ev.2.1, show (w8.alloc (.cells #[.bool true, .bool false] 4)).heap.size = w8.heap.size + 1 by simp] at HEV
  clear hba hbb hbc HT8 HO8 HX8 hrow9
  go_wp2_with (fail)
  refine HEV.out.mono ?_
  rintro e w10 ⟨A', c', rfl, hrow, hb⟩
  have HB10 := Lib.hid (HB9.out.trans (hb.mono HB9.out.size))
  have HT10 := Lib.hid (HT9.out.later hb)
  have HO10 := Lib.hid (HO9.out.later hb)
  have HX10 := Lib.hid (HX9.out.later hb)
  have HROW := Lib.hid hrow
  clear hb hrow HT9 HO9 HX9 b0 b1
  obtain ⟨b0, b1⟩ := HX10.out.cells
  have HER := Lib.hid (berr_any HT10.out)
  go_wp2_with (fail)
  refine HER.out.mono ?_
  rintro e wx ⟨rfl, hwx⟩
  obtain rfl := hwx.symm
  have hba := (Below.refl w10.heap.size w10).alloc (Nat.le_refl _) (.cells exC 76)
  obtain ⟨A9, c9, hX9, _, hrow9, _⟩ := (HO10.out.later hba).form
  injection hX9 with hX9 _ hc9
  subst hX9
  subst hc9
  have HSM := Lib.hid (same_any 2 X cap exG 2 (some ⟨w10.heap.size, 0, none⟩) 4 exG (w10.alloc (.cells exC 76)) hrow9 (ex_row w10) ex_ok ex_ok (by decide))
  rw [decide_eq_true (p := (2 : Int) = 2 ∧ exG = exG) ⟨rfl, rfl⟩] at HSM
  have HB11 := Lib.hid (HB10.out.trans (hba.mono HB10.out.size))
  have HO11 := Lib.hid (HO10.out.later hba)
  have HX11 := Lib.hid (HX10.out.later hba)
  have HR11 := Lib.hid (HROW.out.later hba)
  clear hba hrow9 HT10 HER HO10 HX10 HROW
  dsimp only [exC] at HSM HB11 HO11 HX11 HR11
  go_wp2_with (fail)
  refine HSM.out.mono ?_
  rintro e w12 ⟨rfl, hb⟩
  have HB12 := Lib.hid (HB11.out.trans (hb.mono HB11.out.size))
  have HO12 := Lib.hid (HO11.out.later hb)
  have HX12 := Lib.hid (HX11.out.later hb)
  have HR12 := Lib.hid (HR11.out.later hb)
  obtain ⟨A9, c9, hX9, _, hrow9, _⟩ := HO12.out.form
  injection hX9 with hX9 _ hc9
  subst hX9
  subst hc9
  have HVL := Lib.hid (valid_any 2 X cap exG w12 hrow9 ex_ok (by decide))
  rw [ex_ev.2.2] at HVL
  clear hb hrow9 HO11 HX11 HR11 b0 b1
  obtain ⟨b0, b1⟩ := HX12.out.cells
  go_wp2_with (fail)
  refine HVL.out.mono ?_
  rintro e w13 ⟨rfl, hb⟩
  have HB13 := Lib.hid (HB12.out.trans (hb.mono HB12.out.size))
  have HR13 := Lib.hid (HR12.out.later hb)
  have hba := (Below.refl w13.heap.size w13).alloc (Nat.le_refl _) (.cells #[.bool false, .bool true] 4)
  have HEQ := Lib.hid (equalB_any A' c' [false, true] (some ⟨w13.heap.size, 0, none⟩) 2 [false, true] _ (HR13.out.later hba) (BRow.two w13 false true) (by decide))
  rw [decide_eq_true (p := ([false, true] : List Bool) = [false, true]) rfl] at HEQ
  have HB14 := Lib.hid (HB13.out.trans (hba.mono HB13.out.size))
  clear hb hba HO12 HX12 HR12 b0 b1
  go_wp2_with (fail)
  refine HEQ.out.mono ?_
  rintro e w15 ⟨rfl, hb⟩
  go_wp2_with (fail)
  go_ret
  exact ⟨rfl, HB14.out.trans (hb.mono HB14.out.size)⟩
end Go.Proofs.Ytbcabnbgkicfdaa
