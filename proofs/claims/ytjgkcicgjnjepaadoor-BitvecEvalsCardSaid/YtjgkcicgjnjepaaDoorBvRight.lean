/- What is proved: the reference's right: a table could have a node. -/
import Derived.Test.YtjgkcicgjnjepaaDoorBvRef
import Derived.Test.YtjgkcicgjnjepaaDoorBvPart
set_option linter.unusedVariables false
namespace Go.Proofs.YtjgkcicgjnjepaaDoor
open Go.RowKit Go.Maps

/-- a variable that holds a table of the reference -/
def RBox (w : World) (b : Nat) (W : Int) (A : Option Addr) (n c : Nat) : Prop := w.heap[b]? = some (.cells #[.int .i64 W, .slice A n c] 29 (0, 0))
theorem RBox.later {w w' : World} {b : Nat} {W : Int} {A : Option Addr} {n c : Nat} (h : RBox w b W A n c) (hb : Below w.heap.size w w') : RBox w' b W A n c := (hb.block b (hlt h)).trans h
theorem RBox.cells {w : World} {b : Nat} {W : Int} {A : Option Addr} {n c : Nat} (h : RBox w b W A n c) : w.cell? ⟨b, 0, none⟩ = some (.int .i64 W) ∧ w.cell? ⟨b, 1, none⟩ = some (.slice A n c) := ⟨Lib.cell_of_heap h 0, Lib.cell_of_heap h 1⟩
theorem srt_01' : ∀ o, o < 18 → srt o = 0 ∨ srt o = 1 := by decide +kernel
theorem nd_get : ∀ o, o < 18 → ∀ k, (h : k < (ndL o).length) → (ndL o)[k] = agX o k := by decide +kernel
/-- the k-th argument is as the operator needs it -/
def agOk (l : List Tm) (x : Tm) (k : Nat) : Bool := argOk l (cnt x.o) k (agX x.o k) (x.arg k)
theorem okB_args {W : Int} {l : List Tm} {x : Tm} (h1 : 0 ≤ x.op) (h2 : x.op < 18) (h : ∀ k, k < 3 → agOk l x k = true) : okB W l x = valOk W x := by
  rw [Bool.eq_iff_iff, okB_iff]
  exact ⟨fun h => h.2.2.1, fun hv => ⟨h1, h2, hv, h 0 (by decide), h 1 (by decide), h 2 (by decide)⟩⟩
theorem okB_no {W : Int} {l : List Tm} {x : Tm} {k : Nat} (hk : k < 3) (h : agOk l x k = false) : okB W l x = false := by
  cases ho : okB W l x with
  | false => rfl
  | true =>
    obtain ⟨_, _, _, h4, h5, h6⟩ := okB_iff.1 ho
    have : k = 0 ∨ k = 1 ∨ k = 2 := by omega
    rcases this with rfl | rfl | rfl
    · exact absurd (h.symm.trans h4) (by decide)
    · exact absurd (h.symm.trans h5) (by decide)
    · exact absurd (h.symm.trans h6) (by decide)
theorem okB_out {W : Int} {l : List Tm} {x : Tm} (h : ¬ (0 ≤ x.op ∧ x.op < 18)) : okB W l x = false := by
  cases ho : okB W l x with
  | false => rfl
  | true => obtain ⟨h1, h2, _⟩ := okB_iff.1 ho; exact absurd ⟨h1, h2⟩ h
theorem ag_lt {l : List Tm} {x : Tm} {j a : Nat} (hj : j < cnt x.o) (ha : x.arg j = (a : Int)) (hl : a < l.length) : agOk l x j = decide (srt l[a].o = agX x.o j) := by
  unfold agOk argOk srtOf
  rw [if_pos hj, ha, if_neg (by omega), Int.toNat_natCast, List.getElem?_eq_getElem hl, Option.map_some, Bool.eq_iff_iff]
  simp
theorem ag_out {l : List Tm} {x : Tm} {j : Nat} (hj : j < cnt x.o) (ha : x.arg j < 0 ∨ (l.length : Int) ≤ x.arg j) : agOk l x j = false := by
  unfold agOk argOk srtOf
  rw [if_pos hj]
  split
  · rfl
  · rw [List.getElem?_eq_none (by omega)]
    rfl
theorem ag_ge {l : List Tm} {x : Tm} {j : Nat} (hj : ¬ j < cnt x.o) : agOk l x j = (x.arg j == 0) := by
  unfold agOk argOk
  rw [if_neg hj]
section
variable {w : World} {W : Int} {l : List Tm}
set_option maxRecDepth 100000 in
set_option maxHeartbeats 400000 in
theorem right_any (x : Tm) (A : Option Addr) (c : Nat) (hW : ¬ (W < 2 ∨ 8 < W)) (hr : TRow w A l) (hl : l.length ≤ 1000) (hops : ∀ y ∈ l, 0 ≤ y.op ∧ y.op < 18) : Calls Tryd.prog 36 #[.agg #[.int .i64 W, .slice A l.length c], .agg #[.int .i64 x.op, .int .i64 x.v, .int .i64 x.a, .int .i64 x.b, .int .i64 x.c]] w fun e w' => e = .returned (.bool (okB W l x)) ∧ Below w.heap.size w w' := by
  have HB0 := Lib.hid (((Below.refl w.heap.size w).alloc (Nat.le_refl _) (.cells #[.int .i64 W, .slice A l.length c] 29)).alloc (by simp) (.cells #[.int .i64 x.op, .int .i64 x.v, .int .i64 x.a, .int .i64 x.b, .int .i64 x.c] 46))
  have HRB := Lib.hid (show RBox ((w.alloc (.cells #[.int .i64 W, .slice A l.length c] 29)).alloc (.cells #[.int .i64 x.op, .int .i64 x.v, .int .i64 x.a, .int .i64 x.b, .int .i64 x.c] 46)) w.heap.size W A l.length c from (heap_alloc_old _ _ (by simp)).trans (heap_alloc_new w _))
  have HTB := Lib.hid (show TBox ((w.alloc (.cells #[.int .i64 W, .slice A l.length c] 29)).alloc (.cells #[.int .i64 x.op, .int .i64 x.v, .int .i64 x.a, .int .i64 x.b, .int .i64 x.c] 46)) (w.heap.size + 1) x from by
    have := TBox.new (w.alloc (.cells #[.int .i64 W, .slice A l.length c] 29)) x
    rw [show (w.alloc (.cells #[.int .i64 W, .slice A l.length c] 29)).heap.size = w.heap.size + 1 by simp] at this
    exact this)
  have HR := Lib.hid hr
  have HRS := Lib.hid (fun w => r_result_any x.op w)
  have HOPS := Lib.hid hops
  have HWW := Lib.hid hW
  clear hr hops hW
  go_enter Tryd.func36, Tryd.ntmps36
  go_upto_region 1 with fail
  generalize (w.alloc (.cells #[.int .i64 W, .slice A l.length c] 29)).alloc (.cells #[.int .i64 x.op, .int .i64 x.v, .int .i64 x.a, .int .i64 x.b, .int .i64 x.c] 46) = w1 at *
  generalize w.heap.size + 1 = xb at *
  obtain ⟨tb, HTBE⟩ : ∃ tb, Hid (tb = w.heap.size) := ⟨_, Lib.hid rfl⟩
  have HRB := Lib.hid (show RBox w1 tb W A l.length c by rw [HTBE.out]; exact HRB.out)
  rw [← HTBE.out]
  obtain ⟨x0, x1, x2, x3, x4⟩ := HTB.out.cells
  by_cases hop : 0 ≤ x.op ∧ x.op < 18
  · rw [if_pos hop] at HRS
    have HOP := Lib.hid hop
    obtain ⟨ho1, ho2⟩ := o_lt hop.1 hop.2
    have HO2 := Lib.hid ho2
    clear ho2
    have HS0 := Lib.hid (show 0 ≤ srt x.op.toNat from by have := srt_01' x.op.toNat (by omega); omega)
    have hnl : (ndL x.op.toNat).length = cnt x.o := ndL_len x.o ho1
    have HNG := Lib.hid (nd_get x.o ho1)
    clear ho1
    have ds : decide (srt x.op.toNat < 0) = false := by have := HS0.out; simp; omega
    have HND := Lib.hid (fun w => r_needs_any x.op hop w)
    go_wp2_with (fail)
    refine (HRS.out _).mono ?_
    rintro e wx ⟨rfl, hx⟩
    obtain rfl := hx.symm
    go_wp2_with (fail)
    refine (HND.out _).mono ?_
    rintro e w2 ⟨NA, nc, rfl, hzn, hb2⟩
    have HB2 := Lib.hid (HB0.out.trans (hb2.mono HB0.out.size))
    have HRB2 := Lib.hid (HRB.out.later hb2)
    have HTB2 := Lib.hid (HTB.out.later hb2)
    have HZN := Lib.hid (show ZRow w2.heap.size w2 NA (ndL x.o) from hzn)
    rw [hnl]
    have HNL := Lib.hid (show (ndL x.o).length = cnt x.o from hnl)
    have HR2 := Lib.hid (HR.out.later HB2.out)
    have HC3 := Lib.hid (cnt_le x.o)
    clear hzn hb2 hnl ds x0 x1 x2 x3 x4
    have HBR := Lib.hid (Below.refl w2.heap.size w2)
    have HNO := Lib.hid (show ∀ k, k < 0 → agOk l x k = true from fun k h => by omega)
    go_wp2_with (fail)
    go_loopw [6] (fun v wr => ∃ (j : Nat), j ≤ 3 ∧ v = .int .i64 (j : Int) ∧ Hid (∀ k, k < j → agOk l x k = true) ∧ Hid (Below w2.heap.size w2 wr)) (fun v _ => 3 - (intOf v).toNat)
    case atStart => exact ⟨0, by omega, rfl, HNO, HBR⟩
    case round =>
      obtain ⟨j, hj, rfl, hall, hbw⟩ := hrel
      have HBW := Lib.hid (HB2.out.trans (hbw.out.mono HB2.out.size))
      have HTBW := Lib.hid (HTB2.out.later hbw.out)
      have HRBW := Lib.hid (HRB2.out.later hbw.out)
      have hc3 := HC3.out
      by_cases hj3 : j < 3
      · have xj := HTBW.out.arg hj3
        obtain ⟨r0, r1⟩ := HRBW.out.cells
        have HIN := Lib.hid (fun (h : agOk l x j = true) k (hk : k < j + 1) => show agOk l x k = true by
          rcases Nat.lt_or_ge k j with h1 | h1
          · exact hall.out k h1
          · rw [show k = j by omega]; exact h)
        have HNX := Lib.hid (fun (h : agOk l x j = false) => okB_no (W := W) hj3 h)
        by_cases hjn : j < cnt x.o
        · have nlj : ¬ cnt x.o ≤ j := by omega
          have dn : decide ((cnt x.o : Int) ≤ (j : Int)) = false := by simp; omega
          have dn2 : decide ((j : Int) < (cnt x.o : Int)) = true := by simp; omega
          by_cases ha : x.arg j < 0 ∨ (l.length : Int) ≤ x.arg j
          · have HN := Lib.hid (HNX.out (ag_out hjn ha))
            generalize x.arg j = av at *
            by_cases ha1 : av < 0
            · have da : decide (av < 0) = true := by simpa using ha1
              clear ha
              go_wp2_with (fail)
              go_quiet (fail)
              go_wp2_with (fail)
              go_ret
              exact ⟨by rw [HN.out]; rfl, HBW.out.trans ((drewN_below wr nq).mono HBW.out.size)⟩
            · have da : decide (av < 0) = false := by simpa using ha1
              have da2 : decide ((l.length : Int) ≤ av) = true := by simp; omega
              clear ha
              go_wp2_with (fail)
              go_quiet (fail)
              go_wp2_with (fail)
              go_ret
              exact ⟨by rw [HN.out]; rfl, HBW.out.trans ((drewN_below wr nq).mono HBW.out.size)⟩
          · obtain ⟨a, hav⟩ : ∃ a : Nat, x.arg j = (a : Int) := ⟨(x.arg j).toNat, by omega⟩
            have hal : a < l.length := by omega
            have HAG := Lib.hid (ag_lt hjn hav hal)
            rw [hav] at xj
            have da : decide ((a : Int) < 0) = false := by simp
            have da2 : decide ((l.length : Int) ≤ (a : Int)) = false := by simp; omega
            obtain ⟨b0, off, hA, _, hc0⟩ := ((HR2.out.later hbw.out).at hal)
            have HYO := Lib.hid (HOPS.out _ (List.getElem_mem hal))
            obtain ⟨nb, no, hNA, _, hnc⟩ := (HZN.out.later hbw.out) (by rw [HNL.out]; omega)
            have qn := hnc j (by rw [HNL.out]; omega)
            rw [HNG.out j (by rw [HNL.out]; omega)] at qn
            have q0 := hc0.1
            have nla : ¬ l.length ≤ a := by omega
            generalize l[a] = y at *
            have HRY := Lib.hid (fun w => r_result_any y.op w)
            rw [if_pos HYO.out] at HRY
            have HAG := Lib.hid (show agOk l x j = decide (srt y.op.toNat = agX x.o j) from HAG.out)
            generalize srt y.op.toNat = sy at *
            generalize agX x.o j = sn at *
            subst hA
            subst hNA
            clear hav ha hnc hc0
            by_cases hs : sy = sn
            · have HIN2 := Lib.hid (HIN.out (by rw [HAG.out, decide_eq_true hs]))
              subst hs
              go_wp2_with (fail)
              go_quiet ((go_at_call 48; exact Calls.quiet_of_same (HRY.out _)))
              go_wp2_with (fail)
              exact ⟨⟨j + 1, by omega, by go_num, HIN2, Lib.hid (hbw.out.trans ((drewN_below wr nq).mono hbw.out.size))⟩, by simp [intOf]; omega⟩
            · have HN := Lib.hid (HNX.out (by rw [HAG.out, decide_eq_false hs]))
              have ds : (sy == sn) = false := by simpa using hs
              go_wp2_with (fail)
              go_quiet ((go_at_call 48; exact Calls.quiet_of_same (HRY.out _)))
              go_wp2_with (fail)
              go_ret
              exact ⟨by rw [HN.out]; rfl, HBW.out.trans ((drewN_below wr nq).mono HBW.out.size)⟩
        · have plj : cnt x.o ≤ j := by omega
          have dn : decide ((cnt x.o : Int) ≤ (j : Int)) = true := by simp; omega
          have dn2 : decide ((j : Int) < (cnt x.o : Int)) = false := by simp; omega
          have HAG := Lib.hid (ag_ge (l := l) hjn)
          by_cases ha0 : x.arg j = 0
          · have HIN2 := Lib.hid (HIN.out (by rw [HAG.out, ha0]; rfl))
            rw [ha0] at xj
            clear ha0
            go_wp2_with (fail)
            go_quiet (fail)
            go_wp2_with (fail)
            exact ⟨⟨j + 1, by omega, by go_num, HIN2, Lib.hid (hbw.out.trans ((drewN_below wr nq).mono hbw.out.size))⟩, by simp [intOf]; omega⟩
          · have HN := Lib.hid (HNX.out (by rw [HAG.out]; simpa using ha0))
            have d0 : (x.arg j == 0) = false := by simpa using ha0
            generalize x.arg j = av at *
            go_wp2_with (fail)
            go_ret
            exact ⟨by rw [HN.out]; rfl, HBW.out⟩
      · have HV := Lib.hid (okB_args (W := W) HOP.out.1 HOP.out.2 (fun k hk => hall.out k (by omega)))
        obtain ⟨x0, x1, _, _, _⟩ := HTBW.out.cells
        obtain ⟨r0, r1⟩ := HRBW.out.cells
        obtain rfl : j = 3 := by omega
        have HWR := Lib.hid (fun w => r_wrap_any W x.v HWW.out w)
        have hvv := HV.out
        unfold valOk at hvv
        clear HV
        generalize x.v = v at *
        by_cases h0 : x.op = 0 ∨ x.op = 1
        · rw [if_pos h0] at hvv
          by_cases h1 : 0 ≤ v
          · have d1 : decide (0 ≤ v) = true := by simpa using h1
            rw [d1, Bool.true_and] at hvv
            have HE := Lib.hid hvv
            clear hvv
            rcases h0 with h0 | h0
            · have e0 : (x.op == 0) = true := by simpa using h0
              go_wp2_with (fail)
              go_ret
              exact ⟨by rw [HE.out]; first | rfl | (simp [go_sem]; done), HBW.out⟩
            · have e0 : (x.op == 0) = false := by simp [h0]
              have e1 : (x.op == 1) = true := by simpa using h0
              go_wp2_with (fail)
              go_ret
              exact ⟨by rw [HE.out]; first | rfl | (simp [go_sem]; done), HBW.out⟩
          · have d1 : decide (0 ≤ v) = false := by simpa using h1
            rw [d1, Bool.false_and] at hvv
            have HE := Lib.hid hvv
            clear hvv
            rcases h0 with h0 | h0
            · have e0 : (x.op == 0) = true := by simpa using h0
              go_wp2_with (fail)
              go_ret
              exact ⟨by rw [HE.out]; first | rfl | (simp [go_sem]; done), HBW.out⟩
            · have e0 : (x.op == 0) = false := by simp [h0]
              have e1 : (x.op == 1) = true := by simpa using h0
              go_wp2_with (fail)
              go_ret
              exact ⟨by rw [HE.out]; first | rfl | (simp [go_sem]; done), HBW.out⟩
        · rw [if_neg h0] at hvv
          have e0 : (x.op == 0) = false := by simp; omega
          have e1 : (x.op == 1) = false := by simp; omega
          by_cases h2 : x.op = 2
          · rw [if_pos h2, show (v == wrpP W v) = (wrpP W v == v) by rw [Bool.eq_iff_iff, beq_iff_eq, beq_iff_eq]; exact eq_comm] at hvv
            have e2 : (x.op == 2) = true := by simpa using h2
            have HE := Lib.hid hvv
            clear hvv h0
            generalize wrpP W v = wv at *
            go_wp2_with (fail)
            go_quiet ((go_at_call 28; exact Calls.quiet_of_same (HWR.out _)))
            go_wp2_with (fail)
            go_ret
            exact ⟨by rw [HE.out]; rfl, HBW.out.trans ((drewN_below wr nq).mono HBW.out.size)⟩
          · rw [if_neg h2] at hvv
            have e2 : (x.op == 2) = false := by simpa using h2
            by_cases h3 : x.op = 3
            · rw [if_pos h3] at hvv
              have e3 : (x.op == 3) = true := by simpa using h3
              by_cases v0 : v = 0
              · subst v0
                have HE := Lib.hid hvv
                clear hvv h0 h2
                go_wp2_with (fail)
                go_ret
                exact ⟨by rw [HE.out]; first | rfl | (simp [go_sem]; done), HBW.out⟩
              · have f0 : (v == 0) = false := by simpa using v0
                rw [f0, Bool.false_or] at hvv
                have HE := Lib.hid hvv
                clear hvv h0 h2
                go_wp2_with (fail)
                go_ret
                exact ⟨by rw [HE.out]; first | rfl | (simp [go_sem]; done), HBW.out⟩
            · rw [if_neg h3] at hvv
              have e3 : (x.op == 3) = false := by simpa using h3
              have HE := Lib.hid hvv
              clear hvv h0 h2 h3
              go_wp2_with (fail)
              go_ret
              exact ⟨by rw [HE.out]; first | rfl | (simp [go_sem]; done), HBW.out⟩
  · rw [if_neg hop] at HRS
    have HN := Lib.hid (okB_out (W := W) (l := l) hop)
    go_wp2_with (fail)
    refine (HRS.out _).mono ?_
    rintro e wx ⟨rfl, hx⟩
    obtain rfl := hx.symm
    go_wp2_with (fail)
    go_ret
    exact ⟨by rw [HN.out]; rfl, HB0.out⟩
end
end Go.Proofs.YtjgkcicgjnjepaaDoor
