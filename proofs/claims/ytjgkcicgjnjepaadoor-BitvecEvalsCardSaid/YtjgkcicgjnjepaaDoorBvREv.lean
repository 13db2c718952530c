/- What is proved: the reference's Eval. -/
import Derived.Test.YtjgkcicgjnjepaaDoorBvRInps
import Derived.Test.YtjgkcicgjnjepaaDoorBvRApp
set_option linter.unusedVariables false
set_option linter.unusedSimpArgs false
namespace Go.Proofs.YtjgkcicgjnjepaaDoor
open Go.RowKit Go.Maps

theorem evP_out {W : Int} {l : List Tm} {i : Int} {inp : List Int} (h : ¬ (0 ≤ i ∧ i < (l.length : Int))) : evP W l i inp = (0, 1) := by unfold evP; rw [if_neg h]
theorem evP_none {W : Int} {l : List Tm} {i : Nat} {inp : List Int} (h : i < l.length) {k : Nat} (hk : k ≤ i + 1) (hn : evS W l (mrk l i) inp k = none) : evP W l (i : Int) inp = (0, 2) := by
  unfold evP
  rw [if_pos (by omega), Int.toNat_natCast, evS_none k (i + 1) hk hn]
theorem evP_some {W : Int} {l : List Tm} {i : Nat} {inp : List Int} {f : Nat → Int} (h : i < l.length) (hn : evS W l (mrk l i) inp (i + 1) = some f) : evP W l (i : Int) inp = (f i, 0) := by
  unfold evP
  rw [if_pos (by omega), Int.toNat_natCast, hn]
theorem arg_small {l : List Tm} {n j k : Nat} {s a : Int} (h : argOk (l.take k) n j s a = true) (h0 : 0 < k) : ∃ m : Nat, a = (m : Int) ∧ m < k := by
  by_cases hj : j < n
  · obtain ⟨h1, h2, _⟩ := arg_need hj h
    rw [List.length_take] at h2
    exact ⟨a.toNat, by omega, by omega⟩
  · unfold argOk at h
    rw [if_neg hj] at h
    exact ⟨0, by simpa using h, h0⟩
/-- what is known of a node with arguments -/
theorem node_args {W : Int} {l : List Tm} (ht : TbOk W l) {k : Nat} (hk : k < l.length) {o : Nat} (ho : l[k].op = (o : Int)) (h4 : 4 ≤ o) (h18 : o < 18) : ∃ a b c : Nat, l[k].a = (a : Int) ∧ l[k].b = (b : Int) ∧ l[k].c = (c : Int) ∧ a < k ∧ b < k ∧ c < k ∧ (o = 12 ∨ o = 13 → (∃ h : a < l.length, srt l[a].o = 1) ∧ ∃ h : b < l.length, srt l[b].o = 1) := by
  obtain ⟨_, _, _, g4, g5, g6⟩ := okB_iff.1 (ht.ok k hk)
  have ho2 : l[k].o = o := by unfold Tm.o; omega
  rw [ho2] at g4 g5 g6
  have hc : 0 < cnt o := by
    have : o = 4 ∨ o = 5 ∨ o = 6 ∨ o = 7 ∨ o = 8 ∨ o = 9 ∨ o = 10 ∨ o = 11 ∨ o = 12 ∨ o = 13 ∨ o = 14 ∨ o = 15 ∨ o = 16 ∨ o = 17 := by omega
    rcases this with rfl | rfl | rfl | rfl | rfl | rfl | rfl | rfl | rfl | rfl | rfl | rfl | rfl | rfl <;> decide
  have h0 : 0 < k := by
    obtain ⟨_, h2, _⟩ := arg_need hc g4
    rw [List.length_take] at h2
    omega
  obtain ⟨a, ea, ha⟩ := arg_small g4 h0
  obtain ⟨b, eb, hb⟩ := arg_small g5 h0
  obtain ⟨c, ec, hc2⟩ := arg_small g6 h0
  refine ⟨a, b, c, ea, eb, ec, ha, hb, hc2, fun h => ?_⟩
  have hA : ∃ h : a < l.length, srt l[a].o = agA o := by
    obtain ⟨h1, h2, h3⟩ := arg_need hc g4
    refine ⟨by omega, ?_⟩
    rw [List.getElem_take] at h3
    simp only [ea, Int.toNat_natCast] at h3
    exact h3
  have hB : 1 < cnt o → ∃ h : b < l.length, srt l[b].o = agB o := fun h1 => by
    obtain ⟨h1, h2, h3⟩ := arg_need h1 g5
    refine ⟨by omega, ?_⟩
    rw [List.getElem_take] at h3
    simp only [eb, Int.toNat_natCast] at h3
    exact h3
  rcases h with rfl | rfl
  · exact ⟨hA, hB (by decide)⟩
  · exact ⟨hA, hB (by decide)⟩
section
variable {w : World} {W : Int} {l : List Tm}
set_option maxRecDepth 100000 in
set_option maxHeartbeats 4000000 in
theorem r_eval_out (A : Option Addr) (c : Nat) (i : Int) (I : Option Addr) (d : Nat) (inp : List Int) (hi : ¬ (0 ≤ i ∧ i < (l.length : Int))) : Calls Tryd.prog 10 #[.agg #[.int .i64 W, .slice A l.length c], .int .i64 i, .slice I inp.length d] w fun e w' => e = .returned (.tuple #[.int .i64 (evP W l i inp).1, .int .i64 (evP W l i inp).2]) ∧ Below w.heap.size w w' := by
  have HE := Lib.hid (evP_out (W := W) (inp := inp) hi)
  rw [HE.out]
  by_cases h0 : i < 0
  · have d0 : decide (i < 0) = true := by simpa using h0
    clear h0 hi HE
    go_enter Tryd.func10, Tryd.ntmps10
    go_wp2_with (fail)
    go_ret2
    exact ⟨rfl, (Below.refl _ _).alloc (Nat.le_refl _) _⟩
  · have d0 : decide (i < 0) = false := by simpa using h0
    have d1 : decide ((l.length : Int) ≤ i) = true := by simp; omega
    clear h0 hi HE
    go_enter Tryd.func10, Tryd.ntmps10
    go_wp2_with (fail)
    go_ret2
    exact ⟨rfl, (Below.refl _ _).alloc (Nat.le_refl _) _⟩
set_option maxRecDepth 100000 in
set_option maxHeartbeats 4000000 in
theorem r_eval_in (A : Option Addr) (c : Nat) (i : Nat) (I : Option Addr) (d : Nat) (inp : List Int) (hr : TRow w A l) (ht : TbOk W l) (hW : ¬ (W < 2 ∨ 8 < W)) (hz : ZRow w.heap.size w I inp) (hl : l.length ≤ 1000) (hi : i < l.length) : Calls Tryd.prog 10 #[.agg #[.int .i64 W, .slice A l.length c], .int .i64 (i : Int), .slice I inp.length d] w fun e w' => e = .returned (.tuple #[.int .i64 (evP W l (i : Int) inp).1, .int .i64 (evP W l (i : Int) inp).2]) ∧ Below w.heap.size w w' := by
  have HB1 := Lib.hid ((Below.refl w.heap.size w).alloc (Nat.le_refl _) (.cells #[.int .i64 W, .slice A l.length c] 29))
  have HRB := Lib.hid (show RBox (w.alloc (.cells #[.int .i64 W, .slice A l.length c] 29)) w.heap.size W A l.length c from heap_alloc_new w _)
  have HM := Lib.hid (fun w1 (hb : Below w.heap.size w w1) => r_marks_in (w := w1) A c i (hr.later hb) ht hl hi)
  have HROW := Lib.hid hr
  have HTB := Lib.hid ht
  have HZ := Lib.hid hz
  have HWR := Lib.hid (fun n w => r_wrap_any W n hW w)
  have HRG := Lib.hid (fun k (hk : k ≤ l.length) f (hf : evS W l (mrk l i) inp k = some f) => ev_rng hW ht k hk f hf)
  have HEN := Lib.hid (fun k (hk : k ≤ i + 1) hn => evP_none (W := W) (inp := inp) hi (k := k) hk hn)
  have HES := Lib.hid (fun f hn => evP_some (W := W) (inp := inp) hi (f := f) hn)
  have HAP := Lib.hid (fun o a b c h4 h18 ha hb h01 v d1 d2 d3 w => r_apply_any W o a b c hW h4 h18 ha hb h01 v d1 d2 d3 inp w)
  have hmk := do_make_in l.length (by omega)
  have d0 : decide ((i : Int) < 0) = false := by simp
  have d1 : ¬ l.length ≤ i := by omega
  have d2 : decide ((l.length : Int) ≤ (i : Int)) = false := by simp; omega
  have HWV := Lib.hid hW
  clear hr ht hz hW
  go_enter Tryd.func10, Tryd.ntmps10
  go_upto_region 1 with fail
  generalize w.alloc (.cells #[.int .i64 W, .slice A l.length c] 29) = w1 at *
  obtain ⟨tb, HTE⟩ : ∃ tb, Hid (tb = w.heap.size) := ⟨_, Lib.hid rfl⟩
  have HRB := Lib.hid (show RBox w1 tb W A l.length c by rw [HTE.out]; exact HRB.out)
  rw [← HTE.out]
  obtain ⟨r0, r1⟩ := HRB.out.cells
  go_wp2_with (fail)
  refine (HM.out _ HB1.out).mono ?_
  rintro e w3 ⟨b, rfl, hba, hb3⟩
  have HB3 := Lib.hid (HB1.out.trans (hb3.mono HB1.out.size))
  have HBA := Lib.hid hba
  have HR3 := Lib.hid (HRB.out.later hb3)
  clear hba hb3 r0 r1 HM HB1 HRB
  obtain ⟨r0, r1⟩ := HR3.out.cells
  have hba := (Below.refl w3.heap.size w3).alloc (Nat.le_refl _) (.cells (hdr (fun _ => .int .i64 0) l.length) 3)
  have HB4 := Lib.hid (HB3.out.trans (hba.mono HB3.out.size))
  have HR4 := Lib.hid (HR3.out.later hba)
  have HBA4 := Lib.hid (HBA.out.later hba)
  have HV4 := Lib.hid (IArr.new w3 l.length)
  have HVN := Lib.hid (show b < w3.heap.size ∧ tb < w3.heap.size from ⟨HBA.out.lt, hlt HR3.out⟩)
  clear hba
  go_upto_region 5 with fail
  clear r0 r1 hmk HR3 HBA HB3
  generalize w3.alloc (.cells (hdr (fun _ => .int .i64 0) l.length) 3) = w4 at *
  obtain ⟨vb, HVB⟩ : ∃ vb, Hid (vb = w3.heap.size) := ⟨_, Lib.hid rfl⟩
  rw [← HVB.out] at HV4 HVN
  rw [← HVB.out]
  have HVL := Lib.hid (show w.heap.size ≤ vb by have := HTE.out; have := HVN.out.2; omega)
  clear HVB
  go_wp2_with (fail)
  go_loopw [10] (fun kv wr => ∃ (k : Nat) (f : Nat → Int), k ≤ i + 1 ∧ kv = .int .i64 (k : Int) ∧ Hid (evS W l (mrk l i) inp k = some f) ∧ Hid (IArr wr vb l.length f) ∧ Hid (BArr wr b l.length (mrk l i)) ∧ Hid (RBox wr tb W A l.length c) ∧ Hid (Below w.heap.size w wr)) (fun kv _ => i + 1 - (intOf kv).toNat)
  case atStart => exact ⟨0, fun _ => 0, Nat.zero_le _, rfl, Lib.hid rfl, HV4, HBA4, HR4, HB4⟩
  case round =>
    obtain ⟨k, f, hk, rfl, hev, hva, hbm, hrb, hbw⟩ := hrel
    by_cases hlt' : k ≤ i
    · have hkl : k < l.length := by omega
      have hkn : ¬ l.length ≤ k := by omega
      have q1 := hbm.out.cell hkl
      have HSC := Lib.hid (evS_succ hev.out hkl)
      cases hm : mrk l i k with
      | false =>
        rw [hm] at q1
        have HN := Lib.hid (show evS W l (mrk l i) inp (k + 1) = some f by rw [HSC.out, hm]; simp)
        clear hm
        go_wp2_with (fail)
        exact ⟨⟨k + 1, f, by omega, by go_num, HN, hva, hbm, hrb, hbw⟩, by simp [intOf]; omega⟩
      | true =>
        rw [hm] at q1
        obtain ⟨xb, xo, hA, _, hc0⟩ := (HROW.out.later hbw.out).at hkl
        obtain ⟨o1, o2, o3, _⟩ := HTB.out.node hkl
        obtain ⟨ho1, ho2⟩ := o_lt o1 o2
        have HARG := Lib.hid (fun h4 => node_args HTB.out hkl ho2 h4 ho1)
        have HRK := Lib.hid (HRG.out k (by omega) f hev.out)
        have HYES := Lib.hid (show fitB W l[k] inp = true → evS W l (mrk l i) inp (k + 1) = some (setF f k (valP W l[k] f inp)) from fun h => by rw [HSC.out, if_pos hm, if_pos h])
        have HNO := Lib.hid (show fitB W l[k] inp = false → evP W l (i : Int) inp = (0, 2) from fun h => HEN.out (k + 1) (by omega) (by rw [HSC.out, if_pos hm, if_neg (by rw [h]; decide)]))
        have HV3 := Lib.hid (show l[k].op = 0 ∨ l[k].op = 1 → 0 ≤ l[k].v ∧ l[k].v < 24 from fun h => val_nn o3 h)
        have HO2 := Lib.hid ho2
        have HO1 := Lib.hid ho1
        clear hm HSC o1 o2 o3 ho1 ho2
        generalize hxe : l[k] = x at *
        clear hxe
        subst hA
        have d5 := hc0.1
        have d6 := hc0.2.1
        have d7 := hc0.2.2.1
        have d8 := hc0.2.2.2.1
        have d9 := hc0.2.2.2.2
        obtain ⟨r0, r1⟩ := hrb.out.cells
        clear hc0
        have hba := (Below.refl wr.heap.size wr).alloc (Nat.le_refl _) (.cells #[.int .i64 x.op, .int .i64 x.v, .int .i64 x.a, .int .i64 x.b, .int .i64 x.c] 46)
        have HX5 := Lib.hid (TBox.new wr x)
        have HVA5 := Lib.hid (hva.out.later hba)
        have HBM5 := Lib.hid (hbm.out.later hba)
        have HRB5 := Lib.hid (hrb.out.later hba)
        have HZ5 := Lib.hid ((HZ.out.later hbw.out).later hba)
        have HB5 := Lib.hid (hbw.out.trans (hba.mono hbw.out.size))
        have HNB := Lib.hid (show vb < wr.heap.size from hva.out.lt)
        clear hba
        go_upto_region 10 with fail
        clear d5 d6 d7 d8 d9 r0 r1 q1
        generalize wr.heap.size = nb at *
        generalize wr.alloc (.cells #[.int .i64 x.op, .int .i64 x.v, .int .i64 x.a, .int .i64 x.b, .int .i64 x.c] 46) = w5 at *
        clear hva hbm hrb hbw hev
        obtain ⟨c0, c1, c2, c3, c4⟩ := HX5.out.cells
        obtain ⟨r0, r1⟩ := HRB5.out.cells
        have v0 := HVA5.out.cell hkl
        have v1 := HVA5.out.frz k
        have HG5 := Lib.hid (show IArr w5 vb l.length f ∧ BArr w5 b l.length (mrk l i) ∧ RBox w5 tb W (some ⟨xb, xo, none⟩) l.length c ∧ TBox w5 nb x ∧ Below w.heap.size w w5 from ⟨HVA5.out, HBM5.out, HRB5.out, HX5.out, HB5.out⟩)
        have HST := Lib.hid (fun (ws : World) (y : Int) (hg : IArr ws vb l.length f ∧ BArr ws b l.length (mrk l i) ∧ RBox ws tb W (some ⟨xb, xo, none⟩) l.length c ∧ TBox ws nb x ∧ Below w.heap.size w ws) (hf : fitB W x inp = true) (hy : valP W x f inp = y) => show Hid (evS W l (mrk l i) inp (k + 1) = some (setF f k y)) ∧ Hid (IArr (ws.setCell ⟨vb, k, none⟩ (.int .i64 y)) vb l.length (setF f k y)) ∧ Hid (BArr (ws.setCell ⟨vb, k, none⟩ (.int .i64 y)) b l.length (mrk l i)) ∧ Hid (RBox (ws.setCell ⟨vb, k, none⟩ (.int .i64 y)) tb W (some ⟨xb, xo, none⟩) l.length c) ∧ Hid (Below w.heap.size w (ws.setCell ⟨vb, k, none⟩ (.int .i64 y))) from
          ⟨Lib.hid (by rw [HYES.out hf, hy]), Lib.hid (hg.1.set hkl y), Lib.hid (hg.2.1.other (p := ⟨vb, k, none⟩) (Nat.ne_of_lt HVN.out.1) _), Lib.hid ((hfar (p := ⟨vb, k, none⟩) (Nat.ne_of_lt HVN.out.2) _).trans hg.2.2.1), Lib.hid (hg.2.2.2.2.setCell (p := ⟨vb, k, none⟩) HVL.out _)⟩)
        obtain ⟨o, HO⟩ : ∃ o, Hid (x.o = o) := ⟨_, Lib.hid rfl⟩
        have ho1 := HO1.out
        have ho2 := HO2.out
        rw [HO.out] at ho1 ho2
        have HVALQ := Lib.hid (show valP W x f inp = valQ W x (f x.a.toNat) (f x.b.toNat) (f x.c.toNat) inp from rfl)
        by_cases o0 : o = 0
        · subst o0
          have hop : x.op = 0 := by simpa using ho2
          clear ho2
          obtain ⟨hv0, hv24⟩ := HV3.out (.inl hop)
          obtain ⟨vn, hvn⟩ : ∃ vn : Nat, x.v = (vn : Int) := ⟨x.v.toNat, by omega⟩
          have HFT := Lib.hid (show fitB W x inp = (decide (vn < inp.length) && (inp.getD vn 0 == wrpP W (inp.getD vn 0))) by unfold fitB; rw [if_pos hop, hvn, Int.toNat_natCast])
          have HVV := Lib.hid (show valP W x f inp = inp.getD vn 0 by rw [HVALQ.out]; simp only [valQ, HO.out, hvn, Int.toNat_natCast])
          rw [hop] at c0
          rw [hvn] at c1
          clear hop hv0 hv24 hvn
          by_cases hlv : vn < inp.length
          case neg =>
            have HE := Lib.hid (HNO.out (by rw [HFT.out, decide_eq_false hlv, Bool.false_and]))
            have g1 : inp.length ≤ vn := by omega
            go_wp2_with (fail)
            go_ret2
            rw [HE.out]
            exact ⟨rfl, HB5.out⟩
          have g1 : ¬ inp.length ≤ vn := by omega
          obtain ⟨ib, io, rfl, _, hcs⟩ := HZ5.out (by omega)
          have z0 := hcs vn hlv
          have HGD := Lib.hid (show inp.getD vn 0 = inp[vn] by rw [List.getD_eq_getElem?_getD, List.getElem?_eq_getElem hlv]; rfl)
          rw [HGD.out] at HVV HFT
          rw [decide_eq_true hlv, Bool.true_and] at HFT
          clear hcs HGD
          generalize inp[vn] = y at *
          by_cases hq : wrpP W y = y
          · have dq : (wrpP W y != y) = false := by simpa using hq
            have HF := Lib.hid (show fitB W x inp = true by rw [HFT.out]; simpa using hq.symm)
            clear hq
            obtain ⟨h1, h2, h3, h4, h5⟩ := HST.out w5 y HG5.out HF.out HVV.out
            go_wp2_with (fail)
            refine (HWR.out y w5).mono ?_
            rintro e wx ⟨rfl, hwx⟩
            obtain rfl := hwx.symm
            go_wp2_with (fail)
            exact ⟨⟨k + 1, _, by omega, by go_num, h1, h2, h3, h4, h5⟩, by simp [intOf]; omega⟩
          · have dq : (wrpP W y != y) = true := by simpa using hq
            have HE := Lib.hid (HNO.out (by rw [HFT.out]; simpa using fun h => hq h.symm))
            clear hq
            go_wp2_with (fail)
            refine (HWR.out y w5).mono ?_
            rintro e wx ⟨rfl, hwx⟩
            obtain rfl := hwx.symm
            go_wp2_with (fail)
            go_ret2
            rw [HE.out]
            exact ⟨rfl, HB5.out⟩
        by_cases o1 : o = 1
        · subst o1
          have hop : x.op = 1 := by simpa using ho2
          clear ho2
          obtain ⟨hv0, hv24⟩ := HV3.out (.inr hop)
          obtain ⟨vn, hvn⟩ : ∃ vn : Nat, x.v = (vn : Int) := ⟨x.v.toNat, by omega⟩
          have HFT := Lib.hid (show fitB W x inp = (decide (vn < inp.length) && (inp.getD vn 0 == 0 || inp.getD vn 0 == 1)) by unfold fitB; rw [if_neg (by omega), if_pos hop, hvn, Int.toNat_natCast])
          have HVV := Lib.hid (show valP W x f inp = inp.getD vn 0 by rw [HVALQ.out]; simp only [valQ, HO.out, hvn, Int.toNat_natCast])
          rw [hop] at c0
          rw [hvn] at c1
          clear hop hv0 hv24 hvn
          by_cases hlv : vn < inp.length
          case neg =>
            have HE := Lib.hid (HNO.out (by rw [HFT.out, decide_eq_false hlv, Bool.false_and]))
            have g1 : inp.length ≤ vn := by omega
            go_wp2_with (fail)
            go_ret2
            rw [HE.out]
            exact ⟨rfl, HB5.out⟩
          have g1 : ¬ inp.length ≤ vn := by omega
          obtain ⟨ib, io, rfl, _, hcs⟩ := HZ5.out (by omega)
          have z0 := hcs vn hlv
          have HGD := Lib.hid (show inp.getD vn 0 = inp[vn] by rw [List.getD_eq_getElem?_getD, List.getElem?_eq_getElem hlv]; rfl)
          rw [HGD.out] at HVV HFT
          rw [decide_eq_true hlv, Bool.true_and] at HFT
          clear hcs HGD
          generalize inp[vn] = y at *
          by_cases hq : y = 0 ∨ y = 1
          · have HF := Lib.hid (show fitB W x inp = true by rw [HFT.out]; simpa using hq)
            rcases hq with hq | hq
            · have dq : (y != 0) = false := by simpa using hq
              clear hq
              obtain ⟨h1, h2, h3, h4, h5⟩ := HST.out w5 y HG5.out HF.out HVV.out
              go_wp2_with (fail)
              exact ⟨⟨k + 1, _, by omega, by go_num, h1, h2, h3, h4, h5⟩, by simp [intOf]; omega⟩
            · have dq : (y != 0) = true := by rw [hq]; rfl
              have dq2 : (y != 1) = false := by simpa using hq
              clear hq
              obtain ⟨h1, h2, h3, h4, h5⟩ := HST.out w5 y HG5.out HF.out HVV.out
              go_wp2_with (fail)
              exact ⟨⟨k + 1, _, by omega, by go_num, h1, h2, h3, h4, h5⟩, by simp [intOf]; omega⟩
          · have dq : (y != 0) = true := by simp; omega
            have dq2 : (y != 1) = true := by simp; omega
            have HE := Lib.hid (HNO.out (by rw [HFT.out]; simp; omega))
            clear hq
            go_wp2_with (fail)
            go_ret2
            rw [HE.out]
            exact ⟨rfl, HB5.out⟩
        by_cases o23 : o = 2 ∨ o = 3
        · have HFIT := Lib.hid (show fitB W x inp = true by unfold fitB; rw [if_neg (by omega), if_neg (by omega)])
          have HVV := Lib.hid (show valP W x f inp = x.v by rw [HVALQ.out]; unfold valQ; rw [HO.out]; rcases o23 with rfl | rfl <;> rfl)
          obtain ⟨h1, h2, h3, h4, h5⟩ := HST.out w5 x.v HG5.out HFIT.out HVV.out
          rw [ho2] at c0
          have hne0 : ((o : Int) == 0) = false := by simp; omega
          have hne1 : ((o : Int) == 1) = false := by simp; omega
          clear ho2
          rcases o23 with rfl | rfl
          · go_wp2_with (fail)
            exact ⟨⟨k + 1, _, by omega, by go_num, h1, h2, h3, h4, h5⟩, by simp [intOf]; omega⟩
          · go_wp2_with (fail)
            exact ⟨⟨k + 1, _, by omega, by go_num, h1, h2, h3, h4, h5⟩, by simp [intOf]; omega⟩
        · have h4 : 4 ≤ o := by omega
          rw [HO.out] at HARG
          obtain ⟨na, ma, ca, ea, eb, ec, la, lb, lc, hsort⟩ := HARG.out h4
          have HFIT := Lib.hid (show fitB W x inp = true by unfold fitB; rw [if_neg (by omega), if_neg (by omega)])
          have ga := HRK.out na (by omega)
          have gb := HRK.out ma (by omega)
          have gc := HRK.out ca (by omega)
          have h01 : o = 12 ∨ o = 13 → (f na = 0 ∨ f na = 1) ∧ (f ma = 0 ∨ f ma = 1) := fun h => by
            obtain ⟨⟨p1, p2⟩, ⟨p3, p4⟩⟩ := hsort h
            rw [p2] at ga
            rw [p4] at gb
            unfold rng at ga gb
            rw [if_neg (by decide)] at ga gb
            exact ⟨ga, gb⟩
          have HAPQ := Lib.hid (fun w => HAP.out o (f na) (f ma) (f ca) h4 ho1 (rng_bound ga) (rng_bound gb) h01 x.v x.a x.b x.c w)
          obtain ⟨z, HZ9⟩ : ∃ z, Hid (valQ W ⟨(o : Int), x.v, x.a, x.b, x.c⟩ (f na) (f ma) (f ca) inp = z) := ⟨_, Lib.hid rfl⟩
          have HZV := Lib.hid (show valP W x f inp = z by
            rw [← HZ9.out, HVALQ.out, ea, eb, ec, Int.toNat_natCast, Int.toNat_natCast, Int.toNat_natCast]
            congr 1
            exact Tm.ext' ho2 rfl ea eb ec)
          rw [HZ9.out] at HAPQ
          have HSS := Lib.hid (fun (ws : World) (hg : IArr ws vb l.length f ∧ BArr ws b l.length (mrk l i) ∧ RBox ws tb W (some ⟨xb, xo, none⟩) l.length c ∧ TBox ws nb x ∧ Below w.heap.size w ws) => show ws.cell? ⟨tb, 0, none⟩ = some (.int .i64 W) ∧ ws.cell? ⟨nb, 0, none⟩ = some (.int .i64 (o : Int)) ∧ ws.cell? ⟨nb, 2, none⟩ = some (.int .i64 (na : Int)) ∧ ws.cell? ⟨nb, 3, none⟩ = some (.int .i64 (ma : Int)) ∧ ws.cell? ⟨nb, 4, none⟩ = some (.int .i64 (ca : Int)) ∧ ws.cell? ⟨vb, na, none⟩ = some (.int .i64 (f na)) ∧ ws.cell? ⟨vb, ma, none⟩ = some (.int .i64 (f ma)) ∧ ws.cell? ⟨vb, ca, none⟩ = some (.int .i64 (f ca)) from by
            obtain ⟨k0, _, k2, k3, k4⟩ := hg.2.2.2.1.cells
            exact ⟨hg.2.2.1.cells.1, by rw [k0, ho2], by rw [k2, ea], by rw [k3, eb], by rw [k4, ec], hg.1.cell (by omega), hg.1.cell (by omega), hg.1.cell (by omega)⟩)
          have HS5 := Lib.hid (HSS.out w5 HG5.out)
          have HSZ := Lib.hid (fun (ws : World) (hg : IArr ws vb l.length f ∧ BArr ws b l.length (mrk l i) ∧ RBox ws tb W (some ⟨xb, xo, none⟩) l.length c ∧ TBox ws nb x ∧ Below w.heap.size w ws) => show (ws.setCell ⟨vb, k, none⟩ (.int .i64 z)).cell? ⟨tb, 0, none⟩ = some (.int .i64 W) ∧ (ws.setCell ⟨vb, k, none⟩ (.int .i64 z)).cell? ⟨nb, 0, none⟩ = some (.int .i64 (o : Int)) ∧ (ws.setCell ⟨vb, k, none⟩ (.int .i64 z)).cell? ⟨nb, 2, none⟩ = some (.int .i64 (na : Int)) ∧ (ws.setCell ⟨vb, k, none⟩ (.int .i64 z)).cell? ⟨nb, 3, none⟩ = some (.int .i64 (ma : Int)) ∧ (ws.setCell ⟨vb, k, none⟩ (.int .i64 z)).cell? ⟨nb, 4, none⟩ = some (.int .i64 (ca : Int)) ∧ (ws.setCell ⟨vb, k, none⟩ (.int .i64 z)).cell? ⟨vb, na, none⟩ = some (.int .i64 (f na)) ∧ (ws.setCell ⟨vb, k, none⟩ (.int .i64 z)).cell? ⟨vb, ma, none⟩ = some (.int .i64 (f ma)) ∧ (ws.setCell ⟨vb, k, none⟩ (.int .i64 z)).cell? ⟨vb, ca, none⟩ = some (.int .i64 (f ca)) from by
            have hx : TBox (ws.setCell ⟨vb, k, none⟩ (.int .i64 z)) nb x := (hfar (p := ⟨vb, k, none⟩) (Nat.ne_of_gt HNB.out) _).trans hg.2.2.2.1
            have hr : RBox (ws.setCell ⟨vb, k, none⟩ (.int .i64 z)) tb W (some ⟨xb, xo, none⟩) l.length c := (hfar (p := ⟨vb, k, none⟩) (Nat.ne_of_lt HVN.out.2) _).trans hg.2.2.1
            obtain ⟨k0, _, k2, k3, k4⟩ := hx.cells
            have hs := hg.1.set hkl z
            have g : ∀ q : Nat, q < k → (ws.setCell ⟨vb, k, none⟩ (.int .i64 z)).cell? ⟨vb, q, none⟩ = some (.int .i64 (f q)) := fun q hq => by
              have h := hs.cell (show q < l.length by omega)
              unfold setF at h
              rw [if_neg (by omega)] at h
              exact h
            exact ⟨hr.cells.1, by rw [k0, ho2], by rw [k2, ea], by rw [k3, eb], by rw [k4, ec], g na la, g ma lb, g ca lc⟩)
          have HDR := Lib.hid (fun (ws : World) (m : Nat) (hg : IArr ws vb l.length f ∧ BArr ws b l.length (mrk l i) ∧ RBox ws tb W (some ⟨xb, xo, none⟩) l.length c ∧ TBox ws nb x ∧ Below w.heap.size w ws) => show IArr (ws.drewN m) vb l.length f ∧ BArr (ws.drewN m) b l.length (mrk l i) ∧ RBox (ws.drewN m) tb W (some ⟨xb, xo, none⟩) l.length c ∧ TBox (ws.drewN m) nb x ∧ Below w.heap.size w (ws.drewN m) from ⟨hg.1, hg.2.1, hg.2.2.1, hg.2.2.2.1, below_drewN hg.2.2.2.2 m⟩)
          have HDR1 := Lib.hid (fun (ws : World) (hg : IArr ws vb l.length f ∧ BArr ws b l.length (mrk l i) ∧ RBox ws tb W (some ⟨xb, xo, none⟩) l.length c ∧ TBox ws nb x ∧ Below w.heap.size w ws) => show IArr ws.drew vb l.length f ∧ BArr ws.drew b l.length (mrk l i) ∧ RBox ws.drew tb W (some ⟨xb, xo, none⟩) l.length c ∧ TBox ws.drew nb x ∧ Below w.heap.size w ws.drew from ⟨hg.1, hg.2.1, hg.2.2.1, hg.2.2.2.1, hg.2.2.2.2.drew⟩)
          have l1 : ¬ l.length ≤ na := by omega
          have l2 : ¬ l.length ≤ ma := by omega
          have l3 : ¬ l.length ≤ ca := by omega
          have hne0 : ((o : Int) == 0) = false := by simp; omega
          have hne1 : ((o : Int) == 1) = false := by simp; omega
          have hne2 : ((o : Int) == 2) = false := by simp; omega
          have hne3 : ((o : Int) == 3) = false := by simp; omega
          rw [ho2] at c0
          clear o0 o1 o23 h4 ho1 ho2 ea eb ec hsort ga gb gc h01
          go_upto_region 11 with fail
          clear c0 c1 c2 c3 c4 r0 r1 v0 v1
-- REGION
          refine wp_region_noPanic ?_
          refine wp_region_held_drew (S := fun w' => w'.cell? ⟨tb, 0, none⟩ = some (.int .i64 W) ∧ w'.cell? ⟨nb, 0, none⟩ = some (.int .i64 (o : Int)) ∧ w'.cell? ⟨nb, 2, none⟩ = some (.int .i64 (na : Int)) ∧ w'.cell? ⟨nb, 3, none⟩ = some (.int .i64 (ma : Int)) ∧ w'.cell? ⟨nb, 4, none⟩ = some (.int .i64 (ca : Int)) ∧ w'.cell? ⟨vb, na, none⟩ = some (.int .i64 (f na)) ∧ w'.cell? ⟨vb, ma, none⟩ = some (.int .i64 (f ma)) ∧ w'.cell? ⟨vb, ca, none⟩ = some (.int .i64 (f ca))) (by kernel_rfl) HS5.out (fun _ => ?_)
          have HG7 := Lib.hid (HDR1.out w5 HG5.out)
          have HS0 := Lib.hid (HSS.out _ HG7.out)
          generalize w5.drew = w7 at *
          refine wpAnyH_take (i := 0) (oi := { dst := some 46, op := Op.move (Operand.tmp 9), type := 23, pos := "ref.go:235", after := #[], guard := none }) (v := .slice (some ⟨vb, 0, none⟩) l.length l.length) rfl (by kernel_rfl) (by kernel_rfl) (by kernel_rfl) (fun _ _ _ h => h) (Or.inl ⟨by rfl, ?_⟩) HS0.out ?_
          · (intro w' hSw; go_simp)
          simp only [Act.put, List.setIfInBounds_toArray, List.set_cons_zero, List.set_cons_succ]
          refine wpAnyH_take (i := 1) (oi := { dst := some 47, op := Op.move (Operand.tmp 10), type := 3, pos := "ref.go:235", after := #[], guard := none }) (v := .int .i64 (k : Int)) rfl (by kernel_rfl) (by kernel_rfl) (by kernel_rfl) (fun _ _ _ h => h) (Or.inl ⟨by rfl, ?_⟩) HS0.out ?_
          · (intro w' hSw; go_simp)
          simp only [Act.put, List.setIfInBounds_toArray, List.set_cons_zero, List.set_cons_succ]
          refine wpAnyH_take (i := 2) (oi := { dst := some 48, op := Op.fieldAddr 29 (Operand.tmp 3) 0, type := 0, pos := "ref.go:235", after := #[], guard := none }) (v := .pointer (some ⟨tb, 0, none⟩)) rfl (by kernel_rfl) (by kernel_rfl) (by kernel_rfl) (fun _ _ _ h => h) (Or.inl ⟨by rfl, ?_⟩) HS0.out ?_
          · (intro w' hSw; go_simp)
          simp only [Act.put, List.setIfInBounds_toArray, List.set_cons_zero, List.set_cons_succ]
          refine wpAnyH_take (i := 3) (oi := { dst := some 49, op := Op.load 3 (Operand.tmp 48), type := 3, pos := "ref.go:235", after := #[{ on := 2, ground := Ground.data }], guard := none }) (v := .int .i64 W) rfl (by kernel_rfl) (by kernel_rfl) (by kernel_rfl) (fun _ _ _ h => h) (Or.inl ⟨by rfl, ?_⟩) HS0.out ?_
          · (intro w' hSw; have z0 := hSw.1; go_simp)
          simp only [Act.put, List.setIfInBounds_toArray, List.set_cons_zero, List.set_cons_succ]
          refine wpAnyH_take (i := 4) (oi := { dst := some 50, op := Op.fieldAddr 46 (Operand.tmp 11) 0, type := 0, pos := "ref.go:235", after := #[], guard := none }) (v := .pointer (some ⟨nb, 0, none⟩)) rfl (by kernel_rfl) (by kernel_rfl) (by kernel_rfl) (fun _ _ _ h => h) (Or.inl ⟨by rfl, ?_⟩) HS0.out ?_
          · (intro w' hSw; go_simp)
          simp only [Act.put, List.setIfInBounds_toArray, List.set_cons_zero, List.set_cons_succ]
          refine wpAnyH_take (i := 5) (oi := { dst := some 51, op := Op.load 3 (Operand.tmp 50), type := 3, pos := "ref.go:235", after := #[{ on := 4, ground := Ground.data }], guard := none }) (v := .int .i64 (o : Int)) rfl (by kernel_rfl) (by kernel_rfl) (by kernel_rfl) (fun _ _ _ h => h) (Or.inl ⟨by rfl, ?_⟩) HS0.out ?_
          · (intro w' hSw; have z0 := hSw.2.1; go_simp)
          simp only [Act.put, List.setIfInBounds_toArray, List.set_cons_zero, List.set_cons_succ]
          refine wpAnyH_take (i := 6) (oi := { dst := some 52, op := Op.move (Operand.tmp 9), type := 23, pos := "ref.go:235", after := #[], guard := none }) (v := .slice (some ⟨vb, 0, none⟩) l.length l.length) rfl (by kernel_rfl) (by kernel_rfl) (by kernel_rfl) (fun _ _ _ h => h) (Or.inl ⟨by rfl, ?_⟩) HS0.out ?_
          · (intro w' hSw; go_simp)
          simp only [Act.put, List.setIfInBounds_toArray, List.set_cons_zero, List.set_cons_succ]
          refine wpAnyH_take (i := 7) (oi := { dst := some 53, op := Op.fieldAddr 46 (Operand.tmp 11) 2, type := 0, pos := "ref.go:235", after := #[], guard := none }) (v := .pointer (some ⟨nb, 2, none⟩)) rfl (by kernel_rfl) (by kernel_rfl) (by kernel_rfl) (fun _ _ _ h => h) (Or.inl ⟨by rfl, ?_⟩) HS0.out ?_
          · (intro w' hSw; go_simp)
          simp only [Act.put, List.setIfInBounds_toArray, List.set_cons_zero, List.set_cons_succ]
          refine wpAnyH_take (i := 8) (oi := { dst := some 54, op := Op.indexAddr 44 (Operand.tmp 53) (Operand.const (Value.int IntKind.i64 0)), type := 0, pos := "ref.go:235", after := #[{ on := 7, ground := Ground.data }], guard := none }) (v := .pointer (some ⟨nb, 2, none⟩)) rfl (by kernel_rfl) (by kernel_rfl) (by kernel_rfl) (fun _ _ _ h => h) (Or.inl ⟨by rfl, ?_⟩) HS0.out ?_
          · (intro w' hSw; go_simp)
          simp only [Act.put, List.setIfInBounds_toArray, List.set_cons_zero, List.set_cons_succ]
          refine wpAnyH_take (i := 9) (oi := { dst := some 55, op := Op.load 3 (Operand.tmp 54), type := 3, pos := "ref.go:235", after := #[{ on := 8, ground := Ground.data }], guard := none }) (v := .int .i64 (na : Int)) rfl (by kernel_rfl) (by kernel_rfl) (by kernel_rfl) (fun _ _ _ h => h) (Or.inl ⟨by rfl, ?_⟩) HS0.out ?_
          · (intro w' hSw; have z0 := hSw.2.2.1; go_simp)
          simp only [Act.put, List.setIfInBounds_toArray, List.set_cons_zero, List.set_cons_succ]
          refine wpAnyH_take (i := 10) (oi := { dst := some 56, op := Op.indexAddr 23 (Operand.tmp 52) (Operand.tmp 55), type := 0, pos := "ref.go:235", after := #[{ on := 6, ground := Ground.data }, { on := 9, ground := Ground.data }], guard := none }) (v := .pointer (some ⟨vb, na, none⟩)) rfl (by kernel_rfl) (by kernel_rfl) (by kernel_rfl) (fun _ _ _ h => h) (Or.inl ⟨by rfl, ?_⟩) HS0.out ?_
          · (intro w' hSw; go_simp)
          simp only [Act.put, List.setIfInBounds_toArray, List.set_cons_zero, List.set_cons_succ]
          refine wpAnyH_take (i := 11) (oi := { dst := some 57, op := Op.load 3 (Operand.tmp 56), type := 3, pos := "ref.go:235", after := #[{ on := 10, ground := Ground.data }], guard := none }) (v := .int .i64 (f na)) rfl (by kernel_rfl) (by kernel_rfl) (by kernel_rfl) (fun _ _ _ h => h) (Or.inl ⟨by rfl, ?_⟩) HS0.out ?_
          · (intro w' hSw; have z0 := hSw.2.2.2.2.2.1; go_simp)
          simp only [Act.put, List.setIfInBounds_toArray, List.set_cons_zero, List.set_cons_succ]
          refine wpAnyH_take (i := 12) (oi := { dst := some 58, op := Op.move (Operand.tmp 9), type := 23, pos := "ref.go:235", after := #[], guard := none }) (v := .slice (some ⟨vb, 0, none⟩) l.length l.length) rfl (by kernel_rfl) (by kernel_rfl) (by kernel_rfl) (fun _ _ _ h => h) (Or.inl ⟨by rfl, ?_⟩) HS0.out ?_
          · (intro w' hSw; go_simp)
          simp only [Act.put, List.setIfInBounds_toArray, List.set_cons_zero, List.set_cons_succ]
          refine wpAnyH_take (i := 13) (oi := { dst := some 59, op := Op.fieldAddr 46 (Operand.tmp 11) 2, type := 0, pos := "ref.go:235", after := #[], guard := none }) (v := .pointer (some ⟨nb, 2, none⟩)) rfl (by kernel_rfl) (by kernel_rfl) (by kernel_rfl) (fun _ _ _ h => h) (Or.inl ⟨by rfl, ?_⟩) HS0.out ?_
          · (intro w' hSw; go_simp)
          simp only [Act.put, List.setIfInBounds_toArray, List.set_cons_zero, List.set_cons_succ]
          refine wpAnyH_take (i := 14) (oi := { dst := some 60, op := Op.indexAddr 44 (Operand.tmp 59) (Operand.const (Value.int IntKind.i64 1)), type := 0, pos := "ref.go:235", after := #[{ on := 13, ground := Ground.data }], guard := none }) (v := .pointer (some ⟨nb, 3, none⟩)) rfl (by kernel_rfl) (by kernel_rfl) (by kernel_rfl) (fun _ _ _ h => h) (Or.inl ⟨by rfl, ?_⟩) HS0.out ?_
          · (intro w' hSw; go_simp)
          simp only [Act.put, List.setIfInBounds_toArray, List.set_cons_zero, List.set_cons_succ]
          refine wpAnyH_take (i := 15) (oi := { dst := some 61, op := Op.load 3 (Operand.tmp 60), type := 3, pos := "ref.go:235", after := #[{ on := 14, ground := Ground.data }], guard := none }) (v := .int .i64 (ma : Int)) rfl (by kernel_rfl) (by kernel_rfl) (by kernel_rfl) (fun _ _ _ h => h) (Or.inl ⟨by rfl, ?_⟩) HS0.out ?_
          · (intro w' hSw; have z0 := hSw.2.2.2.1; go_simp)
          simp only [Act.put, List.setIfInBounds_toArray, List.set_cons_zero, List.set_cons_succ]
          refine wpAnyH_take (i := 16) (oi := { dst := some 62, op := Op.indexAddr 23 (Operand.tmp 58) (Operand.tmp 61), type := 0, pos := "ref.go:235", after := #[{ on := 12, ground := Ground.data }, { on := 15, ground := Ground.data }], guard := none }) (v := .pointer (some ⟨vb, ma, none⟩)) rfl (by kernel_rfl) (by kernel_rfl) (by kernel_rfl) (fun _ _ _ h => h) (Or.inl ⟨by rfl, ?_⟩) HS0.out ?_
          · (intro w' hSw; go_simp)
          simp only [Act.put, List.setIfInBounds_toArray, List.set_cons_zero, List.set_cons_succ]
          refine wpAnyH_take (i := 17) (oi := { dst := some 63, op := Op.load 3 (Operand.tmp 62), type := 3, pos := "ref.go:235", after := #[{ on := 16, ground := Ground.data }], guard := none }) (v := .int .i64 (f ma)) rfl (by kernel_rfl) (by kernel_rfl) (by kernel_rfl) (fun _ _ _ h => h) (Or.inl ⟨by rfl, ?_⟩) HS0.out ?_
          · (intro w' hSw; have z0 := hSw.2.2.2.2.2.2.1; go_simp)
          simp only [Act.put, List.setIfInBounds_toArray, List.set_cons_zero, List.set_cons_succ]
          refine wpAnyH_take (i := 18) (oi := { dst := some 64, op := Op.move (Operand.tmp 9), type := 23, pos := "ref.go:235", after := #[], guard := none }) (v := .slice (some ⟨vb, 0, none⟩) l.length l.length) rfl (by kernel_rfl) (by kernel_rfl) (by kernel_rfl) (fun _ _ _ h => h) (Or.inl ⟨by rfl, ?_⟩) HS0.out ?_
          · (intro w' hSw; go_simp)
          simp only [Act.put, List.setIfInBounds_toArray, List.set_cons_zero, List.set_cons_succ]
          refine wpAnyH_take (i := 19) (oi := { dst := some 65, op := Op.fieldAddr 46 (Operand.tmp 11) 2, type := 0, pos := "ref.go:235", after := #[], guard := none }) (v := .pointer (some ⟨nb, 2, none⟩)) rfl (by kernel_rfl) (by kernel_rfl) (by kernel_rfl) (fun _ _ _ h => h) (Or.inl ⟨by rfl, ?_⟩) HS0.out ?_
          · (intro w' hSw; go_simp)
          simp only [Act.put, List.setIfInBounds_toArray, List.set_cons_zero, List.set_cons_succ]
          refine wpAnyH_take (i := 20) (oi := { dst := some 66, op := Op.indexAddr 44 (Operand.tmp 65) (Operand.const (Value.int IntKind.i64 2)), type := 0, pos := "ref.go:235", after := #[{ on := 19, ground := Ground.data }], guard := none }) (v := .pointer (some ⟨nb, 4, none⟩)) rfl (by kernel_rfl) (by kernel_rfl) (by kernel_rfl) (fun _ _ _ h => h) (Or.inl ⟨by rfl, ?_⟩) HS0.out ?_
          · (intro w' hSw; go_simp)
          simp only [Act.put, List.setIfInBounds_toArray, List.set_cons_zero, List.set_cons_succ]
          refine wpAnyH_take (i := 21) (oi := { dst := some 67, op := Op.load 3 (Operand.tmp 66), type := 3, pos := "ref.go:235", after := #[{ on := 20, ground := Ground.data }], guard := none }) (v := .int .i64 (ca : Int)) rfl (by kernel_rfl) (by kernel_rfl) (by kernel_rfl) (fun _ _ _ h => h) (Or.inl ⟨by rfl, ?_⟩) HS0.out ?_
          · (intro w' hSw; have z0 := hSw.2.2.2.2.1; go_simp)
          simp only [Act.put, List.setIfInBounds_toArray, List.set_cons_zero, List.set_cons_succ]
          refine wpAnyH_take (i := 22) (oi := { dst := some 68, op := Op.indexAddr 23 (Operand.tmp 64) (Operand.tmp 67), type := 0, pos := "ref.go:235", after := #[{ on := 18, ground := Ground.data }, { on := 21, ground := Ground.data }], guard := none }) (v := .pointer (some ⟨vb, ca, none⟩)) rfl (by kernel_rfl) (by kernel_rfl) (by kernel_rfl) (fun _ _ _ h => h) (Or.inl ⟨by rfl, ?_⟩) HS0.out ?_
          · (intro w' hSw; go_simp)
          simp only [Act.put, List.setIfInBounds_toArray, List.set_cons_zero, List.set_cons_succ]
          refine wpAnyH_take (i := 23) (oi := { dst := some 69, op := Op.load 3 (Operand.tmp 68), type := 3, pos := "ref.go:235", after := #[{ on := 22, ground := Ground.data }], guard := none }) (v := .int .i64 (f ca)) rfl (by kernel_rfl) (by kernel_rfl) (by kernel_rfl) (fun _ _ _ h => h) (Or.inl ⟨by rfl, ?_⟩) HS0.out ?_
          · (intro w' hSw; have z0 := hSw.2.2.2.2.2.2.2; go_simp)
          simp only [Act.put, List.setIfInBounds_toArray, List.set_cons_zero, List.set_cons_succ]
          refine wpAnyH_ready (rs := [24]) (by kernel_rfl) (by simp) (AllReadyH.cons (o := { dst := some 70, op := Op.call { callee := Callee.value (Operand.func 29), args := #[Operand.tmp 49, Operand.tmp 51, Operand.tmp 57, Operand.tmp 63, Operand.tmp 69], argTypes := #[3, 3, 3, 3, 3] }, type := 3, pos := "ref.go:235", after := #[{ on := 3, ground := Ground.data }, { on := 5, ground := Ground.data }, { on := 11, ground := Ground.data }, { on := 17, ground := Ground.data }, { on := 23, ground := Ground.data }], guard := none }) rfl (fun K hK => ?_) AllReadyH.nil)
          go_simp
          go_at_call 29
          refine (HAPQ.out _).mono ?_
          rintro e wx ⟨rfl, m, rfl⟩
          have HG8 := Lib.hid (HDR.out w7 m HG7.out)
          have HS1 := Lib.hid (HSS.out _ HG8.out)
          generalize w7.drewN m = w8 at *
          refine hK.out _ _ HS1.out (fun _ => ?_)
          clear hK K
          try simp only [Act.put, List.setIfInBounds_toArray, List.set_cons_zero, List.set_cons_succ]
          refine wpAnyH_take (i := 25) (oi := { dst := some 71, op := Op.indexAddr 23 (Operand.tmp 46) (Operand.tmp 47), type := 0, pos := "ref.go:235", after := #[{ on := 0, ground := Ground.data }, { on := 1, ground := Ground.data }, { on := 0, ground := Ground.phase }, { on := 1, ground := Ground.phase }, { on := 2, ground := Ground.phase }, { on := 3, ground := Ground.phase }, { on := 4, ground := Ground.phase }, { on := 5, ground := Ground.phase }, { on := 6, ground := Ground.phase }, { on := 7, ground := Ground.phase }, { on := 8, ground := Ground.phase }, { on := 9, ground := Ground.phase }, { on := 10, ground := Ground.phase }, { on := 11, ground := Ground.phase }, { on := 12, ground := Ground.phase }, { on := 13, ground := Ground.phase }, { on := 14, ground := Ground.phase }, { on := 15, ground := Ground.phase }, { on := 16, ground := Ground.phase }, { on := 17, ground := Ground.phase }, { on := 18, ground := Ground.phase }, { on := 19, ground := Ground.phase }, { on := 20, ground := Ground.phase }, { on := 21, ground := Ground.phase }, { on := 22, ground := Ground.phase }, { on := 23, ground := Ground.phase }, { on := 24, ground := Ground.phase }], guard := none }) (v := .pointer (some ⟨vb, k, none⟩)) rfl (by kernel_rfl) (by kernel_rfl) (by kernel_rfl) (fun _ _ _ h => h) (Or.inl ⟨by rfl, ?_⟩) HS1.out ?_
          · (intro w' hSw; go_simp)
          simp only [Act.put, List.setIfInBounds_toArray, List.set_cons_zero, List.set_cons_succ]
          refine wpAnyH_ready (rs := [26]) (by kernel_rfl) (by simp) (AllReadyH.cons (o := { dst := none, op := Op.store 3 (Operand.tmp 71) (Operand.tmp 70), type := 0, pos := "ref.go:235", after := #[{ on := 25, ground := Ground.data }, { on := 24, ground := Ground.data }, { on := 24, ground := Ground.chain }, { on := 0, ground := Ground.phase }, { on := 1, ground := Ground.phase }, { on := 2, ground := Ground.phase }, { on := 3, ground := Ground.phase }, { on := 4, ground := Ground.phase }, { on := 5, ground := Ground.phase }, { on := 6, ground := Ground.phase }, { on := 7, ground := Ground.phase }, { on := 8, ground := Ground.phase }, { on := 9, ground := Ground.phase }, { on := 10, ground := Ground.phase }, { on := 11, ground := Ground.phase }, { on := 12, ground := Ground.phase }, { on := 13, ground := Ground.phase }, { on := 14, ground := Ground.phase }, { on := 15, ground := Ground.phase }, { on := 16, ground := Ground.phase }, { on := 17, ground := Ground.phase }, { on := 18, ground := Ground.phase }, { on := 19, ground := Ground.phase }, { on := 20, ground := Ground.phase }, { on := 21, ground := Ground.phase }, { on := 22, ground := Ground.phase }, { on := 23, ground := Ground.phase }, { on := 24, ground := Ground.phase }], guard := none }) rfl (fun K hK => ?_) AllReadyH.nil)
          have y1 := HG8.out.1.cell hkl
          have y2 := HG8.out.1.frz k
          go_simp
          clear y1 y2
          have HF8 := Lib.hid (HST.out w8 z HG8.out HFIT.out HZV.out)
          have HS2 := Lib.hid (HSZ.out w8 HG8.out)
          generalize w8.setCell ⟨vb, k, none⟩ (.int .i64 z) = w9 at *
          refine hK.out _ _ HS2.out (fun _ => ?_)
          clear hK K
          try simp only [Act.put, List.setIfInBounds_toArray, List.set_cons_zero, List.set_cons_succ]
          refine wpAnyH_done (by kernel_rfl) ?_ _
          refine NoPanic.normal ?_
          obtain ⟨h1, h2, h3, h4', h5⟩ := HF8.out
          go_wp2_with (fail)
          exact ⟨⟨k + 1, _, by omega, by go_num, h1, h2, h3, h4', h5⟩, by simp [intOf]; omega⟩
          -- END
    · obtain rfl : k = i + 1 := by omega
      have HE := Lib.hid (HES.out f hev.out)
      have q1 := hva.out.cell hi
      have hgt : ¬ i + 1 ≤ i := by omega
      go_wp2_with (fail)
      go_ret2
      rw [HE.out]
      exact ⟨rfl, hbw.out⟩
end
end Go.Proofs.YtjgkcicgjnjepaaDoor
