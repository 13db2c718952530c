/- What is proved: the reference of package gates: its And. -/
import Derived.Test.YtbcabnbgkicfdaaGaRBd
set_option linter.unusedVariables false
set_option linter.unusedSimpArgs false
namespace Go.Proofs.Ytbcabnbgkicfdaa
open Go.RowKit Go.Maps

/-- what a step of the reference's builder gives -/
def RAns (I : Int) (A : Option Addr) (w : World) (L : List Gt) (e z : Int) (en : Ending) (w' : World) : Prop := ∃ A' c', en = .returned (.tuple #[.agg #[.int .i64 I, .slice A' L.length c', .int .i64 e], .int .i64 z]) ∧ GRow w' A' L ∧ L.length ≤ c' ∧ (L = [] → A' = none) ∧ (∀ a, A' = some a → A = some a ∨ w.heap.size ≤ a.block) ∧ Below w.heap.size w w'
theorem rlit_small {I : Int} {n : Nat} {x : Int} (h : litB I n x = true) (hI : 0 ≤ I ∧ I ≤ 1024) (hn : n ≤ 1000) : 0 ≤ x ∧ x ≤ 5000 := by
  unfold litB nds at h
  simp only [Bool.and_eq_true, decide_eq_true_eq] at h
  omega
section
variable {I : Int} {A : Option Addr} {c : Nat} {gs : List Gt} {w : World}
set_option maxRecDepth 100000 in
set_option maxHeartbeats 4000000 in
theorem r_And_err (e0 x y : Int) (h0 : e0 ≠ 0) (hr : GRow w A gs) (hc : gs.length ≤ c) (hA : gs = [] → A = none) (ok : Bool) (L : List Gt) (z : Int) :
    Calls Try.prog 51 #[.agg #[.int .i64 I, .slice A gs.length c, .int .i64 e0], .int .i64 x, .int .i64 y] w (RAns I A w (opL e0 ok gs L) (opE e0 ok) (opN e0 ok z)) := by
  obtain ⟨e1, e2, e3⟩ := op_err h0 ok z gs L
  rw [e1, e2, e3]
  have HR := Lib.hid hr
  have HCC := Lib.hid hc
  have HAA := Lib.hid hA
  have d0 : (e0 != 0) = true := by simpa using h0
  clear h0 e1 e2 e3 hr hc hA
  have HB0 := Lib.hid (((Below.refl w.heap.size w).alloc (Nat.le_refl _) (.cells #[.int .i64 I, .slice A gs.length c, .int .i64 e0] 32)).alloc (by simp) (.cells #[.int .i64 0, .slice none 0 0, .int .i64 0] 32))
  have HO0 := Lib.hid (show RBx ((w.alloc (.cells #[.int .i64 I, .slice A gs.length c, .int .i64 e0] 32)).alloc (.cells #[.int .i64 0, .slice none 0 0, .int .i64 0] 32)) (w.heap.size + 1) 0 none 0 0 0 from by
    have := RBx.new (w.alloc (.cells #[.int .i64 I, .slice A gs.length c, .int .i64 e0] 32)) 0 none 0 0 0
    rwa [show (w.alloc (.cells #[.int .i64 I, .slice A gs.length c, .int .i64 e0] 32)).heap.size = w.heap.size + 1 by simp] at this)
  have HP0 := Lib.hid (show RBx ((w.alloc (.cells #[.int .i64 I, .slice A gs.length c, .int .i64 e0] 32)).alloc (.cells #[.int .i64 0, .slice none 0 0, .int .i64 0] 32)) w.heap.size I A gs.length c e0 from (heap_alloc_old _ _ (by simp)).trans (RBx.new w I A gs.length c e0))
  go_enter Try.func51, Try.ntmps51
  go_upto_region 1 with fail
  generalize hgw : (w.alloc (.cells #[.int .i64 I, .slice A gs.length c, .int .i64 e0] 32)).alloc (.cells #[.int .i64 0, .slice none 0 0, .int .i64 0] 32) = w2 at *
  clear hgw
  have HD := Lib.hid (show w.heap.size ≤ w.heap.size + 1 ∧ w.heap.size ≠ w.heap.size + 1 from by omega)
  generalize w.heap.size + 1 = ob at *
  obtain ⟨pb, HPE⟩ : ∃ pb, Hid (pb = w.heap.size) := ⟨_, Lib.hid rfl⟩
  have HP0 := Lib.hid (show RBx w2 pb I A gs.length c e0 by rw [HPE.out]; exact HP0.out)
  have HD := Lib.hid (show w.heap.size ≤ pb ∧ w.heap.size ≤ ob ∧ pb ≠ ob by rw [HPE.out]; exact ⟨Nat.le_refl _, HD.out⟩)
  rw [← HPE.out]
  obtain ⟨q0, q1, q2⟩ := HP0.out.cells
  obtain ⟨z0, z1, z2⟩ := HO0.out.cells
  have f0 := HO0.out.frz 0
  have f1 := HO0.out.frz 1
  have f2 := HO0.out.frz 2
  go_wp2_with (fail)
  have hq := HO0.out.put I A (gs.length) c e0
  have hbq := put3_below HB0.out HD.out.2.1 (.int .i64 I) (.slice A (gs.length) c) (.int .i64 e0)
  obtain ⟨v0, v1, v2⟩ := hq.cells
  clear hq f0 f1 f2 z0 z1 z2 q0 q1 q2
  generalize ((w2.setCell ⟨ob, 0, none⟩ (.int .i64 I)).setCell ⟨ob, 1, none⟩ (.slice A gs.length c)).setCell ⟨ob, 2, none⟩ (.int .i64 e0) = V at *
  exact bodyPost_ret (v := .tuple #[.agg #[.int .i64 I, .slice A (gs.length) c, .int .i64 e0], .int .i64 0]) (by simp [results, Try.results51, go_sem, v0, v1, v2]) rfl ⟨A, c, rfl, HR.out.later hbq, HCC.out, HAA.out, fun a e => .inl e, hbq⟩
set_option maxRecDepth 100000 in
set_option maxHeartbeats 4000000 in
theorem r_And_bad (x y : Int) (hI : 0 ≤ I ∧ I ≤ 1024) (hr : GRow w A gs) (hc : gs.length ≤ c) (hA : gs = [] → A = none) (hn : gs.length ≤ 1000) (hb : (litB I gs.length x && litB I gs.length y) = false) (L : List Gt) (z : Int) :
    Calls Try.prog 51 #[.agg #[.int .i64 I, .slice A gs.length c, .int .i64 0], .int .i64 x, .int .i64 y] w (RAns I A w (opL 0 (litB I gs.length x && litB I gs.length y) gs L) (opE 0 (litB I gs.length x && litB I gs.length y)) (opN 0 (litB I gs.length x && litB I gs.length y) z)) := by
  obtain ⟨e1, e2, e3⟩ := op_bad z gs L
  rw [hb, e1, e2, e3]
  have HR := Lib.hid hr
  have HCC := Lib.hid hc
  have HAA := Lib.hid hA
  have HLX := Lib.hid (fun w => show Calls Try.prog 97 #[.agg #[.int .i64 I, .slice A gs.length c], .int .i64 x] w fun e w' => e = .returned (.bool (litB I gs.length x)) ∧ Below w.heap.size w w' from (r_isLit_any I A gs.length c (by omega) x w).mono fun e w' ⟨⟨b, h1, h2⟩, h3⟩ => ⟨by rw [h1, h2 hI], h3⟩)
  have HLY := Lib.hid (fun w => show Calls Try.prog 97 #[.agg #[.int .i64 I, .slice A gs.length c], .int .i64 y] w fun e w' => e = .returned (.bool (litB I gs.length y)) ∧ Below w.heap.size w w' from (r_isLit_any I A gs.length c (by omega) y w).mono fun e w' ⟨⟨b, h1, h2⟩, h3⟩ => ⟨by rw [h1, h2 hI], h3⟩)
  cases hx : litB I gs.length x with
  | false =>
    rw [hx] at HLX
    clear e1 e2 e3 hr hc hA hb hx hI hn
    have HB0 := Lib.hid (((Below.refl w.heap.size w).alloc (Nat.le_refl _) (.cells #[.int .i64 I, .slice A gs.length c, .int .i64 0] 32)).alloc (by simp) (.cells #[.int .i64 0, .slice none 0 0, .int .i64 0] 32))
    have HO0 := Lib.hid (show RBx ((w.alloc (.cells #[.int .i64 I, .slice A gs.length c, .int .i64 0] 32)).alloc (.cells #[.int .i64 0, .slice none 0 0, .int .i64 0] 32)) (w.heap.size + 1) 0 none 0 0 0 from by
      have := RBx.new (w.alloc (.cells #[.int .i64 I, .slice A gs.length c, .int .i64 0] 32)) 0 none 0 0 0
      rwa [show (w.alloc (.cells #[.int .i64 I, .slice A gs.length c, .int .i64 0] 32)).heap.size = w.heap.size + 1 by simp] at this)
    have HP0 := Lib.hid (show RBx ((w.alloc (.cells #[.int .i64 I, .slice A gs.length c, .int .i64 0] 32)).alloc (.cells #[.int .i64 0, .slice none 0 0, .int .i64 0] 32)) w.heap.size I A gs.length c 0 from (heap_alloc_old _ _ (by simp)).trans (RBx.new w I A gs.length c 0))
    go_enter Try.func51, Try.ntmps51
    go_upto_region 1 with fail
    generalize hgw : (w.alloc (.cells #[.int .i64 I, .slice A gs.length c, .int .i64 0] 32)).alloc (.cells #[.int .i64 0, .slice none 0 0, .int .i64 0] 32) = w2 at *
    clear hgw
    have HD := Lib.hid (show w.heap.size ≤ w.heap.size + 1 ∧ w.heap.size ≠ w.heap.size + 1 from by omega)
    generalize w.heap.size + 1 = ob at *
    obtain ⟨pb, HPE⟩ : ∃ pb, Hid (pb = w.heap.size) := ⟨_, Lib.hid rfl⟩
    have HP0 := Lib.hid (show RBx w2 pb I A gs.length c 0 by rw [HPE.out]; exact HP0.out)
    have HD := Lib.hid (show w.heap.size ≤ pb ∧ w.heap.size ≤ ob ∧ pb ≠ ob by rw [HPE.out]; exact ⟨Nat.le_refl _, HD.out⟩)
    rw [← HPE.out]
    obtain ⟨q0, q1, q2⟩ := HP0.out.cells
    go_wp2_with (fail)
    clear q0 q1 q2
    refine (HLX.out _).mono ?_
    rintro e w3 ⟨rfl, hb⟩
    have HP3 := Lib.hid (HP0.out.later hb)
    have HO3 := Lib.hid (HO0.out.later hb)
    have HB3 := Lib.hid (HB0.out.trans (hb.mono HB0.out.size))
    clear hb
    obtain ⟨q0, q1, q2⟩ := HP3.out.cells
    go_upto_region 4 with fail
    clear q0 q1 q2
    obtain ⟨q0, q1, q2⟩ := HP3.out.cells
    have g2 := HP3.out.frz 2
    go_upto_region 5 with fail
    have HP5 := Lib.hid (HP3.out.putE 1)
    have HO5 := Lib.hid (HO3.out.far HD.out.2.2 2 (.int .i64 1))
    have HB5 := Lib.hid (HB3.out.setCell (p := ⟨pb, 2, none⟩) HD.out.1 (.int .i64 1))
    clear q0 q1 q2 g2
    generalize hgw : w3.setCell ⟨pb, 2, none⟩ (.int .i64 1) = w5 at *
    clear hgw
    obtain ⟨q0, q1, q2⟩ := HP5.out.cells
    obtain ⟨z0, z1, z2⟩ := HO5.out.cells
    have f0 := HO5.out.frz 0
    have f1 := HO5.out.frz 1
    have f2 := HO5.out.frz 2
    go_wp2_with (fail)
    have hq := HO5.out.put I A (gs.length) c 1
    have hbq := put3_below HB5.out HD.out.2.1 (.int .i64 I) (.slice A (gs.length) c) (.int .i64 1)
    obtain ⟨v0, v1, v2⟩ := hq.cells
    clear hq f0 f1 f2 z0 z1 z2 q0 q1 q2
    generalize ((w5.setCell ⟨ob, 0, none⟩ (.int .i64 I)).setCell ⟨ob, 1, none⟩ (.slice A gs.length c)).setCell ⟨ob, 2, none⟩ (.int .i64 1) = V at *
    exact bodyPost_ret (v := .tuple #[.agg #[.int .i64 I, .slice A (gs.length) c, .int .i64 1], .int .i64 0]) (by simp [results, Try.results51, go_sem, v0, v1, v2]) rfl ⟨A, c, rfl, HR.out.later hbq, HCC.out, HAA.out, fun a e => .inl e, hbq⟩
  | true =>
    rw [hx] at HLX hb
    rw [Bool.true_and] at hb
    rw [hb] at HLY
    clear e1 e2 e3 hr hc hA hb hx hI hn
    have HB0 := Lib.hid (((Below.refl w.heap.size w).alloc (Nat.le_refl _) (.cells #[.int .i64 I, .slice A gs.length c, .int .i64 0] 32)).alloc (by simp) (.cells #[.int .i64 0, .slice none 0 0, .int .i64 0] 32))
    have HO0 := Lib.hid (show RBx ((w.alloc (.cells #[.int .i64 I, .slice A gs.length c, .int .i64 0] 32)).alloc (.cells #[.int .i64 0, .slice none 0 0, .int .i64 0] 32)) (w.heap.size + 1) 0 none 0 0 0 from by
      have := RBx.new (w.alloc (.cells #[.int .i64 I, .slice A gs.length c, .int .i64 0] 32)) 0 none 0 0 0
      rwa [show (w.alloc (.cells #[.int .i64 I, .slice A gs.length c, .int .i64 0] 32)).heap.size = w.heap.size + 1 by simp] at this)
    have HP0 := Lib.hid (show RBx ((w.alloc (.cells #[.int .i64 I, .slice A gs.length c, .int .i64 0] 32)).alloc (.cells #[.int .i64 0, .slice none 0 0, .int .i64 0] 32)) w.heap.size I A gs.length c 0 from (heap_alloc_old _ _ (by simp)).trans (RBx.new w I A gs.length c 0))
    go_enter Try.func51, Try.ntmps51
    go_upto_region 1 with fail
    generalize hgw : (w.alloc (.cells #[.int .i64 I, .slice A gs.length c, .int .i64 0] 32)).alloc (.cells #[.int .i64 0, .slice none 0 0, .int .i64 0] 32) = w2 at *
    clear hgw
    have HD := Lib.hid (show w.heap.size ≤ w.heap.size + 1 ∧ w.heap.size ≠ w.heap.size + 1 from by omega)
    generalize w.heap.size + 1 = ob at *
    obtain ⟨pb, HPE⟩ : ∃ pb, Hid (pb = w.heap.size) := ⟨_, Lib.hid rfl⟩
    have HP0 := Lib.hid (show RBx w2 pb I A gs.length c 0 by rw [HPE.out]; exact HP0.out)
    have HD := Lib.hid (show w.heap.size ≤ pb ∧ w.heap.size ≤ ob ∧ pb ≠ ob by rw [HPE.out]; exact ⟨Nat.le_refl _, HD.out⟩)
    rw [← HPE.out]
    obtain ⟨q0, q1, q2⟩ := HP0.out.cells
    go_wp2_with (fail)
    clear q0 q1 q2
    refine (HLX.out _).mono ?_
    rintro e w3 ⟨rfl, hb⟩
    have HP3 := Lib.hid (HP0.out.later hb)
    have HO3 := Lib.hid (HO0.out.later hb)
    have HB3 := Lib.hid (HB0.out.trans (hb.mono HB0.out.size))
    clear hb
    obtain ⟨q0, q1, q2⟩ := HP3.out.cells
    go_wp2_with (fail)
    clear q0 q1 q2
    refine (HLY.out _).mono ?_
    rintro e w4 ⟨rfl, hb⟩
    have HP4 := Lib.hid (HP3.out.later hb)
    have HO4 := Lib.hid (HO3.out.later hb)
    have HB4 := Lib.hid (HB3.out.trans (hb.mono HB3.out.size))
    clear hb
    obtain ⟨q0, q1, q2⟩ := HP4.out.cells
    go_upto_region 4 with fail
    clear q0 q1 q2
    obtain ⟨q0, q1, q2⟩ := HP4.out.cells
    have g2 := HP4.out.frz 2
    go_upto_region 5 with fail
    have HP5 := Lib.hid (HP4.out.putE 1)
    have HO5 := Lib.hid (HO4.out.far HD.out.2.2 2 (.int .i64 1))
    have HB5 := Lib.hid (HB4.out.setCell (p := ⟨pb, 2, none⟩) HD.out.1 (.int .i64 1))
    clear q0 q1 q2 g2
    generalize hgw : w4.setCell ⟨pb, 2, none⟩ (.int .i64 1) = w5 at *
    clear hgw
    obtain ⟨q0, q1, q2⟩ := HP5.out.cells
    obtain ⟨z0, z1, z2⟩ := HO5.out.cells
    have f0 := HO5.out.frz 0
    have f1 := HO5.out.frz 1
    have f2 := HO5.out.frz 2
    go_wp2_with (fail)
    have hq := HO5.out.put I A (gs.length) c 1
    have hbq := put3_below HB5.out HD.out.2.1 (.int .i64 I) (.slice A (gs.length) c) (.int .i64 1)
    obtain ⟨v0, v1, v2⟩ := hq.cells
    clear hq f0 f1 f2 z0 z1 z2 q0 q1 q2
    generalize ((w5.setCell ⟨ob, 0, none⟩ (.int .i64 I)).setCell ⟨ob, 1, none⟩ (.slice A gs.length c)).setCell ⟨ob, 2, none⟩ (.int .i64 1) = V at *
    exact bodyPost_ret (v := .tuple #[.agg #[.int .i64 I, .slice A (gs.length) c, .int .i64 1], .int .i64 0]) (by simp [results, Try.results51, go_sem, v0, v1, v2]) rfl ⟨A, c, rfl, HR.out.later hbq, HCC.out, HAA.out, fun a e => .inl e, hbq⟩
set_option maxRecDepth 100000 in
set_option maxHeartbeats 4000000 in
theorem r_And_some (x y z : Int) (hI : 0 ≤ I ∧ I ≤ 1024) (hr : GRow w A gs) (hc : gs.length ≤ c) (hA : gs = [] → A = none) (hn : gs.length ≤ 1000) (hx : litB I gs.length x = true) (hy : litB I gs.length y = true) (hz : andK x y = some z) :
    Calls Try.prog 51 #[.agg #[.int .i64 I, .slice A gs.length c, .int .i64 0], .int .i64 x, .int .i64 y] w (RAns I A w gs 0 z) := by
  have HR := Lib.hid hr
  have HCC := Lib.hid hc
  have HAA := Lib.hid hA
  have bx := rlit_small hx hI hn
  have by' := rlit_small hy hI hn
  have HLX := Lib.hid (fun w => show Calls Try.prog 97 #[.agg #[.int .i64 I, .slice A gs.length c], .int .i64 x] w fun e w' => e = .returned (.bool true) ∧ Below w.heap.size w w' from (r_isLit_any I A gs.length c (by omega) x w).mono fun e w' ⟨⟨b, h1, h2⟩, h3⟩ => ⟨by rw [h1, h2 hI, hx], h3⟩)
  have HLY := Lib.hid (fun w => show Calls Try.prog 97 #[.agg #[.int .i64 I, .slice A gs.length c], .int .i64 y] w fun e w' => e = .returned (.bool true) ∧ Below w.heap.size w w' from (r_isLit_any I A gs.length c (by omega) y w).mono fun e w' ⟨⟨b, h1, h2⟩, h3⟩ => ⟨by rw [h1, h2 hI, hy], h3⟩)
  have HNT := Lib.hid (fun w => r_not_any y (by omega) w)
  clear hr hc hA hI hn hx hy
  by_cases q0 : x = 0
  · obtain rfl : 0 = z := by rw [andK_zero (.inl q0)] at hz; injection hz
    have d0 : (x == 0) = true := by simpa using q0
    clear hz q0 bx by'
    have HB0 := Lib.hid (((Below.refl w.heap.size w).alloc (Nat.le_refl _) (.cells #[.int .i64 I, .slice A gs.length c, .int .i64 0] 32)).alloc (by simp) (.cells #[.int .i64 0, .slice none 0 0, .int .i64 0] 32))
    have HO0 := Lib.hid (show RBx ((w.alloc (.cells #[.int .i64 I, .slice A gs.length c, .int .i64 0] 32)).alloc (.cells #[.int .i64 0, .slice none 0 0, .int .i64 0] 32)) (w.heap.size + 1) 0 none 0 0 0 from by
      have := RBx.new (w.alloc (.cells #[.int .i64 I, .slice A gs.length c, .int .i64 0] 32)) 0 none 0 0 0
      rwa [show (w.alloc (.cells #[.int .i64 I, .slice A gs.length c, .int .i64 0] 32)).heap.size = w.heap.size + 1 by simp] at this)
    have HP0 := Lib.hid (show RBx ((w.alloc (.cells #[.int .i64 I, .slice A gs.length c, .int .i64 0] 32)).alloc (.cells #[.int .i64 0, .slice none 0 0, .int .i64 0] 32)) w.heap.size I A gs.length c 0 from (heap_alloc_old _ _ (by simp)).trans (RBx.new w I A gs.length c 0))
    go_enter Try.func51, Try.ntmps51
    go_upto_region 1 with fail
    generalize hgw : (w.alloc (.cells #[.int .i64 I, .slice A gs.length c, .int .i64 0] 32)).alloc (.cells #[.int .i64 0, .slice none 0 0, .int .i64 0] 32) = w2 at *
    clear hgw
    have HD := Lib.hid (show w.heap.size ≤ w.heap.size + 1 ∧ w.heap.size ≠ w.heap.size + 1 from by omega)
    generalize w.heap.size + 1 = ob at *
    obtain ⟨pb, HPE⟩ : ∃ pb, Hid (pb = w.heap.size) := ⟨_, Lib.hid rfl⟩
    have HP0 := Lib.hid (show RBx w2 pb I A gs.length c 0 by rw [HPE.out]; exact HP0.out)
    have HD := Lib.hid (show w.heap.size ≤ pb ∧ w.heap.size ≤ ob ∧ pb ≠ ob by rw [HPE.out]; exact ⟨Nat.le_refl _, HD.out⟩)
    rw [← HPE.out]
    obtain ⟨q0, q1, q2⟩ := HP0.out.cells
    go_wp2_with (fail)
    clear q0 q1 q2
    refine (HLX.out _).mono ?_
    rintro e w3 ⟨rfl, hb⟩
    have HP3 := Lib.hid (HP0.out.later hb)
    have HO3 := Lib.hid (HO0.out.later hb)
    have HB3 := Lib.hid (HB0.out.trans (hb.mono HB0.out.size))
    clear hb
    obtain ⟨q0, q1, q2⟩ := HP3.out.cells
    go_wp2_with (fail)
    clear q0 q1 q2
    refine (HLY.out _).mono ?_
    rintro e w4 ⟨rfl, hb⟩
    have HP4 := Lib.hid (HP3.out.later hb)
    have HO4 := Lib.hid (HO3.out.later hb)
    have HB4 := Lib.hid (HB3.out.trans (hb.mono HB3.out.size))
    clear hb
    obtain ⟨q0, q1, q2⟩ := HP4.out.cells
    obtain ⟨z0, z1, z2⟩ := HO4.out.cells
    have f0 := HO4.out.frz 0
    have f1 := HO4.out.frz 1
    have f2 := HO4.out.frz 2
    go_wp2_with (fail)
    have hq := HO4.out.put I A (gs.length) c 0
    have hbq := put3_below HB4.out HD.out.2.1 (.int .i64 I) (.slice A (gs.length) c) (.int .i64 0)
    obtain ⟨v0, v1, v2⟩ := hq.cells
    clear hq f0 f1 f2 z0 z1 z2 q0 q1 q2
    generalize ((w4.setCell ⟨ob, 0, none⟩ (.int .i64 I)).setCell ⟨ob, 1, none⟩ (.slice A gs.length c)).setCell ⟨ob, 2, none⟩ (.int .i64 0) = V at *
    exact bodyPost_ret (v := .tuple #[.agg #[.int .i64 I, .slice A (gs.length) c, .int .i64 0], .int .i64 0]) (by simp [results, Try.results51, go_sem, v0, v1, v2]) rfl ⟨A, c, rfl, HR.out.later hbq, HCC.out, HAA.out, fun a e => .inl e, hbq⟩
  have d0 : (x == 0) = false := by simpa using q0
  by_cases q1 : y = 0
  · obtain rfl : 0 = z := by rw [andK_zero (.inr q1)] at hz; injection hz
    have d1 : (y == 0) = true := by simpa using q1
    clear hz q0 q1 bx by'
    have HB0 := Lib.hid (((Below.refl w.heap.size w).alloc (Nat.le_refl _) (.cells #[.int .i64 I, .slice A gs.length c, .int .i64 0] 32)).alloc (by simp) (.cells #[.int .i64 0, .slice none 0 0, .int .i64 0] 32))
    have HO0 := Lib.hid (show RBx ((w.alloc (.cells #[.int .i64 I, .slice A gs.length c, .int .i64 0] 32)).alloc (.cells #[.int .i64 0, .slice none 0 0, .int .i64 0] 32)) (w.heap.size + 1) 0 none 0 0 0 from by
      have := RBx.new (w.alloc (.cells #[.int .i64 I, .slice A gs.length c, .int .i64 0] 32)) 0 none 0 0 0
      rwa [show (w.alloc (.cells #[.int .i64 I, .slice A gs.length c, .int .i64 0] 32)).heap.size = w.heap.size + 1 by simp] at this)
    have HP0 := Lib.hid (show RBx ((w.alloc (.cells #[.int .i64 I, .slice A gs.length c, .int .i64 0] 32)).alloc (.cells #[.int .i64 0, .slice none 0 0, .int .i64 0] 32)) w.heap.size I A gs.length c 0 from (heap_alloc_old _ _ (by simp)).trans (RBx.new w I A gs.length c 0))
    go_enter Try.func51, Try.ntmps51
    go_upto_region 1 with fail
    generalize hgw : (w.alloc (.cells #[.int .i64 I, .slice A gs.length c, .int .i64 0] 32)).alloc (.cells #[.int .i64 0, .slice none 0 0, .int .i64 0] 32) = w2 at *
    clear hgw
    have HD := Lib.hid (show w.heap.size ≤ w.heap.size + 1 ∧ w.heap.size ≠ w.heap.size + 1 from by omega)
    generalize w.heap.size + 1 = ob at *
    obtain ⟨pb, HPE⟩ : ∃ pb, Hid (pb = w.heap.size) := ⟨_, Lib.hid rfl⟩
    have HP0 := Lib.hid (show RBx w2 pb I A gs.length c 0 by rw [HPE.out]; exact HP0.out)
    have HD := Lib.hid (show w.heap.size ≤ pb ∧ w.heap.size ≤ ob ∧ pb ≠ ob by rw [HPE.out]; exact ⟨Nat.le_refl _, HD.out⟩)
    rw [← HPE.out]
    obtain ⟨q0, q1, q2⟩ := HP0.out.cells
    go_wp2_with (fail)
    clear q0 q1 q2
    refine (HLX.out _).mono ?_
    rintro e w3 ⟨rfl, hb⟩
    have HP3 := Lib.hid (HP0.out.later hb)
    have HO3 := Lib.hid (HO0.out.later hb)
    have HB3 := Lib.hid (HB0.out.trans (hb.mono HB0.out.size))
    clear hb
    obtain ⟨q0, q1, q2⟩ := HP3.out.cells
    go_wp2_with (fail)
    clear q0 q1 q2
    refine (HLY.out _).mono ?_
    rintro e w4 ⟨rfl, hb⟩
    have HP4 := Lib.hid (HP3.out.later hb)
    have HO4 := Lib.hid (HO3.out.later hb)
    have HB4 := Lib.hid (HB3.out.trans (hb.mono HB3.out.size))
    clear hb
    obtain ⟨q0, q1, q2⟩ := HP4.out.cells
    obtain ⟨z0, z1, z2⟩ := HO4.out.cells
    have f0 := HO4.out.frz 0
    have f1 := HO4.out.frz 1
    have f2 := HO4.out.frz 2
    go_wp2_with (fail)
    have hq := HO4.out.put I A (gs.length) c 0
    have hbq := put3_below HB4.out HD.out.2.1 (.int .i64 I) (.slice A (gs.length) c) (.int .i64 0)
    obtain ⟨v0, v1, v2⟩ := hq.cells
    clear hq f0 f1 f2 z0 z1 z2 q0 q1 q2
    generalize ((w4.setCell ⟨ob, 0, none⟩ (.int .i64 I)).setCell ⟨ob, 1, none⟩ (.slice A gs.length c)).setCell ⟨ob, 2, none⟩ (.int .i64 0) = V at *
    exact bodyPost_ret (v := .tuple #[.agg #[.int .i64 I, .slice A (gs.length) c, .int .i64 0], .int .i64 0]) (by simp [results, Try.results51, go_sem, v0, v1, v2]) rfl ⟨A, c, rfl, HR.out.later hbq, HCC.out, HAA.out, fun a e => .inl e, hbq⟩
  have d1 : (y == 0) = false := by simpa using q1
  by_cases q5 : x = notP y
  · have q2 : x ≠ 1 := by unfold notP at q5; split at q5 <;> omega
    have q3 : ¬ (y = 1 ∨ x = y) := by unfold notP at q5; split at q5 <;> omega
    obtain rfl : 0 = z := by rw [andK_not (by omega) q2 q3 q5] at hz; injection hz
    have d5 : (x == notP y) = true := by simpa using q5
    clear hz q0 q1 q2 q3 q5 bx by'
    have HB0 := Lib.hid (((Below.refl w.heap.size w).alloc (Nat.le_refl _) (.cells #[.int .i64 I, .slice A gs.length c, .int .i64 0] 32)).alloc (by simp) (.cells #[.int .i64 0, .slice none 0 0, .int .i64 0] 32))
    have HO0 := Lib.hid (show RBx ((w.alloc (.cells #[.int .i64 I, .slice A gs.length c, .int .i64 0] 32)).alloc (.cells #[.int .i64 0, .slice none 0 0, .int .i64 0] 32)) (w.heap.size + 1) 0 none 0 0 0 from by
      have := RBx.new (w.alloc (.cells #[.int .i64 I, .slice A gs.length c, .int .i64 0] 32)) 0 none 0 0 0
      rwa [show (w.alloc (.cells #[.int .i64 I, .slice A gs.length c, .int .i64 0] 32)).heap.size = w.heap.size + 1 by simp] at this)
    have HP0 := Lib.hid (show RBx ((w.alloc (.cells #[.int .i64 I, .slice A gs.length c, .int .i64 0] 32)).alloc (.cells #[.int .i64 0, .slice none 0 0, .int .i64 0] 32)) w.heap.size I A gs.length c 0 from (heap_alloc_old _ _ (by simp)).trans (RBx.new w I A gs.length c 0))
    go_enter Try.func51, Try.ntmps51
    go_upto_region 1 with fail
    generalize hgw : (w.alloc (.cells #[.int .i64 I, .slice A gs.length c, .int .i64 0] 32)).alloc (.cells #[.int .i64 0, .slice none 0 0, .int .i64 0] 32) = w2 at *
    clear hgw
    have HD := Lib.hid (show w.heap.size ≤ w.heap.size + 1 ∧ w.heap.size ≠ w.heap.size + 1 from by omega)
    generalize w.heap.size + 1 = ob at *
    obtain ⟨pb, HPE⟩ : ∃ pb, Hid (pb = w.heap.size) := ⟨_, Lib.hid rfl⟩
    have HP0 := Lib.hid (show RBx w2 pb I A gs.length c 0 by rw [HPE.out]; exact HP0.out)
    have HD := Lib.hid (show w.heap.size ≤ pb ∧ w.heap.size ≤ ob ∧ pb ≠ ob by rw [HPE.out]; exact ⟨Nat.le_refl _, HD.out⟩)
    rw [← HPE.out]
    obtain ⟨q0, q1, q2⟩ := HP0.out.cells
    go_wp2_with (fail)
    clear q0 q1 q2
    refine (HLX.out _).mono ?_
    rintro e w3 ⟨rfl, hb⟩
    have HP3 := Lib.hid (HP0.out.later hb)
    have HO3 := Lib.hid (HO0.out.later hb)
    have HB3 := Lib.hid (HB0.out.trans (hb.mono HB0.out.size))
    clear hb
    obtain ⟨q0, q1, q2⟩ := HP3.out.cells
    go_wp2_with (fail)
    clear q0 q1 q2
    refine (HLY.out _).mono ?_
    rintro e w4 ⟨rfl, hb⟩
    have HP4 := Lib.hid (HP3.out.later hb)
    have HO4 := Lib.hid (HO3.out.later hb)
    have HB4 := Lib.hid (HB3.out.trans (hb.mono HB3.out.size))
    clear hb
    obtain ⟨q0, q1, q2⟩ := HP4.out.cells
    go_wp2_with (fail)
    clear q0 q1 q2
    refine (HNT.out _).mono ?_
    rintro e wx ⟨rfl, hwx⟩
    obtain rfl := hwx.symm
    obtain ⟨q0, q1, q2⟩ := HP4.out.cells
    obtain ⟨z0, z1, z2⟩ := HO4.out.cells
    have f0 := HO4.out.frz 0
    have f1 := HO4.out.frz 1
    have f2 := HO4.out.frz 2
    go_wp2_with (fail)
    have hq := HO4.out.put I A (gs.length) c 0
    have hbq := put3_below HB4.out HD.out.2.1 (.int .i64 I) (.slice A (gs.length) c) (.int .i64 0)
    obtain ⟨v0, v1, v2⟩ := hq.cells
    clear hq f0 f1 f2 z0 z1 z2 q0 q1 q2
    generalize ((w4.setCell ⟨ob, 0, none⟩ (.int .i64 I)).setCell ⟨ob, 1, none⟩ (.slice A gs.length c)).setCell ⟨ob, 2, none⟩ (.int .i64 0) = V at *
    exact bodyPost_ret (v := .tuple #[.agg #[.int .i64 I, .slice A (gs.length) c, .int .i64 0], .int .i64 0]) (by simp [results, Try.results51, go_sem, v0, v1, v2]) rfl ⟨A, c, rfl, HR.out.later hbq, HCC.out, HAA.out, fun a e => .inl e, hbq⟩
  have d5 : (x == notP y) = false := by simpa using q5
  by_cases q2 : x = 1
  · obtain rfl : y = z := by rw [andK_one (by omega) q2] at hz; injection hz
    have d2 : (x == 1) = true := by simpa using q2
    clear hz q0 q1 q2 q5 bx by'
    have HB0 := Lib.hid (((Below.refl w.heap.size w).alloc (Nat.le_refl _) (.cells #[.int .i64 I, .slice A gs.length c, .int .i64 0] 32)).alloc (by simp) (.cells #[.int .i64 0, .slice none 0 0, .int .i64 0] 32))
    have HO0 := Lib.hid (show RBx ((w.alloc (.cells #[.int .i64 I, .slice A gs.length c, .int .i64 0] 32)).alloc (.cells #[.int .i64 0, .slice none 0 0, .int .i64 0] 32)) (w.heap.size + 1) 0 none 0 0 0 from by
      have := RBx.new (w.alloc (.cells #[.int .i64 I, .slice A gs.length c, .int .i64 0] 32)) 0 none 0 0 0
      rwa [show (w.alloc (.cells #[.int .i64 I, .slice A gs.length c, .int .i64 0] 32)).heap.size = w.heap.size + 1 by simp] at this)
    have HP0 := Lib.hid (show RBx ((w.alloc (.cells #[.int .i64 I, .slice A gs.length c, .int .i64 0] 32)).alloc (.cells #[.int .i64 0, .slice none 0 0, .int .i64 0] 32)) w.heap.size I A gs.length c 0 from (heap_alloc_old _ _ (by simp)).trans (RBx.new w I A gs.length c 0))
    go_enter Try.func51, Try.ntmps51
    go_upto_region 1 with fail
    generalize hgw : (w.alloc (.cells #[.int .i64 I, .slice A gs.length c, .int .i64 0] 32)).alloc (.cells #[.int .i64 0, .slice none 0 0, .int .i64 0] 32) = w2 at *
    clear hgw
    have HD := Lib.hid (show w.heap.size ≤ w.heap.size + 1 ∧ w.heap.size ≠ w.heap.size + 1 from by omega)
    generalize w.heap.size + 1 = ob at *
    obtain ⟨pb, HPE⟩ : ∃ pb, Hid (pb = w.heap.size) := ⟨_, Lib.hid rfl⟩
    have HP0 := Lib.hid (show RBx w2 pb I A gs.length c 0 by rw [HPE.out]; exact HP0.out)
    have HD := Lib.hid (show w.heap.size ≤ pb ∧ w.heap.size ≤ ob ∧ pb ≠ ob by rw [HPE.out]; exact ⟨Nat.le_refl _, HD.out⟩)
    rw [← HPE.out]
    obtain ⟨q0, q1, q2⟩ := HP0.out.cells
    go_wp2_with (fail)
    clear q0 q1 q2
    refine (HLX.out _).mono ?_
    rintro e w3 ⟨rfl, hb⟩
    have HP3 := Lib.hid (HP0.out.later hb)
    have HO3 := Lib.hid (HO0.out.later hb)
    have HB3 := Lib.hid (HB0.out.trans (hb.mono HB0.out.size))
    clear hb
    obtain ⟨q0, q1, q2⟩ := HP3.out.cells
    go_wp2_with (fail)
    clear q0 q1 q2
    refine (HLY.out _).mono ?_
    rintro e w4 ⟨rfl, hb⟩
    have HP4 := Lib.hid (HP3.out.later hb)
    have HO4 := Lib.hid (HO3.out.later hb)
    have HB4 := Lib.hid (HB3.out.trans (hb.mono HB3.out.size))
    clear hb
    obtain ⟨q0, q1, q2⟩ := HP4.out.cells
    go_wp2_with (fail)
    clear q0 q1 q2
    refine (HNT.out _).mono ?_
    rintro e wx ⟨rfl, hwx⟩
    obtain rfl := hwx.symm
    obtain ⟨q0, q1, q2⟩ := HP4.out.cells
    obtain ⟨z0, z1, z2⟩ := HO4.out.cells
    have f0 := HO4.out.frz 0
    have f1 := HO4.out.frz 1
    have f2 := HO4.out.frz 2
    go_wp2_with (fail)
    have hq := HO4.out.put I A (gs.length) c 0
    have hbq := put3_below HB4.out HD.out.2.1 (.int .i64 I) (.slice A (gs.length) c) (.int .i64 0)
    obtain ⟨v0, v1, v2⟩ := hq.cells
    clear hq f0 f1 f2 z0 z1 z2 q0 q1 q2
    generalize ((w4.setCell ⟨ob, 0, none⟩ (.int .i64 I)).setCell ⟨ob, 1, none⟩ (.slice A gs.length c)).setCell ⟨ob, 2, none⟩ (.int .i64 0) = V at *
    exact bodyPost_ret (v := .tuple #[.agg #[.int .i64 I, .slice A (gs.length) c, .int .i64 0], .int .i64 y]) (by simp [results, Try.results51, go_sem, v0, v1, v2]) rfl ⟨A, c, rfl, HR.out.later hbq, HCC.out, HAA.out, fun a e => .inl e, hbq⟩
  have d2 : (x == 1) = false := by simpa using q2
  by_cases q4 : x = y
  · obtain rfl : y = z := by rw [andK_same (by omega) q2 (.inr q4)] at hz; injection hz with hz; rw [← q4, hz]
    have d4 : (x == y) = true := by simpa using q4
    clear hz q0 q1 q2 q4 q5 bx by'
    have HB0 := Lib.hid (((Below.refl w.heap.size w).alloc (Nat.le_refl _) (.cells #[.int .i64 I, .slice A gs.length c, .int .i64 0] 32)).alloc (by simp) (.cells #[.int .i64 0, .slice none 0 0, .int .i64 0] 32))
    have HO0 := Lib.hid (show RBx ((w.alloc (.cells #[.int .i64 I, .slice A gs.length c, .int .i64 0] 32)).alloc (.cells #[.int .i64 0, .slice none 0 0, .int .i64 0] 32)) (w.heap.size + 1) 0 none 0 0 0 from by
      have := RBx.new (w.alloc (.cells #[.int .i64 I, .slice A gs.length c, .int .i64 0] 32)) 0 none 0 0 0
      rwa [show (w.alloc (.cells #[.int .i64 I, .slice A gs.length c, .int .i64 0] 32)).heap.size = w.heap.size + 1 by simp] at this)
    have HP0 := Lib.hid (show RBx ((w.alloc (.cells #[.int .i64 I, .slice A gs.length c, .int .i64 0] 32)).alloc (.cells #[.int .i64 0, .slice none 0 0, .int .i64 0] 32)) w.heap.size I A gs.length c 0 from (heap_alloc_old _ _ (by simp)).trans (RBx.new w I A gs.length c 0))
    go_enter Try.func51, Try.ntmps51
    go_upto_region 1 with fail
    generalize hgw : (w.alloc (.cells #[.int .i64 I, .slice A gs.length c, .int .i64 0] 32)).alloc (.cells #[.int .i64 0, .slice none 0 0, .int .i64 0] 32) = w2 at *
    clear hgw
    have HD := Lib.hid (show w.heap.size ≤ w.heap.size + 1 ∧ w.heap.size ≠ w.heap.size + 1 from by omega)
    generalize w.heap.size + 1 = ob at *
    obtain ⟨pb, HPE⟩ : ∃ pb, Hid (pb = w.heap.size) := ⟨_, Lib.hid rfl⟩
    have HP0 := Lib.hid (show RBx w2 pb I A gs.length c 0 by rw [HPE.out]; exact HP0.out)
    have HD := Lib.hid (show w.heap.size ≤ pb ∧ w.heap.size ≤ ob ∧ pb ≠ ob by rw [HPE.out]; exact ⟨Nat.le_refl _, HD.out⟩)
    rw [← HPE.out]
    obtain ⟨q0, q1, q2⟩ := HP0.out.cells
    go_wp2_with (fail)
    clear q0 q1 q2
    refine (HLX.out _).mono ?_
    rintro e w3 ⟨rfl, hb⟩
    have HP3 := Lib.hid (HP0.out.later hb)
    have HO3 := Lib.hid (HO0.out.later hb)
    have HB3 := Lib.hid (HB0.out.trans (hb.mono HB0.out.size))
    clear hb
    obtain ⟨q0, q1, q2⟩ := HP3.out.cells
    go_wp2_with (fail)
    clear q0 q1 q2
    refine (HLY.out _).mono ?_
    rintro e w4 ⟨rfl, hb⟩
    have HP4 := Lib.hid (HP3.out.later hb)
    have HO4 := Lib.hid (HO3.out.later hb)
    have HB4 := Lib.hid (HB3.out.trans (hb.mono HB3.out.size))
    clear hb
    obtain ⟨q0, q1, q2⟩ := HP4.out.cells
    go_wp2_with (fail)
    clear q0 q1 q2
    refine (HNT.out _).mono ?_
    rintro e wx ⟨rfl, hwx⟩
    obtain rfl := hwx.symm
    obtain ⟨q0, q1, q2⟩ := HP4.out.cells
    obtain ⟨z0, z1, z2⟩ := HO4.out.cells
    have f0 := HO4.out.frz 0
    have f1 := HO4.out.frz 1
    have f2 := HO4.out.frz 2
    go_wp2_with (fail)
    have hq := HO4.out.put I A (gs.length) c 0
    have hbq := put3_below HB4.out HD.out.2.1 (.int .i64 I) (.slice A (gs.length) c) (.int .i64 0)
    obtain ⟨v0, v1, v2⟩ := hq.cells
    clear hq f0 f1 f2 z0 z1 z2 q0 q1 q2
    generalize ((w4.setCell ⟨ob, 0, none⟩ (.int .i64 I)).setCell ⟨ob, 1, none⟩ (.slice A gs.length c)).setCell ⟨ob, 2, none⟩ (.int .i64 0) = V at *
    exact bodyPost_ret (v := .tuple #[.agg #[.int .i64 I, .slice A (gs.length) c, .int .i64 0], .int .i64 y]) (by simp [results, Try.results51, go_sem, v0, v1, v2]) rfl ⟨A, c, rfl, HR.out.later hbq, HCC.out, HAA.out, fun a e => .inl e, hbq⟩
  have d4 : (x == y) = false := by simpa using q4
  by_cases q3 : y = 1
  · obtain rfl : x = z := by rw [andK_same (by omega) q2 (.inl q3)] at hz; injection hz
    have d3 : (y == 1) = true := by simpa using q3
    clear hz q0 q1 q2 q3 q4 q5 bx by'
    have HB0 := Lib.hid (((Below.refl w.heap.size w).alloc (Nat.le_refl _) (.cells #[.int .i64 I, .slice A gs.length c, .int .i64 0] 32)).alloc (by simp) (.cells #[.int .i64 0, .slice none 0 0, .int .i64 0] 32))
    have HO0 := Lib.hid (show RBx ((w.alloc (.cells #[.int .i64 I, .slice A gs.length c, .int .i64 0] 32)).alloc (.cells #[.int .i64 0, .slice none 0 0, .int .i64 0] 32)) (w.heap.size + 1) 0 none 0 0 0 from by
      have := RBx.new (w.alloc (.cells #[.int .i64 I, .slice A gs.length c, .int .i64 0] 32)) 0 none 0 0 0
      rwa [show (w.alloc (.cells #[.int .i64 I, .slice A gs.length c, .int .i64 0] 32)).heap.size = w.heap.size + 1 by simp] at this)
    have HP0 := Lib.hid (show RBx ((w.alloc (.cells #[.int .i64 I, .slice A gs.length c, .int .i64 0] 32)).alloc (.cells #[.int .i64 0, .slice none 0 0, .int .i64 0] 32)) w.heap.size I A gs.length c 0 from (heap_alloc_old _ _ (by simp)).trans (RBx.new w I A gs.length c 0))
    go_enter Try.func51, Try.ntmps51
    go_upto_region 1 with fail
    generalize hgw : (w.alloc (.cells #[.int .i64 I, .slice A gs.length c, .int .i64 0] 32)).alloc (.cells #[.int .i64 0, .slice none 0 0, .int .i64 0] 32) = w2 at *
    clear hgw
    have HD := Lib.hid (show w.heap.size ≤ w.heap.size + 1 ∧ w.heap.size ≠ w.heap.size + 1 from by omega)
    generalize w.heap.size + 1 = ob at *
    obtain ⟨pb, HPE⟩ : ∃ pb, Hid (pb = w.heap.size) := ⟨_, Lib.hid rfl⟩
    have HP0 := Lib.hid (show RBx w2 pb I A gs.length c 0 by rw [HPE.out]; exact HP0.out)
    have HD := Lib.hid (show w.heap.size ≤ pb ∧ w.heap.size ≤ ob ∧ pb ≠ ob by rw [HPE.out]; exact ⟨Nat.le_refl _, HD.out⟩)
    rw [← HPE.out]
    obtain ⟨q0, q1, q2⟩ := HP0.out.cells
    go_wp2_with (fail)
    clear q0 q1 q2
    refine (HLX.out _).mono ?_
    rintro e w3 ⟨rfl, hb⟩
    have HP3 := Lib.hid (HP0.out.later hb)
    have HO3 := Lib.hid (HO0.out.later hb)
    have HB3 := Lib.hid (HB0.out.trans (hb.mono HB0.out.size))
    clear hb
    obtain ⟨q0, q1, q2⟩ := HP3.out.cells
    go_wp2_with (fail)
    clear q0 q1 q2
    refine (HLY.out _).mono ?_
    rintro e w4 ⟨rfl, hb⟩
    have HP4 := Lib.hid (HP3.out.later hb)
    have HO4 := Lib.hid (HO3.out.later hb)
    have HB4 := Lib.hid (HB3.out.trans (hb.mono HB3.out.size))
    clear hb
    obtain ⟨q0, q1, q2⟩ := HP4.out.cells
    go_wp2_with (fail)
    clear q0 q1 q2
    refine (HNT.out _).mono ?_
    rintro e wx ⟨rfl, hwx⟩
    obtain rfl := hwx.symm
    obtain ⟨q0, q1, q2⟩ := HP4.out.cells
    obtain ⟨z0, z1, z2⟩ := HO4.out.cells
    have f0 := HO4.out.frz 0
    have f1 := HO4.out.frz 1
    have f2 := HO4.out.frz 2
    go_wp2_with (fail)
    have hq := HO4.out.put I A (gs.length) c 0
    have hbq := put3_below HB4.out HD.out.2.1 (.int .i64 I) (.slice A (gs.length) c) (.int .i64 0)
    obtain ⟨v0, v1, v2⟩ := hq.cells
    clear hq f0 f1 f2 z0 z1 z2 q0 q1 q2
    generalize ((w4.setCell ⟨ob, 0, none⟩ (.int .i64 I)).setCell ⟨ob, 1, none⟩ (.slice A gs.length c)).setCell ⟨ob, 2, none⟩ (.int .i64 0) = V at *
    exact bodyPost_ret (v := .tuple #[.agg #[.int .i64 I, .slice A (gs.length) c, .int .i64 0], .int .i64 x]) (by simp [results, Try.results51, go_sem, v0, v1, v2]) rfl ⟨A, c, rfl, HR.out.later hbq, HCC.out, HAA.out, fun a e => .inl e, hbq⟩
  · rw [andK_gate (by omega) q2 (by omega) q5] at hz
    cases hz
end
end Go.Proofs.Ytbcabnbgkicfdaa
