/- What is proved: the reference of package gates: its Mux. -/
import Derived.Test.YtbcabnbgkicfdaaGaROr
set_option linter.unusedVariables false
set_option linter.unusedSimpArgs false
namespace Go.Proofs.Ytbcabnbgkicfdaa
open Go.RowKit Go.Maps

section
variable {I : Int} {A : Option Addr} {c : Nat} {gs : List Gt} {w : World}
set_option maxRecDepth 100000 in
set_option maxHeartbeats 4000000 in
theorem r_Mux_err (e0 u x y : Int) (h0 : e0 ≠ 0) (hr : GRow w A gs) (hc : gs.length ≤ c) (hA : gs = [] → A = none) :
    Calls Try.prog 54 #[.agg #[.int .i64 I, .slice A gs.length c, .int .i64 e0], .int .i64 u, .int .i64 x, .int .i64 y] w (RAns I A w gs e0 0) := by
  have HR := Lib.hid hr
  have HCC := Lib.hid hc
  have HAA := Lib.hid hA
  have d0 : (e0 != 0) = true := by simpa using h0
  clear h0 hr hc hA
  have HB0 := Lib.hid (((Below.refl w.heap.size w).alloc (Nat.le_refl _) (.cells #[.int .i64 I, .slice A gs.length c, .int .i64 e0] 32)).alloc (by simp) (.cells #[.int .i64 0, .slice none 0 0, .int .i64 0] 32))
  have HO0 := Lib.hid (show RBx ((w.alloc (.cells #[.int .i64 I, .slice A gs.length c, .int .i64 e0] 32)).alloc (.cells #[.int .i64 0, .slice none 0 0, .int .i64 0] 32)) (w.heap.size + 1) 0 none 0 0 0 from by
    have := RBx.new (w.alloc (.cells #[.int .i64 I, .slice A gs.length c, .int .i64 e0] 32)) 0 none 0 0 0
    rwa [show (w.alloc (.cells #[.int .i64 I, .slice A gs.length c, .int .i64 e0] 32)).heap.size = w.heap.size + 1 by simp] at this)
  have HP0 := Lib.hid (show RBx ((w.alloc (.cells #[.int .i64 I, .slice A gs.length c, .int .i64 e0] 32)).alloc (.cells #[.int .i64 0, .slice none 0 0, .int .i64 0] 32)) w.heap.size I A gs.length c e0 from (heap_alloc_old _ _ (by simp)).trans (RBx.new w I A gs.length c e0))
  go_enter Try.func54, Try.ntmps54
  go_upto_region 1 with fail
  generalize hgw : (w.alloc (.cells #[.int .i64 I, .slice A gs.length c, .int .i64 e0] 32)).alloc (.cells #[.int .i64 0, .slice none 0 0, .int .i64 0] 32) = w2 at *
  clear hgw
  have HD := Lib.hid (show w.heap.size ≤ w.heap.size + 1 ∧ w.heap.size ≠ w.heap.size + 1 from by omega)
  generalize w.heap.size + 1 = ob at *
  obtain ⟨pb, HPE⟩ : ∃ pb, Hid (pb = w.heap.size) := ⟨_, Lib.hid rfl⟩
  have HP0 := Lib.hid (show RBx w2 pb I A gs.length c e0 by rw [HPE.out]; exact HP0.out)
  have HD := Lib.hid (show w.heap.size ≤ pb ∧ w.heap.size ≤ ob ∧ pb ≠ ob by rw [HPE.out]; exact ⟨Nat.le_refl _, HD.out⟩)
  rw [← HPE.out]
  obtain ⟨q0, q1, q2⟩ := HP0.out.cells
  obtain ⟨z0, z1, z2⟩ := HO0.out.cells
  have f0 := HO0.out.frz 0
  have f1 := HO0.out.frz 1
  have f2 := HO0.out.frz 2
  go_wp2_with (fail)
  have hq := HO0.out.put I A (gs.length) c e0
  have hbq := put3_below HB0.out HD.out.2.1 (.int .i64 I) (.slice A (gs.length) c) (.int .i64 e0)
  obtain ⟨v0, v1, v2⟩ := hq.cells
  clear hq f0 f1 f2 z0 z1 z2 q0 q1 q2
  generalize ((w2.setCell ⟨ob, 0, none⟩ (.int .i64 I)).setCell ⟨ob, 1, none⟩ (.slice A gs.length c)).setCell ⟨ob, 2, none⟩ (.int .i64 e0) = V at *
  exact bodyPost_ret (v := .tuple #[.agg #[.int .i64 I, .slice A (gs.length) c, .int .i64 e0], .int .i64 0]) (by simp [results, Try.results54, go_sem, v0, v1, v2]) rfl ⟨A, c, rfl, HR.out.later hbq, HCC.out, HAA.out, fun a e => .inl e, hbq⟩
set_option maxRecDepth 100000 in
set_option maxHeartbeats 4000000 in
theorem r_Mux_bad0 (u x y : Int) (hI : 0 ≤ I ∧ I ≤ 1024) (hr : GRow w A gs) (hc : gs.length ≤ c) (hA : gs = [] → A = none) (hn : gs.length ≤ 1000) (hu : litB I gs.length u = false) :
    Calls Try.prog 54 #[.agg #[.int .i64 I, .slice A gs.length c, .int .i64 0], .int .i64 u, .int .i64 x, .int .i64 y] w (RAns I A w gs 1 0) := by
  have HR := Lib.hid hr
  have HCC := Lib.hid hc
  have HAA := Lib.hid hA
  have HLu := Lib.hid (fun w => show Calls Try.prog 97 #[.agg #[.int .i64 I, .slice A gs.length c], .int .i64 u] w fun e w' => e = .returned (.bool false) ∧ Below w.heap.size w w' from (r_isLit_any I A gs.length c (by omega) u w).mono fun e w' ⟨⟨b, h1, h2⟩, h3⟩ => ⟨by rw [h1, h2 hI, hu], h3⟩)
  clear hr hc hA hI hn hu
  have HB0 := Lib.hid (((Below.refl w.heap.size w).alloc (Nat.le_refl _) (.cells #[.int .i64 I, .slice A gs.length c, .int .i64 0] 32)).alloc (by simp) (.cells #[.int .i64 0, .slice none 0 0, .int .i64 0] 32))
  have HO0 := Lib.hid (show RBx ((w.alloc (.cells #[.int .i64 I, .slice A gs.length c, .int .i64 0] 32)).alloc (.cells #[.int .i64 0, .slice none 0 0, .int .i64 0] 32)) (w.heap.size + 1) 0 none 0 0 0 from by
    have := RBx.new (w.alloc (.cells #[.int .i64 I, .slice A gs.length c, .int .i64 0] 32)) 0 none 0 0 0
    rwa [show (w.alloc (.cells #[.int .i64 I, .slice A gs.length c, .int .i64 0] 32)).heap.size = w.heap.size + 1 by simp] at this)
  have HP0 := Lib.hid (show RBx ((w.alloc (.cells #[.int .i64 I, .slice A gs.length c, .int .i64 0] 32)).alloc (.cells #[.int .i64 0, .slice none 0 0, .int .i64 0] 32)) w.heap.size I A gs.length c 0 from (heap_alloc_old _ _ (by simp)).trans (RBx.new w I A gs.length c 0))
  go_enter Try.func54, Try.ntmps54
  go_upto_region 1 with fail
  generalize hgw : (w.alloc (.cells #[.int .i64 I, .slice A gs.length c, .int .i64 0] 32)).alloc (.cells #[.int .i64 0, .slice none 0 0, .int .i64 0] 32) = w2 at *
  clear hgw
  have HD := Lib.hid (show w.heap.size ≤ w.heap.size + 1 ∧ w.heap.size ≠ w.heap.size + 1 from by omega)
  generalize w.heap.size + 1 = ob at *
  obtain ⟨pb, HPE⟩ : ∃ pb, Hid (pb = w.heap.size) := ⟨_, Lib.hid rfl⟩
  have HP0 := Lib.hid (show RBx w2 pb I A gs.length c 0 by rw [HPE.out]; exact HP0.out)
  have HD := Lib.hid (show w.heap.size ≤ pb ∧ w.heap.size ≤ ob ∧ pb ≠ ob by rw [HPE.out]; exact ⟨Nat.le_refl _, HD.out⟩)
  rw [← HPE.out]
  obtain ⟨q0, q1, q2⟩ := HP0.out.cells
  go_wp2_with (fail)
  clear q0 q1 q2
  refine (HLu.out _).mono ?_
  rintro e w3 ⟨rfl, hb⟩
  have HP3 := Lib.hid (HP0.out.later hb)
  have HO3 := Lib.hid (HO0.out.later hb)
  have HB3 := Lib.hid (HB0.out.trans (hb.mono HB0.out.size))
  clear hb
  obtain ⟨q0, q1, q2⟩ := HP3.out.cells
  go_upto_region 4 with fail
  clear q0 q1 q2
  obtain ⟨q0, q1, q2⟩ := HP3.out.cells
  have g2 := HP3.out.frz 2
  go_upto_region 5 with fail
  have HP4 := Lib.hid (HP3.out.putE 1)
  have HO4 := Lib.hid (HO3.out.far HD.out.2.2 2 (.int .i64 1))
  have HB4 := Lib.hid (HB3.out.setCell (p := ⟨pb, 2, none⟩) HD.out.1 (.int .i64 1))
  clear q0 q1 q2 g2
  generalize hgw : w3.setCell ⟨pb, 2, none⟩ (.int .i64 1) = w4 at *
  clear hgw
  obtain ⟨q0, q1, q2⟩ := HP4.out.cells
  obtain ⟨z0, z1, z2⟩ := HO4.out.cells
  have f0 := HO4.out.frz 0
  have f1 := HO4.out.frz 1
  have f2 := HO4.out.frz 2
  go_wp2_with (fail)
  have hq := HO4.out.put I A (gs.length) c 1
  have hbq := put3_below HB4.out HD.out.2.1 (.int .i64 I) (.slice A (gs.length) c) (.int .i64 1)
  obtain ⟨v0, v1, v2⟩ := hq.cells
  clear hq f0 f1 f2 z0 z1 z2 q0 q1 q2
  generalize ((w4.setCell ⟨ob, 0, none⟩ (.int .i64 I)).setCell ⟨ob, 1, none⟩ (.slice A gs.length c)).setCell ⟨ob, 2, none⟩ (.int .i64 1) = V at *
  exact bodyPost_ret (v := .tuple #[.agg #[.int .i64 I, .slice A (gs.length) c, .int .i64 1], .int .i64 0]) (by simp [results, Try.results54, go_sem, v0, v1, v2]) rfl ⟨A, c, rfl, HR.out.later hbq, HCC.out, HAA.out, fun a e => .inl e, hbq⟩
set_option maxRecDepth 100000 in
set_option maxHeartbeats 4000000 in
theorem r_Mux_bad1 (u x y : Int) (hI : 0 ≤ I ∧ I ≤ 1024) (hr : GRow w A gs) (hc : gs.length ≤ c) (hA : gs = [] → A = none) (hn : gs.length ≤ 1000) (hu : litB I gs.length u = true) (hx : litB I gs.length x = false) :
    Calls Try.prog 54 #[.agg #[.int .i64 I, .slice A gs.length c, .int .i64 0], .int .i64 u, .int .i64 x, .int .i64 y] w (RAns I A w gs 1 0) := by
  have HR := Lib.hid hr
  have HCC := Lib.hid hc
  have HAA := Lib.hid hA
  have HLu := Lib.hid (fun w => show Calls Try.prog 97 #[.agg #[.int .i64 I, .slice A gs.length c], .int .i64 u] w fun e w' => e = .returned (.bool true) ∧ Below w.heap.size w w' from (r_isLit_any I A gs.length c (by omega) u w).mono fun e w' ⟨⟨b, h1, h2⟩, h3⟩ => ⟨by rw [h1, h2 hI, hu], h3⟩)
  have HLx := Lib.hid (fun w => show Calls Try.prog 97 #[.agg #[.int .i64 I, .slice A gs.length c], .int .i64 x] w fun e w' => e = .returned (.bool false) ∧ Below w.heap.size w w' from (r_isLit_any I A gs.length c (by omega) x w).mono fun e w' ⟨⟨b, h1, h2⟩, h3⟩ => ⟨by rw [h1, h2 hI, hx], h3⟩)
  clear hr hc hA hI hn hu hx
  have HB0 := Lib.hid (((Below.refl w.heap.size w).alloc (Nat.le_refl _) (.cells #[.int .i64 I, .slice A gs.length c, .int .i64 0] 32)).alloc (by simp) (.cells #[.int .i64 0, .slice none 0 0, .int .i64 0] 32))
  have HO0 := Lib.hid (show RBx ((w.alloc (.cells #[.int .i64 I, .slice A gs.length c, .int .i64 0] 32)).alloc (.cells #[.int .i64 0, .slice none 0 0, .int .i64 0] 32)) (w.heap.size + 1) 0 none 0 0 0 from by
    have := RBx.new (w.alloc (.cells #[.int .i64 I, .slice A gs.length c, .int .i64 0] 32)) 0 none 0 0 0
    rwa [show (w.alloc (.cells #[.int .i64 I, .slice A gs.length c, .int .i64 0] 32)).heap.size = w.heap.size + 1 by simp] at this)
  have HP0 := Lib.hid (show RBx ((w.alloc (.cells #[.int .i64 I, .slice A gs.length c, .int .i64 0] 32)).alloc (.cells #[.int .i64 0, .slice none 0 0, .int .i64 0] 32)) w.heap.size I A gs.length c 0 from (heap_alloc_old _ _ (by simp)).trans (RBx.new w I A gs.length c 0))
  go_enter Try.func54, Try.ntmps54
  go_upto_region 1 with fail
  generalize hgw : (w.alloc (.cells #[.int .i64 I, .slice A gs.length c, .int .i64 0] 32)).alloc (.cells #[.int .i64 0, .slice none 0 0, .int .i64 0] 32) = w2 at *
  clear hgw
  have HD := Lib.hid (show w.heap.size ≤ w.heap.size + 1 ∧ w.heap.size ≠ w.heap.size + 1 from by omega)
  generalize w.heap.size + 1 = ob at *
  obtain ⟨pb, HPE⟩ : ∃ pb, Hid (pb = w.heap.size) := ⟨_, Lib.hid rfl⟩
  have HP0 := Lib.hid (show RBx w2 pb I A gs.length c 0 by rw [HPE.out]; exact HP0.out)
  have HD := Lib.hid (show w.heap.size ≤ pb ∧ w.heap.size ≤ ob ∧ pb ≠ ob by rw [HPE.out]; exact ⟨Nat.le_refl _, HD.out⟩)
  rw [← HPE.out]
  obtain ⟨q0, q1, q2⟩ := HP0.out.cells
  go_wp2_with (fail)
  clear q0 q1 q2
  refine (HLu.out _).mono ?_
  rintro e w3 ⟨rfl, hb⟩
  have HP3 := Lib.hid (HP0.out.later hb)
  have HO3 := Lib.hid (HO0.out.later hb)
  have HB3 := Lib.hid (HB0.out.trans (hb.mono HB0.out.size))
  clear hb
  obtain ⟨q0, q1, q2⟩ := HP3.out.cells
  go_wp2_with (fail)
  clear q0 q1 q2
  refine (HLx.out _).mono ?_
  rintro e w4 ⟨rfl, hb⟩
  have HP4 := Lib.hid (HP3.out.later hb)
  have HO4 := Lib.hid (HO3.out.later hb)
  have HB4 := Lib.hid (HB3.out.trans (hb.mono HB3.out.size))
  clear hb
  obtain ⟨q0, q1, q2⟩ := HP4.out.cells
  go_upto_region 4 with fail
  clear q0 q1 q2
  obtain ⟨q0, q1, q2⟩ := HP4.out.cells
  have g2 := HP4.out.frz 2
  go_upto_region 5 with fail
  have HP5 := Lib.hid (HP4.out.putE 1)
  have HO5 := Lib.hid (HO4.out.far HD.out.2.2 2 (.int .i64 1))
  have HB5 := Lib.hid (HB4.out.setCell (p := ⟨pb, 2, none⟩) HD.out.1 (.int .i64 1))
  clear q0 q1 q2 g2
  generalize hgw : w4.setCell ⟨pb, 2, none⟩ (.int .i64 1) = w5 at *
  clear hgw
  obtain ⟨q0, q1, q2⟩ := HP5.out.cells
  obtain ⟨z0, z1, z2⟩ := HO5.out.cells
  have f0 := HO5.out.frz 0
  have f1 := HO5.out.frz 1
  have f2 := HO5.out.frz 2
  go_wp2_with (fail)
  have hq := HO5.out.put I A (gs.length) c 1
  have hbq := put3_below HB5.out HD.out.2.1 (.int .i64 I) (.slice A (gs.length) c) (.int .i64 1)
  obtain ⟨v0, v1, v2⟩ := hq.cells
  clear hq f0 f1 f2 z0 z1 z2 q0 q1 q2
  generalize ((w5.setCell ⟨ob, 0, none⟩ (.int .i64 I)).setCell ⟨ob, 1, none⟩ (.slice A gs.length c)).setCell ⟨ob, 2, none⟩ (.int .i64 1) = V at *
  exact bodyPost_ret (v := .tuple #[.agg #[.int .i64 I, .slice A (gs.length) c, .int .i64 1], .int .i64 0]) (by simp [results, Try.results54, go_sem, v0, v1, v2]) rfl ⟨A, c, rfl, HR.out.later hbq, HCC.out, HAA.out, fun a e => .inl e, hbq⟩
set_option maxRecDepth 100000 in
set_option maxHeartbeats 4000000 in
theorem r_Mux_bad2 (u x y : Int) (hI : 0 ≤ I ∧ I ≤ 1024) (hr : GRow w A gs) (hc : gs.length ≤ c) (hA : gs = [] → A = none) (hn : gs.length ≤ 1000) (hu : litB I gs.length u = true) (hx : litB I gs.length x = true) (hy : litB I gs.length y = false) :
    Calls Try.prog 54 #[.agg #[.int .i64 I, .slice A gs.length c, .int .i64 0], .int .i64 u, .int .i64 x, .int .i64 y] w (RAns I A w gs 1 0) := by
  have HR := Lib.hid hr
  have HCC := Lib.hid hc
  have HAA := Lib.hid hA
  have HLu := Lib.hid (fun w => show Calls Try.prog 97 #[.agg #[.int .i64 I, .slice A gs.length c], .int .i64 u] w fun e w' => e = .returned (.bool true) ∧ Below w.heap.size w w' from (r_isLit_any I A gs.length c (by omega) u w).mono fun e w' ⟨⟨b, h1, h2⟩, h3⟩ => ⟨by rw [h1, h2 hI, hu], h3⟩)
  have HLx := Lib.hid (fun w => show Calls Try.prog 97 #[.agg #[.int .i64 I, .slice A gs.length c], .int .i64 x] w fun e w' => e = .returned (.bool true) ∧ Below w.heap.size w w' from (r_isLit_any I A gs.length c (by omega) x w).mono fun e w' ⟨⟨b, h1, h2⟩, h3⟩ => ⟨by rw [h1, h2 hI, hx], h3⟩)
  have HLy := Lib.hid (fun w => show Calls Try.prog 97 #[.agg #[.int .i64 I, .slice A gs.length c], .int .i64 y] w fun e w' => e = .returned (.bool false) ∧ Below w.heap.size w w' from (r_isLit_any I A gs.length c (by omega) y w).mono fun e w' ⟨⟨b, h1, h2⟩, h3⟩ => ⟨by rw [h1, h2 hI, hy], h3⟩)
  clear hr hc hA hI hn hu hx hy
  have HB0 := Lib.hid (((Below.refl w.heap.size w).alloc (Nat.le_refl _) (.cells #[.int .i64 I, .slice A gs.length c, .int .i64 0] 32)).alloc (by simp) (.cells #[.int .i64 0, .slice none 0 0, .int .i64 0] 32))
  have HO0 := Lib.hid (show RBx ((w.alloc (.cells #[.int .i64 I, .slice A gs.length c, .int .i64 0] 32)).alloc (.cells #[.int .i64 0, .slice none 0 0, .int .i64 0] 32)) (w.heap.size + 1) 0 none 0 0 0 from by
    have := RBx.new (w.alloc (.cells #[.int .i64 I, .slice A gs.length c, .int .i64 0] 32)) 0 none 0 0 0
    rwa [show (w.alloc (.cells #[.int .i64 I, .slice A gs.length c, .int .i64 0] 32)).heap.size = w.heap.size + 1 by simp] at this)
  have HP0 := Lib.hid (show RBx ((w.alloc (.cells #[.int .i64 I, .slice A gs.length c, .int .i64 0] 32)).alloc (.cells #[.int .i64 0, .slice none 0 0, .int .i64 0] 32)) w.heap.size I A gs.length c 0 from (heap_alloc_old _ _ (by simp)).trans (RBx.new w I A gs.length c 0))
  go_enter Try.func54, Try.ntmps54
  go_upto_region 1 with fail
  generalize hgw : (w.alloc (.cells #[.int .i64 I, .slice A gs.length c, .int .i64 0] 32)).alloc (.cells #[.int .i64 0, .slice none 0 0, .int .i64 0] 32) = w2 at *
  clear hgw
  have HD := Lib.hid (show w.heap.size ≤ w.heap.size + 1 ∧ w.heap.size ≠ w.heap.size + 1 from by omega)
  generalize w.heap.size + 1 = ob at *
  obtain ⟨pb, HPE⟩ : ∃ pb, Hid (pb = w.heap.size) := ⟨_, Lib.hid rfl⟩
  have HP0 := Lib.hid (show RBx w2 pb I A gs.length c 0 by rw [HPE.out]; exact HP0.out)
  have HD := Lib.hid (show w.heap.size ≤ pb ∧ w.heap.size ≤ ob ∧ pb ≠ ob by rw [HPE.out]; exact ⟨Nat.le_refl _, HD.out⟩)
  rw [← HPE.out]
  obtain ⟨q0, q1, q2⟩ := HP0.out.cells
  go_wp2_with (fail)
  clear q0 q1 q2
  refine (HLu.out _).mono ?_
  rintro e w3 ⟨rfl, hb⟩
  have HP3 := Lib.hid (HP0.out.later hb)
  have HO3 := Lib.hid (HO0.out.later hb)
  have HB3 := Lib.hid (HB0.out.trans (hb.mono HB0.out.size))
  clear hb
  obtain ⟨q0, q1, q2⟩ := HP3.out.cells
  go_wp2_with (fail)
  clear q0 q1 q2
  refine (HLx.out _).mono ?_
  rintro e w4 ⟨rfl, hb⟩
  have HP4 := Lib.hid (HP3.out.later hb)
  have HO4 := Lib.hid (HO3.out.later hb)
  have HB4 := Lib.hid (HB3.out.trans (hb.mono HB3.out.size))
  clear hb
  obtain ⟨q0, q1, q2⟩ := HP4.out.cells
  go_wp2_with (fail)
  clear q0 q1 q2
  refine (HLy.out _).mono ?_
  rintro e w5 ⟨rfl, hb⟩
  have HP5 := Lib.hid (HP4.out.later hb)
  have HO5 := Lib.hid (HO4.out.later hb)
  have HB5 := Lib.hid (HB4.out.trans (hb.mono HB4.out.size))
  clear hb
  obtain ⟨q0, q1, q2⟩ := HP5.out.cells
  go_upto_region 4 with fail
  clear q0 q1 q2
  obtain ⟨q0, q1, q2⟩ := HP5.out.cells
  have g2 := HP5.out.frz 2
  go_upto_region 5 with fail
  have HP6 := Lib.hid (HP5.out.putE 1)
  have HO6 := Lib.hid (HO5.out.far HD.out.2.2 2 (.int .i64 1))
  have HB6 := Lib.hid (HB5.out.setCell (p := ⟨pb, 2, none⟩) HD.out.1 (.int .i64 1))
  clear q0 q1 q2 g2
  generalize hgw : w5.setCell ⟨pb, 2, none⟩ (.int .i64 1) = w6 at *
  clear hgw
  obtain ⟨q0, q1, q2⟩ := HP6.out.cells
  obtain ⟨z0, z1, z2⟩ := HO6.out.cells
  have f0 := HO6.out.frz 0
  have f1 := HO6.out.frz 1
  have f2 := HO6.out.frz 2
  go_wp2_with (fail)
  have hq := HO6.out.put I A (gs.length) c 1
  have hbq := put3_below HB6.out HD.out.2.1 (.int .i64 I) (.slice A (gs.length) c) (.int .i64 1)
  obtain ⟨v0, v1, v2⟩ := hq.cells
  clear hq f0 f1 f2 z0 z1 z2 q0 q1 q2
  generalize ((w6.setCell ⟨ob, 0, none⟩ (.int .i64 I)).setCell ⟨ob, 1, none⟩ (.slice A gs.length c)).setCell ⟨ob, 2, none⟩ (.int .i64 1) = V at *
  exact bodyPost_ret (v := .tuple #[.agg #[.int .i64 I, .slice A (gs.length) c, .int .i64 1], .int .i64 0]) (by simp [results, Try.results54, go_sem, v0, v1, v2]) rfl ⟨A, c, rfl, HR.out.later hbq, HCC.out, HAA.out, fun a e => .inl e, hbq⟩
set_option maxRecDepth 100000 in
set_option maxHeartbeats 8000000 in
theorem r_Mux_yes (u x y : Int) (hck : CkOk I gs) (hr : GRow w A gs) (hc : gs.length ≤ c) (hA : gs = [] → A = none) (hn : gs.length ≤ 900) (lu : isLit I gs u) (lx : isLit I gs x) (ly : isLit I gs y) :
    Calls Try.prog 54 #[.agg #[.int .i64 I, .slice A gs.length c, .int .i64 0], .int .i64 u, .int .i64 x, .int .i64 y] w (RAns I A w (muxL I gs u x y) 0 (muxN I gs u x y)) := by
  have hI : 0 ≤ I ∧ I ≤ 1024 := ⟨hck.lo, hck.hi⟩
  have hu := litB_iff.2 lu
  have bdu := rlit_small hu hI (by omega)
  have hx := litB_iff.2 lx
  have bdx := rlit_small hx hI (by omega)
  have hy := litB_iff.2 ly
  have bdy := rlit_small hy hI (by omega)
  have HR := Lib.hid hr
  have HCC := Lib.hid hc
  have HAA := Lib.hid hA
  have HXA := Lib.hid (show ∀ a, A = some a → a.block < w.heap.size from fun a ha => by
    by_cases hg : gs = []
    · rw [hA hg] at ha; cases ha
    · obtain ⟨b, off, h, hlt', _⟩ := hr (List.length_pos_iff.2 hg)
      rw [h] at ha; cases ha; exact hlt')
  have HLu := Lib.hid (fun w => show Calls Try.prog 97 #[.agg #[.int .i64 I, .slice A gs.length c], .int .i64 u] w fun e w' => e = .returned (.bool true) ∧ Below w.heap.size w w' from (r_isLit_any I A gs.length c (by omega) u w).mono fun e w' ⟨⟨b, h1, h2⟩, h3⟩ => ⟨by rw [h1, h2 hI, hu], h3⟩)
  have HLx := Lib.hid (fun w => show Calls Try.prog 97 #[.agg #[.int .i64 I, .slice A gs.length c], .int .i64 x] w fun e w' => e = .returned (.bool true) ∧ Below w.heap.size w w' from (r_isLit_any I A gs.length c (by omega) x w).mono fun e w' ⟨⟨b, h1, h2⟩, h3⟩ => ⟨by rw [h1, h2 hI, hx], h3⟩)
  have HLy := Lib.hid (fun w => show Calls Try.prog 97 #[.agg #[.int .i64 I, .slice A gs.length c], .int .i64 y] w fun e w' => e = .returned (.bool true) ∧ Below w.heap.size w w' from (r_isLit_any I A gs.length c (by omega) y w).mono fun e w' ⟨⟨b, h1, h2⟩, h3⟩ => ⟨by rw [h1, h2 hI, hy], h3⟩)
  have HNu := Lib.hid (fun w => r_not_any u (by omega) w)
  have HNx := Lib.hid (fun w => r_not_any x (by omega) w)
  have HNy := Lib.hid (fun w => r_not_any y (by omega) w)
  have k1 := and_ok hck lu lx
  have k2 := and_ok k1.ok (lu.not.more k1.grow) (ly.more k1.grow)
  have HAND := Lib.hid (fun (w' : World) (hb : Below w.heap.size w w') => r_And_yes u x hck (hr.later hb) hc hA (by omega) lu lx)
  have HAN2 := Lib.hid (fun (A' : Option Addr) (c' : Nat) (w' : World) (h1 : GRow w' A' (andL gs u x)) (h2 : (andL gs u x).length ≤ c') (h3 : andL gs u x = [] → A' = none) => r_And_yes (notP u) y k1.ok h1 h2 h3 (by have := k1.len; omega) (lu.not.more k1.grow) (ly.more k1.grow))
  have HOR3 := Lib.hid (fun (A' : Option Addr) (c' : Nat) (w' : World) (h1 : GRow w' A' (andL (andL gs u x) (notP u) y)) (h2 : (andL (andL gs u x) (notP u) y).length ≤ c') (h3 : andL (andL gs u x) (notP u) y = [] → A' = none) => r_Or_yes (andN I gs u x) (andN I (andL gs u x) (notP u) y) k2.ok h1 h2 h3 (by have := k1.len; have := k2.len; omega) (k1.lit.more k2.grow) k2.lit)
  show Calls _ _ _ _ (RAns I A w (orL (andL (andL gs u x) (notP u) y) (andN I gs u x) (andN I (andL gs u x) (notP u) y)) 0 (orN I (andL (andL gs u x) (notP u) y) (andN I gs u x) (andN I (andL gs u x) (notP u) y)))
  clear k1 k2
  generalize andN I gs u x = p1 at *
  generalize andL gs u x = L1 at *
  generalize andN I L1 (notP u) y = p2 at *
  generalize andL L1 (notP u) y = L2 at *
  generalize orN I L2 p1 p2 = p3 at *
  generalize orL L2 p1 p2 = L3 at *
  clear hI hck hr hc hA hn hu bdu lu hx bdx lx hy bdy ly
  have HB0 := Lib.hid (((Below.refl w.heap.size w).alloc (Nat.le_refl _) (.cells #[.int .i64 I, .slice A gs.length c, .int .i64 0] 32)).alloc (by simp) (.cells #[.int .i64 0, .slice none 0 0, .int .i64 0] 32))
  have HO0 := Lib.hid (show RBx ((w.alloc (.cells #[.int .i64 I, .slice A gs.length c, .int .i64 0] 32)).alloc (.cells #[.int .i64 0, .slice none 0 0, .int .i64 0] 32)) (w.heap.size + 1) 0 none 0 0 0 from by
    have := RBx.new (w.alloc (.cells #[.int .i64 I, .slice A gs.length c, .int .i64 0] 32)) 0 none 0 0 0
    rwa [show (w.alloc (.cells #[.int .i64 I, .slice A gs.length c, .int .i64 0] 32)).heap.size = w.heap.size + 1 by simp] at this)
  have HP0 := Lib.hid (show RBx ((w.alloc (.cells #[.int .i64 I, .slice A gs.length c, .int .i64 0] 32)).alloc (.cells #[.int .i64 0, .slice none 0 0, .int .i64 0] 32)) w.heap.size I A gs.length c 0 from (heap_alloc_old _ _ (by simp)).trans (RBx.new w I A gs.length c 0))
  go_enter Try.func54, Try.ntmps54
  go_upto_region 1 with fail
  generalize hgw : (w.alloc (.cells #[.int .i64 I, .slice A gs.length c, .int .i64 0] 32)).alloc (.cells #[.int .i64 0, .slice none 0 0, .int .i64 0] 32) = w2 at *
  clear hgw
  have HD := Lib.hid (show w.heap.size ≤ w.heap.size + 1 ∧ w.heap.size ≠ w.heap.size + 1 from by omega)
  generalize w.heap.size + 1 = ob at *
  obtain ⟨pb, HPE⟩ : ∃ pb, Hid (pb = w.heap.size) := ⟨_, Lib.hid rfl⟩
  have HP0 := Lib.hid (show RBx w2 pb I A gs.length c 0 by rw [HPE.out]; exact HP0.out)
  have HD := Lib.hid (show w.heap.size ≤ pb ∧ w.heap.size ≤ ob ∧ pb ≠ ob by rw [HPE.out]; exact ⟨Nat.le_refl _, HD.out⟩)
  rw [← HPE.out]
  obtain ⟨q0, q1, q2⟩ := HP0.out.cells
  go_wp2_with (fail)
  clear q0 q1 q2
  refine (HLu.out _).mono ?_
  rintro e w3 ⟨rfl, hb⟩
  have HP3 := Lib.hid (HP0.out.later hb)
  have HO3 := Lib.hid (HO0.out.later hb)
  have HB3 := Lib.hid (HB0.out.trans (hb.mono HB0.out.size))
  clear hb
  obtain ⟨q0, q1, q2⟩ := HP3.out.cells
  go_wp2_with (fail)
  clear q0 q1 q2
  refine (HLx.out _).mono ?_
  rintro e w4 ⟨rfl, hb⟩
  have HP4 := Lib.hid (HP3.out.later hb)
  have HO4 := Lib.hid (HO3.out.later hb)
  have HB4 := Lib.hid (HB3.out.trans (hb.mono HB3.out.size))
  clear hb
  obtain ⟨q0, q1, q2⟩ := HP4.out.cells
  go_wp2_with (fail)
  clear q0 q1 q2
  refine (HLy.out _).mono ?_
  rintro e w5 ⟨rfl, hb⟩
  have HP5 := Lib.hid (HP4.out.later hb)
  have HO5 := Lib.hid (HO4.out.later hb)
  have HB5 := Lib.hid (HB4.out.trans (hb.mono HB4.out.size))
  clear hb
  obtain ⟨q0, q1, q2⟩ := HP5.out.cells
  go_wp2_with (fail)
  clear q0 q1 q2
  refine (HAND.out _ HB5.out).mono ?_
  rintro e w6 ⟨A6, c6, rfl, hrow, hle, hnil, hor, hb⟩
  have HP6 := Lib.hid (HP5.out.later hb)
  have HO6 := Lib.hid (HO5.out.later hb)
  have HB6 := Lib.hid (HB5.out.trans (hb.mono HB5.out.size))
  have HR6 := Lib.hid hrow
  have HLE6 := Lib.hid hle
  have HNL6 := Lib.hid hnil
  have HXX6 := Lib.hid (show ∀ a, A6 = some a → a.block ≠ ob ∧ a.block ≠ pb ∧ (A = some a ∨ w.heap.size ≤ a.block) from fun a ha => by
    rcases hor a ha with h1 | h1
    · have h2 := HXA.out a h1; have h3 := HD.out; exact ⟨by omega, by omega, .inl h1⟩
    · have h2 := Go.Proofs.Ytbcabnbgkicfdaa.hlt HP5.out; have h3 := Go.Proofs.Ytbcabnbgkicfdaa.hlt HO5.out; have h4 := HB5.out.size; exact ⟨by omega, by omega, .inr (by omega)⟩)
  clear hb hrow hle hnil hor
  obtain ⟨q0, q1, q2⟩ := HP6.out.cells
  have t0 := HP6.out.frz 0
  have t1 := HP6.out.frz 1
  have t2 := HP6.out.frz 2
  have HP7 := Lib.hid (HP6.out.put I A6 L1.length c6 0)
  have HO7 := Lib.hid (show RBx (((w6.setCell ⟨pb, 0, none⟩ (.int .i64 I)).setCell ⟨pb, 1, none⟩ (.slice A6 (L1.length) c6)).setCell ⟨pb, 2, none⟩ (.int .i64 0)) ob 0 none 0 0 0 from ((HO6.out.far HD.out.2.2 0 _).far HD.out.2.2 1 _).far HD.out.2.2 2 _)
  have HB7 := Lib.hid (put3_below HB6.out HD.out.1 (.int .i64 I) (.slice A6 L1.length c6) (.int .i64 0))
  have HR7 := Lib.hid (row_put (row_put (row_put HR6.out (fun a ha => (HXX6.out a ha).2.1) 0 (.int .i64 I)) (fun a ha => (HXX6.out a ha).2.1) 1 (.slice A6 L1.length c6)) (fun a ha => (HXX6.out a ha).2.1) 2 (.int .i64 0))
  go_upto_region 7 with fail
  generalize hgw : ((w6.setCell ⟨pb, 0, none⟩ (.int .i64 I)).setCell ⟨pb, 1, none⟩ (.slice A6 (L1.length) c6)).setCell ⟨pb, 2, none⟩ (.int .i64 0) = w7 at *
  clear hgw q0 q1 q2 t0 t1 t2
  have hd := (show Below w7.heap.size w7 w7.drew from (Below.refl _ _).drew)
  replace HP7 := Lib.hid (HP7.out.later hd)
  replace HO7 := Lib.hid (HO7.out.later hd)
  replace HB7 := Lib.hid (HB7.out.trans (hd.mono HB7.out.size))
  replace HR7 := Lib.hid (HR7.out.later hd)
  clear hd
  refine wp_region_noPanic ?_
  refine wp_region_held_drew (S := fun w' => True) (by kernel_rfl) trivial (fun _ => ?_)
  generalize w7.drew = w7 at *
  refine wpAnyH_take (i := 1) (oi := { dst := some 46, op := Op.move (Operand.tmp 1), type := 3, pos := "ref.go:119", after := #[], guard := none }) (v := .int .i64 u) rfl (by kernel_rfl) (by kernel_rfl) (by kernel_rfl) (fun _ _ _ h => h) (Or.inl ⟨by rfl, ?_⟩) trivial ?_
  · (intro w' hSw; go_simp)
  simp only [Act.put, List.setIfInBounds_toArray, List.set_cons_zero, List.set_cons_succ]
  refine wpAnyH_take (i := 3) (oi := { dst := some 48, op := Op.move (Operand.tmp 3), type := 3, pos := "ref.go:119", after := #[], guard := none }) (v := .int .i64 y) rfl (by kernel_rfl) (by kernel_rfl) (by kernel_rfl) (fun _ _ _ h => h) (Or.inl ⟨by rfl, ?_⟩) trivial ?_
  · (intro w' hSw; go_simp)
  simp only [Act.put, List.setIfInBounds_toArray, List.set_cons_zero, List.set_cons_succ]
  refine wpAnyH_ready (rs := [0, 2]) (by kernel_rfl) (by simp) (AllReadyH.cons (o := { dst := some 45, op := Op.load 32 (Operand.tmp 4), type := 32, pos := "ref.go:119", after := #[], guard := none }) rfl (fun K hK => ?_) (AllReadyH.cons (o := { dst := some 47, op := Op.call { callee := Callee.value (Operand.func 19), args := #[Operand.tmp 46], argTypes := #[3] }, type := 3, pos := "ref.go:119", after := #[{ on := 1, ground := Ground.data }], guard := none }) rfl (fun K hK => ?_) AllReadyH.nil))
  · obtain ⟨q0, q1, q2⟩ := HP7.out.cells
    go_simp
    clear q0 q1 q2
    refine hK.out _ _ trivial (fun _ => ?_)
    clear hK K
    try simp only [Act.put, List.setIfInBounds_toArray, List.set_cons_zero, List.set_cons_succ]
    refine wpAnyH_ready (rs := [2]) (by kernel_rfl) (by simp) (AllReadyH.cons (o := { dst := some 47, op := Op.call { callee := Callee.value (Operand.func 19), args := #[Operand.tmp 46], argTypes := #[3] }, type := 3, pos := "ref.go:119", after := #[{ on := 1, ground := Ground.data }], guard := none }) rfl (fun K hK => ?_) AllReadyH.nil)
    go_simp
    go_at_call 19
    refine (HNu.out _).mono ?_
    rintro e wx ⟨rfl, hwx⟩
    obtain rfl := hwx.symm
    refine hK.out _ _ trivial (fun _ => ?_)
    clear hK K
    try simp only [Act.put, List.setIfInBounds_toArray, List.set_cons_zero, List.set_cons_succ]
    refine wpAnyH_ready (rs := [4]) (by kernel_rfl) (by simp) (AllReadyH.cons (o := { dst := some 49, op := Op.call { callee := Callee.value (Operand.func 51), args := #[Operand.tmp 45, Operand.tmp 47, Operand.tmp 48], argTypes := #[32, 3, 3] }, type := 37, pos := "ref.go:119", after := #[{ on := 0, ground := Ground.data }, { on := 2, ground := Ground.data }, { on := 3, ground := Ground.data }, { on := 2, ground := Ground.chain }], guard := none }) rfl (fun K hK => ?_) AllReadyH.nil)
    go_simp
    go_at_call 51
    refine (HAN2.out A6 c6 _ HR7.out HLE6.out HNL6.out).mono ?_
    rintro e w8 ⟨A8, c8, rfl, hrow, hle, hnil, hor, hb⟩
    have HP8 := Lib.hid (HP7.out.later hb)
    have HO8 := Lib.hid (HO7.out.later hb)
    have HB8 := Lib.hid (HB7.out.trans (hb.mono HB7.out.size))
    have HR8 := Lib.hid hrow
    have HLE8 := Lib.hid hle
    have HNL8 := Lib.hid hnil
    have HXX8 := Lib.hid (show ∀ a, A8 = some a → a.block ≠ ob ∧ a.block ≠ pb ∧ (A = some a ∨ w.heap.size ≤ a.block) from fun a ha => by
      rcases hor a ha with h1 | h1
      · exact HXX6.out a h1
      · have h2 := Go.Proofs.Ytbcabnbgkicfdaa.hlt HP7.out; have h3 := Go.Proofs.Ytbcabnbgkicfdaa.hlt HO7.out; have h4 := HB7.out.size; exact ⟨by omega, by omega, .inr (by omega)⟩)
    clear hb hrow hle hnil hor
    refine hK.out _ _ trivial (fun _ => ?_)
    clear hK K
    try simp only [Act.put, List.setIfInBounds_toArray, List.set_cons_zero, List.set_cons_succ]
    refine wpAnyH_take (i := 5) (oi := { dst := some 44, op := Op.move (Operand.tmp 49), type := 37, pos := "ref.go:119", after := #[{ on := 4, ground := Ground.data }], guard := none }) (v := .tuple #[.agg #[.int .i64 I, .slice A8 L2.length c8, .int .i64 0], .int .i64 p2]) rfl (by kernel_rfl) (by kernel_rfl) (by kernel_rfl) (fun _ _ _ h => h) (Or.inl ⟨by rfl, ?_⟩) trivial ?_
    · (intro w' hSw; go_simp)
    simp only [Act.put, List.setIfInBounds_toArray, List.set_cons_zero, List.set_cons_succ]
    refine wpAnyH_take (i := 6) (oi := { dst := some 50, op := Op.extract (Operand.tmp 44) 0, type := 32, pos := "ref.go:119", after := #[{ on := 5, ground := Ground.data }], guard := none }) (v := .agg #[.int .i64 I, .slice A8 L2.length c8, .int .i64 0]) rfl (by kernel_rfl) (by kernel_rfl) (by kernel_rfl) (fun _ _ _ h => h) (Or.inl ⟨by rfl, ?_⟩) trivial ?_
    · (intro w' hSw; go_simp)
    simp only [Act.put, List.setIfInBounds_toArray, List.set_cons_zero, List.set_cons_succ]
    refine wpAnyH_take (i := 7) (oi := { dst := some 51, op := Op.extract (Operand.tmp 44) 1, type := 3, pos := "ref.go:119", after := #[{ on := 5, ground := Ground.data }, { on := 8, ground := Ground.gcOnly Departure.lateStores }], guard := none }) (v := .int .i64 p2) rfl (by kernel_rfl) (by kernel_rfl) (by kernel_rfl) (fun _ _ _ h => h) (Or.inl ⟨by rfl, ?_⟩) trivial ?_
    · (intro w' hSw; go_simp)
    simp only [Act.put, List.setIfInBounds_toArray, List.set_cons_zero, List.set_cons_succ]
    refine wpAnyH_ready (rs := [8]) (by kernel_rfl) (by simp) (AllReadyH.cons (o := { dst := none, op := Op.store 32 (Operand.tmp 4) (Operand.tmp 50), type := 0, pos := "ref.go:119", after := #[{ on := 6, ground := Ground.data }, { on := 4, ground := Ground.chain }, { on := 0, ground := Ground.phase }, { on := 1, ground := Ground.phase }, { on := 2, ground := Ground.phase }, { on := 3, ground := Ground.phase }, { on := 4, ground := Ground.phase }, { on := 5, ground := Ground.phase }, { on := 6, ground := Ground.phase }, { on := 7, ground := Ground.textOnly Departure.lateStores }], guard := none }) rfl (fun K hK => ?_) AllReadyH.nil)
    obtain ⟨q0, q1, q2⟩ := HP8.out.cells
    have t0 := HP8.out.frz 0
    have t1 := HP8.out.frz 1
    have t2 := HP8.out.frz 2
    have HP9 := Lib.hid (HP8.out.put I A8 L2.length c8 0)
    have HO9 := Lib.hid (show RBx (((w8.setCell ⟨pb, 0, none⟩ (.int .i64 I)).setCell ⟨pb, 1, none⟩ (.slice A8 (L2.length) c8)).setCell ⟨pb, 2, none⟩ (.int .i64 0)) ob 0 none 0 0 0 from ((HO8.out.far HD.out.2.2 0 _).far HD.out.2.2 1 _).far HD.out.2.2 2 _)
    have HB9 := Lib.hid (put3_below HB8.out HD.out.1 (.int .i64 I) (.slice A8 L2.length c8) (.int .i64 0))
    have HR9 := Lib.hid (row_put (row_put (row_put HR8.out (fun a ha => (HXX8.out a ha).2.1) 0 (.int .i64 I)) (fun a ha => (HXX8.out a ha).2.1) 1 (.slice A8 L2.length c8)) (fun a ha => (HXX8.out a ha).2.1) 2 (.int .i64 0))
    go_simp
    generalize hgw : ((w8.setCell ⟨pb, 0, none⟩ (.int .i64 I)).setCell ⟨pb, 1, none⟩ (.slice A8 (L2.length) c8)).setCell ⟨pb, 2, none⟩ (.int .i64 0) = w9 at *
    clear hgw q0 q1 q2 t0 t1 t2
    refine hK.out _ _ trivial (fun _ => ?_)
    clear hK K
    try simp only [Act.put, List.setIfInBounds_toArray, List.set_cons_zero, List.set_cons_succ]
    refine wpAnyH_take (i := 9) (oi := { dst := some 11, op := Op.assign (Operand.tmp 51), type := 3, pos := "ref.go:119", after := #[{ on := 7, ground := Ground.data }, { on := 8, ground := Ground.chain }, { on := 0, ground := Ground.phase }, { on := 1, ground := Ground.phase }, { on := 2, ground := Ground.phase }, { on := 3, ground := Ground.phase }, { on := 4, ground := Ground.phase }, { on := 5, ground := Ground.phase }, { on := 6, ground := Ground.phase }, { on := 7, ground := Ground.phase }, { on := 8, ground := Ground.phase }], guard := none }) (v := .int .i64 p2) rfl (by kernel_rfl) (by kernel_rfl) (by kernel_rfl) (fun _ _ _ h => h) (Or.inl ⟨by rfl, ?_⟩) trivial ?_
    · (intro w' hSw; go_simp)
    simp only [Act.put, List.setIfInBounds_toArray, List.set_cons_zero, List.set_cons_succ]
    refine wpAnyH_done (by kernel_rfl) ?_ _
    refine NoPanic.normal ?_
    obtain ⟨q0, q1, q2⟩ := HP9.out.cells
    go_wp2_with (fail)
    clear q0 q1 q2
    refine (HOR3.out A8 c8 _ HR9.out HLE8.out HNL8.out).mono ?_
    rintro e w10 ⟨A10, c10, rfl, hrow, hle, hnil, hor, hb⟩
    have HP10 := Lib.hid (HP9.out.later hb)
    have HO10 := Lib.hid (HO9.out.later hb)
    have HB10 := Lib.hid (HB9.out.trans (hb.mono HB9.out.size))
    have HR10 := Lib.hid hrow
    have HLE10 := Lib.hid hle
    have HNL10 := Lib.hid hnil
    have HXX10 := Lib.hid (show ∀ a, A10 = some a → a.block ≠ ob ∧ a.block ≠ pb ∧ (A = some a ∨ w.heap.size ≤ a.block) from fun a ha => by
      rcases hor a ha with h1 | h1
      · exact HXX8.out a h1
      · have h2 := Go.Proofs.Ytbcabnbgkicfdaa.hlt HP9.out; have h3 := Go.Proofs.Ytbcabnbgkicfdaa.hlt HO9.out; have h4 := HB9.out.size; exact ⟨by omega, by omega, .inr (by omega)⟩)
    clear hb hrow hle hnil hor
    obtain ⟨z0, z1, z2⟩ := HO10.out.cells
    have f0 := HO10.out.frz 0
    have f1 := HO10.out.frz 1
    have f2 := HO10.out.frz 2
    go_wp2_with (fail)
    have hq := HO10.out.put I A10 (L3.length) c10 0
    have hbq := put3_below HB10.out HD.out.2.1 (.int .i64 I) (.slice A10 (L3.length) c10) (.int .i64 0)
    obtain ⟨v0, v1, v2⟩ := hq.cells
    have hrq := row_put (row_put (row_put HR10.out (fun a ha => (HXX10.out a ha).1) 0 (.int .i64 I)) (fun a ha => (HXX10.out a ha).1) 1 (.slice A10 (L3.length) c10)) (fun a ha => (HXX10.out a ha).1) 2 (.int .i64 0)
    clear hq f0 f1 f2 z0 z1 z2
    generalize ((w10.setCell ⟨ob, 0, none⟩ (.int .i64 I)).setCell ⟨ob, 1, none⟩ (.slice A10 (L3.length) c10)).setCell ⟨ob, 2, none⟩ (.int .i64 0) = V at *
    exact bodyPost_ret (v := .tuple #[.agg #[.int .i64 I, .slice A10 (L3.length) c10, .int .i64 0], .int .i64 p3]) (by simp [results, Try.results54, go_sem, v0, v1, v2]) rfl ⟨A10, c10, rfl, hrq, HLE10.out, HNL10.out, fun a e => (HXX10.out a e).2.2, hbq⟩
  · go_simp
    go_at_call 19
    refine (HNu.out _).mono ?_
    rintro e wx ⟨rfl, hwx⟩
    obtain rfl := hwx.symm
    refine hK.out _ _ trivial (fun _ => ?_)
    clear hK K
    try simp only [Act.put, List.setIfInBounds_toArray, List.set_cons_zero, List.set_cons_succ]
    refine wpAnyH_ready (rs := [0]) (by kernel_rfl) (by simp) (AllReadyH.cons (o := { dst := some 45, op := Op.load 32 (Operand.tmp 4), type := 32, pos := "ref.go:119", after := #[], guard := none }) rfl (fun K hK => ?_) AllReadyH.nil)
    obtain ⟨q0, q1, q2⟩ := HP7.out.cells
    go_simp
    clear q0 q1 q2
    refine hK.out _ _ trivial (fun _ => ?_)
    clear hK K
    try simp only [Act.put, List.setIfInBounds_toArray, List.set_cons_zero, List.set_cons_succ]
    refine wpAnyH_ready (rs := [4]) (by kernel_rfl) (by simp) (AllReadyH.cons (o := { dst := some 49, op := Op.call { callee := Callee.value (Operand.func 51), args := #[Operand.tmp 45, Operand.tmp 47, Operand.tmp 48], argTypes := #[32, 3, 3] }, type := 37, pos := "ref.go:119", after := #[{ on := 0, ground := Ground.data }, { on := 2, ground := Ground.data }, { on := 3, ground := Ground.data }, { on := 2, ground := Ground.chain }], guard := none }) rfl (fun K hK => ?_) AllReadyH.nil)
    go_simp
    go_at_call 51
    refine (HAN2.out A6 c6 _ HR7.out HLE6.out HNL6.out).mono ?_
    rintro e w8 ⟨A8, c8, rfl, hrow, hle, hnil, hor, hb⟩
    have HP8 := Lib.hid (HP7.out.later hb)
    have HO8 := Lib.hid (HO7.out.later hb)
    have HB8 := Lib.hid (HB7.out.trans (hb.mono HB7.out.size))
    have HR8 := Lib.hid hrow
    have HLE8 := Lib.hid hle
    have HNL8 := Lib.hid hnil
    have HXX8 := Lib.hid (show ∀ a, A8 = some a → a.block ≠ ob ∧ a.block ≠ pb ∧ (A = some a ∨ w.heap.size ≤ a.block) from fun a ha => by
      rcases hor a ha with h1 | h1
      · exact HXX6.out a h1
      · have h2 := Go.Proofs.Ytbcabnbgkicfdaa.hlt HP7.out; have h3 := Go.Proofs.Ytbcabnbgkicfdaa.hlt HO7.out; have h4 := HB7.out.size; exact ⟨by omega, by omega, .inr (by omega)⟩)
    clear hb hrow hle hnil hor
    refine hK.out _ _ trivial (fun _ => ?_)
    clear hK K
    try simp only [Act.put, List.setIfInBounds_toArray, List.set_cons_zero, List.set_cons_succ]
    refine wpAnyH_take (i := 5) (oi := { dst := some 44, op := Op.move (Operand.tmp 49), type := 37, pos := "ref.go:119", after := #[{ on := 4, ground := Ground.data }], guard := none }) (v := .tuple #[.agg #[.int .i64 I, .slice A8 L2.length c8, .int .i64 0], .int .i64 p2]) rfl (by kernel_rfl) (by kernel_rfl) (by kernel_rfl) (fun _ _ _ h => h) (Or.inl ⟨by rfl, ?_⟩) trivial ?_
    · (intro w' hSw; go_simp)
    simp only [Act.put, List.setIfInBounds_toArray, List.set_cons_zero, List.set_cons_succ]
    refine wpAnyH_take (i := 6) (oi := { dst := some 50, op := Op.extract (Operand.tmp 44) 0, type := 32, pos := "ref.go:119", after := #[{ on := 5, ground := Ground.data }], guard := none }) (v := .agg #[.int .i64 I, .slice A8 L2.length c8, .int .i64 0]) rfl (by kernel_rfl) (by kernel_rfl) (by kernel_rfl) (fun _ _ _ h => h) (Or.inl ⟨by rfl, ?_⟩) trivial ?_
    · (intro w' hSw; go_simp)
    simp only [Act.put, List.setIfInBounds_toArray, List.set_cons_zero, List.set_cons_succ]
    refine wpAnyH_take (i := 7) (oi := { dst := some 51, op := Op.extract (Operand.tmp 44) 1, type := 3, pos := "ref.go:119", after := #[{ on := 5, ground := Ground.data }, { on := 8, ground := Ground.gcOnly Departure.lateStores }], guard := none }) (v := .int .i64 p2) rfl (by kernel_rfl) (by kernel_rfl) (by kernel_rfl) (fun _ _ _ h => h) (Or.inl ⟨by rfl, ?_⟩) trivial ?_
    · (intro w' hSw; go_simp)
    simp only [Act.put, List.setIfInBounds_toArray, List.set_cons_zero, List.set_cons_succ]
    refine wpAnyH_ready (rs := [8]) (by kernel_rfl) (by simp) (AllReadyH.cons (o := { dst := none, op := Op.store 32 (Operand.tmp 4) (Operand.tmp 50), type := 0, pos := "ref.go:119", after := #[{ on := 6, ground := Ground.data }, { on := 4, ground := Ground.chain }, { on := 0, ground := Ground.phase }, { on := 1, ground := Ground.phase }, { on := 2, ground := Ground.phase }, { on := 3, ground := Ground.phase }, { on := 4, ground := Ground.phase }, { on := 5, ground := Ground.phase }, { on := 6, ground := Ground.phase }, { on := 7, ground := Ground.textOnly Departure.lateStores }], guard := none }) rfl (fun K hK => ?_) AllReadyH.nil)
    obtain ⟨q0, q1, q2⟩ := HP8.out.cells
    have t0 := HP8.out.frz 0
    have t1 := HP8.out.frz 1
    have t2 := HP8.out.frz 2
    have HP9 := Lib.hid (HP8.out.put I A8 L2.length c8 0)
    have HO9 := Lib.hid (show RBx (((w8.setCell ⟨pb, 0, none⟩ (.int .i64 I)).setCell ⟨pb, 1, none⟩ (.slice A8 (L2.length) c8)).setCell ⟨pb, 2, none⟩ (.int .i64 0)) ob 0 none 0 0 0 from ((HO8.out.far HD.out.2.2 0 _).far HD.out.2.2 1 _).far HD.out.2.2 2 _)
    have HB9 := Lib.hid (put3_below HB8.out HD.out.1 (.int .i64 I) (.slice A8 L2.length c8) (.int .i64 0))
    have HR9 := Lib.hid (row_put (row_put (row_put HR8.out (fun a ha => (HXX8.out a ha).2.1) 0 (.int .i64 I)) (fun a ha => (HXX8.out a ha).2.1) 1 (.slice A8 L2.length c8)) (fun a ha => (HXX8.out a ha).2.1) 2 (.int .i64 0))
    go_simp
    generalize hgw : ((w8.setCell ⟨pb, 0, none⟩ (.int .i64 I)).setCell ⟨pb, 1, none⟩ (.slice A8 (L2.length) c8)).setCell ⟨pb, 2, none⟩ (.int .i64 0) = w9 at *
    clear hgw q0 q1 q2 t0 t1 t2
    refine hK.out _ _ trivial (fun _ => ?_)
    clear hK K
    try simp only [Act.put, List.setIfInBounds_toArray, List.set_cons_zero, List.set_cons_succ]
    refine wpAnyH_take (i := 9) (oi := { dst := some 11, op := Op.assign (Operand.tmp 51), type := 3, pos := "ref.go:119", after := #[{ on := 7, ground := Ground.data }, { on := 8, ground := Ground.chain }, { on := 0, ground := Ground.phase }, { on := 1, ground := Ground.phase }, { on := 2, ground := Ground.phase }, { on := 3, ground := Ground.phase }, { on := 4, ground := Ground.phase }, { on := 5, ground := Ground.phase }, { on := 6, ground := Ground.phase }, { on := 7, ground := Ground.phase }, { on := 8, ground := Ground.phase }], guard := none }) (v := .int .i64 p2) rfl (by kernel_rfl) (by kernel_rfl) (by kernel_rfl) (fun _ _ _ h => h) (Or.inl ⟨by rfl, ?_⟩) trivial ?_
    · (intro w' hSw; go_simp)
    simp only [Act.put, List.setIfInBounds_toArray, List.set_cons_zero, List.set_cons_succ]
    refine wpAnyH_done (by kernel_rfl) ?_ _
    refine NoPanic.normal ?_
    obtain ⟨q0, q1, q2⟩ := HP9.out.cells
    go_wp2_with (fail)
    clear q0 q1 q2
    refine (HOR3.out A8 c8 _ HR9.out HLE8.out HNL8.out).mono ?_
    rintro e w10 ⟨A10, c10, rfl, hrow, hle, hnil, hor, hb⟩
    have HP10 := Lib.hid (HP9.out.later hb)
    have HO10 := Lib.hid (HO9.out.later hb)
    have HB10 := Lib.hid (HB9.out.trans (hb.mono HB9.out.size))
    have HR10 := Lib.hid hrow
    have HLE10 := Lib.hid hle
    have HNL10 := Lib.hid hnil
    have HXX10 := Lib.hid (show ∀ a, A10 = some a → a.block ≠ ob ∧ a.block ≠ pb ∧ (A = some a ∨ w.heap.size ≤ a.block) from fun a ha => by
      rcases hor a ha with h1 | h1
      · exact HXX8.out a h1
      · have h2 := Go.Proofs.Ytbcabnbgkicfdaa.hlt HP9.out; have h3 := Go.Proofs.Ytbcabnbgkicfdaa.hlt HO9.out; have h4 := HB9.out.size; exact ⟨by omega, by omega, .inr (by omega)⟩)
    clear hb hrow hle hnil hor
    obtain ⟨z0, z1, z2⟩ := HO10.out.cells
    have f0 := HO10.out.frz 0
    have f1 := HO10.out.frz 1
    have f2 := HO10.out.frz 2
    go_wp2_with (fail)
    have hq := HO10.out.put I A10 (L3.length) c10 0
    have hbq := put3_below HB10.out HD.out.2.1 (.int .i64 I) (.slice A10 (L3.length) c10) (.int .i64 0)
    obtain ⟨v0, v1, v2⟩ := hq.cells
    have hrq := row_put (row_put (row_put HR10.out (fun a ha => (HXX10.out a ha).1) 0 (.int .i64 I)) (fun a ha => (HXX10.out a ha).1) 1 (.slice A10 (L3.length) c10)) (fun a ha => (HXX10.out a ha).1) 2 (.int .i64 0)
    clear hq f0 f1 f2 z0 z1 z2
    generalize ((w10.setCell ⟨ob, 0, none⟩ (.int .i64 I)).setCell ⟨ob, 1, none⟩ (.slice A10 (L3.length) c10)).setCell ⟨ob, 2, none⟩ (.int .i64 0) = V at *
    exact bodyPost_ret (v := .tuple #[.agg #[.int .i64 I, .slice A10 (L3.length) c10, .int .i64 0], .int .i64 p3]) (by simp [results, Try.results54, go_sem, v0, v1, v2]) rfl ⟨A10, c10, rfl, hrq, HLE10.out, HNL10.out, fun a e => (HXX10.out a e).2.2, hbq⟩
end
end Go.Proofs.Ytbcabnbgkicfdaa
