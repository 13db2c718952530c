/- What is proved: the reference of package gates: its Xor. -/
import Derived.Test.YtbcabnbgkicfdaaGaROr
set_option linter.unusedVariables false
set_option linter.unusedSimpArgs false
namespace Go.Proofs.Ytbcabnbgkicfdaa
open Go.RowKit Go.Maps

section
variable {I : Int} {A : Option Addr} {c : Nat} {gs : List Gt} {w : World}
set_option maxRecDepth 100000 in
set_option maxHeartbeats 4000000 in
theorem r_Xor_err (e0 x y : Int) (h0 : e0 ≠ 0) (hr : GRow w A gs) (hc : gs.length ≤ c) (hA : gs = [] → A = none) :
    Calls Try.prog 53 #[.agg #[.int .i64 I, .slice A gs.length c, .int .i64 e0], .int .i64 x, .int .i64 y] w (RAns I A w gs e0 0) := by
  have HR := Lib.hid hr
  have HCC := Lib.hid hc
  have HAA := Lib.hid hA
  have d0 : (e0 != 0) = true := by simpa using h0
  clear h0 hr hc hA
  have HB0 := Lib.hid (((Below.refl w.heap.size w).alloc (Nat.le_refl _) (.cells #[.int .i64 I, .slice A gs.length c, .int .i64 e0] 32)).alloc (by simp) (.cells #[.int .i64 0, .slice none 0 0, .int .i64 0] 32))
  have HO0 := Lib.hid (show RBx ((w.alloc (.cells #[.int .i64 I, .slice A gs.length c, .int .i64 e0] 32)).alloc (.cells #[.int .i64 0, .slice none 0 0, .int .i64 0] 32)) (w.heap.size + 1) 0 none 0 0 0 from by
    have := RBx.new (w.alloc (.cells #[.int .i64 I, .slice A gs.length c, .int .i64 e0] 32)) 0 none 0 0 0
    rwa [show (w.alloc (.cells #[.int .i64 I, .slice A gs.length c, .int .i64 e0] 32)).heap.size = w.heap.size + 1 by simp] at this)
  have HP0 := Lib.hid (show RBx ((w.alloc (.cells #[.int .i64 I, .slice A gs.length c, .int .i64 e0] 32)).alloc (.cells #[.int .i64 0, .slice none 0 0, .int .i64 0] 32)) w.heap.size I A gs.length c e0 from (heap_alloc_old _ _ (by simp)).trans (RBx.new w I A gs.length c e0))
  go_enter Try.func53, Try.ntmps53
  go_upto_region 1 with fail
  generalize hgw : (w.alloc (.cells #[.int .i64 I, .slice A gs.length c, .int .i64 e0] 32)).alloc (.cells #[.int .i64 0, .slice none 0 0, .int .i64 0] 32) = w2 at *
  clear hgw
  have HD := Lib.hid (show w.heap.size ≤ w.heap.size + 1 ∧ w.heap.size ≠ w.heap.size + 1 from by omega)
  generalize w.heap.size + 1 = ob at *
  obtain ⟨pb, HPE⟩ : ∃ pb, Hid (pb = w.heap.size) := ⟨_, Lib.hid rfl⟩
  have HP0 := Lib.hid (show RBx w2 pb I A gs.length c e0 by rw [HPE.out]; exact HP0.out)
  have HD := Lib.hid (show w.heap.size ≤ pb ∧ w.heap.size ≤ ob ∧ pb ≠ ob by rw [HPE.out]; exact ⟨Nat.le_refl _, HD.out⟩)
  rw [← HPE.out]
  obtain ⟨q0, q1, q2⟩ := HP0.out.cells
  obtain ⟨z0, z1, z2⟩ := HO0.out.cells
  have f0 := HO0.out.frz 0
  have f1 := HO0.out.frz 1
  have f2 := HO0.out.frz 2
  go_wp2_with (fail)
  have hq := HO0.out.put I A (gs.length) c e0
  have hbq := put3_below HB0.out HD.out.2.1 (.int .i64 I) (.slice A (gs.length) c) (.int .i64 e0)
  obtain ⟨v0, v1, v2⟩ := hq.cells
  clear hq f0 f1 f2 z0 z1 z2 q0 q1 q2
  generalize ((w2.setCell ⟨ob, 0, none⟩ (.int .i64 I)).setCell ⟨ob, 1, none⟩ (.slice A gs.length c)).setCell ⟨ob, 2, none⟩ (.int .i64 e0) = V at *
  exact bodyPost_ret (v := .tuple #[.agg #[.int .i64 I, .slice A (gs.length) c, .int .i64 e0], .int .i64 0]) (by simp [results, Try.results53, go_sem, v0, v1, v2]) rfl ⟨A, c, rfl, HR.out.later hbq, HCC.out, HAA.out, fun a e => .inl e, hbq⟩
set_option maxRecDepth 100000 in
set_option maxHeartbeats 4000000 in
theorem r_Xor_bad0 (x y : Int) (hI : 0 ≤ I ∧ I ≤ 1024) (hr : GRow w A gs) (hc : gs.length ≤ c) (hA : gs = [] → A = none) (hn : gs.length ≤ 1000) (hx : litB I gs.length x = false) :
    Calls Try.prog 53 #[.agg #[.int .i64 I, .slice A gs.length c, .int .i64 0], .int .i64 x, .int .i64 y] w (RAns I A w gs 1 0) := by
  have HR := Lib.hid hr
  have HCC := Lib.hid hc
  have HAA := Lib.hid hA
  have HLx := Lib.hid (fun w => show Calls Try.prog 97 #[.agg #[.int .i64 I, .slice A gs.length c], .int .i64 x] w fun e w' => e = .returned (.bool false) ∧ Below w.heap.size w w' from (r_isLit_any I A gs.length c (by omega) x w).mono fun e w' ⟨⟨b, h1, h2⟩, h3⟩ => ⟨by rw [h1, h2 hI, hx], h3⟩)
  clear hr hc hA hI hn hx
  have HB0 := Lib.hid (((Below.refl w.heap.size w).alloc (Nat.le_refl _) (.cells #[.int .i64 I, .slice A gs.length c, .int .i64 0] 32)).alloc (by simp) (.cells #[.int .i64 0, .slice none 0 0, .int .i64 0] 32))
  have HO0 := Lib.hid (show RBx ((w.alloc (.cells #[.int .i64 I, .slice A gs.length c, .int .i64 0] 32)).alloc (.cells #[.int .i64 0, .slice none 0 0, .int .i64 0] 32)) (w.heap.size + 1) 0 none 0 0 0 from by
    have := RBx.new (w.alloc (.cells #[.int .i64 I, .slice A gs.length c, .int .i64 0] 32)) 0 none 0 0 0
    rwa [show (w.alloc (.cells #[.int .i64 I, .slice A gs.length c, .int .i64 0] 32)).heap.size = w.heap.size + 1 by simp] at this)
  have HP0 := Lib.hid (show RBx ((w.alloc (.cells #[.int .i64 I, .slice A gs.length c, .int .i64 0] 32)).alloc (.cells #[.int .i64 0, .slice none 0 0, .int .i64 0] 32)) w.heap.size I A gs.length c 0 from (heap_alloc_old _ _ (by simp)).trans (RBx.new w I A gs.length c 0))
  go_enter Try.func53, Try.ntmps53
  go_upto_region 1 with fail
  generalize hgw : (w.alloc (.cells #[.int .i64 I, .slice A gs.length c, .int .i64 0] 32)).alloc (.cells #[.int .i64 0, .slice none 0 0, .int .i64 0] 32) = w2 at *
  clear hgw
  have HD := Lib.hid (show w.heap.size ≤ w.heap.size + 1 ∧ w.heap.size ≠ w.heap.size + 1 from by omega)
  generalize w.heap.size + 1 = ob at *
  obtain ⟨pb, HPE⟩ : ∃ pb, Hid (pb = w.heap.size) := ⟨_, Lib.hid rfl⟩
  have HP0 := Lib.hid (show RBx w2 pb I A gs.length c 0 by rw [HPE.out]; exact HP0.out)
  have HD := Lib.hid (show w.heap.size ≤ pb ∧ w.heap.size ≤ ob ∧ pb ≠ ob by rw [HPE.out]; exact ⟨Nat.le_refl _, HD.out⟩)
  rw [← HPE.out]
  obtain ⟨q0, q1, q2⟩ := HP0.out.cells
  go_wp2_with (fail)
  clear q0 q1 q2
  refine (HLx.out _).mono ?_
  rintro e w3 ⟨rfl, hb⟩
  have HP3 := Lib.hid (HP0.out.later hb)
  have HO3 := Lib.hid (HO0.out.later hb)
  have HB3 := Lib.hid (HB0.out.trans (hb.mono HB0.out.size))
  clear hb
  obtain ⟨q0, q1, q2⟩ := HP3.out.cells
  go_upto_region 4 with fail
  clear q0 q1 q2
  obtain ⟨q0, q1, q2⟩ := HP3.out.cells
  have g2 := HP3.out.frz 2
  go_upto_region 5 with fail
  have HP4 := Lib.hid (HP3.out.putE 1)
  have HO4 := Lib.hid (HO3.out.far HD.out.2.2 2 (.int .i64 1))
  have HB4 := Lib.hid (HB3.out.setCell (p := ⟨pb, 2, none⟩) HD.out.1 (.int .i64 1))
  clear q0 q1 q2 g2
  generalize hgw : w3.setCell ⟨pb, 2, none⟩ (.int .i64 1) = w4 at *
  clear hgw
  obtain ⟨q0, q1, q2⟩ := HP4.out.cells
  obtain ⟨z0, z1, z2⟩ := HO4.out.cells
  have f0 := HO4.out.frz 0
  have f1 := HO4.out.frz 1
  have f2 := HO4.out.frz 2
  go_wp2_with (fail)
  have hq := HO4.out.put I A (gs.length) c 1
  have hbq := put3_below HB4.out HD.out.2.1 (.int .i64 I) (.slice A (gs.length) c) (.int .i64 1)
  obtain ⟨v0, v1, v2⟩ := hq.cells
  clear hq f0 f1 f2 z0 z1 z2 q0 q1 q2
  generalize ((w4.setCell ⟨ob, 0, none⟩ (.int .i64 I)).setCell ⟨ob, 1, none⟩ (.slice A gs.length c)).setCell ⟨ob, 2, none⟩ (.int .i64 1) = V at *
  exact bodyPost_ret (v := .tuple #[.agg #[.int .i64 I, .slice A (gs.length) c, .int .i64 1], .int .i64 0]) (by simp [results, Try.results53, go_sem, v0, v1, v2]) rfl ⟨A, c, rfl, HR.out.later hbq, HCC.out, HAA.out, fun a e => .inl e, hbq⟩
set_option maxRecDepth 100000 in
set_option maxHeartbeats 4000000 in
theorem r_Xor_bad1 (x y : Int) (hI : 0 ≤ I ∧ I ≤ 1024) (hr : GRow w A gs) (hc : gs.length ≤ c) (hA : gs = [] → A = none) (hn : gs.length ≤ 1000) (hx : litB I gs.length x = true) (hy : litB I gs.length y = false) :
    Calls Try.prog 53 #[.agg #[.int .i64 I, .slice A gs.length c, .int .i64 0], .int .i64 x, .int .i64 y] w (RAns I A w gs 1 0) := by
  have HR := Lib.hid hr
  have HCC := Lib.hid hc
  have HAA := Lib.hid hA
  have HLx := Lib.hid (fun w => show Calls Try.prog 97 #[.agg #[.int .i64 I, .slice A gs.length c], .int .i64 x] w fun e w' => e = .returned (.bool true) ∧ Below w.heap.size w w' from (r_isLit_any I A gs.length c (by omega) x w).mono fun e w' ⟨⟨b, h1, h2⟩, h3⟩ => ⟨by rw [h1, h2 hI, hx], h3⟩)
  have HLy := Lib.hid (fun w => show Calls Try.prog 97 #[.agg #[.int .i64 I, .slice A gs.length c], .int .i64 y] w fun e w' => e = .returned (.bool false) ∧ Below w.heap.size w w' from (r_isLit_any I A gs.length c (by omega) y w).mono fun e w' ⟨⟨b, h1, h2⟩, h3⟩ => ⟨by rw [h1, h2 hI, hy], h3⟩)
  clear hr hc hA hI hn hx hy
  have HB0 := Lib.hid (((Below.refl w.heap.size w).alloc (Nat.le_refl _) (.cells #[.int .i64 I, .slice A gs.length c, .int .i64 0] 32)).alloc (by simp) (.cells #[.int .i64 0, .slice none 0 0, .int .i64 0] 32))
  have HO0 := Lib.hid (show RBx ((w.alloc (.cells #[.int .i64 I, .slice A gs.length c, .int .i64 0] 32)).alloc (.cells #[.int .i64 0, .slice none 0 0, .int .i64 0] 32)) (w.heap.size + 1) 0 none 0 0 0 from by
    have := RBx.new (w.alloc (.cells #[.int .i64 I, .slice A gs.length c, .int .i64 0] 32)) 0 none 0 0 0
    rwa [show (w.alloc (.cells #[.int .i64 I, .slice A gs.length c, .int .i64 0] 32)).heap.size = w.heap.size + 1 by simp] at this)
  have HP0 := Lib.hid (show RBx ((w.alloc (.cells #[.int .i64 I, .slice A gs.length c, .int .i64 0] 32)).alloc (.cells #[.int .i64 0, .slice none 0 0, .int .i64 0] 32)) w.heap.size I A gs.length c 0 from (heap_alloc_old _ _ (by simp)).trans (RBx.new w I A gs.length c 0))
  go_enter Try.func53, Try.ntmps53
  go_upto_region 1 with fail
  generalize hgw : (w.alloc (.cells #[.int .i64 I, .slice A gs.length c, .int .i64 0] 32)).alloc (.cells #[.int .i64 0, .slice none 0 0, .int .i64 0] 32) = w2 at *
  clear hgw
  have HD := Lib.hid (show w.heap.size ≤ w.heap.size + 1 ∧ w.heap.size ≠ w.heap.size + 1 from by omega)
  generalize w.heap.size + 1 = ob at *
  obtain ⟨pb, HPE⟩ : ∃ pb, Hid (pb = w.heap.size) := ⟨_, Lib.hid rfl⟩
  have HP0 := Lib.hid (show RBx w2 pb I A gs.length c 0 by rw [HPE.out]; exact HP0.out)
  have HD := Lib.hid (show w.heap.size ≤ pb ∧ w.heap.size ≤ ob ∧ pb ≠ ob by rw [HPE.out]; exact ⟨Nat.le_refl _, HD.out⟩)
  rw [← HPE.out]
  obtain ⟨q0, q1, q2⟩ := HP0.out.cells
  go_wp2_with (fail)
  clear q0 q1 q2
  refine (HLx.out _).mono ?_
  rintro e w3 ⟨rfl, hb⟩
  have HP3 := Lib.hid (HP0.out.later hb)
  have HO3 := Lib.hid (HO0.out.later hb)
  have HB3 := Lib.hid (HB0.out.trans (hb.mono HB0.out.size))
  clear hb
  obtain ⟨q0, q1, q2⟩ := HP3.out.cells
  go_wp2_with (fail)
  clear q0 q1 q2
  refine (HLy.out _).mono ?_
  rintro e w4 ⟨rfl, hb⟩
  have HP4 := Lib.hid (HP3.out.later hb)
  have HO4 := Lib.hid (HO3.out.later hb)
  have HB4 := Lib.hid (HB3.out.trans (hb.mono HB3.out.size))
  clear hb
  obtain ⟨q0, q1, q2⟩ := HP4.out.cells
  go_upto_region 4 with fail
  clear q0 q1 q2
  obtain ⟨q0, q1, q2⟩ := HP4.out.cells
  have g2 := HP4.out.frz 2
  go_upto_region 5 with fail
  have HP5 := Lib.hid (HP4.out.putE 1)
  have HO5 := Lib.hid (HO4.out.far HD.out.2.2 2 (.int .i64 1))
  have HB5 := Lib.hid (HB4.out.setCell (p := ⟨pb, 2, none⟩) HD.out.1 (.int .i64 1))
  clear q0 q1 q2 g2
  generalize hgw : w4.setCell ⟨pb, 2, none⟩ (.int .i64 1) = w5 at *
  clear hgw
  obtain ⟨q0, q1, q2⟩ := HP5.out.cells
  obtain ⟨z0, z1, z2⟩ := HO5.out.cells
  have f0 := HO5.out.frz 0
  have f1 := HO5.out.frz 1
  have f2 := HO5.out.frz 2
  go_wp2_with (fail)
  have hq := HO5.out.put I A (gs.length) c 1
  have hbq := put3_below HB5.out HD.out.2.1 (.int .i64 I) (.slice A (gs.length) c) (.int .i64 1)
  obtain ⟨v0, v1, v2⟩ := hq.cells
  clear hq f0 f1 f2 z0 z1 z2 q0 q1 q2
  generalize ((w5.setCell ⟨ob, 0, none⟩ (.int .i64 I)).setCell ⟨ob, 1, none⟩ (.slice A gs.length c)).setCell ⟨ob, 2, none⟩ (.int .i64 1) = V at *
  exact bodyPost_ret (v := .tuple #[.agg #[.int .i64 I, .slice A (gs.length) c, .int .i64 1], .int .i64 0]) (by simp [results, Try.results53, go_sem, v0, v1, v2]) rfl ⟨A, c, rfl, HR.out.later hbq, HCC.out, HAA.out, fun a e => .inl e, hbq⟩
set_option maxRecDepth 100000 in
set_option maxHeartbeats 8000000 in
theorem r_Xor_yes (x y : Int) (hck : CkOk I gs) (hr : GRow w A gs) (hc : gs.length ≤ c) (hA : gs = [] → A = none) (hn : gs.length ≤ 900) (lx : isLit I gs x) (ly : isLit I gs y) :
    Calls Try.prog 53 #[.agg #[.int .i64 I, .slice A gs.length c, .int .i64 0], .int .i64 x, .int .i64 y] w (RAns I A w (muxL I gs x (notP y) y) 0 (muxN I gs x (notP y) y)) := by
  have hI : 0 ≤ I ∧ I ≤ 1024 := ⟨hck.lo, hck.hi⟩
  have hx := litB_iff.2 lx
  have bdx := rlit_small hx hI (by omega)
  have hy := litB_iff.2 ly
  have bdy := rlit_small hy hI (by omega)
  have HR := Lib.hid hr
  have HCC := Lib.hid hc
  have HAA := Lib.hid hA
  have HXA := Lib.hid (show ∀ a, A = some a → a.block < w.heap.size from fun a ha => by
    by_cases hg : gs = []
    · rw [hA hg] at ha; cases ha
    · obtain ⟨b, off, h, hlt', _⟩ := hr (List.length_pos_iff.2 hg)
      rw [h] at ha; cases ha; exact hlt')
  have HLx := Lib.hid (fun w => show Calls Try.prog 97 #[.agg #[.int .i64 I, .slice A gs.length c], .int .i64 x] w fun e w' => e = .returned (.bool true) ∧ Below w.heap.size w w' from (r_isLit_any I A gs.length c (by omega) x w).mono fun e w' ⟨⟨b, h1, h2⟩, h3⟩ => ⟨by rw [h1, h2 hI, hx], h3⟩)
  have HLy := Lib.hid (fun w => show Calls Try.prog 97 #[.agg #[.int .i64 I, .slice A gs.length c], .int .i64 y] w fun e w' => e = .returned (.bool true) ∧ Below w.heap.size w w' from (r_isLit_any I A gs.length c (by omega) y w).mono fun e w' ⟨⟨b, h1, h2⟩, h3⟩ => ⟨by rw [h1, h2 hI, hy], h3⟩)
  have HNx := Lib.hid (fun w => r_not_any x (by omega) w)
  have HNy := Lib.hid (fun w => r_not_any y (by omega) w)
  have k1 := and_ok hck lx ly.not
  have k2 := and_ok k1.ok (lx.not.more k1.grow) (ly.more k1.grow)
  have HAND := Lib.hid (fun (w' : World) (hb : Below w.heap.size w w') => r_And_yes x (notP y) hck (hr.later hb) hc hA (by omega) lx ly.not)
  have HAN2 := Lib.hid (fun (A' : Option Addr) (c' : Nat) (w' : World) (h1 : GRow w' A' (andL gs x (notP y))) (h2 : (andL gs x (notP y)).length ≤ c') (h3 : andL gs x (notP y) = [] → A' = none) => r_And_yes (notP x) y k1.ok h1 h2 h3 (by have := k1.len; omega) (lx.not.more k1.grow) (ly.more k1.grow))
  have HOR3 := Lib.hid (fun (A' : Option Addr) (c' : Nat) (w' : World) (h1 : GRow w' A' (andL (andL gs x (notP y)) (notP x) y)) (h2 : (andL (andL gs x (notP y)) (notP x) y).length ≤ c') (h3 : andL (andL gs x (notP y)) (notP x) y = [] → A' = none) => r_Or_yes (andN I gs x (notP y)) (andN I (andL gs x (notP y)) (notP x) y) k2.ok h1 h2 h3 (by have := k1.len; have := k2.len; omega) (k1.lit.more k2.grow) k2.lit)
  show Calls _ _ _ _ (RAns I A w (orL (andL (andL gs x (notP y)) (notP x) y) (andN I gs x (notP y)) (andN I (andL gs x (notP y)) (notP x) y)) 0 (orN I (andL (andL gs x (notP y)) (notP x) y) (andN I gs x (notP y)) (andN I (andL gs x (notP y)) (notP x) y)))
  clear k1 k2
  generalize andN I gs x (notP y) = p1 at *
  generalize andL gs x (notP y) = L1 at *
  generalize andN I L1 (notP x) y = p2 at *
  generalize andL L1 (notP x) y = L2 at *
  generalize orN I L2 p1 p2 = p3 at *
  generalize orL L2 p1 p2 = L3 at *
  clear hI hck hr hc hA hn hx bdx lx hy bdy ly
  have HB0 := Lib.hid (((Below.refl w.heap.size w).alloc (Nat.le_refl _) (.cells #[.int .i64 I, .slice A gs.length c, .int .i64 0] 32)).alloc (by simp) (.cells #[.int .i64 0, .slice none 0 0, .int .i64 0] 32))
  have HO0 := Lib.hid (show RBx ((w.alloc (.cells #[.int .i64 I, .slice A gs.length c, .int .i64 0] 32)).alloc (.cells #[.int .i64 0, .slice none 0 0, .int .i64 0] 32)) (w.heap.size + 1) 0 none 0 0 0 from by
    have := RBx.new (w.alloc (.cells #[.int .i64 I, .slice A gs.length c, .int .i64 0] 32)) 0 none 0 0 0
    rwa [show (w.alloc (.cells #[.int .i64 I, .slice A gs.length c, .int .i64 0] 32)).heap.size = w.heap.size + 1 by simp] at this)
  have HP0 := Lib.hid (show RBx ((w.alloc (.cells #[.int .i64 I, .slice A gs.length c, .int .i64 0] 32)).alloc (.cells #[.int .i64 0, .slice none 0 0, .int .i64 0] 32)) w.heap.size I A gs.length c 0 from (heap_alloc_old _ _ (by simp)).trans (RBx.new w I A gs.length c 0))
  go_enter Try.func53, Try.ntmps53
  go_upto_region 1 with fail
  generalize hgw : (w.alloc (.cells #[.int .i64 I, .slice A gs.length c, .int .i64 0] 32)).alloc (.cells #[.int .i64 0, .slice none 0 0, .int .i64 0] 32) = w2 at *
  clear hgw
  have HD := Lib.hid (show w.heap.size ≤ w.heap.size + 1 ∧ w.heap.size ≠ w.heap.size + 1 from by omega)
  generalize w.heap.size + 1 = ob at *
  obtain ⟨pb, HPE⟩ : ∃ pb, Hid (pb = w.heap.size) := ⟨_, Lib.hid rfl⟩
  have HP0 := Lib.hid (show RBx w2 pb I A gs.length c 0 by rw [HPE.out]; exact HP0.out)
  have HD := Lib.hid (show w.heap.size ≤ pb ∧ w.heap.size ≤ ob ∧ pb ≠ ob by rw [HPE.out]; exact ⟨Nat.le_refl _, HD.out⟩)
  rw [← HPE.out]
  obtain ⟨q0, q1, q2⟩ := HP0.out.cells
  go_wp2_with (fail)
  clear q0 q1 q2
  refine (HLx.out _).mono ?_
  rintro e w3 ⟨rfl, hb⟩
  have HP3 := Lib.hid (HP0.out.later hb)
  have HO3 := Lib.hid (HO0.out.later hb)
  have HB3 := Lib.hid (HB0.out.trans (hb.mono HB0.out.size))
  clear hb
  obtain ⟨q0, q1, q2⟩ := HP3.out.cells
  go_wp2_with (fail)
  clear q0 q1 q2
  refine (HLy.out _).mono ?_
  rintro e w4 ⟨rfl, hb⟩
  have HP4 := Lib.hid (HP3.out.later hb)
  have HO4 := Lib.hid (HO3.out.later hb)
  have HB4 := Lib.hid (HB3.out.trans (hb.mono HB3.out.size))
  clear hb
  obtain ⟨q0, q1, q2⟩ := HP4.out.cells
  go_upto_region 6 with fail
  clear q0 q1 q2
  have hd := (show Below w4.heap.size w4 w4.drew from (Below.refl _ _).drew)
  replace HP4 := Lib.hid (HP4.out.later hd)
  replace HO4 := Lib.hid (HO4.out.later hd)
  replace HB4 := Lib.hid (HB4.out.trans (hd.mono HB4.out.size))
  clear hd
  refine wp_region_noPanic ?_
  refine wp_region_held_drew (S := fun w' => True) (by kernel_rfl) trivial (fun _ => ?_)
  generalize w4.drew = w4 at *
  refine wpAnyH_take (i := 1) (oi := { dst := some 30, op := Op.move (Operand.tmp 1), type := 3, pos := "ref.go:104", after := #[], guard := none }) (v := .int .i64 x) rfl (by kernel_rfl) (by kernel_rfl) (by kernel_rfl) (fun _ _ _ h => h) (Or.inl ⟨by rfl, ?_⟩) trivial ?_
  · (intro w' hSw; go_simp)
  simp only [Act.put, List.setIfInBounds_toArray, List.set_cons_zero, List.set_cons_succ]
  refine wpAnyH_take (i := 2) (oi := { dst := some 31, op := Op.move (Operand.tmp 2), type := 3, pos := "ref.go:104", after := #[], guard := none }) (v := .int .i64 y) rfl (by kernel_rfl) (by kernel_rfl) (by kernel_rfl) (fun _ _ _ h => h) (Or.inl ⟨by rfl, ?_⟩) trivial ?_
  · (intro w' hSw; go_simp)
  simp only [Act.put, List.setIfInBounds_toArray, List.set_cons_zero, List.set_cons_succ]
  refine wpAnyH_ready (rs := [0, 3]) (by kernel_rfl) (by simp) (AllReadyH.cons (o := { dst := some 29, op := Op.load 32 (Operand.tmp 3), type := 32, pos := "ref.go:104", after := #[], guard := none }) rfl (fun K hK => ?_) (AllReadyH.cons (o := { dst := some 32, op := Op.call { callee := Callee.value (Operand.func 19), args := #[Operand.tmp 31], argTypes := #[3] }, type := 3, pos := "ref.go:104", after := #[{ on := 2, ground := Ground.data }], guard := none }) rfl (fun K hK => ?_) AllReadyH.nil))
  · obtain ⟨q0, q1, q2⟩ := HP4.out.cells
    go_simp
    clear q0 q1 q2
    refine hK.out _ _ trivial (fun _ => ?_)
    clear hK K
    try simp only [Act.put, List.setIfInBounds_toArray, List.set_cons_zero, List.set_cons_succ]
    refine wpAnyH_ready (rs := [3]) (by kernel_rfl) (by simp) (AllReadyH.cons (o := { dst := some 32, op := Op.call { callee := Callee.value (Operand.func 19), args := #[Operand.tmp 31], argTypes := #[3] }, type := 3, pos := "ref.go:104", after := #[{ on := 2, ground := Ground.data }], guard := none }) rfl (fun K hK => ?_) AllReadyH.nil)
    go_simp
    go_at_call 19
    refine (HNy.out _).mono ?_
    rintro e wx ⟨rfl, hwx⟩
    obtain rfl := hwx.symm
    refine hK.out _ _ trivial (fun _ => ?_)
    clear hK K
    try simp only [Act.put, List.setIfInBounds_toArray, List.set_cons_zero, List.set_cons_succ]
    refine wpAnyH_ready (rs := [4]) (by kernel_rfl) (by simp) (AllReadyH.cons (o := { dst := some 33, op := Op.call { callee := Callee.value (Operand.func 51), args := #[Operand.tmp 29, Operand.tmp 30, Operand.tmp 32], argTypes := #[32, 3, 3] }, type := 37, pos := "ref.go:104", after := #[{ on := 0, ground := Ground.data }, { on := 1, ground := Ground.data }, { on := 3, ground := Ground.data }, { on := 3, ground := Ground.chain }], guard := none }) rfl (fun K hK => ?_) AllReadyH.nil)
    go_simp
    go_at_call 51
    refine (HAND.out _ HB4.out).mono ?_
    rintro e w5 ⟨A5, c5, rfl, hrow, hle, hnil, hor, hb⟩
    have HP5 := Lib.hid (HP4.out.later hb)
    have HO5 := Lib.hid (HO4.out.later hb)
    have HB5 := Lib.hid (HB4.out.trans (hb.mono HB4.out.size))
    have HR5 := Lib.hid hrow
    have HLE5 := Lib.hid hle
    have HNL5 := Lib.hid hnil
    have HXX5 := Lib.hid (show ∀ a, A5 = some a → a.block ≠ ob ∧ a.block ≠ pb ∧ (A = some a ∨ w.heap.size ≤ a.block) from fun a ha => by
      rcases hor a ha with h1 | h1
      · have h2 := HXA.out a h1; have h3 := HD.out; exact ⟨by omega, by omega, .inl h1⟩
      · have h2 := Go.Proofs.Ytbcabnbgkicfdaa.hlt HP4.out; have h3 := Go.Proofs.Ytbcabnbgkicfdaa.hlt HO4.out; have h4 := HB4.out.size; exact ⟨by omega, by omega, .inr (by omega)⟩)
    clear hb hrow hle hnil hor
    refine hK.out _ _ trivial (fun _ => ?_)
    clear hK K
    try simp only [Act.put, List.setIfInBounds_toArray, List.set_cons_zero, List.set_cons_succ]
    refine wpAnyH_take (i := 5) (oi := { dst := some 28, op := Op.move (Operand.tmp 33), type := 37, pos := "ref.go:104", after := #[{ on := 4, ground := Ground.data }], guard := none }) (v := .tuple #[.agg #[.int .i64 I, .slice A5 L1.length c5, .int .i64 0], .int .i64 p1]) rfl (by kernel_rfl) (by kernel_rfl) (by kernel_rfl) (fun _ _ _ h => h) (Or.inl ⟨by rfl, ?_⟩) trivial ?_
    · (intro w' hSw; go_simp)
    simp only [Act.put, List.setIfInBounds_toArray, List.set_cons_zero, List.set_cons_succ]
    refine wpAnyH_take (i := 6) (oi := { dst := some 34, op := Op.extract (Operand.tmp 28) 0, type := 32, pos := "ref.go:104", after := #[{ on := 5, ground := Ground.data }], guard := none }) (v := .agg #[.int .i64 I, .slice A5 L1.length c5, .int .i64 0]) rfl (by kernel_rfl) (by kernel_rfl) (by kernel_rfl) (fun _ _ _ h => h) (Or.inl ⟨by rfl, ?_⟩) trivial ?_
    · (intro w' hSw; go_simp)
    simp only [Act.put, List.setIfInBounds_toArray, List.set_cons_zero, List.set_cons_succ]
    refine wpAnyH_take (i := 7) (oi := { dst := some 35, op := Op.extract (Operand.tmp 28) 1, type := 3, pos := "ref.go:104", after := #[{ on := 5, ground := Ground.data }, { on := 8, ground := Ground.gcOnly Departure.lateStores }], guard := none }) (v := .int .i64 p1) rfl (by kernel_rfl) (by kernel_rfl) (by kernel_rfl) (fun _ _ _ h => h) (Or.inl ⟨by rfl, ?_⟩) trivial ?_
    · (intro w' hSw; go_simp)
    simp only [Act.put, List.setIfInBounds_toArray, List.set_cons_zero, List.set_cons_succ]
    refine wpAnyH_ready (rs := [8]) (by kernel_rfl) (by simp) (AllReadyH.cons (o := { dst := none, op := Op.store 32 (Operand.tmp 3) (Operand.tmp 34), type := 0, pos := "ref.go:104", after := #[{ on := 6, ground := Ground.data }, { on := 4, ground := Ground.chain }, { on := 0, ground := Ground.phase }, { on := 1, ground := Ground.phase }, { on := 2, ground := Ground.phase }, { on := 3, ground := Ground.phase }, { on := 4, ground := Ground.phase }, { on := 5, ground := Ground.phase }, { on := 6, ground := Ground.phase }, { on := 7, ground := Ground.textOnly Departure.lateStores }], guard := none }) rfl (fun K hK => ?_) AllReadyH.nil)
    obtain ⟨q0, q1, q2⟩ := HP5.out.cells
    have t0 := HP5.out.frz 0
    have t1 := HP5.out.frz 1
    have t2 := HP5.out.frz 2
    have HP6 := Lib.hid (HP5.out.put I A5 L1.length c5 0)
    have HO6 := Lib.hid (show RBx (((w5.setCell ⟨pb, 0, none⟩ (.int .i64 I)).setCell ⟨pb, 1, none⟩ (.slice A5 (L1.length) c5)).setCell ⟨pb, 2, none⟩ (.int .i64 0)) ob 0 none 0 0 0 from ((HO5.out.far HD.out.2.2 0 _).far HD.out.2.2 1 _).far HD.out.2.2 2 _)
    have HB6 := Lib.hid (put3_below HB5.out HD.out.1 (.int .i64 I) (.slice A5 L1.length c5) (.int .i64 0))
    have HR6 := Lib.hid (row_put (row_put (row_put HR5.out (fun a ha => (HXX5.out a ha).2.1) 0 (.int .i64 I)) (fun a ha => (HXX5.out a ha).2.1) 1 (.slice A5 L1.length c5)) (fun a ha => (HXX5.out a ha).2.1) 2 (.int .i64 0))
    go_simp
    generalize hgw : ((w5.setCell ⟨pb, 0, none⟩ (.int .i64 I)).setCell ⟨pb, 1, none⟩ (.slice A5 (L1.length) c5)).setCell ⟨pb, 2, none⟩ (.int .i64 0) = w6 at *
    clear hgw q0 q1 q2 t0 t1 t2
    refine hK.out _ _ trivial (fun _ => ?_)
    clear hK K
    try simp only [Act.put, List.setIfInBounds_toArray, List.set_cons_zero, List.set_cons_succ]
    refine wpAnyH_take (i := 9) (oi := { dst := some 8, op := Op.assign (Operand.tmp 35), type := 3, pos := "ref.go:104", after := #[{ on := 7, ground := Ground.data }, { on := 8, ground := Ground.chain }, { on := 0, ground := Ground.phase }, { on := 1, ground := Ground.phase }, { on := 2, ground := Ground.phase }, { on := 3, ground := Ground.phase }, { on := 4, ground := Ground.phase }, { on := 5, ground := Ground.phase }, { on := 6, ground := Ground.phase }, { on := 7, ground := Ground.phase }, { on := 8, ground := Ground.phase }], guard := none }) (v := .int .i64 p1) rfl (by kernel_rfl) (by kernel_rfl) (by kernel_rfl) (fun _ _ _ h => h) (Or.inl ⟨by rfl, ?_⟩) trivial ?_
    · (intro w' hSw; go_simp)
    simp only [Act.put, List.setIfInBounds_toArray, List.set_cons_zero, List.set_cons_succ]
    refine wpAnyH_done (by kernel_rfl) ?_ _
    refine NoPanic.normal ?_
    go_upto_region 7 with fail
    have hd := (show Below w6.heap.size w6 w6.drew from (Below.refl _ _).drew)
    replace HP6 := Lib.hid (HP6.out.later hd)
    replace HO6 := Lib.hid (HO6.out.later hd)
    replace HB6 := Lib.hid (HB6.out.trans (hd.mono HB6.out.size))
    replace HR6 := Lib.hid (HR6.out.later hd)
    clear hd
    refine wp_region_noPanic ?_
    refine wp_region_held_drew (S := fun w' => True) (by kernel_rfl) trivial (fun _ => ?_)
    generalize w6.drew = w6 at *
    refine wpAnyH_take (i := 1) (oi := { dst := some 38, op := Op.move (Operand.tmp 1), type := 3, pos := "ref.go:105", after := #[], guard := none }) (v := .int .i64 x) rfl (by kernel_rfl) (by kernel_rfl) (by kernel_rfl) (fun _ _ _ h => h) (Or.inl ⟨by rfl, ?_⟩) trivial ?_
    · (intro w' hSw; go_simp)
    simp only [Act.put, List.setIfInBounds_toArray, List.set_cons_zero, List.set_cons_succ]
    refine wpAnyH_take (i := 3) (oi := { dst := some 40, op := Op.move (Operand.tmp 2), type := 3, pos := "ref.go:105", after := #[], guard := none }) (v := .int .i64 y) rfl (by kernel_rfl) (by kernel_rfl) (by kernel_rfl) (fun _ _ _ h => h) (Or.inl ⟨by rfl, ?_⟩) trivial ?_
    · (intro w' hSw; go_simp)
    simp only [Act.put, List.setIfInBounds_toArray, List.set_cons_zero, List.set_cons_succ]
    refine wpAnyH_ready (rs := [0, 2]) (by kernel_rfl) (by simp) (AllReadyH.cons (o := { dst := some 37, op := Op.load 32 (Operand.tmp 3), type := 32, pos := "ref.go:105", after := #[], guard := none }) rfl (fun K hK => ?_) (AllReadyH.cons (o := { dst := some 39, op := Op.call { callee := Callee.value (Operand.func 19), args := #[Operand.tmp 38], argTypes := #[3] }, type := 3, pos := "ref.go:105", after := #[{ on := 1, ground := Ground.data }], guard := none }) rfl (fun K hK => ?_) AllReadyH.nil))
    · obtain ⟨q0, q1, q2⟩ := HP6.out.cells
      go_simp
      clear q0 q1 q2
      refine hK.out _ _ trivial (fun _ => ?_)
      clear hK K
      try simp only [Act.put, List.setIfInBounds_toArray, List.set_cons_zero, List.set_cons_succ]
      refine wpAnyH_ready (rs := [2]) (by kernel_rfl) (by simp) (AllReadyH.cons (o := { dst := some 39, op := Op.call { callee := Callee.value (Operand.func 19), args := #[Operand.tmp 38], argTypes := #[3] }, type := 3, pos := "ref.go:105", after := #[{ on := 1, ground := Ground.data }], guard := none }) rfl (fun K hK => ?_) AllReadyH.nil)
      go_simp
      go_at_call 19
      refine (HNx.out _).mono ?_
      rintro e wx ⟨rfl, hwx⟩
      obtain rfl := hwx.symm
      refine hK.out _ _ trivial (fun _ => ?_)
      clear hK K
      try simp only [Act.put, List.setIfInBounds_toArray, List.set_cons_zero, List.set_cons_succ]
      refine wpAnyH_ready (rs := [4]) (by kernel_rfl) (by simp) (AllReadyH.cons (o := { dst := some 41, op := Op.call { callee := Callee.value (Operand.func 51), args := #[Operand.tmp 37, Operand.tmp 39, Operand.tmp 40], argTypes := #[32, 3, 3] }, type := 37, pos := "ref.go:105", after := #[{ on := 0, ground := Ground.data }, { on := 2, ground := Ground.data }, { on := 3, ground := Ground.data }, { on := 2, ground := Ground.chain }], guard := none }) rfl (fun K hK => ?_) AllReadyH.nil)
      go_simp
      go_at_call 51
      refine (HAN2.out A5 c5 _ HR6.out HLE5.out HNL5.out).mono ?_
      rintro e w7 ⟨A7, c7, rfl, hrow, hle, hnil, hor, hb⟩
      have HP7 := Lib.hid (HP6.out.later hb)
      have HO7 := Lib.hid (HO6.out.later hb)
      have HB7 := Lib.hid (HB6.out.trans (hb.mono HB6.out.size))
      have HR7 := Lib.hid hrow
      have HLE7 := Lib.hid hle
      have HNL7 := Lib.hid hnil
      have HXX7 := Lib.hid (show ∀ a, A7 = some a → a.block ≠ ob ∧ a.block ≠ pb ∧ (A = some a ∨ w.heap.size ≤ a.block) from fun a ha => by
        rcases hor a ha with h1 | h1
        · exact HXX5.out a h1
        · have h2 := Go.Proofs.Ytbcabnbgkicfdaa.hlt HP6.out; have h3 := Go.Proofs.Ytbcabnbgkicfdaa.hlt HO6.out; have h4 := HB6.out.size; exact ⟨by omega, by omega, .inr (by omega)⟩)
      clear hb hrow hle hnil hor
      refine hK.out _ _ trivial (fun _ => ?_)
      clear hK K
      try simp only [Act.put, List.setIfInBounds_toArray, List.set_cons_zero, List.set_cons_succ]
      refine wpAnyH_take (i := 5) (oi := { dst := some 36, op := Op.move (Operand.tmp 41), type := 37, pos := "ref.go:105", after := #[{ on := 4, ground := Ground.data }], guard := none }) (v := .tuple #[.agg #[.int .i64 I, .slice A7 L2.length c7, .int .i64 0], .int .i64 p2]) rfl (by kernel_rfl) (by kernel_rfl) (by kernel_rfl) (fun _ _ _ h => h) (Or.inl ⟨by rfl, ?_⟩) trivial ?_
      · (intro w' hSw; go_simp)
      simp only [Act.put, List.setIfInBounds_toArray, List.set_cons_zero, List.set_cons_succ]
      refine wpAnyH_take (i := 6) (oi := { dst := some 42, op := Op.extract (Operand.tmp 36) 0, type := 32, pos := "ref.go:105", after := #[{ on := 5, ground := Ground.data }], guard := none }) (v := .agg #[.int .i64 I, .slice A7 L2.length c7, .int .i64 0]) rfl (by kernel_rfl) (by kernel_rfl) (by kernel_rfl) (fun _ _ _ h => h) (Or.inl ⟨by rfl, ?_⟩) trivial ?_
      · (intro w' hSw; go_simp)
      simp only [Act.put, List.setIfInBounds_toArray, List.set_cons_zero, List.set_cons_succ]
      refine wpAnyH_take (i := 7) (oi := { dst := some 43, op := Op.extract (Operand.tmp 36) 1, type := 3, pos := "ref.go:105", after := #[{ on := 5, ground := Ground.data }, { on := 8, ground := Ground.gcOnly Departure.lateStores }], guard := none }) (v := .int .i64 p2) rfl (by kernel_rfl) (by kernel_rfl) (by kernel_rfl) (fun _ _ _ h => h) (Or.inl ⟨by rfl, ?_⟩) trivial ?_
      · (intro w' hSw; go_simp)
      simp only [Act.put, List.setIfInBounds_toArray, List.set_cons_zero, List.set_cons_succ]
      refine wpAnyH_ready (rs := [8]) (by kernel_rfl) (by simp) (AllReadyH.cons (o := { dst := none, op := Op.store 32 (Operand.tmp 3) (Operand.tmp 42), type := 0, pos := "ref.go:105", after := #[{ on := 6, ground := Ground.data }, { on := 4, ground := Ground.chain }, { on := 0, ground := Ground.phase }, { on := 1, ground := Ground.phase }, { on := 2, ground := Ground.phase }, { on := 3, ground := Ground.phase }, { on := 4, ground := Ground.phase }, { on := 5, ground := Ground.phase }, { on := 6, ground := Ground.phase }, { on := 7, ground := Ground.textOnly Departure.lateStores }], guard := none }) rfl (fun K hK => ?_) AllReadyH.nil)
      obtain ⟨q0, q1, q2⟩ := HP7.out.cells
      have t0 := HP7.out.frz 0
      have t1 := HP7.out.frz 1
      have t2 := HP7.out.frz 2
      have HP8 := Lib.hid (HP7.out.put I A7 L2.length c7 0)
      have HO8 := Lib.hid (show RBx (((w7.setCell ⟨pb, 0, none⟩ (.int .i64 I)).setCell ⟨pb, 1, none⟩ (.slice A7 (L2.length) c7)).setCell ⟨pb, 2, none⟩ (.int .i64 0)) ob 0 none 0 0 0 from ((HO7.out.far HD.out.2.2 0 _).far HD.out.2.2 1 _).far HD.out.2.2 2 _)
      have HB8 := Lib.hid (put3_below HB7.out HD.out.1 (.int .i64 I) (.slice A7 L2.length c7) (.int .i64 0))
      have HR8 := Lib.hid (row_put (row_put (row_put HR7.out (fun a ha => (HXX7.out a ha).2.1) 0 (.int .i64 I)) (fun a ha => (HXX7.out a ha).2.1) 1 (.slice A7 L2.length c7)) (fun a ha => (HXX7.out a ha).2.1) 2 (.int .i64 0))
      go_simp
      generalize hgw : ((w7.setCell ⟨pb, 0, none⟩ (.int .i64 I)).setCell ⟨pb, 1, none⟩ (.slice A7 (L2.length) c7)).setCell ⟨pb, 2, none⟩ (.int .i64 0) = w8 at *
      clear hgw q0 q1 q2 t0 t1 t2
      refine hK.out _ _ trivial (fun _ => ?_)
      clear hK K
      try simp only [Act.put, List.setIfInBounds_toArray, List.set_cons_zero, List.set_cons_succ]
      refine wpAnyH_take (i := 9) (oi := { dst := some 9, op := Op.assign (Operand.tmp 43), type := 3, pos := "ref.go:105", after := #[{ on := 7, ground := Ground.data }, { on := 8, ground := Ground.chain }, { on := 0, ground := Ground.phase }, { on := 1, ground := Ground.phase }, { on := 2, ground := Ground.phase }, { on := 3, ground := Ground.phase }, { on := 4, ground := Ground.phase }, { on := 5, ground := Ground.phase }, { on := 6, ground := Ground.phase }, { on := 7, ground := Ground.phase }, { on := 8, ground := Ground.phase }], guard := none }) (v := .int .i64 p2) rfl (by kernel_rfl) (by kernel_rfl) (by kernel_rfl) (fun _ _ _ h => h) (Or.inl ⟨by rfl, ?_⟩) trivial ?_
      · (intro w' hSw; go_simp)
      simp only [Act.put, List.setIfInBounds_toArray, List.set_cons_zero, List.set_cons_succ]
      refine wpAnyH_done (by kernel_rfl) ?_ _
      refine NoPanic.normal ?_
      obtain ⟨q0, q1, q2⟩ := HP8.out.cells
      go_wp2_with (fail)
      clear q0 q1 q2
      refine (HOR3.out A7 c7 _ HR8.out HLE7.out HNL7.out).mono ?_
      rintro e w9 ⟨A9, c9, rfl, hrow, hle, hnil, hor, hb⟩
      have HP9 := Lib.hid (HP8.out.later hb)
      have HO9 := Lib.hid (HO8.out.later hb)
      have HB9 := Lib.hid (HB8.out.trans (hb.mono HB8.out.size))
      have HR9 := Lib.hid hrow
      have HLE9 := Lib.hid hle
      have HNL9 := Lib.hid hnil
      have HXX9 := Lib.hid (show ∀ a, A9 = some a → a.block ≠ ob ∧ a.block ≠ pb ∧ (A = some a ∨ w.heap.size ≤ a.block) from fun a ha => by
        rcases hor a ha with h1 | h1
        · exact HXX7.out a h1
        · have h2 := Go.Proofs.Ytbcabnbgkicfdaa.hlt HP8.out; have h3 := Go.Proofs.Ytbcabnbgkicfdaa.hlt HO8.out; have h4 := HB8.out.size; exact ⟨by omega, by omega, .inr (by omega)⟩)
      clear hb hrow hle hnil hor
      obtain ⟨z0, z1, z2⟩ := HO9.out.cells
      have f0 := HO9.out.frz 0
      have f1 := HO9.out.frz 1
      have f2 := HO9.out.frz 2
      go_wp2_with (fail)
      have hq := HO9.out.put I A9 (L3.length) c9 0
      have hbq := put3_below HB9.out HD.out.2.1 (.int .i64 I) (.slice A9 (L3.length) c9) (.int .i64 0)
      obtain ⟨v0, v1, v2⟩ := hq.cells
      have hrq := row_put (row_put (row_put HR9.out (fun a ha => (HXX9.out a ha).1) 0 (.int .i64 I)) (fun a ha => (HXX9.out a ha).1) 1 (.slice A9 (L3.length) c9)) (fun a ha => (HXX9.out a ha).1) 2 (.int .i64 0)
      clear hq f0 f1 f2 z0 z1 z2
      generalize ((w9.setCell ⟨ob, 0, none⟩ (.int .i64 I)).setCell ⟨ob, 1, none⟩ (.slice A9 (L3.length) c9)).setCell ⟨ob, 2, none⟩ (.int .i64 0) = V at *
      exact bodyPost_ret (v := .tuple #[.agg #[.int .i64 I, .slice A9 (L3.length) c9, .int .i64 0], .int .i64 p3]) (by simp [results, Try.results53, go_sem, v0, v1, v2]) rfl ⟨A9, c9, rfl, hrq, HLE9.out, HNL9.out, fun a e => (HXX9.out a e).2.2, hbq⟩
    · go_simp
      go_at_call 19
      refine (HNx.out _).mono ?_
      rintro e wx ⟨rfl, hwx⟩
      obtain rfl := hwx.symm
      refine hK.out _ _ trivial (fun _ => ?_)
      clear hK K
      try simp only [Act.put, List.setIfInBounds_toArray, List.set_cons_zero, List.set_cons_succ]
      refine wpAnyH_ready (rs := [0]) (by kernel_rfl) (by simp) (AllReadyH.cons (o := { dst := some 37, op := Op.load 32 (Operand.tmp 3), type := 32, pos := "ref.go:105", after := #[], guard := none }) rfl (fun K hK => ?_) AllReadyH.nil)
      obtain ⟨q0, q1, q2⟩ := HP6.out.cells
      go_simp
      clear q0 q1 q2
      refine hK.out _ _ trivial (fun _ => ?_)
      clear hK K
      try simp only [Act.put, List.setIfInBounds_toArray, List.set_cons_zero, List.set_cons_succ]
      refine wpAnyH_ready (rs := [4]) (by kernel_rfl) (by simp) (AllReadyH.cons (o := { dst := some 41, op := Op.call { callee := Callee.value (Operand.func 51), args := #[Operand.tmp 37, Operand.tmp 39, Operand.tmp 40], argTypes := #[32, 3, 3] }, type := 37, pos := "ref.go:105", after := #[{ on := 0, ground := Ground.data }, { on := 2, ground := Ground.data }, { on := 3, ground := Ground.data }, { on := 2, ground := Ground.chain }], guard := none }) rfl (fun K hK => ?_) AllReadyH.nil)
      go_simp
      go_at_call 51
      refine (HAN2.out A5 c5 _ HR6.out HLE5.out HNL5.out).mono ?_
      rintro e w7 ⟨A7, c7, rfl, hrow, hle, hnil, hor, hb⟩
      have HP7 := Lib.hid (HP6.out.later hb)
      have HO7 := Lib.hid (HO6.out.later hb)
      have HB7 := Lib.hid (HB6.out.trans (hb.mono HB6.out.size))
      have HR7 := Lib.hid hrow
      have HLE7 := Lib.hid hle
      have HNL7 := Lib.hid hnil
      have HXX7 := Lib.hid (show ∀ a, A7 = some a → a.block ≠ ob ∧ a.block ≠ pb ∧ (A = some a ∨ w.heap.size ≤ a.block) from fun a ha => by
        rcases hor a ha with h1 | h1
        · exact HXX5.out a h1
        · have h2 := Go.Proofs.Ytbcabnbgkicfdaa.hlt HP6.out; have h3 := Go.Proofs.Ytbcabnbgkicfdaa.hlt HO6.out; have h4 := HB6.out.size; exact ⟨by omega, by omega, .inr (by omega)⟩)
      clear hb hrow hle hnil hor
      refine hK.out _ _ trivial (fun _ => ?_)
      clear hK K
      try simp only [Act.put, List.setIfInBounds_toArray, List.set_cons_zero, List.set_cons_succ]
      refine wpAnyH_take (i := 5) (oi := { dst := some 36, op := Op.move (Operand.tmp 41), type := 37, pos := "ref.go:105", after := #[{ on := 4, ground := Ground.data }], guard := none }) (v := .tuple #[.agg #[.int .i64 I, .slice A7 L2.length c7, .int .i64 0], .int .i64 p2]) rfl (by kernel_rfl) (by kernel_rfl) (by kernel_rfl) (fun _ _ _ h => h) (Or.inl ⟨by rfl, ?_⟩) trivial ?_
      · (intro w' hSw; go_simp)
      simp only [Act.put, List.setIfInBounds_toArray, List.set_cons_zero, List.set_cons_succ]
      refine wpAnyH_take (i := 6) (oi := { dst := some 42, op := Op.extract (Operand.tmp 36) 0, type := 32, pos := "ref.go:105", after := #[{ on := 5, ground := Ground.data }], guard := none }) (v := .agg #[.int .i64 I, .slice A7 L2.length c7, .int .i64 0]) rfl (by kernel_rfl) (by kernel_rfl) (by kernel_rfl) (fun _ _ _ h => h) (Or.inl ⟨by rfl, ?_⟩) trivial ?_
      · (intro w' hSw; go_simp)
      simp only [Act.put, List.setIfInBounds_toArray, List.set_cons_zero, List.set_cons_succ]
      refine wpAnyH_take (i := 7) (oi := { dst := some 43, op := Op.extract (Operand.tmp 36) 1, type := 3, pos := "ref.go:105", after := #[{ on := 5, ground := Ground.data }, { on := 8, ground := Ground.gcOnly Departure.lateStores }], guard := none }) (v := .int .i64 p2) rfl (by kernel_rfl) (by kernel_rfl) (by kernel_rfl) (fun _ _ _ h => h) (Or.inl ⟨by rfl, ?_⟩) trivial ?_
      · (intro w' hSw; go_simp)
      simp only [Act.put, List.setIfInBounds_toArray, List.set_cons_zero, List.set_cons_succ]
      refine wpAnyH_ready (rs := [8]) (by kernel_rfl) (by simp) (AllReadyH.cons (o := { dst := none, op := Op.store 32 (Operand.tmp 3) (Operand.tmp 42), type := 0, pos := "ref.go:105", after := #[{ on := 6, ground := Ground.data }, { on := 4, ground := Ground.chain }, { on := 0, ground := Ground.phase }, { on := 1, ground := Ground.phase }, { on := 2, ground := Ground.phase }, { on := 3, ground := Ground.phase }, { on := 4, ground := Ground.phase }, { on := 5, ground := Ground.phase }, { on := 6, ground := Ground.phase }, { on := 7, ground := Ground.textOnly Departure.lateStores }], guard := none }) rfl (fun K hK => ?_) AllReadyH.nil)
      obtain ⟨q0, q1, q2⟩ := HP7.out.cells
      have t0 := HP7.out.frz 0
      have t1 := HP7.out.frz 1
      have t2 := HP7.out.frz 2
      have HP8 := Lib.hid (HP7.out.put I A7 L2.length c7 0)
      have HO8 := Lib.hid (show RBx (((w7.setCell ⟨pb, 0, none⟩ (.int .i64 I)).setCell ⟨pb, 1, none⟩ (.slice A7 (L2.length) c7)).setCell ⟨pb, 2, none⟩ (.int .i64 0)) ob 0 none 0 0 0 from ((HO7.out.far HD.out.2.2 0 _).far HD.out.2.2 1 _).far HD.out.2.2 2 _)
      have HB8 := Lib.hid (put3_below HB7.out HD.out.1 (.int .i64 I) (.slice A7 L2.length c7) (.int .i64 0))
      have HR8 := Lib.hid (row_put (row_put (row_put HR7.out (fun a ha => (HXX7.out a ha).2.1) 0 (.int .i64 I)) (fun a ha => (HXX7.out a ha).2.1) 1 (.slice A7 L2.length c7)) (fun a ha => (HXX7.out a ha).2.1) 2 (.int .i64 0))
      go_simp
      generalize hgw : ((w7.setCell ⟨pb, 0, none⟩ (.int .i64 I)).setCell ⟨pb, 1, none⟩ (.slice A7 (L2.length) c7)).setCell ⟨pb, 2, none⟩ (.int .i64 0) = w8 at *
      clear hgw q0 q1 q2 t0 t1 t2
      refine hK.out _ _ trivial (fun _ => ?_)
      clear hK K
      try simp only [Act.put, List.setIfInBounds_toArray, List.set_cons_zero, List.set_cons_succ]
      refine wpAnyH_take (i := 9) (oi := { dst := some 9, op := Op.assign (Operand.tmp 43), type := 3, pos := "ref.go:105", after := #[{ on := 7, ground := Ground.data }, { on := 8, ground := Ground.chain }, { on := 0, ground := Ground.phase }, { on := 1, ground := Ground.phase }, { on := 2, ground := Ground.phase }, { on := 3, ground := Ground.phase }, { on := 4, ground := Ground.phase }, { on := 5, ground := Ground.phase }, { on := 6, ground := Ground.phase }, { on := 7, ground := Ground.phase }, { on := 8, ground := Ground.phase }], guard := none }) (v := .int .i64 p2) rfl (by kernel_rfl) (by kernel_rfl) (by kernel_rfl) (fun _ _ _ h => h) (Or.inl ⟨by rfl, ?_⟩) trivial ?_
      · (intro w' hSw; go_simp)
      simp only [Act.put, List.setIfInBounds_toArray, List.set_cons_zero, List.set_cons_succ]
      refine wpAnyH_done (by kernel_rfl) ?_ _
      refine NoPanic.normal ?_
      obtain ⟨q0, q1, q2⟩ := HP8.out.cells
      go_wp2_with (fail)
      clear q0 q1 q2
      refine (HOR3.out A7 c7 _ HR8.out HLE7.out HNL7.out).mono ?_
      rintro e w9 ⟨A9, c9, rfl, hrow, hle, hnil, hor, hb⟩
      have HP9 := Lib.hid (HP8.out.later hb)
      have HO9 := Lib.hid (HO8.out.later hb)
      have HB9 := Lib.hid (HB8.out.trans (hb.mono HB8.out.size))
      have HR9 := Lib.hid hrow
      have HLE9 := Lib.hid hle
      have HNL9 := Lib.hid hnil
      have HXX9 := Lib.hid (show ∀ a, A9 = some a → a.block ≠ ob ∧ a.block ≠ pb ∧ (A = some a ∨ w.heap.size ≤ a.block) from fun a ha => by
        rcases hor a ha with h1 | h1
        · exact HXX7.out a h1
        · have h2 := Go.Proofs.Ytbcabnbgkicfdaa.hlt HP8.out; have h3 := Go.Proofs.Ytbcabnbgkicfdaa.hlt HO8.out; have h4 := HB8.out.size; exact ⟨by omega, by omega, .inr (by omega)⟩)
      clear hb hrow hle hnil hor
      obtain ⟨z0, z1, z2⟩ := HO9.out.cells
      have f0 := HO9.out.frz 0
      have f1 := HO9.out.frz 1
      have f2 := HO9.out.frz 2
      go_wp2_with (fail)
      have hq := HO9.out.put I A9 (L3.length) c9 0
      have hbq := put3_below HB9.out HD.out.2.1 (.int .i64 I) (.slice A9 (L3.length) c9) (.int .i64 0)
      obtain ⟨v0, v1, v2⟩ := hq.cells
      have hrq := row_put (row_put (row_put HR9.out (fun a ha => (HXX9.out a ha).1) 0 (.int .i64 I)) (fun a ha => (HXX9.out a ha).1) 1 (.slice A9 (L3.length) c9)) (fun a ha => (HXX9.out a ha).1) 2 (.int .i64 0)
      clear hq f0 f1 f2 z0 z1 z2
      generalize ((w9.setCell ⟨ob, 0, none⟩ (.int .i64 I)).setCell ⟨ob, 1, none⟩ (.slice A9 (L3.length) c9)).setCell ⟨ob, 2, none⟩ (.int .i64 0) = V at *
      exact bodyPost_ret (v := .tuple #[.agg #[.int .i64 I, .slice A9 (L3.length) c9, .int .i64 0], .int .i64 p3]) (by simp [results, Try.results53, go_sem, v0, v1, v2]) rfl ⟨A9, c9, rfl, hrq, HLE9.out, HNL9.out, fun a e => (HXX9.out a e).2.2, hbq⟩
  · go_simp
    go_at_call 19
    refine (HNy.out _).mono ?_
    rintro e wx ⟨rfl, hwx⟩
    obtain rfl := hwx.symm
    refine hK.out _ _ trivial (fun _ => ?_)
    clear hK K
    try simp only [Act.put, List.setIfInBounds_toArray, List.set_cons_zero, List.set_cons_succ]
    refine wpAnyH_ready (rs := [0]) (by kernel_rfl) (by simp) (AllReadyH.cons (o := { dst := some 29, op := Op.load 32 (Operand.tmp 3), type := 32, pos := "ref.go:104", after := #[], guard := none }) rfl (fun K hK => ?_) AllReadyH.nil)
    obtain ⟨q0, q1, q2⟩ := HP4.out.cells
    go_simp
    clear q0 q1 q2
    refine hK.out _ _ trivial (fun _ => ?_)
    clear hK K
    try simp only [Act.put, List.setIfInBounds_toArray, List.set_cons_zero, List.set_cons_succ]
    refine wpAnyH_ready (rs := [4]) (by kernel_rfl) (by simp) (AllReadyH.cons (o := { dst := some 33, op := Op.call { callee := Callee.value (Operand.func 51), args := #[Operand.tmp 29, Operand.tmp 30, Operand.tmp 32], argTypes := #[32, 3, 3] }, type := 37, pos := "ref.go:104", after := #[{ on := 0, ground := Ground.data }, { on := 1, ground := Ground.data }, { on := 3, ground := Ground.data }, { on := 3, ground := Ground.chain }], guard := none }) rfl (fun K hK => ?_) AllReadyH.nil)
    go_simp
    go_at_call 51
    refine (HAND.out _ HB4.out).mono ?_
    rintro e w5 ⟨A5, c5, rfl, hrow, hle, hnil, hor, hb⟩
    have HP5 := Lib.hid (HP4.out.later hb)
    have HO5 := Lib.hid (HO4.out.later hb)
    have HB5 := Lib.hid (HB4.out.trans (hb.mono HB4.out.size))
    have HR5 := Lib.hid hrow
    have HLE5 := Lib.hid hle
    have HNL5 := Lib.hid hnil
    have HXX5 := Lib.hid (show ∀ a, A5 = some a → a.block ≠ ob ∧ a.block ≠ pb ∧ (A = some a ∨ w.heap.size ≤ a.block) from fun a ha => by
      rcases hor a ha with h1 | h1
      · have h2 := HXA.out a h1; have h3 := HD.out; exact ⟨by omega, by omega, .inl h1⟩
      · have h2 := Go.Proofs.Ytbcabnbgkicfdaa.hlt HP4.out; have h3 := Go.Proofs.Ytbcabnbgkicfdaa.hlt HO4.out; have h4 := HB4.out.size; exact ⟨by omega, by omega, .inr (by omega)⟩)
    clear hb hrow hle hnil hor
    refine hK.out _ _ trivial (fun _ => ?_)
    clear hK K
    try simp only [Act.put, List.setIfInBounds_toArray, List.set_cons_zero, List.set_cons_succ]
    refine wpAnyH_take (i := 5) (oi := { dst := some 28, op := Op.move (Operand.tmp 33), type := 37, pos := "ref.go:104", after := #[{ on := 4, ground := Ground.data }], guard := none }) (v := .tuple #[.agg #[.int .i64 I, .slice A5 L1.length c5, .int .i64 0], .int .i64 p1]) rfl (by kernel_rfl) (by kernel_rfl) (by kernel_rfl) (fun _ _ _ h => h) (Or.inl ⟨by rfl, ?_⟩) trivial ?_
    · (intro w' hSw; go_simp)
    simp only [Act.put, List.setIfInBounds_toArray, List.set_cons_zero, List.set_cons_succ]
    refine wpAnyH_take (i := 6) (oi := { dst := some 34, op := Op.extract (Operand.tmp 28) 0, type := 32, pos := "ref.go:104", after := #[{ on := 5, ground := Ground.data }], guard := none }) (v := .agg #[.int .i64 I, .slice A5 L1.length c5, .int .i64 0]) rfl (by kernel_rfl) (by kernel_rfl) (by kernel_rfl) (fun _ _ _ h => h) (Or.inl ⟨by rfl, ?_⟩) trivial ?_
    · (intro w' hSw; go_simp)
    simp only [Act.put, List.setIfInBounds_toArray, List.set_cons_zero, List.set_cons_succ]
    refine wpAnyH_take (i := 7) (oi := { dst := some 35, op := Op.extract (Operand.tmp 28) 1, type := 3, pos := "ref.go:104", after := #[{ on := 5, ground := Ground.data }, { on := 8, ground := Ground.gcOnly Departure.lateStores }], guard := none }) (v := .int .i64 p1) rfl (by kernel_rfl) (by kernel_rfl) (by kernel_rfl) (fun _ _ _ h => h) (Or.inl ⟨by rfl, ?_⟩) trivial ?_
    · (intro w' hSw; go_simp)
    simp only [Act.put, List.setIfInBounds_toArray, List.set_cons_zero, List.set_cons_succ]
    refine wpAnyH_ready (rs := [8]) (by kernel_rfl) (by simp) (AllReadyH.cons (o := { dst := none, op := Op.store 32 (Operand.tmp 3) (Operand.tmp 34), type := 0, pos := "ref.go:104", after := #[{ on := 6, ground := Ground.data }, { on := 4, ground := Ground.chain }, { on := 0, ground := Ground.phase }, { on := 1, ground := Ground.phase }, { on := 2, ground := Ground.phase }, { on := 3, ground := Ground.phase }, { on := 4, ground := Ground.phase }, { on := 5, ground := Ground.phase }, { on := 6, ground := Ground.phase }, { on := 7, ground := Ground.textOnly Departure.lateStores }], guard := none }) rfl (fun K hK => ?_) AllReadyH.nil)
    obtain ⟨q0, q1, q2⟩ := HP5.out.cells
    have t0 := HP5.out.frz 0
    have t1 := HP5.out.frz 1
    have t2 := HP5.out.frz 2
    have HP6 := Lib.hid (HP5.out.put I A5 L1.length c5 0)
    have HO6 := Lib.hid (show RBx (((w5.setCell ⟨pb, 0, none⟩ (.int .i64 I)).setCell ⟨pb, 1, none⟩ (.slice A5 (L1.length) c5)).setCell ⟨pb, 2, none⟩ (.int .i64 0)) ob 0 none 0 0 0 from ((HO5.out.far HD.out.2.2 0 _).far HD.out.2.2 1 _).far HD.out.2.2 2 _)
    have HB6 := Lib.hid (put3_below HB5.out HD.out.1 (.int .i64 I) (.slice A5 L1.length c5) (.int .i64 0))
    have HR6 := Lib.hid (row_put (row_put (row_put HR5.out (fun a ha => (HXX5.out a ha).2.1) 0 (.int .i64 I)) (fun a ha => (HXX5.out a ha).2.1) 1 (.slice A5 L1.length c5)) (fun a ha => (HXX5.out a ha).2.1) 2 (.int .i64 0))
    go_simp
    generalize hgw : ((w5.setCell ⟨pb, 0, none⟩ (.int .i64 I)).setCell ⟨pb, 1, none⟩ (.slice A5 (L1.length) c5)).setCell ⟨pb, 2, none⟩ (.int .i64 0) = w6 at *
    clear hgw q0 q1 q2 t0 t1 t2
    refine hK.out _ _ trivial (fun _ => ?_)
    clear hK K
    try simp only [Act.put, List.setIfInBounds_toArray, List.set_cons_zero, List.set_cons_succ]
    refine wpAnyH_take (i := 9) (oi := { dst := some 8, op := Op.assign (Operand.tmp 35), type := 3, pos := "ref.go:104", after := #[{ on := 7, ground := Ground.data }, { on := 8, ground := Ground.chain }, { on := 0, ground := Ground.phase }, { on := 1, ground := Ground.phase }, { on := 2, ground := Ground.phase }, { on := 3, ground := Ground.phase }, { on := 4, ground := Ground.phase }, { on := 5, ground := Ground.phase }, { on := 6, ground := Ground.phase }, { on := 7, ground := Ground.phase }, { on := 8, ground := Ground.phase }], guard := none }) (v := .int .i64 p1) rfl (by kernel_rfl) (by kernel_rfl) (by kernel_rfl) (fun _ _ _ h => h) (Or.inl ⟨by rfl, ?_⟩) trivial ?_
    · (intro w' hSw; go_simp)
    simp only [Act.put, List.setIfInBounds_toArray, List.set_cons_zero, List.set_cons_succ]
    refine wpAnyH_done (by kernel_rfl) ?_ _
    refine NoPanic.normal ?_
    go_upto_region 7 with fail
    have hd := (show Below w6.heap.size w6 w6.drew from (Below.refl _ _).drew)
    replace HP6 := Lib.hid (HP6.out.later hd)
    replace HO6 := Lib.hid (HO6.out.later hd)
    replace HB6 := Lib.hid (HB6.out.trans (hd.mono HB6.out.size))
    replace HR6 := Lib.hid (HR6.out.later hd)
    clear hd
    refine wp_region_noPanic ?_
    refine wp_region_held_drew (S := fun w' => True) (by kernel_rfl) trivial (fun _ => ?_)
    generalize w6.drew = w6 at *
    refine wpAnyH_take (i := 1) (oi := { dst := some 38, op := Op.move (Operand.tmp 1), type := 3, pos := "ref.go:105", after := #[], guard := none }) (v := .int .i64 x) rfl (by kernel_rfl) (by kernel_rfl) (by kernel_rfl) (fun _ _ _ h => h) (Or.inl ⟨by rfl, ?_⟩) trivial ?_
    · (intro w' hSw; go_simp)
    simp only [Act.put, List.setIfInBounds_toArray, List.set_cons_zero, List.set_cons_succ]
    refine wpAnyH_take (i := 3) (oi := { dst := some 40, op := Op.move (Operand.tmp 2), type := 3, pos := "ref.go:105", after := #[], guard := none }) (v := .int .i64 y) rfl (by kernel_rfl) (by kernel_rfl) (by kernel_rfl) (fun _ _ _ h => h) (Or.inl ⟨by rfl, ?_⟩) trivial ?_
    · (intro w' hSw; go_simp)
    simp only [Act.put, List.setIfInBounds_toArray, List.set_cons_zero, List.set_cons_succ]
    refine wpAnyH_ready (rs := [0, 2]) (by kernel_rfl) (by simp) (AllReadyH.cons (o := { dst := some 37, op := Op.load 32 (Operand.tmp 3), type := 32, pos := "ref.go:105", after := #[], guard := none }) rfl (fun K hK => ?_) (AllReadyH.cons (o := { dst := some 39, op := Op.call { callee := Callee.value (Operand.func 19), args := #[Operand.tmp 38], argTypes := #[3] }, type := 3, pos := "ref.go:105", after := #[{ on := 1, ground := Ground.data }], guard := none }) rfl (fun K hK => ?_) AllReadyH.nil))
    · obtain ⟨q0, q1, q2⟩ := HP6.out.cells
      go_simp
      clear q0 q1 q2
      refine hK.out _ _ trivial (fun _ => ?_)
      clear hK K
      try simp only [Act.put, List.setIfInBounds_toArray, List.set_cons_zero, List.set_cons_succ]
      refine wpAnyH_ready (rs := [2]) (by kernel_rfl) (by simp) (AllReadyH.cons (o := { dst := some 39, op := Op.call { callee := Callee.value (Operand.func 19), args := #[Operand.tmp 38], argTypes := #[3] }, type := 3, pos := "ref.go:105", after := #[{ on := 1, ground := Ground.data }], guard := none }) rfl (fun K hK => ?_) AllReadyH.nil)
      go_simp
      go_at_call 19
      refine (HNx.out _).mono ?_
      rintro e wx ⟨rfl, hwx⟩
      obtain rfl := hwx.symm
      refine hK.out _ _ trivial (fun _ => ?_)
      clear hK K
      try simp only [Act.put, List.setIfInBounds_toArray, List.set_cons_zero, List.set_cons_succ]
      refine wpAnyH_ready (rs := [4]) (by kernel_rfl) (by simp) (AllReadyH.cons (o := { dst := some 41, op := Op.call { callee := Callee.value (Operand.func 51), args := #[Operand.tmp 37, Operand.tmp 39, Operand.tmp 40], argTypes := #[32, 3, 3] }, type := 37, pos := "ref.go:105", after := #[{ on := 0, ground := Ground.data }, { on := 2, ground := Ground.data }, { on := 3, ground := Ground.data }, { on := 2, ground := Ground.chain }], guard := none }) rfl (fun K hK => ?_) AllReadyH.nil)
      go_simp
      go_at_call 51
      refine (HAN2.out A5 c5 _ HR6.out HLE5.out HNL5.out).mono ?_
      rintro e w7 ⟨A7, c7, rfl, hrow, hle, hnil, hor, hb⟩
      have HP7 := Lib.hid (HP6.out.later hb)
      have HO7 := Lib.hid (HO6.out.later hb)
      have HB7 := Lib.hid (HB6.out.trans (hb.mono HB6.out.size))
      have HR7 := Lib.hid hrow
      have HLE7 := Lib.hid hle
      have HNL7 := Lib.hid hnil
      have HXX7 := Lib.hid (show ∀ a, A7 = some a → a.block ≠ ob ∧ a.block ≠ pb ∧ (A = some a ∨ w.heap.size ≤ a.block) from fun a ha => by
        rcases hor a ha with h1 | h1
        · exact HXX5.out a h1
        · have h2 := Go.Proofs.Ytbcabnbgkicfdaa.hlt HP6.out; have h3 := Go.Proofs.Ytbcabnbgkicfdaa.hlt HO6.out; have h4 := HB6.out.size; exact ⟨by omega, by omega, .inr (by omega)⟩)
      clear hb hrow hle hnil hor
      refine hK.out _ _ trivial (fun _ => ?_)
      clear hK K
      try simp only [Act.put, List.setIfInBounds_toArray, List.set_cons_zero, List.set_cons_succ]
      refine wpAnyH_take (i := 5) (oi := { dst := some 36, op := Op.move (Operand.tmp 41), type := 37, pos := "ref.go:105", after := #[{ on := 4, ground := Ground.data }], guard := none }) (v := .tuple #[.agg #[.int .i64 I, .slice A7 L2.length c7, .int .i64 0], .int .i64 p2]) rfl (by kernel_rfl) (by kernel_rfl) (by kernel_rfl) (fun _ _ _ h => h) (Or.inl ⟨by rfl, ?_⟩) trivial ?_
      · (intro w' hSw; go_simp)
      simp only [Act.put, List.setIfInBounds_toArray, List.set_cons_zero, List.set_cons_succ]
      refine wpAnyH_take (i := 6) (oi := { dst := some 42, op := Op.extract (Operand.tmp 36) 0, type := 32, pos := "ref.go:105", after := #[{ on := 5, ground := Ground.data }], guard := none }) (v := .agg #[.int .i64 I, .slice A7 L2.length c7, .int .i64 0]) rfl (by kernel_rfl) (by kernel_rfl) (by kernel_rfl) (fun _ _ _ h => h) (Or.inl ⟨by rfl, ?_⟩) trivial ?_
      · (intro w' hSw; go_simp)
      simp only [Act.put, List.setIfInBounds_toArray, List.set_cons_zero, List.set_cons_succ]
      refine wpAnyH_take (i := 7) (oi := { dst := some 43, op := Op.extract (Operand.tmp 36) 1, type := 3, pos := "ref.go:105", after := #[{ on := 5, ground := Ground.data }, { on := 8, ground := Ground.gcOnly Departure.lateStores }], guard := none }) (v := .int .i64 p2) rfl (by kernel_rfl) (by kernel_rfl) (by kernel_rfl) (fun _ _ _ h => h) (Or.inl ⟨by rfl, ?_⟩) trivial ?_
      · (intro w' hSw; go_simp)
      simp only [Act.put, List.setIfInBounds_toArray, List.set_cons_zero, List.set_cons_succ]
      refine wpAnyH_ready (rs := [8]) (by kernel_rfl) (by simp) (AllReadyH.cons (o := { dst := none, op := Op.store 32 (Operand.tmp 3) (Operand.tmp 42), type := 0, pos := "ref.go:105", after := #[{ on := 6, ground := Ground.data }, { on := 4, ground := Ground.chain }, { on := 0, ground := Ground.phase }, { on := 1, ground := Ground.phase }, { on := 2, ground := Ground.phase }, { on := 3, ground := Ground.phase }, { on := 4, ground := Ground.phase }, { on := 5, ground := Ground.phase }, { on := 6, ground := Ground.phase }, { on := 7, ground := Ground.textOnly Departure.lateStores }], guard := none }) rfl (fun K hK => ?_) AllReadyH.nil)
      obtain ⟨q0, q1, q2⟩ := HP7.out.cells
      have t0 := HP7.out.frz 0
      have t1 := HP7.out.frz 1
      have t2 := HP7.out.frz 2
      have HP8 := Lib.hid (HP7.out.put I A7 L2.length c7 0)
      have HO8 := Lib.hid (show RBx (((w7.setCell ⟨pb, 0, none⟩ (.int .i64 I)).setCell ⟨pb, 1, none⟩ (.slice A7 (L2.length) c7)).setCell ⟨pb, 2, none⟩ (.int .i64 0)) ob 0 none 0 0 0 from ((HO7.out.far HD.out.2.2 0 _).far HD.out.2.2 1 _).far HD.out.2.2 2 _)
      have HB8 := Lib.hid (put3_below HB7.out HD.out.1 (.int .i64 I) (.slice A7 L2.length c7) (.int .i64 0))
      have HR8 := Lib.hid (row_put (row_put (row_put HR7.out (fun a ha => (HXX7.out a ha).2.1) 0 (.int .i64 I)) (fun a ha => (HXX7.out a ha).2.1) 1 (.slice A7 L2.length c7)) (fun a ha => (HXX7.out a ha).2.1) 2 (.int .i64 0))
      go_simp
      generalize hgw : ((w7.setCell ⟨pb, 0, none⟩ (.int .i64 I)).setCell ⟨pb, 1, none⟩ (.slice A7 (L2.length) c7)).setCell ⟨pb, 2, none⟩ (.int .i64 0) = w8 at *
      clear hgw q0 q1 q2 t0 t1 t2
      refine hK.out _ _ trivial (fun _ => ?_)
      clear hK K
      try simp only [Act.put, List.setIfInBounds_toArray, List.set_cons_zero, List.set_cons_succ]
      refine wpAnyH_take (i := 9) (oi := { dst := some 9, op := Op.assign (Operand.tmp 43), type := 3, pos := "ref.go:105", after := #[{ on := 7, ground := Ground.data }, { on := 8, ground := Ground.chain }, { on := 0, ground := Ground.phase }, { on := 1, ground := Ground.phase }, { on := 2, ground := Ground.phase }, { on := 3, ground := Ground.phase }, { on := 4, ground := Ground.phase }, { on := 5, ground := Ground.phase }, { on := 6, ground := Ground.phase }, { on := 7, ground := Ground.phase }, { on := 8, ground := Ground.phase }], guard := none }) (v := .int .i64 p2) rfl (by kernel_rfl) (by kernel_rfl) (by kernel_rfl) (fun _ _ _ h => h) (Or.inl ⟨by rfl, ?_⟩) trivial ?_
      · (intro w' hSw; go_simp)
      simp only [Act.put, List.setIfInBounds_toArray, List.set_cons_zero, List.set_cons_succ]
      refine wpAnyH_done (by kernel_rfl) ?_ _
      refine NoPanic.normal ?_
      obtain ⟨q0, q1, q2⟩ := HP8.out.cells
      go_wp2_with (fail)
      clear q0 q1 q2
      refine (HOR3.out A7 c7 _ HR8.out HLE7.out HNL7.out).mono ?_
      rintro e w9 ⟨A9, c9, rfl, hrow, hle, hnil, hor, hb⟩
      have HP9 := Lib.hid (HP8.out.later hb)
      have HO9 := Lib.hid (HO8.out.later hb)
      have HB9 := Lib.hid (HB8.out.trans (hb.mono HB8.out.size))
      have HR9 := Lib.hid hrow
      have HLE9 := Lib.hid hle
      have HNL9 := Lib.hid hnil
      have HXX9 := Lib.hid (show ∀ a, A9 = some a → a.block ≠ ob ∧ a.block ≠ pb ∧ (A = some a ∨ w.heap.size ≤ a.block) from fun a ha => by
        rcases hor a ha with h1 | h1
        · exact HXX7.out a h1
        · have h2 := Go.Proofs.Ytbcabnbgkicfdaa.hlt HP8.out; have h3 := Go.Proofs.Ytbcabnbgkicfdaa.hlt HO8.out; have h4 := HB8.out.size; exact ⟨by omega, by omega, .inr (by omega)⟩)
      clear hb hrow hle hnil hor
      obtain ⟨z0, z1, z2⟩ := HO9.out.cells
      have f0 := HO9.out.frz 0
      have f1 := HO9.out.frz 1
      have f2 := HO9.out.frz 2
      go_wp2_with (fail)
      have hq := HO9.out.put I A9 (L3.length) c9 0
      have hbq := put3_below HB9.out HD.out.2.1 (.int .i64 I) (.slice A9 (L3.length) c9) (.int .i64 0)
      obtain ⟨v0, v1, v2⟩ := hq.cells
      have hrq := row_put (row_put (row_put HR9.out (fun a ha => (HXX9.out a ha).1) 0 (.int .i64 I)) (fun a ha => (HXX9.out a ha).1) 1 (.slice A9 (L3.length) c9)) (fun a ha => (HXX9.out a ha).1) 2 (.int .i64 0)
      clear hq f0 f1 f2 z0 z1 z2
      generalize ((w9.setCell ⟨ob, 0, none⟩ (.int .i64 I)).setCell ⟨ob, 1, none⟩ (.slice A9 (L3.length) c9)).setCell ⟨ob, 2, none⟩ (.int .i64 0) = V at *
      exact bodyPost_ret (v := .tuple #[.agg #[.int .i64 I, .slice A9 (L3.length) c9, .int .i64 0], .int .i64 p3]) (by simp [results, Try.results53, go_sem, v0, v1, v2]) rfl ⟨A9, c9, rfl, hrq, HLE9.out, HNL9.out, fun a e => (HXX9.out a e).2.2, hbq⟩
    · go_simp
      go_at_call 19
      refine (HNx.out _).mono ?_
      rintro e wx ⟨rfl, hwx⟩
      obtain rfl := hwx.symm
      refine hK.out _ _ trivial (fun _ => ?_)
      clear hK K
      try simp only [Act.put, List.setIfInBounds_toArray, List.set_cons_zero, List.set_cons_succ]
      refine wpAnyH_ready (rs := [0]) (by kernel_rfl) (by simp) (AllReadyH.cons (o := { dst := some 37, op := Op.load 32 (Operand.tmp 3), type := 32, pos := "ref.go:105", after := #[], guard := none }) rfl (fun K hK => ?_) AllReadyH.nil)
      obtain ⟨q0, q1, q2⟩ := HP6.out.cells
      go_simp
      clear q0 q1 q2
      refine hK.out _ _ trivial (fun _ => ?_)
      clear hK K
      try simp only [Act.put, List.setIfInBounds_toArray, List.set_cons_zero, List.set_cons_succ]
      refine wpAnyH_ready (rs := [4]) (by kernel_rfl) (by simp) (AllReadyH.cons (o := { dst := some 41, op := Op.call { callee := Callee.value (Operand.func 51), args := #[Operand.tmp 37, Operand.tmp 39, Operand.tmp 40], argTypes := #[32, 3, 3] }, type := 37, pos := "ref.go:105", after := #[{ on := 0, ground := Ground.data }, { on := 2, ground := Ground.data }, { on := 3, ground := Ground.data }, { on := 2, ground := Ground.chain }], guard := none }) rfl (fun K hK => ?_) AllReadyH.nil)
      go_simp
      go_at_call 51
      refine (HAN2.out A5 c5 _ HR6.out HLE5.out HNL5.out).mono ?_
      rintro e w7 ⟨A7, c7, rfl, hrow, hle, hnil, hor, hb⟩
      have HP7 := Lib.hid (HP6.out.later hb)
      have HO7 := Lib.hid (HO6.out.later hb)
      have HB7 := Lib.hid (HB6.out.trans (hb.mono HB6.out.size))
      have HR7 := Lib.hid hrow
      have HLE7 := Lib.hid hle
      have HNL7 := Lib.hid hnil
      have HXX7 := Lib.hid (show ∀ a, A7 = some a → a.block ≠ ob ∧ a.block ≠ pb ∧ (A = some a ∨ w.heap.size ≤ a.block) from fun a ha => by
        rcases hor a ha with h1 | h1
        · exact HXX5.out a h1
        · have h2 := Go.Proofs.Ytbcabnbgkicfdaa.hlt HP6.out; have h3 := Go.Proofs.Ytbcabnbgkicfdaa.hlt HO6.out; have h4 := HB6.out.size; exact ⟨by omega, by omega, .inr (by omega)⟩)
      clear hb hrow hle hnil hor
      refine hK.out _ _ trivial (fun _ => ?_)
      clear hK K
      try simp only [Act.put, List.setIfInBounds_toArray, List.set_cons_zero, List.set_cons_succ]
      refine wpAnyH_take (i := 5) (oi := { dst := some 36, op := Op.move (Operand.tmp 41), type := 37, pos := "ref.go:105", after := #[{ on := 4, ground := Ground.data }], guard := none }) (v := .tuple #[.agg #[.int .i64 I, .slice A7 L2.length c7, .int .i64 0], .int .i64 p2]) rfl (by kernel_rfl) (by kernel_rfl) (by kernel_rfl) (fun _ _ _ h => h) (Or.inl ⟨by rfl, ?_⟩) trivial ?_
      · (intro w' hSw; go_simp)
      simp only [Act.put, List.setIfInBounds_toArray, List.set_cons_zero, List.set_cons_succ]
      refine wpAnyH_take (i := 6) (oi := { dst := some 42, op := Op.extract (Operand.tmp 36) 0, type := 32, pos := "ref.go:105", after := #[{ on := 5, ground := Ground.data }], guard := none }) (v := .agg #[.int .i64 I, .slice A7 L2.length c7, .int .i64 0]) rfl (by kernel_rfl) (by kernel_rfl) (by kernel_rfl) (fun _ _ _ h => h) (Or.inl ⟨by rfl, ?_⟩) trivial ?_
      · (intro w' hSw; go_simp)
      simp only [Act.put, List.setIfInBounds_toArray, List.set_cons_zero, List.set_cons_succ]
      refine wpAnyH_take (i := 7) (oi := { dst := some 43, op := Op.extract (Operand.tmp 36) 1, type := 3, pos := "ref.go:105", after := #[{ on := 5, ground := Ground.data }, { on := 8, ground := Ground.gcOnly Departure.lateStores }], guard := none }) (v := .int .i64 p2) rfl (by kernel_rfl) (by kernel_rfl) (by kernel_rfl) (fun _ _ _ h => h) (Or.inl ⟨by rfl, ?_⟩) trivial ?_
      · (intro w' hSw; go_simp)
      simp only [Act.put, List.setIfInBounds_toArray, List.set_cons_zero, List.set_cons_succ]
      refine wpAnyH_ready (rs := [8]) (by kernel_rfl) (by simp) (AllReadyH.cons (o := { dst := none, op := Op.store 32 (Operand.tmp 3) (Operand.tmp 42), type := 0, pos := "ref.go:105", after := #[{ on := 6, ground := Ground.data }, { on := 4, ground := Ground.chain }, { on := 0, ground := Ground.phase }, { on := 1, ground := Ground.phase }, { on := 2, ground := Ground.phase }, { on := 3, ground := Ground.phase }, { on := 4, ground := Ground.phase }, { on := 5, ground := Ground.phase }, { on := 6, ground := Ground.phase }, { on := 7, ground := Ground.textOnly Departure.lateStores }], guard := none }) rfl (fun K hK => ?_) AllReadyH.nil)
      obtain ⟨q0, q1, q2⟩ := HP7.out.cells
      have t0 := HP7.out.frz 0
      have t1 := HP7.out.frz 1
      have t2 := HP7.out.frz 2
      have HP8 := Lib.hid (HP7.out.put I A7 L2.length c7 0)
      have HO8 := Lib.hid (show RBx (((w7.setCell ⟨pb, 0, none⟩ (.int .i64 I)).setCell ⟨pb, 1, none⟩ (.slice A7 (L2.length) c7)).setCell ⟨pb, 2, none⟩ (.int .i64 0)) ob 0 none 0 0 0 from ((HO7.out.far HD.out.2.2 0 _).far HD.out.2.2 1 _).far HD.out.2.2 2 _)
      have HB8 := Lib.hid (put3_below HB7.out HD.out.1 (.int .i64 I) (.slice A7 L2.length c7) (.int .i64 0))
      have HR8 := Lib.hid (row_put (row_put (row_put HR7.out (fun a ha => (HXX7.out a ha).2.1) 0 (.int .i64 I)) (fun a ha => (HXX7.out a ha).2.1) 1 (.slice A7 L2.length c7)) (fun a ha => (HXX7.out a ha).2.1) 2 (.int .i64 0))
      go_simp
      generalize hgw : ((w7.setCell ⟨pb, 0, none⟩ (.int .i64 I)).setCell ⟨pb, 1, none⟩ (.slice A7 (L2.length) c7)).setCell ⟨pb, 2, none⟩ (.int .i64 0) = w8 at *
      clear hgw q0 q1 q2 t0 t1 t2
      refine hK.out _ _ trivial (fun _ => ?_)
      clear hK K
      try simp only [Act.put, List.setIfInBounds_toArray, List.set_cons_zero, List.set_cons_succ]
      refine wpAnyH_take (i := 9) (oi := { dst := some 9, op := Op.assign (Operand.tmp 43), type := 3, pos := "ref.go:105", after := #[{ on := 7, ground := Ground.data }, { on := 8, ground := Ground.chain }, { on := 0, ground := Ground.phase }, { on := 1, ground := Ground.phase }, { on := 2, ground := Ground.phase }, { on := 3, ground := Ground.phase }, { on := 4, ground := Ground.phase }, { on := 5, ground := Ground.phase }, { on := 6, ground := Ground.phase }, { on := 7, ground := Ground.phase }, { on := 8, ground := Ground.phase }], guard := none }) (v := .int .i64 p2) rfl (by kernel_rfl) (by kernel_rfl) (by kernel_rfl) (fun _ _ _ h => h) (Or.inl ⟨by rfl, ?_⟩) trivial ?_
      · (intro w' hSw; go_simp)
      simp only [Act.put, List.setIfInBounds_toArray, List.set_cons_zero, List.set_cons_succ]
      refine wpAnyH_done (by kernel_rfl) ?_ _
      refine NoPanic.normal ?_
      obtain ⟨q0, q1, q2⟩ := HP8.out.cells
      go_wp2_with (fail)
      clear q0 q1 q2
      refine (HOR3.out A7 c7 _ HR8.out HLE7.out HNL7.out).mono ?_
      rintro e w9 ⟨A9, c9, rfl, hrow, hle, hnil, hor, hb⟩
      have HP9 := Lib.hid (HP8.out.later hb)
      have HO9 := Lib.hid (HO8.out.later hb)
      have HB9 := Lib.hid (HB8.out.trans (hb.mono HB8.out.size))
      have HR9 := Lib.hid hrow
      have HLE9 := Lib.hid hle
      have HNL9 := Lib.hid hnil
      have HXX9 := Lib.hid (show ∀ a, A9 = some a → a.block ≠ ob ∧ a.block ≠ pb ∧ (A = some a ∨ w.heap.size ≤ a.block) from fun a ha => by
        rcases hor a ha with h1 | h1
        · exact HXX7.out a h1
        · have h2 := Go.Proofs.Ytbcabnbgkicfdaa.hlt HP8.out; have h3 := Go.Proofs.Ytbcabnbgkicfdaa.hlt HO8.out; have h4 := HB8.out.size; exact ⟨by omega, by omega, .inr (by omega)⟩)
      clear hb hrow hle hnil hor
      obtain ⟨z0, z1, z2⟩ := HO9.out.cells
      have f0 := HO9.out.frz 0
      have f1 := HO9.out.frz 1
      have f2 := HO9.out.frz 2
      go_wp2_with (fail)
      have hq := HO9.out.put I A9 (L3.length) c9 0
      have hbq := put3_below HB9.out HD.out.2.1 (.int .i64 I) (.slice A9 (L3.length) c9) (.int .i64 0)
      obtain ⟨v0, v1, v2⟩ := hq.cells
      have hrq := row_put (row_put (row_put HR9.out (fun a ha => (HXX9.out a ha).1) 0 (.int .i64 I)) (fun a ha => (HXX9.out a ha).1) 1 (.slice A9 (L3.length) c9)) (fun a ha => (HXX9.out a ha).1) 2 (.int .i64 0)
      clear hq f0 f1 f2 z0 z1 z2
      generalize ((w9.setCell ⟨ob, 0, none⟩ (.int .i64 I)).setCell ⟨ob, 1, none⟩ (.slice A9 (L3.length) c9)).setCell ⟨ob, 2, none⟩ (.int .i64 0) = V at *
      exact bodyPost_ret (v := .tuple #[.agg #[.int .i64 I, .slice A9 (L3.length) c9, .int .i64 0], .int .i64 p3]) (by simp [results, Try.results53, go_sem, v0, v1, v2]) rfl ⟨A9, c9, rfl, hrq, HLE9.out, HNL9.out, fun a e => (HXX9.out a e).2.2, hbq⟩
end
end Go.Proofs.Ytbcabnbgkicfdaa
