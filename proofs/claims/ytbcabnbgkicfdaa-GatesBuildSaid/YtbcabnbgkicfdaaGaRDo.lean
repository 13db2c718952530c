/- What is proved: the reference of package gates: its Do. -/
import Derived.Test.YtbcabnbgkicfdaaGaRXo
import Derived.Test.YtbcabnbgkicfdaaGaRMu
set_option linter.unusedVariables false
set_option linter.unusedSimpArgs false
namespace Go.Proofs.Ytbcabnbgkicfdaa
open Go.RowKit Go.Maps

section
variable {I : Int} {A : Option Addr} {c : Nat} {gs : List Gt} {w : World}
theorem r_Or_any (e0 x y : Int) (hck : CkOk I gs) (hr : GRow w A gs) (hc : gs.length ≤ c) (hA : gs = [] → A = none) (hn : gs.length ≤ 900) :
    Calls Try.prog 52 #[.agg #[.int .i64 I, .slice A gs.length c, .int .i64 e0], .int .i64 x, .int .i64 y] w (RAns I A w (opL e0 (litB I gs.length x && litB I gs.length y) gs (orL gs x y)) (opE e0 (litB I gs.length x && litB I gs.length y)) (opN e0 (litB I gs.length x && litB I gs.length y) (orN I gs x y))) := by
  by_cases h0 : e0 = 0
  · subst h0
    cases h0 : litB I gs.length x with
    | false =>
      have hb : (litB I gs.length x && litB I gs.length y) = false := by simp [h0]
      obtain ⟨e1, e2, e3⟩ := op_bad (orN I gs x y) gs (orL gs x y)
      rw [show (false && litB I gs.length y) = false by simp, e1, e2, e3]
      exact r_Or_bad0 x y ⟨hck.lo, hck.hi⟩ hr hc hA (by omega) h0
    | true =>
      cases h1 : litB I gs.length y with
      | false =>
        have hb : (litB I gs.length x && litB I gs.length y) = false := by simp [h0, h1]
        obtain ⟨e1, e2, e3⟩ := op_bad (orN I gs x y) gs (orL gs x y)
        rw [show (true && false) = false by simp, e1, e2, e3]
        exact r_Or_bad1 x y ⟨hck.lo, hck.hi⟩ hr hc hA (by omega) h0 h1
      | true =>
        obtain ⟨e1, e2, e3⟩ := op_yes (orN I gs x y) gs (orL gs x y)
        rw [show (true && true) = true by simp, e1, e2, e3]
        exact r_Or_yes x y hck hr hc hA (by omega) (litB_iff.1 h0) (litB_iff.1 h1)
  · obtain ⟨e1, e2, e3⟩ := op_err h0 (litB I gs.length x && litB I gs.length y) (orN I gs x y) gs (orL gs x y)
    rw [e1, e2, e3]
    exact r_Or_err e0 x y h0 hr hc hA
theorem r_Xor_any (e0 x y : Int) (hck : CkOk I gs) (hr : GRow w A gs) (hc : gs.length ≤ c) (hA : gs = [] → A = none) (hn : gs.length ≤ 900) :
    Calls Try.prog 53 #[.agg #[.int .i64 I, .slice A gs.length c, .int .i64 e0], .int .i64 x, .int .i64 y] w (RAns I A w (opL e0 (litB I gs.length x && litB I gs.length y) gs (muxL I gs x (notP y) y)) (opE e0 (litB I gs.length x && litB I gs.length y)) (opN e0 (litB I gs.length x && litB I gs.length y) (muxN I gs x (notP y) y))) := by
  by_cases h0 : e0 = 0
  · subst h0
    cases h0 : litB I gs.length x with
    | false =>
      have hb : (litB I gs.length x && litB I gs.length y) = false := by simp [h0]
      obtain ⟨e1, e2, e3⟩ := op_bad (muxN I gs x (notP y) y) gs (muxL I gs x (notP y) y)
      rw [show (false && litB I gs.length y) = false by simp, e1, e2, e3]
      exact r_Xor_bad0 x y ⟨hck.lo, hck.hi⟩ hr hc hA (by omega) h0
    | true =>
      cases h1 : litB I gs.length y with
      | false =>
        have hb : (litB I gs.length x && litB I gs.length y) = false := by simp [h0, h1]
        obtain ⟨e1, e2, e3⟩ := op_bad (muxN I gs x (notP y) y) gs (muxL I gs x (notP y) y)
        rw [show (true && false) = false by simp, e1, e2, e3]
        exact r_Xor_bad1 x y ⟨hck.lo, hck.hi⟩ hr hc hA (by omega) h0 h1
      | true =>
        obtain ⟨e1, e2, e3⟩ := op_yes (muxN I gs x (notP y) y) gs (muxL I gs x (notP y) y)
        rw [show (true && true) = true by simp, e1, e2, e3]
        exact r_Xor_yes x y hck hr hc hA (by omega) (litB_iff.1 h0) (litB_iff.1 h1)
  · obtain ⟨e1, e2, e3⟩ := op_err h0 (litB I gs.length x && litB I gs.length y) (muxN I gs x (notP y) y) gs (muxL I gs x (notP y) y)
    rw [e1, e2, e3]
    exact r_Xor_err e0 x y h0 hr hc hA
theorem r_Mux_any (e0 u x y : Int) (hck : CkOk I gs) (hr : GRow w A gs) (hc : gs.length ≤ c) (hA : gs = [] → A = none) (hn : gs.length ≤ 900) :
    Calls Try.prog 54 #[.agg #[.int .i64 I, .slice A gs.length c, .int .i64 e0], .int .i64 u, .int .i64 x, .int .i64 y] w (RAns I A w (opL e0 (litB I gs.length u && litB I gs.length x && litB I gs.length y) gs (muxL I gs u x y)) (opE e0 (litB I gs.length u && litB I gs.length x && litB I gs.length y)) (opN e0 (litB I gs.length u && litB I gs.length x && litB I gs.length y) (muxN I gs u x y))) := by
  by_cases h0 : e0 = 0
  · subst h0
    cases h0 : litB I gs.length u with
    | false =>
      have hb : (litB I gs.length u && litB I gs.length x && litB I gs.length y) = false := by simp [h0]
      obtain ⟨e1, e2, e3⟩ := op_bad (muxN I gs u x y) gs (muxL I gs u x y)
      rw [show (false && litB I gs.length x && litB I gs.length y) = false by simp, e1, e2, e3]
      exact r_Mux_bad0 u x y ⟨hck.lo, hck.hi⟩ hr hc hA (by omega) h0
    | true =>
      cases h1 : litB I gs.length x with
      | false =>
        have hb : (litB I gs.length u && litB I gs.length x && litB I gs.length y) = false := by simp [h0, h1]
        obtain ⟨e1, e2, e3⟩ := op_bad (muxN I gs u x y) gs (muxL I gs u x y)
        rw [show (true && false && litB I gs.length y) = false by simp, e1, e2, e3]
        exact r_Mux_bad1 u x y ⟨hck.lo, hck.hi⟩ hr hc hA (by omega) h0 h1
      | true =>
        cases h2 : litB I gs.length y with
        | false =>
          have hb : (litB I gs.length u && litB I gs.length x && litB I gs.length y) = false := by simp [h0, h1, h2]
          obtain ⟨e1, e2, e3⟩ := op_bad (muxN I gs u x y) gs (muxL I gs u x y)
          rw [show (true && true && false) = false by simp, e1, e2, e3]
          exact r_Mux_bad2 u x y ⟨hck.lo, hck.hi⟩ hr hc hA (by omega) h0 h1 h2
        | true =>
          obtain ⟨e1, e2, e3⟩ := op_yes (muxN I gs u x y) gs (muxL I gs u x y)
          rw [show (true && true && true) = true by simp, e1, e2, e3]
          exact r_Mux_yes u x y hck hr hc hA (by omega) (litB_iff.1 h0) (litB_iff.1 h1) (litB_iff.1 h2)
  · obtain ⟨e1, e2, e3⟩ := op_err h0 (litB I gs.length u && litB I gs.length x && litB I gs.length y) (muxN I gs u x y) gs (muxL I gs u x y)
    rw [e1, e2, e3]
    exact r_Mux_err e0 u x y h0 hr hc hA
theorem r_Input_ans (e0 i : Int) (hI : 0 ≤ I ∧ I ≤ 1024) (hr : GRow w A gs) (hc : gs.length ≤ c) (hA : gs = [] → A = none) :
    Calls Try.prog 50 #[.agg #[.int .i64 I, .slice A gs.length c, .int .i64 e0], .int .i64 i] w (RAns I A w gs (if e0 = 0 then inE I i else e0) (if e0 = 0 then inN I i else 0)) :=
  (r_Input_any I A gs.length c e0 i hI w).mono fun e w' ⟨h1, h2⟩ => ⟨A, c, h1, hr.later h2, hc, hA, fun a e => .inl e, h2⟩
set_option maxRecDepth 100000 in
set_option maxHeartbeats 8000000 in
theorem r_Do_any (o : Op4) (e0 : Int) (hck : CkOk I gs) (hr : GRow w A gs) (hc : gs.length ≤ c) (hA : gs = [] → A = none) (hn : gs.length ≤ 900) :
    Calls Try.prog 11 #[.agg #[.int .i64 I, .slice A gs.length c, .int .i64 e0], .agg #[.int .i64 o.k, .int .i64 o.a, .int .i64 o.b, .int .i64 o.c]] w (RAns I A w (stL I gs e0 o) (stE I gs e0 o) (stN I gs e0 o)) := by
  obtain ⟨s0, s1, s2, s3, s4⟩ := st_k I gs e0 o
  have HXA := Lib.hid (show ∀ a, A = some a → a.block < w.heap.size from fun a ha => by
    by_cases hg : gs = []
    · rw [hA hg] at ha; cases ha
    · obtain ⟨b, off, h, hlt', _⟩ := hr (List.length_pos_iff.2 hg)
      rw [h] at ha; cases ha; exact hlt')
  by_cases h0 : o.k = 0
  · have d0 : (o.k == 0) = true := by simpa using h0
    have HC := Lib.hid (fun (w' : World) (hb : Below w.heap.size w w') => show Calls Try.prog _ _ w' (RAns I A w' (stL I gs e0 o) (stE I gs e0 o) (stN I gs e0 o)) from by rw [(s0 h0).1, (s0 h0).2.1, (s0 h0).2.2]; exact r_Input_ans e0 o.a ⟨hck.lo, hck.hi⟩ (hr.later hb) hc hA)
    clear s0 s1 s2 s3 s4 h0
    generalize stL I gs e0 o = LL at *
    generalize stE I gs e0 o = ee at *
    generalize stN I gs e0 o = zz at *
    have HB2 := Lib.hid ((((Below.refl w.heap.size w).alloc (Nat.le_refl _) (.cells #[.int .i64 I, .slice A gs.length c, .int .i64 e0] 32)).alloc (by simp) (.cells #[.int .i64 o.k, .int .i64 o.a, .int .i64 o.b, .int .i64 o.c] 36)).alloc (by simp; omega) (.cells #[.int .i64 0, .slice none 0 0, .int .i64 0] 32))
    have HO2 := Lib.hid (show RBx (((w.alloc (.cells #[.int .i64 I, .slice A gs.length c, .int .i64 e0] 32)).alloc (.cells #[.int .i64 o.k, .int .i64 o.a, .int .i64 o.b, .int .i64 o.c] 36)).alloc (.cells #[.int .i64 0, .slice none 0 0, .int .i64 0] 32)) (w.heap.size + 1 + 1) 0 none 0 0 0 from by
      have := RBx.new ((w.alloc (.cells #[.int .i64 I, .slice A gs.length c, .int .i64 e0] 32)).alloc (.cells #[.int .i64 o.k, .int .i64 o.a, .int .i64 o.b, .int .i64 o.c] 36)) 0 none 0 0 0
      rwa [show ((w.alloc (.cells #[.int .i64 I, .slice A gs.length c, .int .i64 e0] 32)).alloc (.cells #[.int .i64 o.k, .int .i64 o.a, .int .i64 o.b, .int .i64 o.c] 36)).heap.size = w.heap.size + 1 + 1 by simp] at this)
    have HX2 := Lib.hid (show OBox (((w.alloc (.cells #[.int .i64 I, .slice A gs.length c, .int .i64 e0] 32)).alloc (.cells #[.int .i64 o.k, .int .i64 o.a, .int .i64 o.b, .int .i64 o.c] 36)).alloc (.cells #[.int .i64 0, .slice none 0 0, .int .i64 0] 32)) (w.heap.size + 1) o from by
      have := heap_alloc_new (w.alloc (.cells #[.int .i64 I, .slice A gs.length c, .int .i64 e0] 32)) (.cells #[.int .i64 o.k, .int .i64 o.a, .int .i64 o.b, .int .i64 o.c] 36)
      rw [show (w.alloc (.cells #[.int .i64 I, .slice A gs.length c, .int .i64 e0] 32)).heap.size = w.heap.size + 1 by simp] at this
      exact (heap_alloc_old _ _ (by simp)).trans this)
    have HP2 := Lib.hid (show RBx (((w.alloc (.cells #[.int .i64 I, .slice A gs.length c, .int .i64 e0] 32)).alloc (.cells #[.int .i64 o.k, .int .i64 o.a, .int .i64 o.b, .int .i64 o.c] 36)).alloc (.cells #[.int .i64 0, .slice none 0 0, .int .i64 0] 32)) w.heap.size I A gs.length c e0 from (heap_alloc_old _ _ (by simp; omega)).trans ((heap_alloc_old _ _ (by simp)).trans (RBx.new w I A gs.length c e0)))
    clear hr hc hA hck hn
    go_enter Try.func11, Try.ntmps11
    go_upto_region 1 with fail
    generalize hgw : ((w.alloc (.cells #[.int .i64 I, .slice A gs.length c, .int .i64 e0] 32)).alloc (.cells #[.int .i64 o.k, .int .i64 o.a, .int .i64 o.b, .int .i64 o.c] 36)).alloc (.cells #[.int .i64 0, .slice none 0 0, .int .i64 0] 32) = w2 at *
    clear hgw
    have HD := Lib.hid (show w.heap.size ≤ w.heap.size + 1 + 1 ∧ w.heap.size ≠ w.heap.size + 1 + 1 from by omega)
    generalize w.heap.size + 1 + 1 = ob at *
    generalize w.heap.size + 1 = xb at *
    obtain ⟨pb, HPE⟩ : ∃ pb, Hid (pb = w.heap.size) := ⟨_, Lib.hid rfl⟩
    have HP2 := Lib.hid (show RBx w2 pb I A gs.length c e0 by rw [HPE.out]; exact HP2.out)
    have HD := Lib.hid (show w.heap.size ≤ pb ∧ w.heap.size ≤ ob ∧ pb ≠ ob by rw [HPE.out]; exact ⟨Nat.le_refl _, HD.out⟩)
    rw [← HPE.out]
    obtain ⟨q0, q1, q2⟩ := HP2.out.cells
    obtain ⟨x0, x1, x2, x3⟩ := HX2.out.cells
    go_wp2_with (fail)
    clear q0 q1 q2 x0 x1 x2 x3
    refine (HC.out _ HB2.out).mono ?_
    rintro e w3 ⟨A3, c3, rfl, hrow, hle, hnil, hor, hb⟩
    have HP3 := Lib.hid (HP2.out.later hb)
    have HO3 := Lib.hid (HO2.out.later hb)
    have HB3 := Lib.hid (HB2.out.trans (hb.mono HB2.out.size))
    have HR3 := Lib.hid hrow
    have HLE3 := Lib.hid hle
    have HNL3 := Lib.hid hnil
    have HXX3 := Lib.hid (show ∀ a, A3 = some a → a.block ≠ ob ∧ a.block ≠ pb ∧ (A = some a ∨ w.heap.size ≤ a.block) from fun a ha => by
      rcases hor a ha with h1 | h1
      · have h2 := HXA.out a h1; have h3 := HD.out; exact ⟨by omega, by omega, .inl h1⟩
      · have h2 := Go.Proofs.Ytbcabnbgkicfdaa.hlt HP2.out; have h3 := Go.Proofs.Ytbcabnbgkicfdaa.hlt HO2.out; have h4 := HB2.out.size; exact ⟨by omega, by omega, .inr (by omega)⟩)
    clear hb hrow hle hnil hor
    obtain ⟨z0, z1, z2⟩ := HO3.out.cells
    have f0 := HO3.out.frz 0
    have f1 := HO3.out.frz 1
    have f2 := HO3.out.frz 2
    go_wp2_with (fail)
    have hq := HO3.out.put I A3 (LL.length) c3 ee
    have hbq := put3_below HB3.out HD.out.2.1 (.int .i64 I) (.slice A3 (LL.length) c3) (.int .i64 ee)
    obtain ⟨v0, v1, v2⟩ := hq.cells
    have hrq := row_put (row_put (row_put HR3.out (fun a ha => (HXX3.out a ha).1) 0 (.int .i64 I)) (fun a ha => (HXX3.out a ha).1) 1 (.slice A3 (LL.length) c3)) (fun a ha => (HXX3.out a ha).1) 2 (.int .i64 ee)
    clear hq f0 f1 f2 z0 z1 z2
    generalize ((w3.setCell ⟨ob, 0, none⟩ (.int .i64 I)).setCell ⟨ob, 1, none⟩ (.slice A3 (LL.length) c3)).setCell ⟨ob, 2, none⟩ (.int .i64 ee) = V at *
    exact bodyPost_ret (v := .tuple #[.agg #[.int .i64 I, .slice A3 (LL.length) c3, .int .i64 ee], .int .i64 zz]) (by simp [results, Try.results11, go_sem, v0, v1, v2]) rfl ⟨A3, c3, rfl, hrq, HLE3.out, HNL3.out, fun a e => (HXX3.out a e).2.2, hbq⟩
  by_cases h1 : o.k = 1
  · have d0 : (o.k == 0) = false := by simpa using h0
    have d1 : (o.k == 1) = true := by simpa using h1
    have HC := Lib.hid (fun (w' : World) (hb : Below w.heap.size w w') => show Calls Try.prog _ _ w' (RAns I A w' (stL I gs e0 o) (stE I gs e0 o) (stN I gs e0 o)) from by rw [(s1 h1).1, (s1 h1).2.1, (s1 h1).2.2]; exact r_And_any e0 o.a o.b hck (hr.later hb) hc hA (by omega))
    clear s0 s1 s2 s3 s4 h0 h1
    generalize stL I gs e0 o = LL at *
    generalize stE I gs e0 o = ee at *
    generalize stN I gs e0 o = zz at *
    have HB2 := Lib.hid ((((Below.refl w.heap.size w).alloc (Nat.le_refl _) (.cells #[.int .i64 I, .slice A gs.length c, .int .i64 e0] 32)).alloc (by simp) (.cells #[.int .i64 o.k, .int .i64 o.a, .int .i64 o.b, .int .i64 o.c] 36)).alloc (by simp; omega) (.cells #[.int .i64 0, .slice none 0 0, .int .i64 0] 32))
    have HO2 := Lib.hid (show RBx (((w.alloc (.cells #[.int .i64 I, .slice A gs.length c, .int .i64 e0] 32)).alloc (.cells #[.int .i64 o.k, .int .i64 o.a, .int .i64 o.b, .int .i64 o.c] 36)).alloc (.cells #[.int .i64 0, .slice none 0 0, .int .i64 0] 32)) (w.heap.size + 1 + 1) 0 none 0 0 0 from by
      have := RBx.new ((w.alloc (.cells #[.int .i64 I, .slice A gs.length c, .int .i64 e0] 32)).alloc (.cells #[.int .i64 o.k, .int .i64 o.a, .int .i64 o.b, .int .i64 o.c] 36)) 0 none 0 0 0
      rwa [show ((w.alloc (.cells #[.int .i64 I, .slice A gs.length c, .int .i64 e0] 32)).alloc (.cells #[.int .i64 o.k, .int .i64 o.a, .int .i64 o.b, .int .i64 o.c] 36)).heap.size = w.heap.size + 1 + 1 by simp] at this)
    have HX2 := Lib.hid (show OBox (((w.alloc (.cells #[.int .i64 I, .slice A gs.length c, .int .i64 e0] 32)).alloc (.cells #[.int .i64 o.k, .int .i64 o.a, .int .i64 o.b, .int .i64 o.c] 36)).alloc (.cells #[.int .i64 0, .slice none 0 0, .int .i64 0] 32)) (w.heap.size + 1) o from by
      have := heap_alloc_new (w.alloc (.cells #[.int .i64 I, .slice A gs.length c, .int .i64 e0] 32)) (.cells #[.int .i64 o.k, .int .i64 o.a, .int .i64 o.b, .int .i64 o.c] 36)
      rw [show (w.alloc (.cells #[.int .i64 I, .slice A gs.length c, .int .i64 e0] 32)).heap.size = w.heap.size + 1 by simp] at this
      exact (heap_alloc_old _ _ (by simp)).trans this)
    have HP2 := Lib.hid (show RBx (((w.alloc (.cells #[.int .i64 I, .slice A gs.length c, .int .i64 e0] 32)).alloc (.cells #[.int .i64 o.k, .int .i64 o.a, .int .i64 o.b, .int .i64 o.c] 36)).alloc (.cells #[.int .i64 0, .slice none 0 0, .int .i64 0] 32)) w.heap.size I A gs.length c e0 from (heap_alloc_old _ _ (by simp; omega)).trans ((heap_alloc_old _ _ (by simp)).trans (RBx.new w I A gs.length c e0)))
    clear hr hc hA hck hn
    go_enter Try.func11, Try.ntmps11
    go_upto_region 1 with fail
    generalize hgw : ((w.alloc (.cells #[.int .i64 I, .slice A gs.length c, .int .i64 e0] 32)).alloc (.cells #[.int .i64 o.k, .int .i64 o.a, .int .i64 o.b, .int .i64 o.c] 36)).alloc (.cells #[.int .i64 0, .slice none 0 0, .int .i64 0] 32) = w2 at *
    clear hgw
    have HD := Lib.hid (show w.heap.size ≤ w.heap.size + 1 + 1 ∧ w.heap.size ≠ w.heap.size + 1 + 1 from by omega)
    generalize w.heap.size + 1 + 1 = ob at *
    generalize w.heap.size + 1 = xb at *
    obtain ⟨pb, HPE⟩ : ∃ pb, Hid (pb = w.heap.size) := ⟨_, Lib.hid rfl⟩
    have HP2 := Lib.hid (show RBx w2 pb I A gs.length c e0 by rw [HPE.out]; exact HP2.out)
    have HD := Lib.hid (show w.heap.size ≤ pb ∧ w.heap.size ≤ ob ∧ pb ≠ ob by rw [HPE.out]; exact ⟨Nat.le_refl _, HD.out⟩)
    rw [← HPE.out]
    obtain ⟨q0, q1, q2⟩ := HP2.out.cells
    obtain ⟨x0, x1, x2, x3⟩ := HX2.out.cells
    go_wp2_with (fail)
    clear q0 q1 q2 x0 x1 x2 x3
    refine (HC.out _ HB2.out).mono ?_
    rintro e w3 ⟨A3, c3, rfl, hrow, hle, hnil, hor, hb⟩
    have HP3 := Lib.hid (HP2.out.later hb)
    have HO3 := Lib.hid (HO2.out.later hb)
    have HB3 := Lib.hid (HB2.out.trans (hb.mono HB2.out.size))
    have HR3 := Lib.hid hrow
    have HLE3 := Lib.hid hle
    have HNL3 := Lib.hid hnil
    have HXX3 := Lib.hid (show ∀ a, A3 = some a → a.block ≠ ob ∧ a.block ≠ pb ∧ (A = some a ∨ w.heap.size ≤ a.block) from fun a ha => by
      rcases hor a ha with h1 | h1
      · have h2 := HXA.out a h1; have h3 := HD.out; exact ⟨by omega, by omega, .inl h1⟩
      · have h2 := Go.Proofs.Ytbcabnbgkicfdaa.hlt HP2.out; have h3 := Go.Proofs.Ytbcabnbgkicfdaa.hlt HO2.out; have h4 := HB2.out.size; exact ⟨by omega, by omega, .inr (by omega)⟩)
    clear hb hrow hle hnil hor
    obtain ⟨z0, z1, z2⟩ := HO3.out.cells
    have f0 := HO3.out.frz 0
    have f1 := HO3.out.frz 1
    have f2 := HO3.out.frz 2
    go_wp2_with (fail)
    have hq := HO3.out.put I A3 (LL.length) c3 ee
    have hbq := put3_below HB3.out HD.out.2.1 (.int .i64 I) (.slice A3 (LL.length) c3) (.int .i64 ee)
    obtain ⟨v0, v1, v2⟩ := hq.cells
    have hrq := row_put (row_put (row_put HR3.out (fun a ha => (HXX3.out a ha).1) 0 (.int .i64 I)) (fun a ha => (HXX3.out a ha).1) 1 (.slice A3 (LL.length) c3)) (fun a ha => (HXX3.out a ha).1) 2 (.int .i64 ee)
    clear hq f0 f1 f2 z0 z1 z2
    generalize ((w3.setCell ⟨ob, 0, none⟩ (.int .i64 I)).setCell ⟨ob, 1, none⟩ (.slice A3 (LL.length) c3)).setCell ⟨ob, 2, none⟩ (.int .i64 ee) = V at *
    exact bodyPost_ret (v := .tuple #[.agg #[.int .i64 I, .slice A3 (LL.length) c3, .int .i64 ee], .int .i64 zz]) (by simp [results, Try.results11, go_sem, v0, v1, v2]) rfl ⟨A3, c3, rfl, hrq, HLE3.out, HNL3.out, fun a e => (HXX3.out a e).2.2, hbq⟩
  by_cases h2 : o.k = 2
  · have d0 : (o.k == 0) = false := by simpa using h0
    have d1 : (o.k == 1) = false := by simpa using h1
    have d2 : (o.k == 2) = true := by simpa using h2
    have HC := Lib.hid (fun (w' : World) (hb : Below w.heap.size w w') => show Calls Try.prog _ _ w' (RAns I A w' (stL I gs e0 o) (stE I gs e0 o) (stN I gs e0 o)) from by rw [(s2 h2).1, (s2 h2).2.1, (s2 h2).2.2]; exact r_Or_any e0 o.a o.b hck (hr.later hb) hc hA hn)
    clear s0 s1 s2 s3 s4 h0 h1 h2
    generalize stL I gs e0 o = LL at *
    generalize stE I gs e0 o = ee at *
    generalize stN I gs e0 o = zz at *
    have HB2 := Lib.hid ((((Below.refl w.heap.size w).alloc (Nat.le_refl _) (.cells #[.int .i64 I, .slice A gs.length c, .int .i64 e0] 32)).alloc (by simp) (.cells #[.int .i64 o.k, .int .i64 o.a, .int .i64 o.b, .int .i64 o.c] 36)).alloc (by simp; omega) (.cells #[.int .i64 0, .slice none 0 0, .int .i64 0] 32))
    have HO2 := Lib.hid (show RBx (((w.alloc (.cells #[.int .i64 I, .slice A gs.length c, .int .i64 e0] 32)).alloc (.cells #[.int .i64 o.k, .int .i64 o.a, .int .i64 o.b, .int .i64 o.c] 36)).alloc (.cells #[.int .i64 0, .slice none 0 0, .int .i64 0] 32)) (w.heap.size + 1 + 1) 0 none 0 0 0 from by
      have := RBx.new ((w.alloc (.cells #[.int .i64 I, .slice A gs.length c, .int .i64 e0] 32)).alloc (.cells #[.int .i64 o.k, .int .i64 o.a, .int .i64 o.b, .int .i64 o.c] 36)) 0 none 0 0 0
      rwa [show ((w.alloc (.cells #[.int .i64 I, .slice A gs.length c, .int .i64 e0] 32)).alloc (.cells #[.int .i64 o.k, .int .i64 o.a, .int .i64 o.b, .int .i64 o.c] 36)).heap.size = w.heap.size + 1 + 1 by simp] at this)
    have HX2 := Lib.hid (show OBox (((w.alloc (.cells #[.int .i64 I, .slice A gs.length c, .int .i64 e0] 32)).alloc (.cells #[.int .i64 o.k, .int .i64 o.a, .int .i64 o.b, .int .i64 o.c] 36)).alloc (.cells #[.int .i64 0, .slice none 0 0, .int .i64 0] 32)) (w.heap.size + 1) o from by
      have := heap_alloc_new (w.alloc (.cells #[.int .i64 I, .slice A gs.length c, .int .i64 e0] 32)) (.cells #[.int .i64 o.k, .int .i64 o.a, .int .i64 o.b, .int .i64 o.c] 36)
      rw [show (w.alloc (.cells #[.int .i64 I, .slice A gs.length c, .int .i64 e0] 32)).heap.size = w.heap.size + 1 by simp] at this
      exact (heap_alloc_old _ _ (by simp)).trans this)
    have HP2 := Lib.hid (show RBx (((w.alloc (.cells #[.int .i64 I, .slice A gs.length c, .int .i64 e0] 32)).alloc (.cells #[.int .i64 o.k, .int .i64 o.a, .int .i64 o.b, .int .i64 o.c] 36)).alloc (.cells #[.int .i64 0, .slice none 0 0, .int .i64 0] 32)) w.heap.size I A gs.length c e0 from (heap_alloc_old _ _ (by simp; omega)).trans ((heap_alloc_old _ _ (by simp)).trans (RBx.new w I A gs.length c e0)))
    clear hr hc hA hck hn
    go_enter Try.func11, Try.ntmps11
    go_upto_region 1 with fail
    generalize hgw : ((w.alloc (.cells #[.int .i64 I, .slice A gs.length c, .int .i64 e0] 32)).alloc (.cells #[.int .i64 o.k, .int .i64 o.a, .int .i64 o.b, .int .i64 o.c] 36)).alloc (.cells #[.int .i64 0, .slice none 0 0, .int .i64 0] 32) = w2 at *
    clear hgw
    have HD := Lib.hid (show w.heap.size ≤ w.heap.size + 1 + 1 ∧ w.heap.size ≠ w.heap.size + 1 + 1 from by omega)
    generalize w.heap.size + 1 + 1 = ob at *
    generalize w.heap.size + 1 = xb at *
    obtain ⟨pb, HPE⟩ : ∃ pb, Hid (pb = w.heap.size) := ⟨_, Lib.hid rfl⟩
    have HP2 := Lib.hid (show RBx w2 pb I A gs.length c e0 by rw [HPE.out]; exact HP2.out)
    have HD := Lib.hid (show w.heap.size ≤ pb ∧ w.heap.size ≤ ob ∧ pb ≠ ob by rw [HPE.out]; exact ⟨Nat.le_refl _, HD.out⟩)
    rw [← HPE.out]
    obtain ⟨q0, q1, q2⟩ := HP2.out.cells
    obtain ⟨x0, x1, x2, x3⟩ := HX2.out.cells
    go_wp2_with (fail)
    clear q0 q1 q2 x0 x1 x2 x3
    refine (HC.out _ HB2.out).mono ?_
    rintro e w3 ⟨A3, c3, rfl, hrow, hle, hnil, hor, hb⟩
    have HP3 := Lib.hid (HP2.out.later hb)
    have HO3 := Lib.hid (HO2.out.later hb)
    have HB3 := Lib.hid (HB2.out.trans (hb.mono HB2.out.size))
    have HR3 := Lib.hid hrow
    have HLE3 := Lib.hid hle
    have HNL3 := Lib.hid hnil
    have HXX3 := Lib.hid (show ∀ a, A3 = some a → a.block ≠ ob ∧ a.block ≠ pb ∧ (A = some a ∨ w.heap.size ≤ a.block) from fun a ha => by
      rcases hor a ha with h1 | h1
      · have h2 := HXA.out a h1; have h3 := HD.out; exact ⟨by omega, by omega, .inl h1⟩
      · have h2 := Go.Proofs.Ytbcabnbgkicfdaa.hlt HP2.out; have h3 := Go.Proofs.Ytbcabnbgkicfdaa.hlt HO2.out; have h4 := HB2.out.size; exact ⟨by omega, by omega, .inr (by omega)⟩)
    clear hb hrow hle hnil hor
    obtain ⟨z0, z1, z2⟩ := HO3.out.cells
    have f0 := HO3.out.frz 0
    have f1 := HO3.out.frz 1
    have f2 := HO3.out.frz 2
    go_wp2_with (fail)
    have hq := HO3.out.put I A3 (LL.length) c3 ee
    have hbq := put3_below HB3.out HD.out.2.1 (.int .i64 I) (.slice A3 (LL.length) c3) (.int .i64 ee)
    obtain ⟨v0, v1, v2⟩ := hq.cells
    have hrq := row_put (row_put (row_put HR3.out (fun a ha => (HXX3.out a ha).1) 0 (.int .i64 I)) (fun a ha => (HXX3.out a ha).1) 1 (.slice A3 (LL.length) c3)) (fun a ha => (HXX3.out a ha).1) 2 (.int .i64 ee)
    clear hq f0 f1 f2 z0 z1 z2
    generalize ((w3.setCell ⟨ob, 0, none⟩ (.int .i64 I)).setCell ⟨ob, 1, none⟩ (.slice A3 (LL.length) c3)).setCell ⟨ob, 2, none⟩ (.int .i64 ee) = V at *
    exact bodyPost_ret (v := .tuple #[.agg #[.int .i64 I, .slice A3 (LL.length) c3, .int .i64 ee], .int .i64 zz]) (by simp [results, Try.results11, go_sem, v0, v1, v2]) rfl ⟨A3, c3, rfl, hrq, HLE3.out, HNL3.out, fun a e => (HXX3.out a e).2.2, hbq⟩
  by_cases h3 : o.k = 3
  · have d0 : (o.k == 0) = false := by simpa using h0
    have d1 : (o.k == 1) = false := by simpa using h1
    have d2 : (o.k == 2) = false := by simpa using h2
    have d3 : (o.k == 3) = true := by simpa using h3
    have HC := Lib.hid (fun (w' : World) (hb : Below w.heap.size w w') => show Calls Try.prog _ _ w' (RAns I A w' (stL I gs e0 o) (stE I gs e0 o) (stN I gs e0 o)) from by rw [(s3 h3).1, (s3 h3).2.1, (s3 h3).2.2]; exact r_Xor_any e0 o.a o.b hck (hr.later hb) hc hA hn)
    clear s0 s1 s2 s3 s4 h0 h1 h2 h3
    generalize stL I gs e0 o = LL at *
    generalize stE I gs e0 o = ee at *
    generalize stN I gs e0 o = zz at *
    have HB2 := Lib.hid ((((Below.refl w.heap.size w).alloc (Nat.le_refl _) (.cells #[.int .i64 I, .slice A gs.length c, .int .i64 e0] 32)).alloc (by simp) (.cells #[.int .i64 o.k, .int .i64 o.a, .int .i64 o.b, .int .i64 o.c] 36)).alloc (by simp; omega) (.cells #[.int .i64 0, .slice none 0 0, .int .i64 0] 32))
    have HO2 := Lib.hid (show RBx (((w.alloc (.cells #[.int .i64 I, .slice A gs.length c, .int .i64 e0] 32)).alloc (.cells #[.int .i64 o.k, .int .i64 o.a, .int .i64 o.b, .int .i64 o.c] 36)).alloc (.cells #[.int .i64 0, .slice none 0 0, .int .i64 0] 32)) (w.heap.size + 1 + 1) 0 none 0 0 0 from by
      have := RBx.new ((w.alloc (.cells #[.int .i64 I, .slice A gs.length c, .int .i64 e0] 32)).alloc (.cells #[.int .i64 o.k, .int .i64 o.a, .int .i64 o.b, .int .i64 o.c] 36)) 0 none 0 0 0
      rwa [show ((w.alloc (.cells #[.int .i64 I, .slice A gs.length c, .int .i64 e0] 32)).alloc (.cells #[.int .i64 o.k, .int .i64 o.a, .int .i64 o.b, .int .i64 o.c] 36)).heap.size = w.heap.size + 1 + 1 by simp] at this)
    have HX2 := Lib.hid (show OBox (((w.alloc (.cells #[.int .i64 I, .slice A gs.length c, .int .i64 e0] 32)).alloc (.cells #[.int .i64 o.k, .int .i64 o.a, .int .i64 o.b, .int .i64 o.c] 36)).alloc (.cells #[.int .i64 0, .slice none 0 0, .int .i64 0] 32)) (w.heap.size + 1) o from by
      have := heap_alloc_new (w.alloc (.cells #[.int .i64 I, .slice A gs.length c, .int .i64 e0] 32)) (.cells #[.int .i64 o.k, .int .i64 o.a, .int .i64 o.b, .int .i64 o.c] 36)
      rw [show (w.alloc (.cells #[.int .i64 I, .slice A gs.length c, .int .i64 e0] 32)).heap.size = w.heap.size + 1 by simp] at this
      exact (heap_alloc_old _ _ (by simp)).trans this)
    have HP2 := Lib.hid (show RBx (((w.alloc (.cells #[.int .i64 I, .slice A gs.length c, .int .i64 e0] 32)).alloc (.cells #[.int .i64 o.k, .int .i64 o.a, .int .i64 o.b, .int .i64 o.c] 36)).alloc (.cells #[.int .i64 0, .slice none 0 0, .int .i64 0] 32)) w.heap.size I A gs.length c e0 from (heap_alloc_old _ _ (by simp; omega)).trans ((heap_alloc_old _ _ (by simp)).trans (RBx.new w I A gs.length c e0)))
    clear hr hc hA hck hn
    go_enter Try.func11, Try.ntmps11
    go_upto_region 1 with fail
    generalize hgw : ((w.alloc (.cells #[.int .i64 I, .slice A gs.length c, .int .i64 e0] 32)).alloc (.cells #[.int .i64 o.k, .int .i64 o.a, .int .i64 o.b, .int .i64 o.c] 36)).alloc (.cells #[.int .i64 0, .slice none 0 0, .int .i64 0] 32) = w2 at *
    clear hgw
    have HD := Lib.hid (show w.heap.size ≤ w.heap.size + 1 + 1 ∧ w.heap.size ≠ w.heap.size + 1 + 1 from by omega)
    generalize w.heap.size + 1 + 1 = ob at *
    generalize w.heap.size + 1 = xb at *
    obtain ⟨pb, HPE⟩ : ∃ pb, Hid (pb = w.heap.size) := ⟨_, Lib.hid rfl⟩
    have HP2 := Lib.hid (show RBx w2 pb I A gs.length c e0 by rw [HPE.out]; exact HP2.out)
    have HD := Lib.hid (show w.heap.size ≤ pb ∧ w.heap.size ≤ ob ∧ pb ≠ ob by rw [HPE.out]; exact ⟨Nat.le_refl _, HD.out⟩)
    rw [← HPE.out]
    obtain ⟨q0, q1, q2⟩ := HP2.out.cells
    obtain ⟨x0, x1, x2, x3⟩ := HX2.out.cells
    go_wp2_with (fail)
    clear q0 q1 q2 x0 x1 x2 x3
    refine (HC.out _ HB2.out).mono ?_
    rintro e w3 ⟨A3, c3, rfl, hrow, hle, hnil, hor, hb⟩
    have HP3 := Lib.hid (HP2.out.later hb)
    have HO3 := Lib.hid (HO2.out.later hb)
    have HB3 := Lib.hid (HB2.out.trans (hb.mono HB2.out.size))
    have HR3 := Lib.hid hrow
    have HLE3 := Lib.hid hle
    have HNL3 := Lib.hid hnil
    have HXX3 := Lib.hid (show ∀ a, A3 = some a → a.block ≠ ob ∧ a.block ≠ pb ∧ (A = some a ∨ w.heap.size ≤ a.block) from fun a ha => by
      rcases hor a ha with h1 | h1
      · have h2 := HXA.out a h1; have h3 := HD.out; exact ⟨by omega, by omega, .inl h1⟩
      · have h2 := Go.Proofs.Ytbcabnbgkicfdaa.hlt HP2.out; have h3 := Go.Proofs.Ytbcabnbgkicfdaa.hlt HO2.out; have h4 := HB2.out.size; exact ⟨by omega, by omega, .inr (by omega)⟩)
    clear hb hrow hle hnil hor
    obtain ⟨z0, z1, z2⟩ := HO3.out.cells
    have f0 := HO3.out.frz 0
    have f1 := HO3.out.frz 1
    have f2 := HO3.out.frz 2
    go_wp2_with (fail)
    have hq := HO3.out.put I A3 (LL.length) c3 ee
    have hbq := put3_below HB3.out HD.out.2.1 (.int .i64 I) (.slice A3 (LL.length) c3) (.int .i64 ee)
    obtain ⟨v0, v1, v2⟩ := hq.cells
    have hrq := row_put (row_put (row_put HR3.out (fun a ha => (HXX3.out a ha).1) 0 (.int .i64 I)) (fun a ha => (HXX3.out a ha).1) 1 (.slice A3 (LL.length) c3)) (fun a ha => (HXX3.out a ha).1) 2 (.int .i64 ee)
    clear hq f0 f1 f2 z0 z1 z2
    generalize ((w3.setCell ⟨ob, 0, none⟩ (.int .i64 I)).setCell ⟨ob, 1, none⟩ (.slice A3 (LL.length) c3)).setCell ⟨ob, 2, none⟩ (.int .i64 ee) = V at *
    exact bodyPost_ret (v := .tuple #[.agg #[.int .i64 I, .slice A3 (LL.length) c3, .int .i64 ee], .int .i64 zz]) (by simp [results, Try.results11, go_sem, v0, v1, v2]) rfl ⟨A3, c3, rfl, hrq, HLE3.out, HNL3.out, fun a e => (HXX3.out a e).2.2, hbq⟩
  have d0 : (o.k == 0) = false := by simpa using h0
  have d1 : (o.k == 1) = false := by simpa using h1
  have d2 : (o.k == 2) = false := by simpa using h2
  have d3 : (o.k == 3) = false := by simpa using h3
  have HC := Lib.hid (fun (w' : World) (hb : Below w.heap.size w w') => show Calls Try.prog _ _ w' (RAns I A w' (stL I gs e0 o) (stE I gs e0 o) (stN I gs e0 o)) from by rw [(s4 h0 h1 h2 h3).1, (s4 h0 h1 h2 h3).2.1, (s4 h0 h1 h2 h3).2.2]; exact r_Mux_any e0 o.a o.b o.c hck (hr.later hb) hc hA hn)
  clear s0 s1 s2 s3 s4 h0 h1 h2 h3
  generalize stL I gs e0 o = LL at *
  generalize stE I gs e0 o = ee at *
  generalize stN I gs e0 o = zz at *
  have HB2 := Lib.hid ((((Below.refl w.heap.size w).alloc (Nat.le_refl _) (.cells #[.int .i64 I, .slice A gs.length c, .int .i64 e0] 32)).alloc (by simp) (.cells #[.int .i64 o.k, .int .i64 o.a, .int .i64 o.b, .int .i64 o.c] 36)).alloc (by simp; omega) (.cells #[.int .i64 0, .slice none 0 0, .int .i64 0] 32))
  have HO2 := Lib.hid (show RBx (((w.alloc (.cells #[.int .i64 I, .slice A gs.length c, .int .i64 e0] 32)).alloc (.cells #[.int .i64 o.k, .int .i64 o.a, .int .i64 o.b, .int .i64 o.c] 36)).alloc (.cells #[.int .i64 0, .slice none 0 0, .int .i64 0] 32)) (w.heap.size + 1 + 1) 0 none 0 0 0 from by
    have := RBx.new ((w.alloc (.cells #[.int .i64 I, .slice A gs.length c, .int .i64 e0] 32)).alloc (.cells #[.int .i64 o.k, .int .i64 o.a, .int .i64 o.b, .int .i64 o.c] 36)) 0 none 0 0 0
    rwa [show ((w.alloc (.cells #[.int .i64 I, .slice A gs.length c, .int .i64 e0] 32)).alloc (.cells #[.int .i64 o.k, .int .i64 o.a, .int .i64 o.b, .int .i64 o.c] 36)).heap.size = w.heap.size + 1 + 1 by simp] at this)
  have HX2 := Lib.hid (show OBox (((w.alloc (.cells #[.int .i64 I, .slice A gs.length c, .int .i64 e0] 32)).alloc (.cells #[.int .i64 o.k, .int .i64 o.a, .int .i64 o.b, .int .i64 o.c] 36)).alloc (.cells #[.int .i64 0, .slice none 0 0, .int .i64 0] 32)) (w.heap.size + 1) o from by
    have := heap_alloc_new (w.alloc (.cells #[.int .i64 I, .slice A gs.length c, .int .i64 e0] 32)) (.cells #[.int .i64 o.k, .int .i64 o.a, .int .i64 o.b, .int .i64 o.c] 36)
    rw [show (w.alloc (.cells #[.int .i64 I, .slice A gs.length c, .int .i64 e0] 32)).heap.size = w.heap.size + 1 by simp] at this
    exact (heap_alloc_old _ _ (by simp)).trans this)
  have HP2 := Lib.hid (show RBx (((w.alloc (.cells #[.int .i64 I, .slice A gs.length c, .int .i64 e0] 32)).alloc (.cells #[.int .i64 o.k, .int .i64 o.a, .int .i64 o.b, .int .i64 o.c] 36)).alloc (.cells #[.int .i64 0, .slice none 0 0, .int .i64 0] 32)) w.heap.size I A gs.length c e0 from (heap_alloc_old _ _ (by simp; omega)).trans ((heap_alloc_old _ _ (by simp)).trans (RBx.new w I A gs.length c e0)))
  clear hr hc hA hck hn
  go_enter Try.func11, Try.ntmps11
  go_upto_region 1 with fail
  generalize hgw : ((w.alloc (.cells #[.int .i64 I, .slice A gs.length c, .int .i64 e0] 32)).alloc (.cells #[.int .i64 o.k, .int .i64 o.a, .int .i64 o.b, .int .i64 o.c] 36)).alloc (.cells #[.int .i64 0, .slice none 0 0, .int .i64 0] 32) = w2 at *
  clear hgw
  have HD := Lib.hid (show w.heap.size ≤ w.heap.size + 1 + 1 ∧ w.heap.size ≠ w.heap.size + 1 + 1 from by omega)
  generalize w.heap.size + 1 + 1 = ob at *
  generalize w.heap.size + 1 = xb at *
  obtain ⟨pb, HPE⟩ : ∃ pb, Hid (pb = w.heap.size) := ⟨_, Lib.hid rfl⟩
  have HP2 := Lib.hid (show RBx w2 pb I A gs.length c e0 by rw [HPE.out]; exact HP2.out)
  have HD := Lib.hid (show w.heap.size ≤ pb ∧ w.heap.size ≤ ob ∧ pb ≠ ob by rw [HPE.out]; exact ⟨Nat.le_refl _, HD.out⟩)
  rw [← HPE.out]
  obtain ⟨q0, q1, q2⟩ := HP2.out.cells
  obtain ⟨x0, x1, x2, x3⟩ := HX2.out.cells
  go_wp2_with (fail)
  clear q0 q1 q2 x0 x1 x2 x3
  refine (HC.out _ HB2.out).mono ?_
  rintro e w3 ⟨A3, c3, rfl, hrow, hle, hnil, hor, hb⟩
  have HP3 := Lib.hid (HP2.out.later hb)
  have HO3 := Lib.hid (HO2.out.later hb)
  have HB3 := Lib.hid (HB2.out.trans (hb.mono HB2.out.size))
  have HR3 := Lib.hid hrow
  have HLE3 := Lib.hid hle
  have HNL3 := Lib.hid hnil
  have HXX3 := Lib.hid (show ∀ a, A3 = some a → a.block ≠ ob ∧ a.block ≠ pb ∧ (A = some a ∨ w.heap.size ≤ a.block) from fun a ha => by
    rcases hor a ha with h1 | h1
    · have h2 := HXA.out a h1; have h3 := HD.out; exact ⟨by omega, by omega, .inl h1⟩
    · have h2 := Go.Proofs.Ytbcabnbgkicfdaa.hlt HP2.out; have h3 := Go.Proofs.Ytbcabnbgkicfdaa.hlt HO2.out; have h4 := HB2.out.size; exact ⟨by omega, by omega, .inr (by omega)⟩)
  clear hb hrow hle hnil hor
  obtain ⟨z0, z1, z2⟩ := HO3.out.cells
  have f0 := HO3.out.frz 0
  have f1 := HO3.out.frz 1
  have f2 := HO3.out.frz 2
  go_wp2_with (fail)
  have hq := HO3.out.put I A3 (LL.length) c3 ee
  have hbq := put3_below HB3.out HD.out.2.1 (.int .i64 I) (.slice A3 (LL.length) c3) (.int .i64 ee)
  obtain ⟨v0, v1, v2⟩ := hq.cells
  have hrq := row_put (row_put (row_put HR3.out (fun a ha => (HXX3.out a ha).1) 0 (.int .i64 I)) (fun a ha => (HXX3.out a ha).1) 1 (.slice A3 (LL.length) c3)) (fun a ha => (HXX3.out a ha).1) 2 (.int .i64 ee)
  clear hq f0 f1 f2 z0 z1 z2
  generalize ((w3.setCell ⟨ob, 0, none⟩ (.int .i64 I)).setCell ⟨ob, 1, none⟩ (.slice A3 (LL.length) c3)).setCell ⟨ob, 2, none⟩ (.int .i64 ee) = V at *
  exact bodyPost_ret (v := .tuple #[.agg #[.int .i64 I, .slice A3 (LL.length) c3, .int .i64 ee], .int .i64 zz]) (by simp [results, Try.results11, go_sem, v0, v1, v2]) rfl ⟨A3, c3, rfl, hrq, HLE3.out, HNL3.out, fun a e => (HXX3.out a e).2.2, hbq⟩
end
end Go.Proofs.Ytbcabnbgkicfdaa
