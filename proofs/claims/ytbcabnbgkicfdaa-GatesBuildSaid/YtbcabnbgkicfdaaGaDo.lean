/- What is proved: a step of a builder of package gates. -/
import Derived.Test.YtbcabnbgkicfdaaGaMth
set_option linter.unusedVariables false
namespace Go.Proofs.Ytbcabnbgkicfdaa
open Go.RowKit Go.Maps

/-- a step -/
structure Op4 where
  k : Int
  a : Int
  b : Int
  c : Int
def OBox (w : World) (b : Nat) (o : Op4) : Prop := w.heap[b]? = some (.cells #[.int .i64 o.k, .int .i64 o.a, .int .i64 o.b, .int .i64 o.c] 36 (0, 0))
theorem OBox.cells {w : World} {b : Nat} {o : Op4} (h : OBox w b o) : w.cell? ⟨b, 0, none⟩ = some (.int .i64 o.k) ∧ w.cell? ⟨b, 1, none⟩ = some (.int .i64 o.a) ∧ w.cell? ⟨b, 2, none⟩ = some (.int .i64 o.b) ∧ w.cell? ⟨b, 3, none⟩ = some (.int .i64 o.c) := ⟨Lib.cell_of_heap h 0, Lib.cell_of_heap h 1, Lib.cell_of_heap h 2, Lib.cell_of_heap h 3⟩
def l2B (I : Int) (gs : List Gt) (o : Op4) : Bool := litB I gs.length o.a && litB I gs.length o.b
def l3B (I : Int) (gs : List Gt) (o : Op4) : Bool := litB I gs.length o.a && litB I gs.length o.b && litB I gs.length o.c
def stN (I : Int) (gs : List Gt) (e : Int) (o : Op4) : Int :=
  if o.k = 0 then (if e = 0 then inN I o.a else 0) else if o.k = 1 then opN e (l2B I gs o) (andN I gs o.a o.b) else if o.k = 2 then opN e (l2B I gs o) (orN I gs o.a o.b) else if o.k = 3 then opN e (l2B I gs o) (muxN I gs o.a (notP o.b) o.b) else opN e (l3B I gs o) (muxN I gs o.a o.b o.c)
def stL (I : Int) (gs : List Gt) (e : Int) (o : Op4) : List Gt :=
  if o.k = 0 then gs else if o.k = 1 then opL e (l2B I gs o) gs (andL gs o.a o.b) else if o.k = 2 then opL e (l2B I gs o) gs (orL gs o.a o.b) else if o.k = 3 then opL e (l2B I gs o) gs (muxL I gs o.a (notP o.b) o.b) else opL e (l3B I gs o) gs (muxL I gs o.a o.b o.c)
def stE (I : Int) (gs : List Gt) (e : Int) (o : Op4) : Int :=
  if o.k = 0 then (if e = 0 then inE I o.a else e) else if o.k = 1 ∨ o.k = 2 ∨ o.k = 3 then opE e (l2B I gs o) else opE e (l3B I gs o)
theorem st_k (I : Int) (gs : List Gt) (e : Int) (o : Op4) : (o.k = 0 → stN I gs e o = (if e = 0 then inN I o.a else 0) ∧ stL I gs e o = gs ∧ stE I gs e o = (if e = 0 then inE I o.a else e)) ∧ (o.k = 1 → stN I gs e o = opN e (l2B I gs o) (andN I gs o.a o.b) ∧ stL I gs e o = opL e (l2B I gs o) gs (andL gs o.a o.b) ∧ stE I gs e o = opE e (l2B I gs o)) ∧ (o.k = 2 → stN I gs e o = opN e (l2B I gs o) (orN I gs o.a o.b) ∧ stL I gs e o = opL e (l2B I gs o) gs (orL gs o.a o.b) ∧ stE I gs e o = opE e (l2B I gs o)) ∧ (o.k = 3 → stN I gs e o = opN e (l2B I gs o) (muxN I gs o.a (notP o.b) o.b) ∧ stL I gs e o = opL e (l2B I gs o) gs (muxL I gs o.a (notP o.b) o.b) ∧ stE I gs e o = opE e (l2B I gs o)) ∧ (o.k ≠ 0 → o.k ≠ 1 → o.k ≠ 2 → o.k ≠ 3 → stN I gs e o = opN e (l3B I gs o) (muxN I gs o.a o.b o.c) ∧ stL I gs e o = opL e (l3B I gs o) gs (muxL I gs o.a o.b o.c) ∧ stE I gs e o = opE e (l3B I gs o)) := by
  unfold stN stL stE
  refine ⟨fun h => ?_, fun h => ?_, fun h => ?_, fun h => ?_, fun h0 h1 h2 h3 => ?_⟩
  · rw [if_pos h, if_pos h, if_pos h]; exact ⟨rfl, rfl, rfl⟩
  · simp [h]
  · simp [h]
  · simp [h]
  · simp [h0, h1, h2, h3]
section
variable {w : World} {n₀ bb mb : Nat} {rv : Value} {I : Int} {gs : List Gt}
set_option maxRecDepth 100000 in
set_option maxHeartbeats 4000000 in
theorem do_any (o : Op4) (e0 : Int) (h : Bld w n₀ bb mb rv I gs e0) (hf : gs.length + 3 ≤ 5000) :
    Calls Try.prog 12 #[.pointer (some ⟨bb, 0, none⟩), .agg #[.int .i64 o.k, .int .i64 o.a, .int .i64 o.b, .int .i64 o.c]] w fun e w' => e = .returned (.int .i64 (stN I gs e0 o)) ∧ ∃ rv', BdRes n₀ bb mb rv I (stL I gs e0 o) (stE I gs e0 o) w w' rv' := by
  have hb1 := (Below.refl w.heap.size w).alloc (Nat.le_refl _) (.cells #[.int .i64 o.k, .int .i64 o.a, .int .i64 o.b, .int .i64 o.c] 36)
  have HX1 := Lib.hid (show OBox (w.alloc (.cells #[.int .i64 o.k, .int .i64 o.a, .int .i64 o.b, .int .i64 o.c] 36)) w.heap.size o from heap_alloc_new w _)
  have HB1 := Lib.hid hb1
  have HT1 := Lib.hid (h.later hb1)
  obtain ⟨s0, s1, s2, s3, s4⟩ := st_k I gs e0 o
  clear hb1 h
  by_cases k0 : o.k = 0
  · obtain ⟨q1, q2, q3⟩ := s0 k0
    rw [q1, q2, q3]
    have d0 : (o.k == 0) = true := by simpa using k0
    clear s0 s1 s2 s3 s4 q1 q2 q3 k0
    go_enter Try.func12, Try.ntmps12
    go_upto_region 1 with fail
    generalize hgw : w.alloc (.cells #[.int .i64 o.k, .int .i64 o.a, .int .i64 o.b, .int .i64 o.c] 36) = w1 at *
    clear hgw
    obtain ⟨b0, b1, b2, b3⟩ := HX1.out.cells
    by_cases he : e0 = 0
    · subst he
      have HM := Lib.hid (binput_any o.a HT1.out)
      go_wp2_with (fail)
      refine HM.out.mono ?_
      rintro e w2 ⟨rfl, hr⟩
      have HR := Lib.hid (hr.ahead HB1.out)
      clear hr
      go_wp2_with (fail)
      go_ret
      first | exact ⟨rfl, rv, HR.out⟩ | (rw [if_pos rfl, if_pos rfl]; exact ⟨rfl, rv, HR.out⟩)
    · have HM := Lib.hid (binput_err o.a e0 he HT1.out)
      have HE := Lib.hid he
      clear he
      go_wp2_with (fail)
      refine HM.out.mono ?_
      rintro e w2 ⟨rfl, hw⟩
      obtain rfl := hw.symm
      go_wp2_with (fail)
      go_ret
      first | exact ⟨rfl, rv, BdRes.ahead HB1.out (BdRes.same HT1.out (Below.refl _ _))⟩ | (rw [if_neg HE.out, if_neg HE.out]; exact ⟨rfl, rv, BdRes.ahead HB1.out (BdRes.same HT1.out (Below.refl _ _))⟩)
  have d0 : (o.k == 0) = false := by simpa using k0
  by_cases k1 : o.k = 1
  · obtain ⟨q1, q2, q3⟩ := s1 k1
    have d1 : (o.k == 1) = true := by simpa using k1
    rw [q1, q2, q3]
    clear s0 s1 s2 s3 s4 q1 q2 q3 k0 k1
    go_enter Try.func12, Try.ntmps12
    go_upto_region 1 with fail
    generalize hgw : w.alloc (.cells #[.int .i64 o.k, .int .i64 o.a, .int .i64 o.b, .int .i64 o.c] 36) = w1 at *
    clear hgw
    obtain ⟨b0, b1, b2, b3⟩ := HX1.out.cells
    have HM := Lib.hid (m_And o.a o.b e0 HT1.out (by omega))
    go_wp2_with (fail)
    refine HM.out.mono ?_
    rintro e w2 ⟨rfl, rv2, hr⟩
    have HR := Lib.hid (hr.ahead HB1.out)
    clear hr
    go_wp2_with (fail)
    go_ret
    exact ⟨rfl, rv2, HR.out⟩
  have d1 : (o.k == 1) = false := by simpa using k1
  by_cases k2 : o.k = 2
  · obtain ⟨q1, q2, q3⟩ := s2 k2
    have d2 : (o.k == 2) = true := by simpa using k2
    rw [q1, q2, q3]
    clear s0 s1 s2 s3 s4 q1 q2 q3 k0 k1 k2
    go_enter Try.func12, Try.ntmps12
    go_upto_region 1 with fail
    generalize hgw : w.alloc (.cells #[.int .i64 o.k, .int .i64 o.a, .int .i64 o.b, .int .i64 o.c] 36) = w1 at *
    clear hgw
    obtain ⟨b0, b1, b2, b3⟩ := HX1.out.cells
    have HM := Lib.hid (m_Or o.a o.b e0 HT1.out (by omega))
    go_wp2_with (fail)
    refine HM.out.mono ?_
    rintro e w2 ⟨rfl, rv2, hr⟩
    have HR := Lib.hid (hr.ahead HB1.out)
    clear hr
    go_wp2_with (fail)
    go_ret
    exact ⟨rfl, rv2, HR.out⟩
  have d2 : (o.k == 2) = false := by simpa using k2
  by_cases k3 : o.k = 3
  · obtain ⟨q1, q2, q3⟩ := s3 k3
    have d3 : (o.k == 3) = true := by simpa using k3
    rw [q1, q2, q3]
    clear s0 s1 s2 s3 s4 q1 q2 q3 k0 k1 k2 k3
    go_enter Try.func12, Try.ntmps12
    go_upto_region 1 with fail
    generalize hgw : w.alloc (.cells #[.int .i64 o.k, .int .i64 o.a, .int .i64 o.b, .int .i64 o.c] 36) = w1 at *
    clear hgw
    obtain ⟨b0, b1, b2, b3⟩ := HX1.out.cells
    have HM := Lib.hid (m_Xor o.a o.b e0 HT1.out (by omega))
    go_wp2_with (fail)
    refine HM.out.mono ?_
    rintro e w2 ⟨rfl, rv2, hr⟩
    have HR := Lib.hid (hr.ahead HB1.out)
    clear hr
    go_wp2_with (fail)
    go_ret
    exact ⟨rfl, rv2, HR.out⟩
  have d3 : (o.k == 3) = false := by simpa using k3
  obtain ⟨q1, q2, q3⟩ := s4 k0 k1 k2 k3
  rw [q1, q2, q3]
  clear s0 s1 s2 s3 s4 q1 q2 q3 k0 k1 k2 k3
  go_enter Try.func12, Try.ntmps12
  go_upto_region 1 with fail
  generalize hgw : w.alloc (.cells #[.int .i64 o.k, .int .i64 o.a, .int .i64 o.b, .int .i64 o.c] 36) = w1 at *
  clear hgw
  obtain ⟨b0, b1, b2, b3⟩ := HX1.out.cells
  have HM := Lib.hid (m_Mux o.a o.b o.c e0 HT1.out (by omega))
  go_wp2_with (fail)
  refine HM.out.mono ?_
  rintro e w2 ⟨rfl, rv2, hr⟩
  have HR := Lib.hid (hr.ahead HB1.out)
  clear hr
  go_wp2_with (fail)
  go_ret
  exact ⟨rfl, rv2, HR.out⟩
end
end Go.Proofs.Ytbcabnbgkicfdaa
