/- What is proved: Exclude, by the program and by the document's own function: the same answer; it is symmetric, and false for a mark and itself. -/
import Derived.Test.YtmamajillkajoaaDoorCoMark
set_option linter.unusedVariables false
namespace Go.Proofs.YtmamajillkajoaaDoor
open Go.RowKit

/-- two types in boxes -/
structure TwoB (n : Nat) (a b : TyV) (W : World) : Prop where
  a : TCells W n 0 a
  b : TCells W (n + 1) 0 b
  size : n + 2 ≤ W.heap.size
theorem TwoB.now {n : Nat} {a b : TyV} {W : World} (h : TwoB n a b W) : W.cell? ⟨n, 0, none⟩ = some (.int .i64 a.kind) ∧ W.cell? ⟨n, 1, none⟩ = some (.int .i64 a.len) ∧ W.cell? ⟨n, 2, none⟩ = some (.string a.nm) ∧ W.cell? ⟨n + 1, 0, none⟩ = some (.int .i64 b.kind) ∧ W.cell? ⟨n + 1, 1, none⟩ = some (.int .i64 b.len) ∧ W.cell? ⟨n + 1, 2, none⟩ = some (.string b.nm) :=
  ⟨h.a.1, h.a.2.1, h.a.2.2, h.b.1, h.b.2.1, h.b.2.2⟩
theorem TwoB.below {n : Nat} {a b : TyV} {W W' : World} (h : TwoB n a b W) (hb : Below W.heap.size W W') : TwoB n a b W' :=
  ⟨h.a.below hb (by have := h.size; omega), h.b.below hb (by have := h.size; omega), Nat.le_trans h.size hb.size⟩
theorem twoB_new (w : World) (a b : TyV) : TwoB w.heap.size a b ((w.alloc (.cells #[.int .i64 a.kind, .int .i64 a.len, .string a.nm] 39)).alloc (.cells #[.int .i64 b.kind, .int .i64 b.len, .string b.nm] 39)) ∧ Below w.heap.size w ((w.alloc (.cells #[.int .i64 a.kind, .int .i64 a.len, .string a.nm] 39)).alloc (.cells #[.int .i64 b.kind, .int .i64 b.len, .string b.nm] 39)) := by
  obtain ⟨h1, h2, h3⟩ := box_ty w a
  obtain ⟨k1, k2, k3⟩ := box_ty (w.alloc (.cells #[.int .i64 a.kind, .int .i64 a.len, .string a.nm] 39)) b
  rw [h3] at k2
  exact ⟨⟨h2.below k1 (by omega), k2, by rw [k3, h3]; omega⟩, h1.trans (k1.mono (by omega))⟩

/-- how two types are compared, field by field -/
def Cmp (a b : TyV) (v : Bool) : Prop := v = false ∧ ((a.kind == b.kind) = false ∨ (a.kind == b.kind) = true ∧ ((a.len == b.len) = false ∨ (a.len == b.len) = true ∧ (a.nm.toList == b.nm.toList) = false)) ∨ v = true ∧ (a.kind == b.kind) = true ∧ (a.len == b.len) = true ∧ (a.nm.toList == b.nm.toList) = true
theorem cmp_ty (a b : TyV) : Cmp a b (tyB a b) := by
  unfold Cmp tyB
  cases (a.kind == b.kind) <;> cases (a.len == b.len) <;> cases (a.nm.toList == b.nm.toList) <;> simp

set_option maxHeartbeats 4000000 in
set_option maxRecDepth 100000 in
theorem excl_any (a b : TyV) (w : World) :
    Calls Tryd.prog 35 #[.agg #[.int .i64 a.kind, .int .i64 a.len, .string a.nm], .agg #[.int .i64 b.kind, .int .i64 b.len, .string b.nm]] w fun e w' => e = .returned (.bool (exclB a b)) ∧ Below w.heap.size w w' := by
  obtain ⟨m1, M1⟩ : ∃ v, Hid (markB a = v) := ⟨_, Lib.hid rfl⟩
  obtain ⟨m2, M2⟩ : ∃ v, Hid (markB b = v) := ⟨_, Lib.hid rfl⟩
  obtain ⟨c1, C1⟩ : ∃ v, Hid (covB a b = v) := ⟨_, Lib.hid rfl⟩
  obtain ⟨c2, C2⟩ : ∃ v, Hid (covB b a = v) := ⟨_, Lib.hid rfl⟩
  obtain ⟨q, Q⟩ : ∃ v, Hid (tyB a b = v) := ⟨_, Lib.hid rfl⟩
  have hq : Cmp a b q := by rw [← Q.out]; exact cmp_ty a b
  have hr : exclB a b = (m1 && m2 && !q && !c1 && !c2) := by unfold exclB; rw [M1.out, M2.out, C1.out, C2.out, Q.out]
  rw [hr]
  have HM1 := Lib.hid (fun W => isMark_f a m1 M1.out W)
  have HM2 := Lib.hid (fun W => isMark_f b m2 M2.out W)
  have HC1 := Lib.hid (fun W => covers_any a b W)
  have HC2 := Lib.hid (fun W => covers_any b a W)
  rw [C1.out] at HC1
  rw [C2.out] at HC2
  have HQ := Lib.hid hq
  clear M1 M2 C1 C2 Q hr hq
  go_enter Tryd.func35, Tryd.ntmps35
  go_wp2_with (fail)
  obtain ⟨h2, hb⟩ := twoB_new w a b
  generalize ((w.alloc (.cells #[.int .i64 a.kind, .int .i64 a.len, .string a.nm] 39)).alloc (.cells #[.int .i64 b.kind, .int .i64 b.len, .string b.nm] 39)) = w1 at *
  have H2 := Lib.hid h2
  have HB := Lib.hid hb
  clear h2 hb
  obtain ⟨x0, x1, x2, y0, y1, y2⟩ := H2.out.now
  refine (HM1.out _).mono ?_
  rintro e w2 ⟨rfl, hb2⟩
  have HT2 := Lib.hid (H2.out.below hb2)
  have HB2 := Lib.hid (HB.out.trans (hb2.mono HB.out.size))
  clear hb2 x0 x1 x2 y0 y1 y2
  obtain ⟨x0, x1, x2, y0, y1, y2⟩ := HT2.out.now
  cases m1 with
  | false =>
    go_wp2_with (fail)
    go_ret
    exact ⟨rfl, HB2.out⟩
  | true =>
    go_wp2_with (fail)
    refine (HM2.out _).mono ?_
    rintro e w3 ⟨rfl, hb3⟩
    have HT3 := Lib.hid (HT2.out.below hb3)
    have HB3 := Lib.hid (HB2.out.trans (hb3.mono HB2.out.size))
    clear hb3 x0 x1 x2 y0 y1 y2
    obtain ⟨x0, x1, x2, y0, y1, y2⟩ := HT3.out.now
    cases m2 with
    | false =>
      go_wp2_with (fail)
      go_ret
      exact ⟨rfl, HB3.out⟩
    | true =>
      rcases HQ.out with ⟨rfl, hq⟩ | ⟨rfl, q1, q2, q3⟩
      · rcases hq with q1 | ⟨q1, q2 | ⟨q2, q3⟩⟩
        all_goals
          go_wp2_with (fail)
          refine (HC1.out _).mono ?_
          rintro e w4 ⟨rfl, hb4⟩
          have HT4 := Lib.hid (HT3.out.below hb4)
          have HB4 := Lib.hid (HB3.out.trans (hb4.mono HB3.out.size))
          clear hb4 x0 x1 x2 y0 y1 y2
          obtain ⟨x0, x1, x2, y0, y1, y2⟩ := HT4.out.now
          cases c1 with
          | true =>
            go_wp2_with (fail)
            go_ret
            exact ⟨rfl, HB4.out⟩
          | false =>
            go_wp2_with (fail)
            refine (HC2.out _).mono ?_
            rintro e w5 ⟨rfl, hb5⟩
            have HB5 := Lib.hid (HB4.out.trans (hb5.mono HB4.out.size))
            clear hb5 x0 x1 x2 y0 y1 y2
            cases c2
            all_goals
              go_wp2_with (fail)
              go_ret
              exact ⟨rfl, HB5.out⟩
      · go_wp2_with (fail)
        go_ret
        exact ⟨by cases c1 <;> cases c2 <;> rfl, HB3.out⟩

/-- fits, of the document's own functions -/
def fitsB (a b : TyV) : Bool := tyB a b || (a.kind == 6 && (b.kind == 1 || b.kind == 2)) || (a.kind == 5 && b.kind == 3)
set_option maxHeartbeats 4000000 in
set_option maxRecDepth 100000 in
theorem fits_any (a b : TyV) (w : World) :
    Calls Tryd.prog 39 #[.agg #[.int .i64 a.kind, .int .i64 a.len, .string a.nm], .agg #[.int .i64 b.kind, .int .i64 b.len, .string b.nm]] w fun e w' => e = .returned (.bool (fitsB a b)) ∧ Below w.heap.size w w' := by
  obtain ⟨q, Q⟩ : ∃ v, Hid (tyB a b = v) := ⟨_, Lib.hid rfl⟩
  have hq : Cmp a b q := by rw [← Q.out]; exact cmp_ty a b
  have hr : fitsB a b = (q || (a.kind == 6 && (b.kind == 1 || b.kind == 2)) || (a.kind == 5 && b.kind == 3)) := by unfold fitsB; rw [Q.out]
  rw [hr]
  clear hr Q
  have hk : (a.kind == 6) = true ∧ ((b.kind == 1) = true ∨ (b.kind == 1) = false ∧ ((b.kind == 2) = true ∨ (b.kind == 2) = false ∧ (a.kind == 5) = false)) ∨ (a.kind == 6) = false ∧ ((a.kind == 5) = false ∨ (a.kind == 5) = true ∧ ((b.kind == 3) = true ∨ (b.kind == 3) = false)) := by
    have h : (a.kind == 6) = true → (a.kind == 5) = false := by simp; omega
    revert h
    cases (a.kind == 6) <;> cases (a.kind == 5) <;> cases (b.kind == 1) <;> cases (b.kind == 2) <;> cases (b.kind == 3) <;> simp
  have HB := Lib.hid (twoB_new w a b).2
  rcases hq with ⟨rfl, hq⟩ | ⟨rfl, q1, q2, q3⟩
  · rcases hk with ⟨k6, k1 | ⟨k1, k2 | ⟨k2, k5⟩⟩⟩ | ⟨k6, k5 | ⟨k5, k3 | k3⟩⟩
    all_goals
      first | rw [k6, k1] | rw [k6]
      first | rw [k2, k5] | rw [k2] | rw [k5, k3] | rw [k5] | skip
      rcases hq with q1 | ⟨q1, q2 | ⟨q2, q3⟩⟩
      all_goals
        go_enter Tryd.func39, Tryd.ntmps39
        go_wp2_with (fail)
        go_ret
        exact ⟨rfl, HB.out⟩
  · clear hk
    go_enter Tryd.func39, Tryd.ntmps39
    go_wp2_with (fail)
    go_ret
    exact ⟨rfl, HB.out⟩

theorem fits_f (a b : TyV) (v : Bool) (hv : fitsB a b = v) (w : World) : Calls Tryd.prog 39 #[.agg #[.int .i64 a.kind, .int .i64 a.len, .string a.nm], .agg #[.int .i64 b.kind, .int .i64 b.len, .string b.nm]] w fun e w' => e = .returned (.bool v) ∧ Below w.heap.size w w' := by
  rw [← hv]; exact fits_any a b w

theorem tyB_symm (a b : TyV) : tyB a b = tyB b a := by
  unfold tyB
  rw [Bool.eq_iff_iff]
  simp only [Bool.and_eq_true, beq_iff_eq]
  constructor <;> (rintro ⟨h1, h2, h3⟩; exact ⟨h1.symm, h2.symm, h3.symm⟩)
theorem exclB_symm (a b : TyV) : exclB a b = exclB b a := by
  unfold exclB
  rw [tyB_symm a b]
  cases markB a <;> cases markB b <;> cases tyB b a <;> cases covB a b <;> cases covB b a <;> rfl
theorem exclB_self (a : TyV) : exclB a a = false := by
  unfold exclB
  rw [tyB_refl]
  cases markB a <;> rfl
theorem fits_cov (a b : TyV) : fitsB a b = (tyB a b || covB a b) := by
  unfold fitsB covB
  by_cases h5 : a.kind = 5
  · rw [if_pos h5, h5]
    cases tyB a b <;> simp
  · rw [if_neg h5]
    have e5 : (a.kind == 5) = false := by simpa using h5
    rw [e5]
    by_cases h6 : a.kind = 6
    · rw [if_pos h6, h6]
      cases tyB a b <;> simp
    · rw [if_neg h6]
      have e6 : (a.kind == 6) = false := by simpa using h6
      rw [e6]
      cases tyB a b <;> simp
theorem excl_fits (a b : TyV) : exclB a b = (markB a && markB b && !(fitsB a b) && !(fitsB b a)) := by
  rw [fits_cov, fits_cov, tyB_symm b a]
  unfold exclB
  cases markB a <;> cases markB b <;> cases tyB a b <;> cases covB a b <;> cases covB b a <;> rfl

set_option maxHeartbeats 4000000 in
set_option maxRecDepth 100000 in
theorem r_excl_any (a b : TyV) (w : World) :
    Calls Tryd.prog 23 #[.agg #[.int .i64 a.kind, .int .i64 a.len, .string a.nm], .agg #[.int .i64 b.kind, .int .i64 b.len, .string b.nm]] w fun e w' => e = .returned (.bool (exclB a b)) ∧ Below w.heap.size w w' := by
  obtain ⟨m1, M1⟩ : ∃ v, Hid (markB a = v) := ⟨_, Lib.hid rfl⟩
  obtain ⟨m2, M2⟩ : ∃ v, Hid (markB b = v) := ⟨_, Lib.hid rfl⟩
  obtain ⟨c1, C1⟩ : ∃ v, Hid (fitsB a b = v) := ⟨_, Lib.hid rfl⟩
  obtain ⟨c2, C2⟩ : ∃ v, Hid (fitsB b a = v) := ⟨_, Lib.hid rfl⟩
  have hr : exclB a b = (m1 && m2 && !c1 && !c2) := by rw [excl_fits, M1.out, M2.out, C1.out, C2.out]
  rw [hr]
  have HM1 := Lib.hid (fun W => r_isMark_f a m1 M1.out W)
  have HM2 := Lib.hid (fun W => r_isMark_f b m2 M2.out W)
  have HC1 := Lib.hid (fun W => fits_f a b c1 C1.out W)
  have HC2 := Lib.hid (fun W => fits_f b a c2 C2.out W)
  clear M1 M2 C1 C2 hr
  go_enter Tryd.func23, Tryd.ntmps23
  go_wp2_with (fail)
  obtain ⟨h2, hb⟩ := twoB_new w a b
  generalize ((w.alloc (.cells #[.int .i64 a.kind, .int .i64 a.len, .string a.nm] 39)).alloc (.cells #[.int .i64 b.kind, .int .i64 b.len, .string b.nm] 39)) = w1 at *
  have H2 := Lib.hid h2
  have HB := Lib.hid hb
  clear h2 hb
  obtain ⟨x0, x1, x2, y0, y1, y2⟩ := H2.out.now
  refine (HM1.out _).mono ?_
  rintro e w2 ⟨rfl, hb2⟩
  have HT2 := Lib.hid (H2.out.below hb2)
  have HB2 := Lib.hid (HB.out.trans (hb2.mono HB.out.size))
  clear hb2 x0 x1 x2 y0 y1 y2
  obtain ⟨x0, x1, x2, y0, y1, y2⟩ := HT2.out.now
  cases m1 with
  | false =>
    go_wp2_with (fail)
    go_ret
    exact ⟨rfl, HB2.out⟩
  | true =>
    go_wp2_with (fail)
    refine (HM2.out _).mono ?_
    rintro e w3 ⟨rfl, hb3⟩
    have HT3 := Lib.hid (HT2.out.below hb3)
    have HB3 := Lib.hid (HB2.out.trans (hb3.mono HB2.out.size))
    clear hb3 x0 x1 x2 y0 y1 y2
    obtain ⟨x0, x1, x2, y0, y1, y2⟩ := HT3.out.now
    cases m2 with
    | false =>
      go_wp2_with (fail)
      go_ret
      exact ⟨rfl, HB3.out⟩
    | true =>
      go_wp2_with (fail)
      refine (HC1.out _).mono ?_
      rintro e w4 ⟨rfl, hb4⟩
      have HT4 := Lib.hid (HT3.out.below hb4)
      have HB4 := Lib.hid (HB3.out.trans (hb4.mono HB3.out.size))
      clear hb4 x0 x1 x2 y0 y1 y2
      obtain ⟨x0, x1, x2, y0, y1, y2⟩ := HT4.out.now
      cases c1 with
      | true =>
        go_wp2_with (fail)
        go_ret
        exact ⟨rfl, HB4.out⟩
      | false =>
        go_wp2_with (fail)
        refine (HC2.out _).mono ?_
        rintro e w5 ⟨rfl, hb5⟩
        have HB5 := Lib.hid (HB4.out.trans (hb5.mono HB4.out.size))
        clear hb5 x0 x1 x2 y0 y1 y2
        cases c2
        all_goals
          go_wp2_with (fail)
          go_ret
          exact ⟨rfl, HB5.out⟩
theorem excl_f (a b : TyV) (v : Bool) (hv : exclB a b = v) (w : World) : Calls Tryd.prog 35 #[.agg #[.int .i64 a.kind, .int .i64 a.len, .string a.nm], .agg #[.int .i64 b.kind, .int .i64 b.len, .string b.nm]] w fun e w' => e = .returned (.bool v) ∧ Below w.heap.size w w' := by
  rw [← hv]; exact excl_any a b w
theorem r_excl_f (a b : TyV) (v : Bool) (hv : exclB a b = v) (w : World) : Calls Tryd.prog 23 #[.agg #[.int .i64 a.kind, .int .i64 a.len, .string a.nm], .agg #[.int .i64 b.kind, .int .i64 b.len, .string b.nm]] w fun e w' => e = .returned (.bool v) ∧ Below w.heap.size w w' := by
  rw [← hv]; exact r_excl_any a b w
end Go.Proofs.YtmamajillkajoaaDoor
