/- What is proved: marks: which types are marks, which cover others, which exclude one another, by the program and by the document's own functions. -/
import Derived.Test.YtmamajillkajoaaDoorTyValid
set_option linter.unusedVariables false
namespace Go.Proofs.YtmamajillkajoaaDoor
open Go.RowKit

/-- no name -/
def noB (t : TyV) : Bool := t.nm.toList == []
/-- a mark -/
def markB (t : TyV) : Bool :=
  if t.kind = 1 ∨ t.kind = 2 ∨ t.kind = 5 ∨ t.kind = 6 then t.len == 0 && noB t
  else if t.kind = 3 then decide (1 ≤ t.len) && decide (t.len ≤ 8) && noB t
  else if t.kind = 4 then t.len == 0 && !(noB t)
  else false
/-- a mark for several types, of which the other one is one -/
def covB (a b : TyV) : Bool :=
  if a.kind = 5 then b.kind == 3 else if a.kind = 6 then b.kind == 1 || b.kind == 2 else false
/-- they exclude one another -/
def exclB (a b : TyV) : Bool := markB a && markB b && !(tyB a b) && !(covB a b) && !(covB b a)

theorem kinds (k : Int) : k = 1 ∨ k = 2 ∨ k = 3 ∨ k = 4 ∨ k = 5 ∨ k = 6 ∨ ((k == 1) = false ∧ (k == 2) = false ∧ (k == 3) = false ∧ (k == 4) = false ∧ (k == 5) = false ∧ (k == 6) = false) := by
  simp; omega

/-- a plain mark -/
theorem mark_plain {t : TyV} (hk : t.kind = 1 ∨ t.kind = 2 ∨ t.kind = 5 ∨ t.kind = 6) : markB t = (t.len == 0 && noB t) := by unfold markB; rw [if_pos hk]
theorem mark_array {t : TyV} (hk : t.kind = 3) : markB t = (decide (1 ≤ t.len) && decide (t.len ≤ 8) && noB t) := by unfold markB; rw [if_neg (by omega), if_pos hk]
theorem mark_record {t : TyV} (hk : t.kind = 4) : markB t = (t.len == 0 && !(noB t)) := by unfold markB; rw [if_neg (by omega), if_neg (by omega), if_pos hk]
theorem mark_none {t : TyV} (h1 : (t.kind == 1) = false) (h2 : (t.kind == 2) = false) (h3 : (t.kind == 3) = false) (h4 : (t.kind == 4) = false) (h5 : (t.kind == 5) = false) (h6 : (t.kind == 6) = false) : markB t = false := by
  simp at h1 h2 h3 h4 h5 h6
  unfold markB
  rw [if_neg (by omega), if_neg h3, if_neg h4]

set_option maxHeartbeats 2000000 in
theorem mark_p (f : Nat) (hf : f = 30 ∨ f = 38) (t : TyV) (w : World) (hk : t.kind = 1 ∨ t.kind = 2 ∨ t.kind = 5 ∨ t.kind = 6) :
    Calls Tryd.prog f #[.agg #[.int .i64 t.kind, .int .i64 t.len, .string t.nm]] w fun e w' => e = .returned (.bool (markB t)) ∧ Below w.heap.size w w' := by
  rw [mark_plain hk]
  unfold noB
  have h23 : (t.len == 0) = false ∨ (t.len == 0) = true ∧ ((t.nm.toList == []) = false ∨ (t.nm.toList == []) = true) := by
    cases h2 : (t.len == 0) <;> cases h3 : (t.nm.toList == []) <;> simp
  obtain ⟨k, n, s⟩ := t
  dsimp only at *
  rcases hf with rfl | rfl
  · rcases h23 with h2 | ⟨h2, h3 | h3⟩
    all_goals
      rcases hk with rfl | rfl | rfl | rfl
      all_goals
        go_enter Tryd.func30, Tryd.ntmps30
        go_wp2_with (fail)
        go_ret
        exact ⟨ret_bool (by first | (rw [h2]; rfl) | (rw [h2, h3]; rfl)), (Below.refl _ _).alloc (Nat.le_refl _) _⟩
  · rcases h23 with h2 | ⟨h2, h3 | h3⟩
    all_goals
      rcases hk with rfl | rfl | rfl | rfl
      all_goals
        go_enter Tryd.func38, Tryd.ntmps38
        go_wp2_with (fail)
        go_ret
        exact ⟨ret_bool (by first | (rw [h2]; rfl) | (rw [h2, h3]; rfl)), (Below.refl _ _).alloc (Nat.le_refl _) _⟩

set_option maxHeartbeats 2000000 in
theorem mark_r (f : Nat) (hf : f = 30 ∨ f = 38) (t : TyV) (w : World) (hk : t.kind = 4) :
    Calls Tryd.prog f #[.agg #[.int .i64 t.kind, .int .i64 t.len, .string t.nm]] w fun e w' => e = .returned (.bool (markB t)) ∧ Below w.heap.size w w' := by
  rw [mark_record hk]
  unfold noB
  have h23 : (t.len == 0) = false ∨ (t.len == 0) = true ∧ ((t.nm.toList == []) = false ∨ (t.nm.toList == []) = true) := by
    cases h2 : (t.len == 0) <;> cases h3 : (t.nm.toList == []) <;> simp
  obtain ⟨k, n, s⟩ := t
  dsimp only at *
  subst hk
  rcases hf with rfl | rfl
  · rcases h23 with h2 | ⟨h2, h3 | h3⟩
    all_goals
      go_enter Tryd.func30, Tryd.ntmps30
      go_wp2_with (fail)
      go_ret
      exact ⟨ret_bool (by first | (rw [h2]; rfl) | (rw [h2, h3]; rfl)), (Below.refl _ _).alloc (Nat.le_refl _) _⟩
  · rcases h23 with h2 | ⟨h2, h3 | h3⟩
    all_goals
      go_enter Tryd.func38, Tryd.ntmps38
      go_wp2_with (fail)
      go_ret
      exact ⟨ret_bool (by first | (rw [h2]; rfl) | (rw [h2, h3]; rfl)), (Below.refl _ _).alloc (Nat.le_refl _) _⟩

set_option maxHeartbeats 2000000 in
theorem mark_n (f : Nat) (hf : f = 30 ∨ f = 38) (t : TyV) (w : World) (hk : (t.kind == 1) = false ∧ (t.kind == 2) = false ∧ (t.kind == 3) = false ∧ (t.kind == 4) = false ∧ (t.kind == 5) = false ∧ (t.kind == 6) = false) :
    Calls Tryd.prog f #[.agg #[.int .i64 t.kind, .int .i64 t.len, .string t.nm]] w fun e w' => e = .returned (.bool (markB t)) ∧ Below w.heap.size w w' := by
  obtain ⟨k1, k2, k3, k4, k5, k6⟩ := hk
  rw [mark_none k1 k2 k3 k4 k5 k6]
  rcases hf with rfl | rfl
  · go_enter Tryd.func30, Tryd.ntmps30
    go_wp2_with (fail)
    go_ret
    exact ⟨rfl, (Below.refl _ _).alloc (Nat.le_refl _) _⟩
  · go_enter Tryd.func38, Tryd.ntmps38
    go_wp2_with (fail)
    go_ret
    exact ⟨rfl, (Below.refl _ _).alloc (Nat.le_refl _) _⟩

set_option maxHeartbeats 2000000 in
theorem mark_a (f : Nat) (hf : f = 30 ∨ f = 38) (t : TyV) (w : World) (hk : t.kind = 3) :
    Calls Tryd.prog f #[.agg #[.int .i64 t.kind, .int .i64 t.len, .string t.nm]] w fun e w' => e = .returned (.bool (markB t)) ∧ Below w.heap.size w w' := by
  have hv : validB t [] = markB t := by
    rw [mark_array hk]
    unfold validB noB
    rw [if_neg (by omega), if_pos hk]
  rcases hf with rfl | rfl
  · obtain ⟨v, HV⟩ : ∃ v, Hid (markB t = v) := ⟨_, Lib.hid rfl⟩
    have HC := Lib.hid (fun (W : World) => ty_valid_f t none 0 [] W v (hv.trans HV.out) (fun h => absurd h (by simp)) (by simp))
    rw [HV.out]
    clear hv
    obtain ⟨k, n, s⟩ := t
    dsimp only at *
    subst hk
    go_enter Tryd.func30, Tryd.ntmps30
    go_wp2_with (fail)
    have hb0 := (Below.refl w.heap.size w).alloc (Nat.le_refl _) (.cells #[.int .i64 3, .int .i64 n, .string s] 39)
    refine (HC.out _).mono ?_
    rintro e w1 ⟨rfl, hb1⟩
    have HB1 := Lib.hid (hb0.trans (hb1.mono hb0.size))
    clear hb0 hb1
    go_wp2_with (fail)
    go_ret
    exact ⟨rfl, HB1.out⟩
  · rw [mark_array hk]
    unfold noB
    have h23 : decide (1 ≤ t.len) = false ∨ decide (1 ≤ t.len) = true ∧ (decide (t.len ≤ 8) = false ∨ decide (t.len ≤ 8) = true ∧ ((t.nm.toList == []) = false ∨ (t.nm.toList == []) = true)) := by
      cases h1 : decide (1 ≤ t.len) <;> cases h2 : decide (t.len ≤ 8) <;> cases h3 : (t.nm.toList == []) <;> simp
    clear hv
    obtain ⟨k, n, s⟩ := t
    dsimp only at *
    subst hk
    rcases h23 with h1 | ⟨h1, h2 | ⟨h2, h3 | h3⟩⟩
    all_goals
      go_enter Tryd.func38, Tryd.ntmps38
      go_wp2_with (fail)
      go_ret
      exact ⟨ret_bool (by first | (rw [h1]; rfl) | (rw [h1, h2]; rfl) | (rw [h1, h2, h3]; rfl)), (Below.refl _ _).alloc (Nat.le_refl _) _⟩

theorem mark_any (f : Nat) (hf : f = 30 ∨ f = 38) (t : TyV) (w : World) :
    Calls Tryd.prog f #[.agg #[.int .i64 t.kind, .int .i64 t.len, .string t.nm]] w fun e w' => e = .returned (.bool (markB t)) ∧ Below w.heap.size w w' := by
  rcases kinds t.kind with h | h | h | h | h | h | h
  · exact mark_p f hf t w (.inl h)
  · exact mark_p f hf t w (.inr (.inl h))
  · exact mark_a f hf t w h
  · exact mark_r f hf t w h
  · exact mark_p f hf t w (.inr (.inr (.inl h)))
  · exact mark_p f hf t w (.inr (.inr (.inr h)))
  · exact mark_n f hf t w h
theorem isMark_f (t : TyV) (v : Bool) (hv : markB t = v) (w : World) : Calls Tryd.prog 30 #[.agg #[.int .i64 t.kind, .int .i64 t.len, .string t.nm]] w fun e w' => e = .returned (.bool v) ∧ Below w.heap.size w w' := by
  rw [← hv]; exact mark_any _ (.inl rfl) t w
theorem r_isMark_f (t : TyV) (v : Bool) (hv : markB t = v) (w : World) : Calls Tryd.prog 38 #[.agg #[.int .i64 t.kind, .int .i64 t.len, .string t.nm]] w fun e w' => e = .returned (.bool v) ∧ Below w.heap.size w w' := by
  rw [← hv]; exact mark_any _ (.inr rfl) t w

set_option maxHeartbeats 2000000 in
theorem covers_any (a b : TyV) (w : World) :
    Calls Tryd.prog 36 #[.agg #[.int .i64 a.kind, .int .i64 a.len, .string a.nm], .agg #[.int .i64 b.kind, .int .i64 b.len, .string b.nm]] w fun e w' => e = .returned (.bool (covB a b)) ∧ Below w.heap.size w w' := by
  have hb : Below w.heap.size w ((w.alloc (.cells #[.int .i64 a.kind, .int .i64 a.len, .string a.nm] 39)).alloc (.cells #[.int .i64 b.kind, .int .i64 b.len, .string b.nm] 39)) := ((Below.refl _ _).alloc (Nat.le_refl _) _).alloc (by simp) _
  have HB := Lib.hid hb
  clear hb
  have h5 : (a.kind == 5) = true ∨ (a.kind == 5) = false ∧ ((a.kind == 6) = true ∧ ((b.kind == 1) = true ∨ (b.kind == 1) = false ∧ ((b.kind == 2) = true ∨ (b.kind == 2) = false)) ∨ (a.kind == 6) = false) := by
    cases (a.kind == 5) <;> cases (a.kind == 6) <;> cases (b.kind == 1) <;> cases (b.kind == 2) <;> simp
  have hc : covB a b = if (a.kind == 5) = true then b.kind == 3 else if (a.kind == 6) = true then b.kind == 1 || b.kind == 2 else false := by
    unfold covB
    simp only [beq_iff_eq]
  rcases h5 with h5 | ⟨h5, ⟨h6, h1 | ⟨h1, h2 | h2⟩⟩ | h6⟩
  · have h3 : (b.kind == 3) = true ∨ (b.kind == 3) = false := by cases (b.kind == 3) <;> simp
    rcases h3 with h3 | h3
    all_goals
      rw [h5, if_pos rfl, h3] at hc
      rw [hc]
      clear hc
      go_enter Tryd.func36, Tryd.ntmps36
      go_wp2_with (fail)
      go_ret
      exact ⟨rfl, HB.out⟩
  · rw [h5, if_neg (by simp), h6, if_pos rfl, h1] at hc
    rw [hc]
    clear hc
    go_enter Tryd.func36, Tryd.ntmps36
    go_wp2_with (fail)
    go_ret
    exact ⟨rfl, HB.out⟩
  · rw [h5, if_neg (by simp), h6, if_pos rfl, h1, h2] at hc
    rw [hc]
    clear hc
    go_enter Tryd.func36, Tryd.ntmps36
    go_wp2_with (fail)
    go_ret
    exact ⟨rfl, HB.out⟩
  · rw [h5, if_neg (by simp), h6, if_pos rfl, h1, h2] at hc
    rw [hc]
    clear hc
    go_enter Tryd.func36, Tryd.ntmps36
    go_wp2_with (fail)
    go_ret
    exact ⟨rfl, HB.out⟩
  · rw [h5, if_neg (by simp), h6, if_neg (by simp)] at hc
    rw [hc]
    clear hc
    go_enter Tryd.func36, Tryd.ntmps36
    go_wp2_with (fail)
    go_ret
    exact ⟨rfl, HB.out⟩
end Go.Proofs.YtmamajillkajoaaDoor
