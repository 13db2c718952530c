/- What is proved: Valid. -/
import Derived.Test.YtoopnddlcofhoaaGreatDoorTyFind
set_option linter.unusedVariables false
namespace Go.Proofs.YtoopnddlcofhoaaGreatDoor
open Go.RowKit

theorem TCells.of_box {w : World} {x : TyV} : TCells (w.alloc (.cells #[.int .i64 x.kind, .int .i64 x.len, .string x.nm] 23)) w.heap.size 0 x :=
  ⟨Lib.cell_of_heap (heap_alloc_new w _) 0, Lib.cell_of_heap (heap_alloc_new w _) 1, Lib.cell_of_heap (heap_alloc_new w _) 2⟩
theorem box_ty (w : World) (x : TyV) : Below w.heap.size w (w.alloc (.cells #[.int .i64 x.kind, .int .i64 x.len, .string x.nm] 23)) ∧ TCells (w.alloc (.cells #[.int .i64 x.kind, .int .i64 x.len, .string x.nm] 23)) w.heap.size 0 x ∧ (w.alloc (.cells #[.int .i64 x.kind, .int .i64 x.len, .string x.nm] 23)).heap.size = w.heap.size + 1 :=
  ⟨(Below.refl _ _).alloc (Nat.le_refl _) _, TCells.of_box, by simp⟩
theorem nil_toList : (⟨#[]⟩ : ByteArray).toList = [] := by rw [ByteArray.toList_eq]
theorem TCells.now {w : World} {b : Nat} {x : TyV} (h : TCells w b 0 x) : w.cell? ⟨b, 0, none⟩ = some (.int .i64 x.kind) ∧ w.cell? ⟨b, 1, none⟩ = some (.int .i64 x.len) ∧ w.cell? ⟨b, 2, none⟩ = some (.string x.nm) := h

set_option maxHeartbeats 1000000 in
/-- int, bool -/
theorem valid_basic (t : TyV) (A : Option Addr) (c : Nat) (l : List RcV) (w : World) (hk : (t.kind == 1) = true ∨ (t.kind == 1) = false ∧ (t.kind == 2) = true) :
    Calls Tryz.prog 15 #[.agg #[.int .i64 t.kind, .int .i64 t.len, .string t.nm], .slice A l.length c] w fun e w' => e = .returned (.bool (t.len == 0 && t.nm.toList == [])) ∧ Below w.heap.size w w' := by
  have h23 : (t.len == 0) = false ∨ (t.len == 0) = true ∧ ((t.nm.toList == []) = false ∨ (t.nm.toList == []) = true) := by
    cases h2 : (t.len == 0) <;> cases h3 : (t.nm.toList == []) <;> simp
  rcases h23 with h2 | ⟨h2, h3 | h3⟩
  all_goals
    rcases hk with h1 | ⟨h0, h1⟩
    all_goals
      go_enter Tryz.func15, Tryz.ntmps15
      go_wp2_with (fail)
      obtain ⟨hb0, hc0, hs0⟩ := box_ty w t
      generalize (w.alloc (.cells #[.int .i64 t.kind, .int .i64 t.len, .string t.nm] 23)) = w0 at *
      obtain ⟨c0, c1, c2⟩ := hc0.now
      have HB0 := Lib.hid hb0
      have HC0 := Lib.hid hc0
      have HS0 := Lib.hid hs0
      clear hb0 hc0 hs0
      go_region_held3 (fun w' => w'.cell? ⟨w.heap.size, 0, none⟩ = some (.int .i64 t.kind) ∧ w'.cell? ⟨w.heap.size, 1, none⟩ = some (.int .i64 t.len) ∧ w'.cell? ⟨w.heap.size, 2, none⟩ = some (.string t.nm)) (first | exact HK.out | go_keep) ((go_at_call 33; refine (ty_basic_any t.kind _).mono ?_; rintro e w1 ⟨rfl, hb⟩; have HK := Lib.hid (HC0.out.below ((Below.refl _ _).drew.trans hb) (by have := HS0.out; show w.heap.size < w0.heap.size; omega)).now; have HB1 := Lib.hid (HB0.out.trans (((Below.refl _ _).drew.trans hb).mono (by have := HS0.out; show w.heap.size ≤ w0.heap.size; omega))); clear hb))
      go_wp2_with (fail)
      go_ret
      exact ⟨ret_bool (by first | (rw [h2]; rfl) | (rw [h2, h3]; rfl)), HB1.out⟩

set_option maxHeartbeats 1000000 in
/-- an array -/
theorem valid_array (t : TyV) (A : Option Addr) (c : Nat) (l : List RcV) (w : World) (hk : (t.kind == 1) = false ∧ (t.kind == 2) = false ∧ (t.kind == 3) = true) :
    Calls Tryz.prog 15 #[.agg #[.int .i64 t.kind, .int .i64 t.len, .string t.nm], .slice A l.length c] w fun e w' => e = .returned (.bool (decide (1 ≤ t.len) && decide (t.len ≤ 8) && t.nm.toList == [])) ∧ Below w.heap.size w w' := by
  have h23 : decide (1 ≤ t.len) = false ∨ decide (1 ≤ t.len) = true ∧ (decide (t.len ≤ 8) = false ∨ decide (t.len ≤ 8) = true ∧ ((t.nm.toList == []) = false ∨ (t.nm.toList == []) = true)) := by
    cases h1 : decide (1 ≤ t.len) <;> cases h2 : decide (t.len ≤ 8) <;> cases h3 : (t.nm.toList == []) <;> simp
  obtain ⟨k1, k2, k3⟩ := hk
  rcases h23 with h1 | ⟨h1, h2 | ⟨h2, h3 | h3⟩⟩
  all_goals
    go_enter Tryz.func15, Tryz.ntmps15
    go_wp2_with (fail)
    go_ret
    exact ⟨ret_bool (by first | (rw [h1]; rfl) | (rw [h1, h2]; rfl) | (rw [h1, h2, h3]; rfl)), (Below.refl _ _).alloc (Nat.le_refl _) _⟩

set_option maxHeartbeats 1000000 in
/-- none -/
theorem valid_none (t : TyV) (A : Option Addr) (c : Nat) (l : List RcV) (w : World) (hk : (t.kind == 1) = false ∧ (t.kind == 2) = false ∧ (t.kind == 3) = false ∧ (t.kind == 4) = false) :
    Calls Tryz.prog 15 #[.agg #[.int .i64 t.kind, .int .i64 t.len, .string t.nm], .slice A l.length c] w fun e w' => e = .returned (.bool false) ∧ Below w.heap.size w w' := by
  obtain ⟨k1, k2, k3, k4⟩ := hk
  go_enter Tryz.func15, Tryz.ntmps15
  go_wp2_with (fail)
  go_ret
  exact ⟨rfl, (Below.refl _ _).alloc (Nat.le_refl _) _⟩

set_option maxHeartbeats 1000000 in
/-- a record -/
theorem valid_record (t : TyV) (A : Option Addr) (c : Nat) (l : List RcV) (w : World) (hr : RRow w.heap.size w A l) (hl : l.length ≤ 1000000000) (hk : (t.kind == 1) = false ∧ (t.kind == 2) = false ∧ (t.kind == 3) = false ∧ (t.kind == 4) = true) :
    Calls Tryz.prog 15 #[.agg #[.int .i64 t.kind, .int .i64 t.len, .string t.nm], .slice A l.length c] w fun e w' => e = .returned (.bool ((fndR l t.nm).isSome && t.len == 0)) ∧ Below w.heap.size w w' := by
  obtain ⟨k1, k2, k3, k4⟩ := hk
  have HR := Lib.hid hr
  clear hr
  have h2 : (t.len == 0) = true ∨ (t.len == 0) = false := by cases (t.len == 0) <;> simp
  go_enter Tryz.func15, Tryz.ntmps15
  go_wp2_with (fail)
  obtain ⟨hb0, hc0, hs0⟩ := box_ty w t
  generalize (w.alloc (.cells #[.int .i64 t.kind, .int .i64 t.len, .string t.nm] 23)) = w0 at *
  have HB0 := Lib.hid hb0
  have HC0 := Lib.hid hc0
  have HS0 := Lib.hid hs0
  clear hb0 hc0 hs0
  refine (find_any A c l t.nm w0 (HR.out.later HB0.out) hl).mono ?_
  rintro e w1 ⟨hb1, hf⟩
  have HB1 := Lib.hid (HB0.out.trans (hb1.mono (by have := HS0.out; omega)))
  obtain ⟨c0, c1, c2⟩ := (HC0.out.below hb1 (by have := HS0.out; omega)).now
  clear hb1
  rcases hf with ⟨hf, rfl⟩ | ⟨r, hf, rfl⟩
  · have HF := Lib.hid hf
    clear hf
    go_wp2_with (fail)
    go_ret
    exact ⟨ret_bool (by rw [HF.out]; rfl), HB1.out⟩
  · have HF := Lib.hid hf
    clear hf
    rcases h2 with h2 | h2
    all_goals
      go_wp2_with (fail)
      go_ret
      exact ⟨ret_bool (by rw [HF.out, h2]; rfl), HB1.out⟩

theorem valid_any (t : TyV) (A : Option Addr) (c : Nat) (l : List RcV) (w : World) (hr : RRow w.heap.size w A l) (hl : l.length ≤ 1000000000) :
    Calls Tryz.prog 15 #[.agg #[.int .i64 t.kind, .int .i64 t.len, .string t.nm], .slice A l.length c] w fun e w' => e = .returned (.bool (validB t l)) ∧ Below w.heap.size w w' := by
  by_cases k1 : t.kind = 1
  · rw [show validB t l = (t.len == 0 && t.nm.toList == []) by unfold validB; rw [if_pos (.inl k1)]]
    exact valid_basic t A c l w (.inl (by simpa using k1))
  · by_cases k2 : t.kind = 2
    · rw [show validB t l = (t.len == 0 && t.nm.toList == []) by unfold validB; rw [if_pos (.inr k2)]]
      exact valid_basic t A c l w (.inr ⟨by simpa using k1, by simpa using k2⟩)
    · by_cases k3 : t.kind = 3
      · rw [show validB t l = (decide (1 ≤ t.len) && decide (t.len ≤ 8) && t.nm.toList == []) by unfold validB; rw [if_neg (by omega), if_pos k3]]
        exact valid_array t A c l w ⟨by simpa using k1, by simpa using k2, by simpa using k3⟩
      · by_cases k4 : t.kind = 4
        · rw [show validB t l = ((fndR l t.nm).isSome && t.len == 0) by unfold validB; rw [if_neg (by omega), if_neg k3, if_pos k4]]
          exact valid_record t A c l w hr hl ⟨by simpa using k1, by simpa using k2, by simpa using k3, by simpa using k4⟩
        · rw [show validB t l = false by unfold validB; rw [if_neg (by omega), if_neg k3, if_neg k4]]
          exact valid_none t A c l w ⟨by simpa using k1, by simpa using k2, by simpa using k3, by simpa using k4⟩
theorem ty_valid_f (t : TyV) (A : Option Addr) (c : Nat) (l : List RcV) (w : World) (v : Bool) (hv : validB t l = v) (hr : RRow w.heap.size w A l) (hl : l.length ≤ 1000000000) :
    Calls Tryz.prog 15 #[.agg #[.int .i64 t.kind, .int .i64 t.len, .string t.nm], .slice A l.length c] w fun e w' => e = .returned (.bool v) ∧ Below w.heap.size w w' := by
  rw [← hv]
  exact valid_any t A c l w hr hl
end Go.Proofs.YtoopnddlcofhoaaGreatDoor
