/- What is proved: the reference's Wrap, Result and Needs. -/
import Derived.Test.YtjgkcicgjnjepaaDoorBvWrLaw
set_option linter.unusedVariables false
namespace Go.Proofs.YtjgkcicgjnjepaaDoor
open Go.RowKit Go.Maps

theorem shl_64 {W : Int} (h : ¬ (W < 2 ∨ 8 < W)) : wrap64 (2 ^ min W.toNat 64) = 2 * hf W := by
  have : W = 2 ∨ W = 3 ∨ W = 4 ∨ W = 5 ∨ W = 6 ∨ W = 7 ∨ W = 8 := by omega
  rcases this with rfl | rfl | rfl | rfl | rfl | rfl | rfl <;> decide +kernel
set_option maxRecDepth 100000 in
set_option maxHeartbeats 2000000 in
theorem r_wrap_any (W n : Int) (h : ¬ (W < 2 ∨ 8 < W)) (w : World) : Calls Tryd.prog 28 #[.int .i64 W, .int .i64 n] w fun e w' => e = .returned (.int .i64 (wrpP W n)) ∧ w' = w := by
  have HIW := Lib.hid (fun w => r_isWidth_any W w)
  rw [wok_yes h] at HIW
  obtain ⟨hc, hlo, hhi⟩ := ref_cut W n h
  have HR := Lib.hid hc
  have hb := hf_bound h
  have h11 : 0 ≤ W := by omega
  have hsh := shl_64 h
  have q0 : (2 * hf W == 0) = false := by rw [beq_eq_false_iff_ne]; omega
  have q1 : ¬ 2 * hf W = 0 := by omega
  have hq : (2 * hf W).tdiv 2 = hf W := Int.mul_tdiv_cancel_left _ (by decide)
  have wt := w64 (n := n.tmod (2 * hf W)) (by omega)
  have wg := w64 (n := hf W) (by omega)
  clear hc h
  generalize hf W = g at *
  go_enter Tryd.func28, Tryd.ntmps28
  go_wp2_with (fail)
  refine (HIW.out _).mono ?_
  rintro e wx ⟨rfl, hx⟩
  obtain rfl := hx.symm
  go_upto_region 4 with fail
  rw [hsh]
  clear hsh
  go_upto_region 5 with fail
  generalize n.tmod (2 * g) = t at *
  clear wt
  have w1 := w64 (n := t + 2 * g) (by omega)
  have w2 := w64 (n := t - 2 * g) (by omega)
  have w3 := w64 (n := t + 2 * g - 2 * g) (by omega)
  by_cases h0 : t < 0
  · have d0 : decide (t < 0) = true := by simpa using h0
    by_cases h1 : g ≤ t + 2 * g
    · have d1 : decide (g ≤ t + 2 * g) = true := by simpa using h1
      have HE := Lib.hid (show wrpP W n = t by rw [HR.out, if_neg (by omega), if_neg (by omega)])
      clear HR h0 h1
      go_wp2_with (fail)
      go_ret
      rw [HE.out]
      exact ⟨by first | rfl | exact ret_int (by omega) | (simp [go_sem]; done), rfl⟩
    · have d1 : decide (g ≤ t + 2 * g) = false := by simpa using h1
      have HE := Lib.hid (show wrpP W n = t + 2 * g by rw [HR.out, if_pos (by omega)])
      clear HR h0 h1
      go_wp2_with (fail)
      go_ret
      rw [HE.out]
      exact ⟨rfl, rfl⟩
  · have d0 : decide (t < 0) = false := by simpa using h0
    by_cases h1 : g ≤ t
    · have d1 : decide (g ≤ t) = true := by simpa using h1
      have HE := Lib.hid (show wrpP W n = t - 2 * g by rw [HR.out, if_neg (by omega), if_pos (by omega)])
      clear HR h0 h1
      go_wp2_with (fail)
      go_ret
      rw [HE.out]
      exact ⟨rfl, rfl⟩
    · have d1 : decide (g ≤ t) = false := by simpa using h1
      have HE := Lib.hid (show wrpP W n = t by rw [HR.out, if_neg (by omega), if_neg (by omega)])
      clear HR h0 h1
      go_wp2_with (fail)
      go_ret
      rw [HE.out]
      exact ⟨rfl, rfl⟩
theorem r_result_any (op : Int) (w : World) : Calls Tryd.prog 48 #[.int .i64 op] w fun e w' => e = .returned (.int .i64 (if 0 ≤ op ∧ op < 18 then srt op.toNat else -1)) ∧ w' = w := by
  by_cases h : 0 ≤ op ∧ op < 18
  · rw [if_pos h]
    have : op = 0 ∨ op = 1 ∨ op = 2 ∨ op = 3 ∨ op = 4 ∨ op = 5 ∨ op = 6 ∨ op = 7 ∨ op = 8 ∨ op = 9 ∨ op = 10 ∨ op = 11 ∨ op = 12 ∨ op = 13 ∨ op = 14 ∨ op = 15 ∨ op = 16 ∨ op = 17 := by omega
    rcases this with rfl | rfl | rfl | rfl | rfl | rfl | rfl | rfl | rfl | rfl | rfl | rfl | rfl | rfl | rfl | rfl | rfl | rfl
    all_goals
      clear h
      go_enter Tryd.func48, Tryd.ntmps48
      go_wp2_with (fail)
      go_ret
      exact ⟨rfl, rfl⟩
  · rw [if_neg h]
    have e0 : ∀ k : Nat, k < 18 → (op == (k : Int)) = false := fun k hk => by rw [beq_eq_false_iff_ne]; omega
    have a0 : (op == 0) = false := e0 0 (by decide)
    have a1 : (op == 1) = false := e0 1 (by decide)
    have a2 : (op == 2) = false := e0 2 (by decide)
    have a3 : (op == 3) = false := e0 3 (by decide)
    have a4 : (op == 4) = false := e0 4 (by decide)
    have a5 : (op == 5) = false := e0 5 (by decide)
    have a6 : (op == 6) = false := e0 6 (by decide)
    have a7 : (op == 7) = false := e0 7 (by decide)
    have a8 : (op == 8) = false := e0 8 (by decide)
    have a9 : (op == 9) = false := e0 9 (by decide)
    have a10 : (op == 10) = false := e0 10 (by decide)
    have a11 : (op == 11) = false := e0 11 (by decide)
    have a12 : (op == 12) = false := e0 12 (by decide)
    have a13 : (op == 13) = false := e0 13 (by decide)
    have a14 : (op == 14) = false := e0 14 (by decide)
    have a15 : (op == 15) = false := e0 15 (by decide)
    have a16 : (op == 16) = false := e0 16 (by decide)
    have a17 : (op == 17) = false := e0 17 (by decide)
    clear e0 h
    go_enter Tryd.func48, Tryd.ntmps48
    go_wp2_with (fail)
    go_ret
    exact ⟨rfl, rfl⟩
/-- the sorts of an operator's arguments -/
def ndL (o : Nat) : List Int := ([agA o, agB o, agC o]).take (cnt o)
theorem ndL_len : ∀ o, o < 18 → (ndL o).length = cnt o := by decide +kernel
theorem z0_row (w : World) (l : List Int) (hl : l = []) (A : Option Addr) : ZRow w.heap.size w A l := by subst hl; exact ZRow.nil _ _ _
theorem z1_row (w : World) (m : Int) : ZRow (w.alloc (.cells #[.int .i64 m] 3)).heap.size (w.alloc (.cells #[.int .i64 m] 3)) (some ⟨w.heap.size, 0, none⟩) [m] := fun _ => by
  refine ⟨w.heap.size, 0, rfl, by simp, fun i hi => ?_⟩
  have : i = 0 := by simp at hi; omega
  subst this
  exact Lib.cell_of_heap (heap_alloc_new w (.cells #[.int .i64 m] 3)) 0
theorem z2_row (w : World) (m n : Int) : ZRow (w.alloc (.cells #[.int .i64 m, .int .i64 n] 3)).heap.size (w.alloc (.cells #[.int .i64 m, .int .i64 n] 3)) (some ⟨w.heap.size, 0, none⟩) [m, n] := fun _ => by
  refine ⟨w.heap.size, 0, rfl, by simp, fun i hi => ?_⟩
  have q := fun j => Lib.cell_of_heap (heap_alloc_new w (.cells #[.int .i64 m, .int .i64 n] 3)) j
  have : i = 0 ∨ i = 1 := by simp at hi; omega
  rcases this with rfl | rfl
  · exact q 0
  · exact q 1
theorem z3_row (w : World) (m n o : Int) : ZRow (w.alloc (.cells #[.int .i64 m, .int .i64 n, .int .i64 o] 3)).heap.size (w.alloc (.cells #[.int .i64 m, .int .i64 n, .int .i64 o] 3)) (some ⟨w.heap.size, 0, none⟩) [m, n, o] := fun _ => by
  refine ⟨w.heap.size, 0, rfl, by simp, fun i hi => ?_⟩
  have q := fun j => Lib.cell_of_heap (heap_alloc_new w (.cells #[.int .i64 m, .int .i64 n, .int .i64 o] 3)) j
  have : i = 0 ∨ i = 1 ∨ i = 2 := by simp at hi; omega
  rcases this with rfl | rfl | rfl
  · exact q 0
  · exact q 1
  · exact q 2
theorem r_needs_any (op : Int) (h : 0 ≤ op ∧ op < 18) (w : World) : Calls Tryd.prog 42 #[.int .i64 op] w fun e w' => ∃ A c, e = .returned (.slice A (ndL op.toNat).length c) ∧ ZRow w'.heap.size w' A (ndL op.toNat) ∧ Below w.heap.size w w' := by
  have : op = 0 ∨ op = 1 ∨ op = 2 ∨ op = 3 ∨ op = 4 ∨ op = 5 ∨ op = 6 ∨ op = 7 ∨ op = 8 ∨ op = 9 ∨ op = 10 ∨ op = 11 ∨ op = 12 ∨ op = 13 ∨ op = 14 ∨ op = 15 ∨ op = 16 ∨ op = 17 := by omega
  rcases this with rfl | rfl | rfl | rfl | rfl | rfl | rfl | rfl | rfl | rfl | rfl | rfl | rfl | rfl | rfl | rfl | rfl | rfl
  all_goals
    clear h
    go_enter Tryd.func42, Tryd.ntmps42
    go_wp2_with (fail)
    go_ret
    first
      | exact ⟨_, _, rfl, z3_row w _ _ _, (Below.refl w.heap.size w).alloc (Nat.le_refl _) _⟩
      | exact ⟨_, _, rfl, z2_row w _ _, (Below.refl w.heap.size w).alloc (Nat.le_refl _) _⟩
      | exact ⟨_, _, rfl, z1_row w _, (Below.refl w.heap.size w).alloc (Nat.le_refl _) _⟩
      | exact ⟨_, _, rfl, z0_row _ _ rfl _, (Below.refl w.heap.size w).alloc (Nat.le_refl _) _⟩
end Go.Proofs.YtjgkcicgjnjepaaDoor
