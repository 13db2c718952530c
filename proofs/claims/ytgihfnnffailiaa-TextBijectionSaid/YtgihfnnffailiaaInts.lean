/- What is proved: Ints answers true at two slices that hold the same numbers. -/
import Derived.Test.YtgihfnnffailiaaLines
import Derived.IntWalk
import Derived.Lib.Hide
import Derived.LoopTactic
import Derived.Deep.QuietTactic
import Derived.BigQuiet
import Derived.Deep.Draws
import Derived.Deep.AppendLies
set_option linter.unusedVariables false
namespace Go.Proofs.Ytgihfnnffailiaa
open Go.RowKit

theorem ints_get (l : List Nat) (k : Nat) (hk : k < l.length) : (ints l)[k]? = some (.int .i64 (l[k] : Int)) := by
  unfold ints
  rw [List.getElem?_map, List.getElem?_eq_getElem hk]
  rfl

set_option maxHeartbeats 400000 in
theorem ints_same (g h c d : Nat) (l : List Nat) (w : World) (hl : l.length ≤ 1000000000) (h1 : ∀ (k : Nat) (hk : k < l.length), w.cell? ⟨g, k, none⟩ = some (.int .i64 (l[k] : Int))) (h2 : ∀ (k : Nat) (hk : k < l.length), w.cell? ⟨h, k, none⟩ = some (.int .i64 (l[k] : Int))) :
    Calls Try.prog 14 #[.slice (some ⟨g, 0, none⟩) l.length c, .slice (some ⟨h, 0, none⟩) l.length d] w fun e w' => e = .returned (.bool true) ∧ ∃ n, w' = w.drewN n := by
  have H1 := Lib.hid h1
  have H2 := Lib.hid h2
  have hne : ((l.length : Int) != (l.length : Int)) = false := by simp
  clear h1 h2
  go_enter Try.func14, Try.ntmps14
  go_wp2
  go_loopw [5] (fun i wr => ∃ k n : Nat, k ≤ l.length ∧ i = .int .i64 (k : Int) ∧ wr = w.drewN n) (fun i _ => l.length - (intOf i).toNat)
  case atStart => exact ⟨0, 0, Nat.zero_le _, rfl, rfl⟩
  case round =>
    obtain ⟨k, n, hk, rfl, rfl⟩ := hrel
    by_cases hlt : k < l.length
    · have c1 := H1.out k hlt
      have c2 := H2.out k hlt
      have c3 : (((l[k] : Nat) : Int) != ((l[k] : Nat) : Int)) = false := by simp
      go_wp2
      go_quiet (fail)
      go_wp2
      exact ⟨⟨k + 1, n + nq, by omega, by go_num, rfl⟩, by simp [intOf]; omega⟩
    · go_wp2
      go_ret
      exact ⟨rfl, n, rfl⟩

theorem own_cell {w : World} {B n : Nat} {E : TypeId} {v : Value} {l : List Nat} (h : w.ownsRow B E 1 v n (ints l)) {g c : Nat} (hv : v = .slice (some ⟨g, 0, none⟩) n c) (k : Nat) (hk : k < l.length) : w.cell? ⟨g, k, none⟩ = some (.int .i64 (l[k] : Int)) := by
  have h1 := h.cells (g := g) (by rw [hv]; rfl) k _ (ints_get l k hk)
  have e : (⟨g, 0, none⟩ : Addr).add k = ⟨g, k, none⟩ := by
    unfold Addr.add
    by_cases hk0 : k = 0
    · simp [hk0]
    · simp [hk0]
  rwa [e] at h1

theorem own_below {w w' : World} {B n : Nat} {E : TypeId} {v : Value} {xs : List Value} (h : w.ownsRow B E 1 v n xs) (hb : Below w.heap.size w w') : w'.ownsRow B E 1 v n xs :=
  h.kept (row := none) ⟨hb.os, hb.tape, hb.output, hb.size, fun k hk _ => hb.block k hk⟩ (by
    cases hv : v.ownBlock with
    | none => exact .inl rfl
    | some g => exact .inr (by simp))

/-- Ints at two owned rows of the same numbers, at least one. -/
theorem ints_own (B1 B2 : Nat) (E1 E2 : TypeId) (v1 v2 : Value) (l : List Nat) (w : World) (hl : l.length ≤ 1000000000) (h0 : 0 < l.length) (h1 : w.ownsRow B1 E1 1 v1 l.length (ints l)) (h2 : w.ownsRow B2 E2 1 v2 l.length (ints l)) :
    Calls Try.prog 14 #[v1, v2] w fun e w' => e = .returned (.bool true) ∧ ∃ n, w' = w.drewN n := by
  obtain ⟨g, c, hv1, _⟩ := h1.form h0
  obtain ⟨h, d, hv2, _⟩ := h2.form h0
  have k1 := fun k hk => own_cell h1 hv1 k hk
  have k2 := fun k hk => own_cell h2 hv2 k hk
  rw [hv1, hv2]
  exact ints_same g h c d l w hl k1 k2
end Go.Proofs.Ytgihfnnffailiaa
