/- What is proved: a map from pairs of integers to bools that a call has made: what it answers behind a number of stores. -/
import Derived.Test.YtgihfnnffailiaaProg
import Derived.WalkKit
import Derived.OwnWalk
import Derived.Below
import Derived.IntWalk
import Derived.Lib.Hide
import Derived.Maps.Own
import Derived.Maps.Views
import Derived.WideKeyArr
set_option linter.unusedVariables false
namespace Go.Proofs.Ytgihfnnffailiaa
open Go.RowKit Go.Maps Go.WideMaps

theorem pairCells : Try.prog.cellsOf 49 = 2 := by kernel_rfl
theorem oneCell : Try.prog.cellsOf 3 = 1 := by kernel_rfl
theorem pairArr : ArrKey Try.prog 49 3 2 := ⟨Try.underlying49, by kernel_rfl, oneCell, pairCells⟩
theorem pairLaw : Keyed Try.prog 49 := Keyed.of_law pairArr.law
theorem pairDeep : Try.prog.keyType 49 = true := by kernel_rfl
theorem typesSize : ∃ m, Try.prog.types.size = m + 2 := ⟨Try.prog.types.size - 2, by have : 2 ≤ Try.prog.types.size := of_decide_eq_true (by kernel_rfl); omega⟩
theorem boolZero (w : World) : (zeroValue 4).run Try.prog w = .ok (.bool false) w := by kernel_rfl

/-- the key of a pair of integers -/
def pairKey (a b : Int) : Lit := .string (keyBytes [.int .i64 a, .int .i64 b])
theorem int_lits (d : Nat) (a : Int) (ha : (Lit.int .i64 a).wf = true) : Try.prog.keyLits (d + 1) 3 [.int .i64 a] = some [.int .i64 a] := by
  unfold Program.keyLits
  rw [Try.underlying3]
  simp [ha]
theorem pair_lits (d : Nat) (a b : Int) (ha : (Lit.int .i64 a).wf = true) (hb : (Lit.int .i64 b).wf = true) : Try.prog.keyLits (d + 2) 49 [.int .i64 a, .int .i64 b] = some [.int .i64 a, .int .i64 b] := by
  unfold Program.keyLits
  rw [Try.underlying49]
  simp only [pairCells, oneCell, List.length_cons, List.length_nil, if_true]
  have e : List.range 2 = [0, 1] := rfl
  rw [e]
  simp [int_lits d a ha, int_lits d b hb]
theorem pair_keyOf (a b : Int) (ha : (Lit.int .i64 a).wf = true) (hb : (Lit.int .i64 b).wf = true) : keyOf Try.prog 49 (.agg #[.int .i64 a, .int .i64 b]) = some (pairKey a b) := by
  obtain ⟨m, hm⟩ := typesSize
  have hl := pair_lits (m + 1) a b ha hb
  unfold keyOf
  rw [Try.underlying49]
  have hf : (Value.agg #[.int .i64 a, .int .i64 b]).formed Try.prog 49 = true := by simp [Value.formed, Try.underlying49, pairCells]
  simp only [pairDeep, hf, Bool.and_self, if_true]
  rw [hm, show m + 2 + 1 = m + 1 + 2 from rfl]
  have hc : (Value.agg #[Value.int .i64 a, Value.int .i64 b]).cells.toList = [.int .i64 a, .int .i64 b] := rfl
  rw [hc, hl]
  rfl
theorem pair_inj (a b c d : Int) (ha : (Lit.int .i64 a).wf = true) (hb : (Lit.int .i64 b).wf = true) (hc : (Lit.int .i64 c).wf = true) (hd : (Lit.int .i64 d).wf = true) (h : pairKey a b = pairKey c d) : a = c ∧ b = d := by
  have e := pairLaw.inj (pair_keyOf a b ha hb) (by rw [h]; exact pair_keyOf c d hc hd)
  simpa using e

theorem bool_inv {v : Value} {z : DataW Unit × List MemPlace} (h : plainElem (H := Unit) Try.prog 4 v = some z) : ∃ x, v = .bool x ∧ z = (.lit (.bool x), []) := by
  unfold plainElem at h
  rw [Try.underlying4] at h
  cases v <;> simp at h
  exact ⟨_, rfl, h.symm⟩

/-- behind k stores of the keys f 0, f 1, .. -/
def seenD (f : Nat → Lit) : Nat → DataW Unit
  | 0 => .map []
  | k + 1 => (seenD f k).put (f k) (.lit (.bool true))
theorem seen_at (f : Nat → Lit) (x : Lit) (z : DataW Unit) : ∀ k, (∀ j, j < k → x ≠ f j) → (seenD f k).atKey x z = z := by
  intro k
  induction k with
  | zero => intro _; rfl
  | succ k ih =>
    intro h
    show ((seenD f k).put (f k) (.lit (.bool true))).atKey x z = z
    rw [Maps.atKey_put_other (h k (by omega)), ih (fun j hj => h j (by omega))]

/-- a map in block b, with the keys f 0 .. f (k - 1) -/
def Seen (w : World) (b : Nat) (f : Nat → Lit) (k : Nat) : Prop := w.ownsMap Try.prog 49 (plainElem (H := Unit) Try.prog 4) b k (seenD f k)
theorem Seen.look {w : World} {b k : Nat} {f : Nat → Lit} (h : Seen w b f k) (x y : Int) (hx : (Lit.int .i64 x).wf = true) (hy : (Lit.int .i64 y).wf = true) (hne : ∀ j, j < k → pairKey x y ≠ f j) :
    (Instr.lookup 48 (.map (some b)) (.agg #[.int .i64 x, .int .i64 y]) false).run Try.prog w = .ok (.bool false) w := by
  obtain ⟨v, ps, hrun, hv⟩ := World.ownsMap.lookup h pairLaw Try.underlying48 (boolZero w) (zd := .lit (.bool false)) (zp := []) (plainElem_bool Try.underlying4 false) (pair_keyOf x y hx hy)
  obtain ⟨u, rfl, hu⟩ := bool_inv hv
  rw [seen_at f _ _ k hne] at hu
  have e : u = false := by simp at hu; exact hu.1
  rw [hrun, e]
theorem Seen.own {w : World} {b k : Nat} {f : Nat → Lit} (h : Seen w b f k) : w.ownsMap Try.prog 49 (plainElem (H := Unit) Try.prog 4) b k (seenD f k) := h
theorem Seen.of {w : World} {b k : Nat} {f : Nat → Lit} (h : w.ownsMap Try.prog 49 (plainElem (H := Unit) Try.prog 4) b (k + 1) ((seenD f k).put (f k) (.lit (.bool true)))) : Seen w b f (k + 1) := h
theorem Seen.made (w : World) (f : Nat → Lit) : Seen (w.alloc (.map #[] 0)) w.heap.size f 0 := World.ownsMap_made w Try.prog 49 (plainElem (H := Unit) Try.prog 4)
theorem Seen.below {w w' : World} {b k : Nat} {f : Nat → Lit} (h : Seen w b f k) (hb : Below w.heap.size w w') : Seen w' b f k :=
  World.ownsMap.kept (row := none) h ⟨hb.os, hb.tape, hb.output, hb.size, fun k hk _ => hb.block k hk⟩ (by simp)
end Go.Proofs.Ytgihfnnffailiaa
