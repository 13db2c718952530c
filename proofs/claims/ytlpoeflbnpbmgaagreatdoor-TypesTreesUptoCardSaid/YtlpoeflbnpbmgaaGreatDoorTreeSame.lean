/- What is proved: Same says whether two trees are equal apart from their places; List says whether the kids of a kind are a list. -/
import Derived.Test.YtlpoeflbnpbmgaaGreatDoorInS
import Derived.Deep.QuietTactic
set_option linter.unusedVariables false
namespace Go.Proofs.YtlpoeflbnpbmgaaGreatDoor
open Go.RowKit

theorem bytes_inj {s t : ByteArray} (h : s.toList = t.toList) : s = t := by
  rw [ByteArray.toList_eq, ByteArray.toList_eq] at h
  exact ByteArray.ext (Array.toList_inj.1 h)
namespace NT
mutual
/-- equal apart from their places -/
def sameB : NT → NT → Bool
  | mk k t _ _ _ _ ks, mk k' t' _ _ _ _ ks' => k == k' && t.toList == t'.toList && samesB ks ks'
def samesB : List NT → List NT → Bool
  | [], [] => true
  | x :: xs, y :: ys => sameB x y && samesB xs ys
  | _, _ => false
end
theorem sameB_eq (a b : NT) : sameB a b = (a.kind == b.kind && a.text.toList == b.text.toList && samesB a.kids b.kids) := by cases a; cases b; simp [sameB, kind, text, kids]
theorem samesB_len (l m : List NT) (h : l.length ≠ m.length) : samesB l m = false := by
  induction l generalizing m with
  | nil => cases m with
    | nil => simp at h
    | cons y ys => rfl
  | cons x xs ih => cases m with
    | nil => rfl
    | cons y ys => simp only [samesB]; rw [ih ys (by simpa using h)]; simp
theorem samesB_iff (l m : List NT) (h : l.length = m.length) : samesB l m = true ↔ ∀ (i : Nat) (h1 : i < l.length), sameB l[i] (m[i]'(by omega)) = true := by
  induction l generalizing m with
  | nil => cases m with
    | nil => simp [samesB]
    | cons y ys => simp at h
  | cons x xs ih => cases m with
    | nil => simp at h
    | cons y ys =>
      simp only [samesB, Bool.and_eq_true]
      rw [ih ys (by simpa using h)]
      constructor
      · intro ⟨h1, h2⟩ i hi
        cases i with
        | zero => exact h1
        | succ i => exact h2 i (by simpa using hi)
      · intro h1
        exact ⟨h1 0 (by simp), fun i hi => h1 (i + 1) (by simpa using hi)⟩
end NT

/-- a call that compares two trees -/
def Compares (f : Nat) (a : NT) : Prop := ∀ (b : NT) (w : World), InT w.heap.size w a → InT w.heap.size w b → NT.cnt a ≤ 1000000000 →
  Calls Tryz.prog f #[.agg #[.int .i64 a.kind, .string a.text, .int .i64 a.lo, .int .i64 a.hi, .slice a.A a.kids.length a.c], .agg #[.int .i64 b.kind, .string b.text, .int .i64 b.lo, .int .i64 b.hi, .slice b.A b.kids.length b.c]] w fun e w' => e = .returned (.bool (NT.sameB a b)) ∧ Below w.heap.size w w'

def listB (k : Int) : Bool := decide (k = 2 ∨ k = 3 ∨ k = 6 ∨ k = 11 ∨ k = 19 ∨ k = 26 ∨ k = 27)
end Go.Proofs.YtlpoeflbnpbmgaaGreatDoor
