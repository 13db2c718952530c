/- What is proved: the scanner's method token returns what the plain function says. -/
import Derived.Test.YtnpcfmoiiecadaaDoorLxScan
import Derived.Test.YtnpcfmoiiecadaaDoorShelf
import Derived.Laws.AppendOwn
set_option linter.unusedVariables false
namespace Go.Proofs.YtnpcfmoiiecadaaDoor.Lx
open Go.RowKit

theorem at_get (s : ByteArray) (j : Nat) (hj : j < s.size) : at_ s.data.toList j = s[j] := by
  unfold at_
  rw [List.getD_eq_getElem?_getD, List.getElem?_eq_getElem (by simpa using hj)]
  rfl

theorem ext2 (s : ByteArray) (i : Nat) (hi : i + 1 < s.size) : (s.extract i (i + 2)).toList = [at_ s.data.toList i, at_ s.data.toList (i + 1)] := by
  have hl : s.data.toList.length = s.size := by simp
  rw [ByteArray.toList_eq]
  have e : (s.extract i (i + 2)).data.toList = (s.data.toList.take (i + 2)).drop i := by simp [ByteArray.data_extract, List.drop_take]
  rw [e, List.drop_take, show i + 2 - i = 2 from by omega, List.drop_eq_getElem_cons (by omega), List.drop_eq_getElem_cons (by omega)]
  unfold at_
  simp [List.getD_eq_getElem?_getD, hl, hi, show i < s.size from by omega]
theorem ext1 (s : ByteArray) (i : Nat) (hi : i + 1 = s.size) : (s.extract i s.size).toList = [at_ s.data.toList i] := by
  have hl : s.data.toList.length = s.size := by simp
  rw [ByteArray.toList_eq]
  have e : (s.extract i s.size).data.toList = (s.data.toList.take s.size).drop i := by simp [ByteArray.data_extract, List.drop_take]
  rw [e, List.take_of_length_le (by omega), List.drop_eq_getElem_cons (by omega), List.drop_of_length_le (by omega)]
  unfold at_
  simp [List.getD_eq_getElem?_getD, hl, show i < s.size from by omega]

theorem two_eq (s : ByteArray) (i m : Nat) (hi : i < s.size) (hm : m = min (i + 2) s.size) : two s.data.toList i = ((s.extract i m).toList == [61, 61] || (s.extract i m).toList == [33, 61] || (s.extract i m).toList == [60, 61] || (s.extract i m).toList == [62, 61]) := by
  have hl : s.data.toList.length = s.size := by simp
  unfold two
  rw [hl]
  by_cases h : i + 1 < s.size
  · rw [show m = i + 2 from by omega, ext2 s i h]
    generalize at_ s.data.toList i = a
    generalize at_ s.data.toList (i + 1) = b
    have key : ∀ x : UInt8, (([a, b] : List UInt8) == [x, 61]) = (a == x && b == 61) := by intro x; simp [List.cons_beq_cons]
    rw [key, key, key, key]
    cases (b == 61) <;> cases (a == 61) <;> cases (a == 33) <;> cases (a == 60) <;> cases (a == 62) <;> simp [h]
  · rw [show m = s.size from by omega, ext1 s i (by omega)]
    generalize at_ s.data.toList i = a
    have key : ∀ x : UInt8, (([a] : List UInt8) == [x, 61]) = false := by intro x; simp
    rw [key, key, key, key]
    simp [h]

theorem index_mem (l : List UInt8) (c : UInt8) : (0 ≤ Lib.indexByte l c) ↔ c ∈ l := by
  induction l with
  | nil => simp [Lib.indexByte]
  | cons b l ih =>
    have hge := Lib.indexByte_ge l c
    unfold Lib.indexByte
    by_cases h : b = c
    · simp [h]
    · have h2 : (b == c) = false := by simpa using h
      rw [h2]
      by_cases h3 : Lib.indexByte l c = -1
      · simp [h3]
        exact ⟨fun e => h e.symm, fun hm => by have := ih.2 hm; omega⟩
      · have h4 : (Lib.indexByte l c == -1) = false := by simpa using h3
        simp [h4]
        constructor
        · intro _; exact .inr (ih.1 (by omega))
        · intro _; omega

def symList : List UInt8 := [60, 62, 61, 43, 45, 42, 47, 37, 40, 41, 123, 125, 91, 93, 44, 59, 58, 46]
theorem symB_mem (b : UInt8) : symB b = decide (b ∈ symList) := by
  unfold symB
  rw [Bool.eq_iff_iff]
  simp [symList]

end Go.Proofs.YtnpcfmoiiecadaaDoor.Lx
set_option linter.unusedVariables false
namespace Go.Proofs.YtnpcfmoiiecadaaDoor.Lx
open Go.RowKit

theorem run_size (s : ByteArray) (p : UInt8 → Bool) (i : Nat) : whl (fun j => p (at_ s.data.toList j)) (s.size - i) i = run s.data.toList p i := by
  unfold run
  rw [show s.data.toList.length = s.size from by simp]

end Go.Proofs.YtnpcfmoiiecadaaDoor.Lx
set_option linter.unusedVariables false
namespace Go.Proofs.YtnpcfmoiiecadaaDoor.Lx
open Go.RowKit

/-- the end of the wrong bytes from a place on -/
def wrongTo (l : List UInt8) (i : Nat) : Nat := whl (wrongAt l) (l.length - i) i

/-- the kind and the end of the token at a place -/
def tokAt (l : List UInt8) (i : Nat) : Nat × Nat :=
  if i = l.length then (5, i)
  else if letter (at_ l i) then (if isKw ((l.take (run l inName i)).drop i) then 1 else 0, run l inName i)
  else if digit (at_ l i) then (2, run l digit i)
  else if 0 < sym l i then (3, i + sym l i)
  else (4, wrongTo l i)

theorem slice_list (s : ByteArray) (i m : Nat) : (s.extract i m).data.toList = (s.data.toList.take m).drop i := by simp [ByteArray.data_extract, List.drop_take]

end Go.Proofs.YtnpcfmoiiecadaaDoor.Lx
set_option linter.unusedVariables false
namespace Go.Proofs.YtnpcfmoiiecadaaDoor.Lx
open Go.RowKit

theorem run_makeFunc (fn : Fn) (first cap : Array Value) (w : World) : (Instr.makeFunc fn first cap).run Tryd.prog w = .ok (.func fn first cap) w := rfl

theorem ret_tok {a b c d : Int} (h1 : a = b) (h2 : c = d) : Ending.returned (.tuple #[.int .i64 a, .int .i64 c]) = .returned (.tuple #[.int .i64 b, .int .i64 d]) := by rw [h1, h2]

end Go.Proofs.YtnpcfmoiiecadaaDoor.Lx
