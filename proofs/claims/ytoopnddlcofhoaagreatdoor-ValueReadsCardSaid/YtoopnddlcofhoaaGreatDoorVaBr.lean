/- What is proved: the example record and its brackets. -/
import Derived.Test.YtoopnddlcofhoaaGreatDoorVaStr
set_option linter.unusedVariables false
namespace Go.Proofs.YtoopnddlcofhoaaGreatDoor
open Go.RowKit

def sPoint : ByteArray := ⟨#[112, 111, 105, 110, 116]⟩
def ptT : TyV := ⟨4, 0, sPoint⟩
def ptR (A : Option Addr) (c : Nat) : RcV := ⟨sPoint, A, c, [⟨⟨#[112, 120]⟩, bsc 1⟩, ⟨⟨#[112, 98]⟩, bsc 2⟩]⟩
theorem pt_find (A : Option Addr) (c : Nat) : fndR [ptR A c] sPoint = some (ptR A c) := by
  have h : ((ptR A c).name.toList == sPoint.toList) = true := by simp [ptR]
  unfold fndR
  rw [List.find?_cons, h]
theorem pt_valid (A : Option Addr) (c : Nat) : validB ptT [ptR A c] = true := by
  have h := pt_find A c
  simp [validB, ptT, h]
theorem fty_int (x : ByteArray) : fty ⟨x, bsc 1⟩ = bsc 1 := by
  unfold fty
  rw [if_neg (by simp [tyB, bsc])]
theorem fty_bool (x : ByteArray) : fty ⟨x, bsc 2⟩ = bsc 2 := by
  unfold fty
  rw [if_pos (tyB_refl _)]
theorem pt_parts (A : Option Addr) (c : Nat) : scalT [ptT] [ptR A c] = [bsc 1, bsc 2] := by
  unfold scalT
  rw [if_pos (by simp [pt_valid])]
  have e : partsT ptT [ptR A c] = [bsc 1, bsc 2] := by
    unfold partsT
    rw [if_neg (by decide), if_pos (show ptT.kind = 4 from rfl)]
    show (match fndR [ptR A c] sPoint with | some r => r.flds.map fty | none => []) = _
    rw [pt_find]
    show [fty _, fty _] = _
    rw [fty_int, fty_bool]
  show partsT ptT [ptR A c] ++ [] = _
  rw [e]
  rfl

theorem brackets_pt (w : World) : Calls Tryz.prog 26 #[.agg #[.int .i64 4, .int .i64 0, .string ⟨#[112, 111, 105, 110, 116]⟩]] w fun e w' => e = .returned (.tuple #[.string ⟨#[112, 111, 105, 110, 116, 40]⟩, .string ⟨#[41]⟩]) ∧ Below w.heap.size w w' := by
  have hb := (Below.refl w.heap.size w).alloc (Nat.le_refl _) (.cells #[.int .i64 4, .int .i64 0, .string ⟨#[112, 111, 105, 110, 116]⟩] 23)
  obtain ⟨c0, c1, c2⟩ := (TCells.of_box (w := w) (x := ⟨4, 0, ⟨#[112, 111, 105, 110, 116]⟩⟩))
  have HB := Lib.hid hb
  clear hb
  go_enter Tryz.func26, Tryz.ntmps26
  go_wp2_with (fail)
  go_ret2
  exact ⟨rfl, HB.out⟩
end Go.Proofs.YtoopnddlcofhoaaGreatDoor
