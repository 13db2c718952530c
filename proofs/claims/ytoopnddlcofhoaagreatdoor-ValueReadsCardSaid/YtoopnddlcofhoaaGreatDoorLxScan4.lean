/- What is proved: the scanner's methods token and next, and newScanner, return what the plain functions say. -/
import Derived.Test.YtoopnddlcofhoaaGreatDoorLxScan3
import Derived.Laws.AppendOwn
set_option linter.unusedVariables false
namespace Go.Proofs.YtoopnddlcofhoaaGreatDoor.Lx
open Go.RowKit

theorem enterK58 : ∀ args w, (callFunc 110 args).run Tryz.prog w = .ok (.enter 110 args) w := enters_of Tryz.func110 (by kernel_rfl) rfl

set_option maxHeartbeats 400000 in
/-- 'while' with a method value -/
theorem while_first (K : Nat) (first : Value) (p : Nat → Bool) (s : ByteArray) (g i : Nat) (w : World) (hs : s.size ≤ 1000000) (hi : i ≤ s.size) (hg : w.cell? ⟨g, 0, none⟩ = some (.string s))
    (eK : ∀ args w, (callFunc K args).run Tryz.prog w = .ok (.enter K args) w)
    (hK : ∀ j n : Nat, j < s.size → Calls Tryz.prog K #[first, .int .i64 (j : Int)] (w.drewN n) fun e w' => e = .returned (.bool (p j)) ∧ ∃ m, w' = w.drewN m) :
    Calls Tryz.prog 101 #[.pointer (some ⟨g, 0, none⟩), .int .i64 (i : Int), .func (.func K) #[first] #[]] w fun e w' => e = .returned (.int .i64 (whl p (s.size - i) i : Int)) ∧ ∃ m, w' = w.drewN m := by
  have HK := Lib.hid hK
  clear hK
  go_enter Tryz.func101, Tryz.ntmps101
  go_wp2_with (fail)
  go_loopw [1] (fun x wr => ∃ k n : Nat, k ≤ s.size ∧ x = .int .i64 (k : Int) ∧ wr = w.drewN n ∧ Hid (whl p (s.size - i) i = whl p (s.size - k) k)) (fun x _ => s.size - (intOf x).toNat)
  case atStart => exact ⟨i, 0, hi, rfl, rfl, rfl⟩
  case round =>
    obtain ⟨k, n, hk, rfl, rfl, hw⟩ := hrel
    by_cases hlt : k < s.size
    · have hlt' : (k : Int) < (s.size : Int) := by omega
      have hc := Lib.hid (HK.out k n hlt)
      cases hp : p k with
      | true =>
        have HN := Lib.hid (hw.out.trans (whl_yes p s.size k hlt hp))
        rw [hp] at hc
        clear hp
        go_wp2_with (fail)
        refine hc.out.mono ?_
        rintro e w' ⟨rfl, m, rfl⟩
        go_wp2_with (fail)
        exact ⟨⟨k + 1, m, by omega, by go_num, rfl, HN⟩, by simp [intOf]; omega⟩
      | false =>
        have HN := Lib.hid (hw.out.trans (whl_no p (s.size - k) k hp))
        rw [hp] at hc
        clear hp
        go_wp2_with (fail)
        refine hc.out.mono ?_
        rintro e w' ⟨rfl, m, rfl⟩
        go_wp2_with (fail)
        go_ret
        exact ⟨by rw [HN.out]; rfl, m, rfl⟩
    · have hlt' : (s.size : Int) ≤ (k : Int) := by omega
      have HN := Lib.hid (hw.out.trans (whl_end p s.size k hlt))
      go_wp2_with (fail)
      go_ret
      exact ⟨by rw [HN.out]; rfl, n, rfl⟩

/-- the end of the wrong bytes from a place on -/
def wrongTo (l : List UInt8) (i : Nat) : Nat := whl (wrongAt l) (l.length - i) i

theorem while_wrong (s : ByteArray) (g i : Nat) (w : World) (hs : s.size ≤ 1000000) (hi : i ≤ s.size) (h2 : w.cell? ⟨g, 0, none⟩ = some (.string s)) :
    Calls Tryz.prog 101 #[.pointer (some ⟨g, 0, none⟩), .int .i64 (i : Int), .func (.func 110) #[.pointer (some ⟨g, 0, none⟩)] #[]] w fun e w' => e = .returned (.int .i64 (wrongTo s.data.toList i : Int)) ∧ ∃ m, w' = w.drewN m := by
  have a := while_first _ (.pointer (some ⟨g, 0, none⟩)) (wrongAt s.data.toList) s g i w hs hi h2 enterK58 (fun j n hj => (wrong_any s g j (w.drewN n) hs hj h2).mono fun e w' h => ⟨h.1, by obtain ⟨m, hm⟩ := h.2; exact ⟨n + m, by rw [hm, World.drewN_drewN]⟩⟩)
  unfold wrongTo
  rwa [show s.data.toList.length = s.size from by simp]

/-- the kind and the end of the token at a place -/
def tokAt (l : List UInt8) (i : Nat) : Nat × Nat :=
  if i = l.length then (5, i)
  else if letter (at_ l i) then (if isKw ((l.take (run l inName i)).drop i) then 1 else 0, run l inName i)
  else if digit (at_ l i) then (2, run l digit i)
  else if 0 < sym l i then (3, i + sym l i)
  else (4, wrongTo l i)

theorem slice_list (s : ByteArray) (i m : Nat) : (s.extract i m).data.toList = (s.data.toList.take m).drop i := by simp [ByteArray.data_extract, List.drop_take]

end Go.Proofs.YtoopnddlcofhoaaGreatDoor.Lx
