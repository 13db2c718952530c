/- What is proved: Lines (the program's and the reference's) returns the beginnings of the lines, in new memory. -/
import Derived.Test.YtgihfnnffailiaaProg
import Derived.Test.YtgihfnnffailiaaPlain
import Derived.WalkKit
import Derived.OwnWalk
import Derived.Below
import Derived.Outline
import Derived.WalkLawsBesides
set_option linter.unusedVariables false
namespace Go.Proofs.Ytgihfnnffailiaa
open Go.RowKit

theorem infoInt : (Try.prog.info? 3).map (fun i => (i.zero, i.size, i.bytes)) = some (some (.int .i64 0), 1, 8) := by kernel_rfl

def ints (l : List Nat) : List Value := l.map fun (n : Nat) => Value.int .i64 (n : Int)

theorem byte_ten (s : ByteArray) (k : Nat) (hk : k < s.size) (h : (s[k].toNat : Int) = 10) : s.data.toList[k]? = some 10 := by
  have e : s[k] = (10 : UInt8) := by
    apply UInt8.toNat_inj.1
    show s[k].toNat = 10
    omega
  rw [List.getElem?_eq_getElem (by simpa using hk)]
  exact congrArg some e
theorem byte_not_ten (s : ByteArray) (k : Nat) (hk : k < s.size) (h : ¬ (s[k].toNat : Int) = 10) : s.data.toList[k]? ≠ some 10 := by
  rw [List.getElem?_eq_getElem (by simpa using hk)]
  intro e
  have e' : s[k] = (10 : UInt8) := Option.some.inj e
  rw [e'] at h
  exact h rfl

theorem own_one (w : World) (x : Value) (e : TypeId) : (w.alloc (.cells #[x] e)).ownsRow w.heap.size e 1 (.slice (some ⟨w.heap.size, 0, none⟩) 1 1) 1 [x] :=
  ⟨rfl, .inr ⟨_, _, _, rfl, Nat.le_refl _, heap_alloc_new w _, Nat.le_refl _, by unfold maxLen; omega, rfl, rfl⟩⟩

theorem news_one (w : World) (x : Value) (e : TypeId) : ∀ (j : Nat) (u : Value), [x][j]? = some u → (w.alloc (.cells #[x] e)).cell? ((⟨w.heap.size, 0, none⟩ : Addr).add j) = some u := by
  intro j u hj
  match j, hj with
  | 0, hj =>
    simp at hj
    subst hj
    simp [Addr.add]

theorem lines_rel {B k E : Nat} {l : List UInt8} {v' : Value} {w' : World} (h : l[k]? = some 10) (hown : w'.ownsRow B E 1 v' ((lnsTo l k).length + 1) (ints (lnsTo l k) ++ [.int .i64 ((k : Int) + 1)])) :
    w'.ownsRow B E 1 v' (lnsTo l (k + 1)).length (ints (lnsTo l (k + 1))) := by
  rw [lnsTo_yes l k h]
  simpa [ints] using hown

set_option maxHeartbeats 400000 in
theorem lines_any (s : ByteArray) (w : World) (hs : s.size ≤ 1000000) :
    Calls Try.prog 15 #[.string s] w fun e w' => ∃ v, e = .returned v ∧ w'.ownsRow w.heap.size 3 1 v (lnsTo s.data.toList s.size).length (ints (lnsTo s.data.toList s.size)) ∧ Below w.heap.size w w' := by
  obtain ⟨i0, hi, hz0, hz1, hz2⟩ := info_parts infoInt
  go_enter Try.func15, Try.ntmps15
  go_wp2
  go_loopw [3, 4] (fun v i wr => ∃ k : Nat, k ≤ s.size ∧ i = .int .i64 k ∧ wr.ownsRow w.heap.size 3 1 v (lnsTo s.data.toList k).length (ints (lnsTo s.data.toList k)) ∧ Below w.heap.size w wr) (fun _ i _ => s.size - (intOf i).toNat)
  case atStart => exact ⟨0, Nat.zero_le _, rfl, own_one w _ _, (Below.refl _ _).alloc (Nat.le_refl _) _⟩
  case round =>
    obtain ⟨k, hk, rfl, hown, hbw⟩ := hrel
    have hl := lnsTo_length s.data.toList k
    by_cases hlt : k < s.size
    · go_wp2_with (at_builtin; refine wpList_append_own _ rfl _ _ 28 rfl w.heap.size 3 i0 (.int .i64 0) 1 8 Try.underlying28 hi hz0 hz1 hz2 rfl (by decide) _ _ _ rfl (hown.alloc _) ⟨wr.heap.size, 0, none⟩ 1 1 [.int .i64 ((k : Int) + 1)] rfl rfl ?c1 ?c2 ?c3 ?c4 ?c5 ?_)
      case c1 => exact news_one _ _ _
      case c2 => intro u hu; simp at hu; subst hu; rfl
      case c3 => unfold maxLen; omega
      case c4 => omega
      case c5 => have := hbw.size; simp; omega
      · intro v' w1 hown' hgrow _
        have ht : ((s[k].toNat : Int) == 10) = true := by assumption
        have hown2 := lines_rel (byte_ten s k hlt (by simpa using ht)) hown'
        have hb2 : Below w.heap.size w w1 := (hbw.alloc hbw.size _).grown hgrow (by have := hbw.size; simp; omega) (fun g hg => (hown.lt g hg).1)
        clear hown' hgrow hown
        go_wp2
        go_roundw
        case rel => exact ⟨k + 1, by omega, by go_num, hown2, hb2⟩
        case measure => simp [intOf]; omega
      · have ht : ((s[k].toNat : Int) == 10) = false := by assumption
        have e := lnsTo_no _ _ (byte_not_ten s k hlt (by simpa using ht))
        refine ⟨⟨k + 1, by omega, by go_num, by rw [e]; exact hown, hbw⟩, by simp [intOf]; omega⟩
    · go_wp2
      go_ret
      obtain rfl : k = s.size := by omega
      exact ⟨_, rfl, hown, hbw⟩

set_option maxHeartbeats 400000 in
theorem refLines_any (s : ByteArray) (w : World) (hs : s.size ≤ 1000000) :
    Calls Try.prog 16 #[.string s] w fun e w' => ∃ v, e = .returned v ∧ w'.ownsRow w.heap.size 3 1 v (lnsTo s.data.toList s.size).length (ints (lnsTo s.data.toList s.size)) ∧ Below w.heap.size w w' := by
  obtain ⟨i0, hi, hz0, hz1, hz2⟩ := info_parts infoInt
  go_enter Try.func16, Try.ntmps16
  go_wp2
  go_loopw [3, 4] (fun v i wr => ∃ k : Nat, k ≤ s.size ∧ i = .int .i64 k ∧ wr.ownsRow w.heap.size 3 1 v (lnsTo s.data.toList k).length (ints (lnsTo s.data.toList k)) ∧ Below w.heap.size w wr) (fun _ i _ => s.size - (intOf i).toNat)
  case atStart => exact ⟨0, Nat.zero_le _, rfl, own_one w _ _, (Below.refl _ _).alloc (Nat.le_refl _) _⟩
  case round =>
    obtain ⟨k, hk, rfl, hown, hbw⟩ := hrel
    have hl := lnsTo_length s.data.toList k
    by_cases hlt : k < s.size
    · go_wp2_with (at_builtin; refine wpList_append_own _ rfl _ _ 28 rfl w.heap.size 3 i0 (.int .i64 0) 1 8 Try.underlying28 hi hz0 hz1 hz2 rfl (by decide) _ _ _ rfl (hown.alloc _) ⟨wr.heap.size, 0, none⟩ 1 1 [.int .i64 ((k : Int) + 1)] rfl rfl ?c1 ?c2 ?c3 ?c4 ?c5 ?_)
      case c1 => exact news_one _ _ _
      case c2 => intro u hu; simp at hu; subst hu; rfl
      case c3 => unfold maxLen; omega
      case c4 => omega
      case c5 => have := hbw.size; simp; omega
      · intro v' w1 hown' hgrow _
        have ht : ((s[k].toNat : Int) == 10) = true := by assumption
        have hown2 := lines_rel (byte_ten s k hlt (by simpa using ht)) hown'
        have hb2 : Below w.heap.size w w1 := (hbw.alloc hbw.size _).grown hgrow (by have := hbw.size; simp; omega) (fun g hg => (hown.lt g hg).1)
        clear hown' hgrow hown
        go_wp2
        go_roundw
        case rel => exact ⟨k + 1, by omega, by go_num, hown2, hb2⟩
        case measure => simp [intOf]; omega
      · have ht : ((s[k].toNat : Int) == 10) = false := by assumption
        have e := lnsTo_no _ _ (byte_not_ten s k hlt (by simpa using ht))
        refine ⟨⟨k + 1, by omega, by go_num, by rw [e]; exact hown, hbw⟩, by simp [intOf]; omega⟩
    · go_wp2
      go_ret
      obtain rfl : k = s.size := by omega
      exact ⟨_, rfl, hown, hbw⟩
end Go.Proofs.Ytgihfnnffailiaa
