/- What is proved: Few reports whether replacements are at most ten with texts of at most 60 bytes. -/
import Derived.Test.YtgihfnnffailiaaOrd
set_option linter.unusedVariables false
namespace Go.Proofs.Ytgihfnnffailiaa
open Go.RowKit

def fewB (l : List Rep) : Bool := l.all (fun r => decide (r.text.size ≤ 60)) && decide (l.length ≤ 10)

theorem all_take (l : List Rep) (k : Nat) (hk : k < l.length) (h : (l.take k).all (fun r => decide (r.text.size ≤ 60)) = true) (h2 : l[k].text.size ≤ 60) : (l.take (k + 1)).all (fun r => decide (r.text.size ≤ 60)) = true := by
  rw [List.take_succ_eq_append_getElem hk, List.all_append, h]
  simp [h2]
theorem few_long (l : List Rep) (k : Nat) (hk : k < l.length) (h : ¬ l[k].text.size ≤ 60) : fewB l = false := by
  unfold fewB
  have : l.all (fun r => decide (r.text.size ≤ 60)) = false := by
    rw [List.all_eq_false]
    exact ⟨l[k], List.getElem_mem hk, by simpa using h⟩
  rw [this]
  rfl
theorem few_end (l : List Rep) (k : Nat) (hk : ¬ k < l.length) (h : (l.take k).all (fun r => decide (r.text.size ≤ 60)) = true) : fewB l = decide (l.length ≤ 10) := by
  rw [List.take_of_length_le (by omega)] at h
  unfold fewB
  rw [h]
  rfl
theorem few_len (l : List Rep) (h : fewB l = true) : l.length ≤ 10 := by
  unfold fewB at h
  simp at h
  exact h.2
theorem few_short (l : List Rep) (h : fewB l = true) : Short l := by
  intro i hi
  unfold fewB at h
  simp at h
  have := h.1 _ (List.getElem_mem hi)
  omega
theorem few_text (l : List Rep) (h : fewB l = true) (i : Nat) (hi : i < l.length) : l[i].text.size ≤ 60 := by
  unfold fewB at h
  simp at h
  exact h.1 _ (List.getElem_mem hi)

set_option maxHeartbeats 400000 in
theorem few_any (A : Option Addr) (c : Nat) (l : List Rep) (w : World) (hl : l.length ≤ 9223372036854775807) (hr : RepsA w A l) :
    Calls Try.prog 19 #[.slice A l.length c] w fun e w' => e = .returned (.bool (fewB l)) ∧ w = w' := by
  have HR := Lib.hid hr
  clear hr
  go_enter Try.func19, Try.ntmps19
  go_wp2
  go_loop [3] (fun i => ∃ k : Nat, k ≤ l.length ∧ i = .int .i64 (k : Int) ∧ Hid ((l.take k).all (fun r => decide (r.text.size ≤ 60)) = true)) (fun i => l.length - (intOf i).toNat)
  case atStart => exact ⟨0, Nat.zero_le _, rfl, rfl⟩
  case round =>
    obtain ⟨k, hk, rfl, hal⟩ := hrel
    by_cases hlt : k < l.length
    · obtain ⟨b, off, rfl, hb, hr⟩ := HR.out (by omega)
      obtain ⟨c1, c2, c3⟩ := hr k hlt
      clear hr
      by_cases g : l[k].text.size ≤ 60
      · have HN := Lib.hid (all_take l k hlt hal.out g)
        have g' : (l[k].text.size : Int) ≤ 60 := by omega
        go_wp2
        exact ⟨⟨k + 1, by omega, by go_num, HN⟩, by simp [intOf]; omega⟩
      · have HN := Lib.hid (few_long l k hlt g)
        have g' : (60 : Int) < (l[k].text.size : Int) := by omega
        go_wp2
        go_ret
        exact ⟨congrArg (fun b => Ending.returned (Value.bool b)) HN.out.symm, rfl⟩
    · have HN := Lib.hid (few_end l k hlt hal.out)
      by_cases g : l.length ≤ 10
      · go_wp2
        go_ret
        exact ⟨congrArg (fun b => Ending.returned (Value.bool b)) (HN.out.trans (by simp; omega)).symm, rfl⟩
      · go_wp2
        go_ret
        exact ⟨congrArg (fun b => Ending.returned (Value.bool b)) (HN.out.trans (by simp; omega)).symm, rfl⟩
end Go.Proofs.Ytgihfnnffailiaa
