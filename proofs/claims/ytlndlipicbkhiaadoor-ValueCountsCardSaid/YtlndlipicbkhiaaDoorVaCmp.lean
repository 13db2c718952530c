/- What is proved: slices.Compare of two lists of numbers of which the second one is greater at the first place where they differ. -/
import Derived.Test.YtlndlipicbkhiaaDoorVaApp
set_option linter.unusedVariables false
namespace Go.Proofs.YtlndlipicbkhiaaDoor
open Go.RowKit

theorem isNaN_any (x : Int) (w : World) : Calls Tryd.prog 60 #[.int .i64 x] w fun e w' => e = .returned (.bool false) ∧ w' = w := by
  have h : (x != x) = false := by simp
  go_enter Tryd.func60, Tryd.ntmps60
  go_wp2_with (fail)
  go_ret
  exact ⟨rfl, rfl⟩
theorem cmp_less (x y : Int) (h : x < y) (w : World) : Calls Tryd.prog 38 #[.int .i64 x, .int .i64 y] w fun e w' => e = .returned (.int .i64 (-1)) ∧ w' = w := by
  have H := Lib.hid (fun x w => isNaN_any x w)
  go_enter Tryd.func38, Tryd.ntmps38
  go_wp2_with (fail)
  refine (H.out _ _).mono ?_
  rintro e w1 ⟨rfl, rfl⟩
  go_wp2_with (fail)
  refine (H.out _ _).mono ?_
  rintro e w1 ⟨rfl, rfl⟩
  go_wp2_with (fail)
  go_ret
  exact ⟨rfl, rfl⟩
theorem cmp_same (x y : Int) (h : x = y) (w : World) : Calls Tryd.prog 38 #[.int .i64 x, .int .i64 y] w fun e w' => e = .returned (.int .i64 0) ∧ w' = w := by
  have H := Lib.hid (fun x w => isNaN_any x w)
  have h1 : ¬ x < y := by omega
  have h2 : ¬ y < x := by omega
  have HX := Lib.hid h
  clear h
  go_enter Tryd.func38, Tryd.ntmps38
  go_wp2_with (fail)
  refine (H.out _ _).mono ?_
  rintro e w1 ⟨rfl, rfl⟩
  go_wp2_with (fail)
  refine (H.out _ _).mono ?_
  rintro e w1 ⟨rfl, rfl⟩
  go_wp2_with (fail)
  go_ret
  exact ⟨rfl, rfl⟩

set_option maxHeartbeats 2000000 in
theorem compare_less (A B : Option Addr) (ca cb : Nat) (l m : List Int) (w : World) (ha : ZRow w.heap.size w A l) (hb : ZRow w.heap.size w B m) (hl : l.length ≤ 1000000) (hm : m.length ≤ 1000000) (g : Nat) (hg : g < l.length) (hg2 : g < m.length) (hag : ∀ i, i < g → l.getD i 0 = m.getD i 0) (hlt : l.getD g 0 < m.getD g 0) :
    Calls Tryd.prog 22 #[.slice A l.length ca, .slice B m.length cb] w fun e w' => e = .returned (.int .i64 (-1)) ∧ w' = w := by
  have HA := Lib.hid ha
  have HB := Lib.hid hb
  have HAG := Lib.hid hag
  have HLT := Lib.hid hlt
  have HL := Lib.hid (fun x y h w => cmp_less x y h w)
  have HS := Lib.hid (fun x y h w => cmp_same x y h w)
  clear ha hb hag hlt
  go_enter Tryd.func22, Tryd.ntmps22
  go_wp2_with (fail)
  go_loop [11] (fun i => ∃ k : Nat, k ≤ g ∧ i = .int .i64 (k : Int)) (fun i => l.length - (intOf i).toNat)
  case atStart => exact ⟨0, Nat.zero_le _, rfl⟩
  case round =>
    obtain ⟨k, hk, rfl⟩ := hrel
    have hk1 : k < l.length := by omega
    have hk2 : k < m.length := by omega
    obtain ⟨b1, o1, hA, _, hc1⟩ := HA.out (by omega)
    obtain ⟨b2, o2, hB, _, hc2⟩ := HB.out (by omega)
    have c1 := hc1 k hk1
    have c2 := hc2 k hk2
    rw [← getD_of hk1] at c1
    rw [← getD_of hk2] at c2
    rw [hA, hB]
    clear hc1 hc2
    by_cases q : k < g
    · have HE := Lib.hid (HAG.out k q)
      generalize l.getD k 0 = x at *
      generalize m.getD k 0 = y at *
      go_wp2_with (fail)
      refine (HS.out x y HE.out _).mono ?_
      rintro e w1 ⟨rfl, rfl⟩
      go_wp2_with (fail)
      exact ⟨⟨k + 1, by omega, by go_num⟩, by simp [intOf]; omega⟩
    · obtain rfl : k = g := by omega
      generalize l.getD k 0 = x at *
      generalize m.getD k 0 = y at *
      go_wp2_with (fail)
      refine (HL.out x y HLT.out _).mono ?_
      rintro e w1 ⟨rfl, rfl⟩
      go_wp2_with (fail)
      go_ret
      exact ⟨rfl, rfl⟩
/-- what follows a list is greater, at the place that grows -/
theorem bump_at (lo l : List Int) (g : Nat) (h : g < l.length) : (∀ i, i < g → l.getD i 0 = (bump lo l g).getD i 0) ∧ l.getD g 0 < (bump lo l g).getD g 0 := by
  constructor
  · intro i hi
    unfold bump
    rw [List.getD_eq_getElem?_getD, List.getD_eq_getElem?_getD, List.getElem?_append_left (by rw [List.length_take]; omega), List.getElem?_take, if_pos hi]
  · unfold bump
    rw [List.getD_eq_getElem?_getD, List.getD_eq_getElem?_getD, List.getElem?_append_right (by rw [List.length_take]; omega), List.length_take, show g - min g l.length = 0 by omega]
    simp
    omega
end Go.Proofs.YtlndlipicbkhiaaDoor
