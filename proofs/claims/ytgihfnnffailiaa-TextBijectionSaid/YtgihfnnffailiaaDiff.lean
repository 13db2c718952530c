/- What is proved: Difference (the program's and the reference's) returns the common beginning's end, the common end's beginning, and what the second text has between. -/
import Derived.Test.YtgihfnnffailiaaProg
import Derived.Test.YtgihfnnffailiaaDiffPlain
import Derived.WalkKit
import Derived.OwnWalk
import Derived.Below
import Derived.Outline
import Derived.WalkLawsBesides
import Derived.IntWalk
import Derived.Lib.Hide
import Derived.LoopTactic
import Derived.Deep.QuietTactic
import Derived.BigQuiet
import Derived.Deep.Draws
set_option linter.unusedVariables false
namespace Go.Proofs.Ytgihfnnffailiaa
open Go.RowKit

def box0 (w : World) : World := w.alloc (.cells #[.int .i64 0, .int .i64 0, .string ⟨#[]⟩] 45)

theorem byte_eq {a b : ByteArray} {i j : Nat} (hi : i < a.size) (hj : j < b.size) (h : (a[i].toNat : Int) = (b[j].toNat : Int)) : a.data.toList[i]? = b.data.toList[j]? := by
  have e : a[i] = b[j] := UInt8.toNat_inj.1 (by omega)
  rw [List.getElem?_eq_getElem (by simpa using hi), List.getElem?_eq_getElem (by simpa using hj)]
  exact congrArg some e
theorem byte_ne {a b : ByteArray} {i j : Nat} (hi : i < a.size) (hj : j < b.size) (h : ¬ (a[i].toNat : Int) = (b[j].toNat : Int)) : a.data.toList[i]? ≠ b.data.toList[j]? := by
  rw [List.getElem?_eq_getElem (by simpa using hi), List.getElem?_eq_getElem (by simpa using hj)]
  intro e
  have e' : a[i] = b[j] := Option.some.inj e
  exact h (by rw [e'])
theorem len_eq (a : ByteArray) : a.data.toList.length = a.size := by simp

theorem cpl_step {a b : ByteArray} {k : Nat} (hk : k ≤ cpl a.data.toList b.data.toList) (h1 : k < a.size) (h2 : k < b.size) (h : (a[k].toNat : Int) = (b[k].toNat : Int)) : k + 1 ≤ cpl a.data.toList b.data.toList := by
  have e := byte_eq h1 h2 h
  rw [List.getElem?_eq_getElem (by simpa using h1), List.getElem?_eq_getElem (by simpa using h2)] at e
  exact cpl_more _ _ k hk (by simpa using h1) (by simpa using h2) (Option.some.inj e)

theorem csl_step {a b : ByteArray} {k j p q : Nat} (hc : k = cpl a.data.toList b.data.toList) (hj : j ≤ csl a.data.toList b.data.toList) (hp : p + j = a.size) (hq : q + j = b.size) (h1 : k < p) (h2 : k < q) (h : (a[p - 1].toNat : Int) = (b[q - 1].toNat : Int)) : j + 1 ≤ csl a.data.toList b.data.toList := by
  have e := byte_eq (by omega) (by omega) h
  have la := len_eq a
  have lb := len_eq b
  refine csl_more _ _ j hj (by omega) (by omega) ?_
  rw [la, lb, show a.size - 1 - j = p - 1 from by omega, show b.size - 1 - j = q - 1 from by omega]
  exact e
theorem csl_halt {a b : ByteArray} {k j p q : Nat} (hc : k = cpl a.data.toList b.data.toList) (hj : j ≤ csl a.data.toList b.data.toList) (hp : p + j = a.size) (hq : q + j = b.size) (h : ¬ k < p ∨ ¬ k < q ∨ (∃ (h1 : p - 1 < a.size) (h2 : q - 1 < b.size), k < p ∧ k < q ∧ ¬ (a[p - 1].toNat : Int) = (b[q - 1].toNat : Int))) : j = csl a.data.toList b.data.toList := by
  have la := len_eq a
  have lb := len_eq b
  rcases h with h | h | ⟨h1, h2, h3, h4, h⟩
  · exact csl_end _ _ j hj (by omega)
  · exact csl_end _ _ j hj (by omega)
  · refine csl_stop _ _ j hj (by omega) (by omega) ?_
    rw [la, lb, show a.size - 1 - j = p - 1 from by omega, show b.size - 1 - j = q - 1 from by omega]
    exact byte_ne h1 h2 h
theorem cpl_halt {a b : ByteArray} {k : Nat} (hk : k ≤ cpl a.data.toList b.data.toList) (h : ¬ k < a.size ∨ ¬ k < b.size ∨ (∃ (h1 : k < a.size) (h2 : k < b.size), ¬ (a[k].toNat : Int) = (b[k].toNat : Int))) : k = cpl a.data.toList b.data.toList := by
  have la := len_eq a
  have lb := len_eq b
  rcases h with h | h | ⟨h1, h2, h⟩
  · exact cpl_end _ _ k hk (by omega)
  · exact cpl_end _ _ k hk (by omega)
  · exact cpl_stop _ _ k hk (byte_ne h1 h2 h)

/-- what Difference gives, as a value -/
def diffVal (a b : ByteArray) : Value := .agg #[.int .i64 (cpl a.data.toList b.data.toList : Int), .int .i64 ((a.size - csl a.data.toList b.data.toList : Nat) : Int), .string (b.extract (cpl a.data.toList b.data.toList) (b.size - csl a.data.toList b.data.toList))]
theorem diffVal_of {a b : ByteArray} {k j p q : Nat} (hc : k = cpl a.data.toList b.data.toList) (hj : j = csl a.data.toList b.data.toList) (hp : p + j = a.size) (hq : q + j = b.size) : diffVal a b = .agg #[.int .i64 (k : Int), .int .i64 (p : Int), .string (b.extract k q)] := by
  unfold diffVal
  rw [← hc, ← hj, show a.size - j = p from by omega, show b.size - j = q from by omega]

theorem below_box {w : World} {cs : Array Value} {E : TypeId} {n : Nat} {x y z : Value} :
    Below w.heap.size w (((((w.alloc (.cells cs E)).drewN n).setCell ⟨w.heap.size, 0, none⟩ x).setCell ⟨w.heap.size, 1, none⟩ y).setCell ⟨w.heap.size, 2, none⟩ z) :=
  ((((below_drewN ((Below.refl _ _).alloc (Nat.le_refl _) _) n).setCell (p := ⟨w.heap.size, 0, none⟩) (Nat.le_refl _) _).setCell (p := ⟨w.heap.size, 1, none⟩) (Nat.le_refl _) _).setCell (p := ⟨w.heap.size, 2, none⟩) (Nat.le_refl _) _)

set_option maxHeartbeats 1000000 in
theorem difference_any (a b : ByteArray) (w : World) (ha : a.size ≤ 1000000) (hb : b.size ≤ 1000000) :
    Calls Try.prog 27 #[.string a, .string b] w fun e w' => e = .returned (diffVal a b) ∧ Below w.heap.size w w' := by
  go_enter Try.func27, Try.ntmps27
  go_wp2
  go_loopw [5] (fun i wr => ∃ k n : Nat, k ≤ cpl a.data.toList b.data.toList ∧ i = .int .i64 (k : Int) ∧ wr = (box0 w).drewN n) (fun i _ => a.size - (intOf i).toNat)
  case atStart => exact ⟨0, 0, Nat.zero_le _, rfl, rfl⟩
  case round =>
    obtain ⟨k, n, hk, rfl, rfl⟩ := hrel
    have hle := cpl_le a.data.toList b.data.toList
    by_cases hgo : ∃ (h1 : k < a.size) (h2 : k < b.size), (a[k].toNat : Int) = (b[k].toNat : Int)
    · obtain ⟨h1, h2, h3⟩ := hgo
      have hk1 := cpl_step hk h1 h2 h3
      have h3b : ((a[k].toNat : Int) == (b[k].toNat : Int)) = true := by simpa using h3
      clear h3
      go_wp2
      go_quiet (fail)
      go_wp2
      refine ⟨⟨k + 1, n + nq, hk1, by go_num, rfl⟩, by simp [intOf]; omega⟩
    · have H : Hid (k = cpl a.data.toList b.data.toList) := cpl_halt hk (by
        by_cases g1 : k < a.size
        · by_cases g2 : k < b.size
          · exact .inr (.inr ⟨g1, g2, fun e => hgo ⟨g1, g2, e⟩⟩)
          · exact .inr (.inl g2)
        · exact .inl g1)
      have hka : k ≤ a.size := by have := len_eq a; omega
      have hkb : k ≤ b.size := by have := len_eq b; omega
      have hway : (¬ k < a.size) ∨ (k < a.size ∧ ¬ k < b.size) ∨ (∃ (h1 : k < a.size) (h2 : k < b.size), ((a[k].toNat : Int) == (b[k].toNat : Int)) = false) := by
        by_cases g1 : k < a.size
        · by_cases g2 : k < b.size
          · exact .inr (.inr ⟨g1, g2, by simpa using fun e => hgo ⟨g1, g2, e⟩⟩)
          · exact .inr (.inl ⟨g1, g2⟩)
        · exact .inl g1
      clear hgo hle hk
      rcases hway with g1 | ⟨g1, g2⟩ | ⟨g1, g2, g3⟩
      all_goals
        go_wp2
        go_quiet (fail)
        go_wp2
      all_goals
        go_loopw [6, 7] (fun x y wr => ∃ j p q n : Nat, j ≤ csl a.data.toList b.data.toList ∧ p + j = a.size ∧ q + j = b.size ∧ k ≤ p ∧ k ≤ q ∧ x = .int .i64 (p : Int) ∧ y = .int .i64 (q : Int) ∧ wr = (box0 w).drewN n) (fun x _ _ => (intOf x).toNat)
        case atStart => exact ⟨0, a.size, b.size, n + nq, Nat.zero_le _, rfl, rfl, hka, hkb, rfl, rfl, rfl⟩
        case round =>
          obtain ⟨j, p, q, m, hj, hp, hq, hkp, hkq, rfl, rfl, rfl⟩ := hrel
          have hpa : p ≤ a.size := by omega
          have hqb : q ≤ b.size := by omega
          by_cases hgo2 : ∃ (h1 : p - 1 < a.size) (h2 : q - 1 < b.size), k < p ∧ k < q ∧ (a[p - 1].toNat : Int) = (b[q - 1].toNat : Int)
          · obtain ⟨r1, r2, r3, r4, r5⟩ := hgo2
            have hj1 := csl_step H.out hj hp hq r3 r4 r5
            have r5b : ((a[p - 1].toNat : Int) == (b[q - 1].toNat : Int)) = true := by simpa using r5
            have HP := Lib.hid hp
            have HQ := Lib.hid hq
            have hs1 : ((p - 1 : Nat) : Int) = (p : Int) - 1 := by omega
            have hs2 : ((q - 1 : Nat) : Int) = (q : Int) - 1 := by omega
            have hrel' : ∀ n' : Nat, ∃ j p' q' n : Nat, j ≤ csl a.data.toList b.data.toList ∧ p' + j = a.size ∧ q' + j = b.size ∧ k ≤ p' ∧ k ≤ q' ∧ Value.int .i64 ((p : Int) - 1) = .int .i64 (p' : Int) ∧ Value.int .i64 ((q : Int) - 1) = .int .i64 (q' : Int) ∧ (box0 w).drewN n' = (box0 w).drewN n := fun n' => ⟨j + 1, p - 1, q - 1, n', hj1, by omega, by omega, by omega, by omega, by rw [hs1], by rw [hs2], rfl⟩
            have HR := Lib.hid hrel'
            have HS1 := Lib.hid hs1
            clear r5 hp hq hs1 hs2 hrel'
            go_wp2
            have x1 : (1 : Int) ≤ (p : Int) := by omega
            have x2 : (0 : Int) ≤ (p : Int) - 1 := by omega
            have x3 : (p : Int) - 1 < (a.size : Int) := by omega
            have y1 : (1 : Int) ≤ (q : Int) := by omega
            have y2 : (0 : Int) ≤ (q : Int) - 1 := by omega
            have y3 : (q : Int) - 1 < (b.size : Int) := by omega
            have x5 : ((p : Int) - 1).toNat = p - 1 := by omega
            have y5 : ((q : Int) - 1).toNat = q - 1 := by omega
            have x4 : IntKind.i64.wrap ((p : Int) - 1) = (p : Int) - 1 := IntWalk.i64_in _ (by omega)
            have y4 : IntKind.i64.wrap ((q : Int) - 1) = (q : Int) - 1 := IntWalk.i64_in _ (by omega)
            go_quiet (fail)
            clear x4 y4
            go_wp2
            refine ⟨HR.out _, by simp [intOf]; omega⟩
          · have HJ : Hid (j = csl a.data.toList b.data.toList) := csl_halt H.out hj hp hq (by
              by_cases g1 : k < p
              · by_cases g2 : k < q
                · exact .inr (.inr ⟨by omega, by omega, g1, g2, fun e => hgo2 ⟨by omega, by omega, g1, g2, e⟩⟩)
                · exact .inr (.inl g2)
              · exact .inl g1)
            have hway2 : (¬ k < p) ∨ (k < p ∧ ¬ k < q) ∨ (∃ (h1 : p - 1 < a.size) (h2 : q - 1 < b.size), k < p ∧ k < q ∧ ((a[p - 1].toNat : Int) == (b[q - 1].toNat : Int)) = false) := by
              by_cases g1 : k < p
              · by_cases g2 : k < q
                · exact .inr (.inr ⟨by omega, by omega, g1, g2, by simpa using fun e => hgo2 ⟨by omega, by omega, g1, g2, e⟩⟩)
                · exact .inr (.inl ⟨g1, g2⟩)
              · exact .inl g1
            have HP := Lib.hid hp
            have HQ := Lib.hid hq
            clear hgo2 hj hp hq
            have HV := Lib.hid (diffVal_of H.out HJ.out HP.out HQ.out)
            unfold box0
            rcases hway2 with e1 | ⟨e1, e2⟩ | ⟨e0, e0', e1, e2, e3⟩
            · go_wp2
              go_quiet (fail)
              go_wp2
              refine bodyPost_ret (v := .agg #[.int .i64 (k : Int), .int .i64 (p : Int), .string (b.extract k q)]) (by simp [results, Try.results27, go_sem]) rfl ⟨by rw [HV.out], below_box⟩
            · try (exfalso; omega)
              all_goals
                go_wp2
                go_quiet (fail)
                go_wp2
                refine bodyPost_ret (v := .agg #[.int .i64 (k : Int), .int .i64 (p : Int), .string (b.extract k q)]) (by simp [results, Try.results27, go_sem]) rfl ⟨by rw [HV.out], below_box⟩
            · try (exfalso; omega)
              all_goals
                go_wp2
                have x1 : (1 : Int) ≤ (p : Int) := by omega
                have x2 : (0 : Int) ≤ (p : Int) - 1 := by omega
                have x3 : (p : Int) - 1 < (a.size : Int) := by omega
                have y1 : (1 : Int) ≤ (q : Int) := by omega
                have y2 : (0 : Int) ≤ (q : Int) - 1 := by omega
                have y3 : (q : Int) - 1 < (b.size : Int) := by omega
                have x5 : ((p : Int) - 1).toNat = p - 1 := by omega
                have y5 : ((q : Int) - 1).toNat = q - 1 := by omega
                have x4 : IntKind.i64.wrap ((p : Int) - 1) = (p : Int) - 1 := IntWalk.i64_in _ (by omega)
                have y4 : IntKind.i64.wrap ((q : Int) - 1) = (q : Int) - 1 := IntWalk.i64_in _ (by omega)
                go_quiet (fail)
                clear x4 y4
                go_wp2
                refine bodyPost_ret (v := .agg #[.int .i64 (k : Int), .int .i64 (p : Int), .string (b.extract k q)]) (by simp [results, Try.results27, go_sem]) rfl ⟨by rw [HV.out], below_box⟩
end Go.Proofs.Ytgihfnnffailiaa
