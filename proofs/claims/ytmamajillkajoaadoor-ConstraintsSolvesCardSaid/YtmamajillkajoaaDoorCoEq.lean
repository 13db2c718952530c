/- What is proved: slices of integers, of types, compared by the reference. -/
import Derived.Test.YtmamajillkajoaaDoorCoSolve
import Derived.IntWalk
import Derived.Deep.QuietTactic
import Derived.BigQuiet
import Derived.Deep.Draws
set_option linter.unusedVariables false
namespace Go.Proofs.YtmamajillkajoaaDoor
open Go.RowKit Go.Shelf

set_option maxHeartbeats 1000000 in
theorem natsEq_any (A B : Option Addr) (c d : Nat) (l m : List Nat) (w : World) (ha : IRow w.heap.size w A l) (hb : IRow w.heap.size w B m) (hl : l.length ≤ 1000000000) (hm : m.length ≤ 1000000000) :
    Calls Tryd.prog 26 #[.slice A l.length c, .slice B m.length d] w fun e w' => e = .returned (.bool (decide (l = m))) ∧ ∃ n, w' = w.drewN n := by
  have H1 := Lib.hid ha
  have H2 := Lib.hid hb
  clear ha hb
  go_enter Tryd.func26, Tryd.ntmps26
  by_cases hlm : l.length = m.length
  · have hne : ((l.length : Int) != (m.length : Int)) = false := by simp; omega
    have HLM := Lib.hid hlm
    clear hlm
    go_wp2_with (fail)
    go_loopw [5] (fun i wr => ∃ k n : Nat, k ≤ l.length ∧ i = .int .i64 (k : Int) ∧ Hid (l.take k = m.take k) ∧ wr = w.drewN n) (fun i _ => l.length - (intOf i).toNat)
    case atStart => exact ⟨0, 0, Nat.zero_le _, rfl, Lib.hid (by simp), rfl⟩
    case round =>
      obtain ⟨k, n, hk, rfl, heq, rfl⟩ := hrel
      by_cases hlt : k < l.length
      · have hlt2 : k < m.length := by have := HLM.out; omega
        obtain ⟨b1, o1, rfl, _, hc1⟩ := H1.out (by omega)
        obtain ⟨b2, o2, rfl, _, hc2⟩ := H2.out (by omega)
        have c1 := hc1 k hlt
        have c2 := hc2 k hlt2
        have HT1 := Lib.hid (show l.take (k + 1) = l.take k ++ [l[k]] from List.take_succ_eq_append_getElem hlt)
        have HT2 := Lib.hid (show m.take (k + 1) = m.take k ++ [m[k]] from List.take_succ_eq_append_getElem hlt2)
        have HNE := Lib.hid (show l[k] ≠ m[k] → decide (l = m) = false from fun h => by
          have : l ≠ m := fun e => by subst e; exact h rfl
          simpa using this)
        clear hc1 hc2
        generalize l[k] = x at *
        generalize m[k] = y at *
        by_cases hxy : x = y
        · have c3 : ((x : Int) != (y : Int)) = false := by simp [hxy]
          have HE := Lib.hid (show l.take (k + 1) = m.take (k + 1) from by rw [HT1.out, HT2.out, heq.out, hxy])
          clear hxy
          go_wp2_with (fail)
          go_quiet (fail)
          go_wp2_with (fail)
          exact ⟨⟨k + 1, n + nq, by omega, by go_num, HE, rfl⟩, by simp [intOf]; omega⟩
        · have c3 : ((x : Int) != (y : Int)) = true := by simp; omega
          have HF := Lib.hid (HNE.out hxy)
          clear hxy
          go_wp2_with (fail)
          go_quiet (fail)
          go_wp2_with (fail)
          go_ret
          exact ⟨by rw [HF.out]; rfl, n + nq, by simp⟩
      · have HF := Lib.hid (show decide (l = m) = true from by
          have h := heq.out
          rw [List.take_of_length_le (by omega), List.take_of_length_le (by have := HLM.out; omega)] at h
          simpa using h)
        go_wp2_with (fail)
        go_ret
        exact ⟨by rw [HF.out]; rfl, n, rfl⟩
  · have hne : ((l.length : Int) != (m.length : Int)) = true := by simpa using (by omega : ¬ (l.length : Int) = (m.length : Int))
    have HF := Lib.hid (show decide (l = m) = false from by
      have : l ≠ m := fun e => hlm (by rw [e])
      simpa using this)
    go_wp2_with (fail)
    go_ret
    exact ⟨by rw [HF.out]; rfl, 0, rfl⟩

/-- equal types -/
theorem typesEq_any (A B : Option Addr) (c d : Nat) (l : List TyV) (w : World) (ha : TRow w.heap.size w A l) (hb : TRow w.heap.size w B l) (hl : l.length ≤ 1000000000) :
    Calls Tryd.prog 8 #[.slice A l.length c, .slice B l.length d] w fun e w' => e = .returned (.bool true) ∧ ∃ n, w' = w.drewN n := by
  have H1 := Lib.hid ha
  have H2 := Lib.hid hb
  clear ha hb
  go_enter Tryd.func8, Tryd.ntmps8
  have hne : ((l.length : Int) != (l.length : Int)) = false := by simp
  go_wp2_with (fail)
  go_loopw [5] (fun i wr => ∃ k n : Nat, k ≤ l.length ∧ i = .int .i64 (k : Int) ∧ wr = w.drewN n) (fun i _ => l.length - (intOf i).toNat)
  case atStart => exact ⟨0, 0, Nat.zero_le _, rfl, rfl⟩
  case round =>
    obtain ⟨k, n, hk, rfl, rfl⟩ := hrel
    by_cases hlt : k < l.length
    · obtain ⟨b1, o1, rfl, _, hc1⟩ := H1.out (by omega)
      obtain ⟨b2, o2, rfl, _, hc2⟩ := H2.out (by omega)
      obtain ⟨p0, p1, p2⟩ := hc1 k hlt
      obtain ⟨q0, q1, q2⟩ := hc2 k hlt
      clear hc1 hc2
      generalize l[k] = x at *
      have e1 : (x.kind == x.kind) = true := by simp
      have e2 : (x.len == x.len) = true := by simp
      have e3 : (x.nm.toList == x.nm.toList) = true := by simp
      go_wp2_with (fail)
      go_quiet (fail)
      go_wp2_with (fail)
      exact ⟨⟨k + 1, n + nq, by omega, by go_num, rfl⟩, by simp [intOf]; omega⟩
    · go_wp2_with (fail)
      go_ret
      exact ⟨rfl, n, rfl⟩
end Go.Proofs.YtmamajillkajoaaDoor
