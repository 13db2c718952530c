/- What is proved: the reference's Few and Equal. -/
import Derived.Test.YtnpcfmoiiecadaaDoorTyMember
set_option linter.unusedVariables false
namespace Go.Proofs.YtnpcfmoiiecadaaDoor
open Go.RowKit

/-- few records, each with few fields -/
def fewB (l : List RcV) : Bool := l.all (fun r => decide (r.flds.length ≤ 20)) && decide (l.length ≤ 20)
theorem few_len {l : List RcV} (h : fewB l = true) : l.length ≤ 20 := by
  unfold fewB at h
  simp at h
  exact h.2
theorem few_fields {l : List RcV} (h : fewB l = true) {r : RcV} (hr : r ∈ l) : r.flds.length ≤ 20 := by
  unfold fewB at h
  simp at h
  exact h.1 r hr

set_option maxHeartbeats 1000000 in
theorem few_any (A : Option Addr) (c : Nat) (l : List RcV) (w : World) (hl : l.length ≤ 9223372036854775807) (hr : RRow w.heap.size w A l) :
    Calls Tryd.prog 4 #[.slice A l.length c] w fun e w' => e = .returned (.bool (fewB l)) ∧ w = w' := by
  have HR := Lib.hid hr
  clear hr
  go_enter Tryd.func4, Tryd.ntmps4
  go_wp2_with (fail)
  go_loop [3] (fun i => ∃ k : Nat, k ≤ l.length ∧ i = .int .i64 (k : Int) ∧ Hid ((l.take k).all (fun r => decide (r.flds.length ≤ 20)) = true)) (fun i => l.length - (intOf i).toNat)
  case atStart => exact ⟨0, Nat.zero_le _, rfl, rfl⟩
  case round =>
    obtain ⟨k, hk, rfl, hal⟩ := hrel
    by_cases hlt : k < l.length
    · obtain ⟨b, off, rfl, hb, hr⟩ := HR.out (by omega)
      obtain ⟨c1, c2, _, hfl⟩ := hr k hlt
      clear hr
      obtain ⟨x, HX⟩ : ∃ x, Hid (l[k] = x) := ⟨_, Lib.hid rfl⟩
      rw [HX.out] at c1 c2 hfl
      have HT := Lib.hid (show (l.take (k + 1)).all (fun r => decide (r.flds.length ≤ 20)) = ((l.take k).all (fun r => decide (r.flds.length ≤ 20)) && decide (x.flds.length ≤ 20)) by
        rw [List.take_succ_eq_append_getElem hlt, List.all_append, HX.out]; simp)
      by_cases g : x.flds.length ≤ 20
      · have HN := Lib.hid (show (l.take (k + 1)).all (fun r => decide (r.flds.length ≤ 20)) = true by rw [HT.out, hal.out]; simpa using g)
        have g' : decide ((20 : Int) < (x.flds.length : Int)) = false := by simp; omega
        go_wp2_with (fail)
        exact ⟨⟨k + 1, by omega, by go_num, HN⟩, by simp [intOf]; omega⟩
      · have HN := Lib.hid (show fewB l = false by
          unfold fewB
          have : l.all (fun r => decide (r.flds.length ≤ 20)) = false := by
            rw [List.all_eq_false]
            exact ⟨l[k], List.getElem_mem hlt, by rw [HX.out]; simpa using g⟩
          rw [this]; rfl)
        have g' : decide ((20 : Int) < (x.flds.length : Int)) = true := by simp; omega
        go_wp2_with (fail)
        go_ret
        exact ⟨ret_bool HN.out.symm, rfl⟩
    · have HN := Lib.hid (show fewB l = decide (l.length ≤ 20) by
        have h := hal.out
        rw [List.take_of_length_le (by omega)] at h
        unfold fewB
        rw [h]; rfl)
      by_cases g : l.length ≤ 20
      · go_wp2_with (fail)
        go_ret
        exact ⟨ret_bool (HN.out.trans (by simp; omega)).symm, rfl⟩
      · go_wp2_with (fail)
        go_ret
        exact ⟨ret_bool (HN.out.trans (by simp; omega)).symm, rfl⟩
theorem few_f (A : Option Addr) (c : Nat) (l : List RcV) (w : World) (v : Bool) (hv : fewB l = v) (hl : l.length ≤ 9223372036854775807) (hr : RRow w.heap.size w A l) :
    Calls Tryd.prog 4 #[.slice A l.length c] w fun e w' => e = .returned (.bool v) ∧ w = w' := by
  rw [← hv]
  exact few_any A c l w hl hr

set_option maxHeartbeats 2000000 in
/-- two slices of equal types -/
theorem equal_any (A B : Option Addr) (c d : Nat) (l : List TyV) (w : World) (ha : TRow w.heap.size w A l) (hb : TRow w.heap.size w B l) (hl : l.length ≤ 1000000000) :
    Calls Tryd.prog 20 #[.slice A l.length c, .slice B l.length d] w fun e w' => e = .returned (.bool true) ∧ Below w.heap.size w w' := by
  have H1 := Lib.hid ha
  have H2 := Lib.hid hb
  clear ha hb
  go_enter Tryd.func20, Tryd.ntmps20
  go_wp2_with (fail)
  go_loopw [5] (fun i wr => ∃ k n : Nat, k ≤ l.length ∧ i = .int .i64 (k : Int) ∧ wr = w.drewN n) (fun i _ => l.length - (intOf i).toNat)
  case atStart => exact ⟨0, 0, Nat.zero_le _, rfl, rfl⟩
  case round =>
    obtain ⟨k, n, hk, rfl, rfl⟩ := hrel
    by_cases hlt : k < l.length
    · obtain ⟨b1, o1, rfl, _, hc1⟩ := H1.out (by omega)
      obtain ⟨b2, o2, rfl, _, hc2⟩ := H2.out (by omega)
      obtain ⟨c0, c1, c2⟩ := hc1 k hlt
      obtain ⟨d0, d1, d2⟩ := hc2 k hlt
      clear hc1 hc2
      generalize l[k] = x at *
      have i0 : (0 : Int) ≤ (k : Int) := by omega
      have i1 : (k : Int) < (l.length : Int) := by omega
      go_wp2_with (fail)
      go_quiet (fail)
      go_wp2_with (fail)
      exact ⟨⟨k + 1, n + nq, by omega, by go_num, rfl⟩, by simp [intOf]; omega⟩
    · go_wp2_with (fail)
      go_ret
      exact ⟨rfl, drewN_below _ _⟩
end Go.Proofs.YtnpcfmoiiecadaaDoor
