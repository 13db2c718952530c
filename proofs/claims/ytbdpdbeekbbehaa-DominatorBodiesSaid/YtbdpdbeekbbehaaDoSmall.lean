/- What is proved: the reference's Small. -/
import Derived.Test.YtbdpdbeekbbehaaDoOpen
import Derived.Test.YtbdpdbeekbbehaaDoValid
set_option linter.unusedVariables false
namespace Go.Proofs.Ytbdpdbeekbbehaa
open Go.RowKit Go.Shelf

def smB (most : Nat) (l : List PtV) : Bool := l.all (fun p => decide (p.nx.length ≤ 8)) && decide (l.length ≤ most)
theorem smB_sm {most : Nat} {l : List PtV} (h : smB most l = true) (hm : most ≤ 30) : FlSm l := by
  unfold smB at h
  simp only [Bool.and_eq_true, List.all_eq_true, decide_eq_true_eq] at h
  exact ⟨by omega, fun p hp => by have := h.1 p hp; omega⟩
theorem smB_len {most : Nat} {l : List PtV} (h : smB most l = true) : l.length ≤ most := by
  unfold smB at h
  simp only [Bool.and_eq_true, List.all_eq_true, decide_eq_true_eq] at h
  exact h.2

set_option maxRecDepth 100000 in
set_option maxHeartbeats 2000000 in
theorem small17_any (A : Option Addr) (c : Nat) (l : List PtV) (most : Nat) (w : World) (hf : FlArg w A c l) :
    Calls Try.prog 40 #[.agg #[.slice A l.length c], .int .i64 (most : Int)] w fun e W => e = .returned (.bool (smB most l)) ∧ Below w.heap.size w W := by
  have HF := Lib.hid hf
  have HB1 := Lib.hid ((Below.refl w.heap.size w).alloc (Nat.le_refl _) (.cells #[.slice A l.length c] 24))
  have HX := Lib.hid (show Bx (w.alloc (.cells #[.slice A l.length c] 24)) w.heap.size 24 (.slice A l.length c) from heap_alloc_new w _)
  have hln := hf.len
  have c0 := HX.out.cell
  clear hf
  go_enter Try.func40, Try.ntmps40
  go_wp2_with (fail)
  generalize (w.alloc (.cells #[.slice A l.length c] 24)) = w1 at *
  go_loopw [5] (fun i wr => ∃ k : Nat, i = .int .i64 (k : Int) ∧ k ≤ l.length ∧ wr = w1 ∧ Hid (∀ (j : Nat) (h : j < l.length), j < k → l[j].nx.length ≤ 8)) (fun i _ => l.length - (intOf i).toNat)
  case atStart => exact ⟨0, rfl, Nat.zero_le _, rfl, Lib.hid (fun j _ h => absurd h (by omega))⟩
  case round =>
    obtain ⟨k, rfl, hk, rfl, hpre⟩ := hrel
    by_cases hlt' : k < l.length
    · obtain ⟨b, off, rfl, hb, e1, e2, e3, hz, hc⟩ := HF.out.row.at hlt'
      have c3 := (HB1.out.cell (p := ⟨b, off + k * 3 + 2, none⟩) hb).trans e3
      obtain ⟨m, HM⟩ : ∃ m, Hid (l[k].nx.length = m) := ⟨_, Lib.hid rfl⟩
      rw [HM.out] at c3
      generalize l[k].A = A2 at *
      generalize l[k].c = c2 at *
      clear e1 e2 e3 hz hc
      by_cases h8 : m ≤ 8
      · have hn8 : ¬ ((m : Int) > 8) := by omega
        have hn8' : ¬ ((8 : Int) < (m : Int)) := by omega
        have HN := Lib.hid (show ∀ (j : Nat) (h : j < l.length), j < k + 1 → l[j].nx.length ≤ 8 from fun j h hj => by
          by_cases e : j = k
          · subst e; rw [HM.out]; exact h8
          · exact hpre.out j h (by omega))
        go_wp2_with (fail)
        exact ⟨⟨k + 1, by go_num, by omega, by first | rfl | trivial, HN⟩, by simp [intOf]; omega⟩
      · have hn8' : ((8 : Int) < (m : Int)) := by omega
        have HNE := Lib.hid (show smB most l = false from by
          unfold smB
          rw [Bool.and_eq_false_iff]
          exact .inl (List.all_eq_false.2 ⟨_, List.getElem_mem hlt', by simp only [decide_eq_true_eq]; rw [HM.out]; exact h8⟩))
        go_wp2_with (fail)
        go_ret
        rw [HNE.out]
        exact ⟨rfl, HB1.out⟩
    · obtain rfl : k = l.length := by omega
      have HEQ := Lib.hid (show smB most l = decide (l.length ≤ most) from by
        unfold smB
        have h1 : l.all (fun p => decide (p.nx.length ≤ 8)) = true := List.all_eq_true.2 fun p hp => by
          obtain ⟨j, hj, rfl⟩ := List.getElem_of_mem hp
          exact decide_eq_true (hpre.out j hj hj)
        rw [h1, Bool.true_and])
      go_wp2_with (fail)
      go_ret
      rw [HEQ.out]
      exact ⟨rfl, HB1.out⟩
theorem small_any (A : Option Addr) (c : Nat) (l : List PtV) (most : Nat) (w : World) (hf : FlArg w A c l) :
    Calls Try.prog 12 #[.agg #[.slice A l.length c], .int .i64 (most : Int)] w fun e W => e = .returned (.bool (smB most l)) ∧ Below w.heap.size w W := by
  have HF := Lib.hid hf
  have HB1 := Lib.hid ((Below.refl w.heap.size w).alloc (Nat.le_refl _) (.cells #[.slice A l.length c] 24))
  have HX := Lib.hid (show Bx (w.alloc (.cells #[.slice A l.length c] 24)) w.heap.size 24 (.slice A l.length c) from heap_alloc_new w _)
  have c0 := HX.out.cell
  clear hf
  go_enter Try.func12, Try.ntmps12
  go_wp2_with (fail)
  generalize (w.alloc (.cells #[.slice A l.length c] 24)) = w1 at *
  refine (small17_any A c l most w1 ⟨(HF.out.row.below HB1.out).mono HB1.out.size, HF.out.len, HF.out.few⟩).mono ?_
  rintro e w2 ⟨rfl, hb2⟩
  have HB2 := Lib.hid (HB1.out.trans (hb2.mono HB1.out.size))
  clear c0 hb2
  go_wp2_with (fail)
  go_ret
  exact ⟨rfl, HB2.out⟩
end Go.Proofs.Ytbdpdbeekbbehaa
