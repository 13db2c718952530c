/- What is proved: the reference's Count and Levels return what the plain functions say. -/
import Derived.Test.YtjikfdifcpdhhaaNt
import Derived.WalkKit
import Derived.OwnWalk
import Derived.Outline
import Derived.WalkLawsBesides
import Derived.IntWalk
import Derived.Lib.Hide
import Derived.LoopTactic
import Derived.Deep.QuietTactic
import Derived.BigQuiet
set_option linter.unusedVariables false
namespace Go.Proofs.Ytjikfdifcpdhhaa
open Go.RowKit

theorem InT.later {w W : World} {n : NT} (h : InT w.heap.size w n) (hb : Below w.heap.size w W) : InT W.heap.size W n := InT.mono hb.size n (InT.below hb n h)
theorem InT.kidAt {n₀ : Nat} {w : World} {n : NT} (h : InT n₀ w n) {i : Nat} (hi : i < n.kids.length) : InT n₀ w n.kids[i] := h.kid (List.getElem_mem hi)
theorem box_cells (w : World) (a b c d e : Value) (t : TypeId) : (w.alloc (.cells #[a, b, c, d, e] t)).cell? ⟨w.heap.size, 0, none⟩ = some a ∧ (w.alloc (.cells #[a, b, c, d, e] t)).cell? ⟨w.heap.size, 1, none⟩ = some b ∧ (w.alloc (.cells #[a, b, c, d, e] t)).cell? ⟨w.heap.size, 2, none⟩ = some c ∧ (w.alloc (.cells #[a, b, c, d, e] t)).cell? ⟨w.heap.size, 3, none⟩ = some d ∧ (w.alloc (.cells #[a, b, c, d, e] t)).cell? ⟨w.heap.size, 4, none⟩ = some e := by
  have h : (w.alloc (.cells #[a, b, c, d, e] t)).heap[w.heap.size]? = some (.cells #[a, b, c, d, e] t (0, 0)) := heap_alloc_new w _
  exact ⟨Lib.cell_of_heap h 0, Lib.cell_of_heap h 1, Lib.cell_of_heap h 2, Lib.cell_of_heap h 3, Lib.cell_of_heap h 4⟩
theorem ret_int {k : IntKind} {a b : Int} (h : a = b) : Ending.returned (.int k a) = .returned (.int k b) := by rw [h]

set_option maxHeartbeats 400000 in
theorem r_count_any : ∀ (n : NT) (w : World), InT w.heap.size w n → NT.cnt n ≤ 1000000000 →
    Calls Try.prog 29 #[.agg #[.int .i64 n.kind, .string n.text, .int .i64 n.lo, .int .i64 n.hi, .slice n.A n.kids.length n.c]] w fun e w' => e = .returned (.int .i64 (NT.cnt n)) ∧ Below w.heap.size w w' := NT.ind fun n ih w hin hcn => by
  have hkl := NT.kids_len n
  have IH := Lib.hid ih
  have HI := Lib.hid hin
  have HC := Lib.hid (NT.cnt_eq n)
  clear ih hin
  go_enter Try.func29, Try.ntmps29
  go_wp2_with (fail)
  obtain ⟨b0, b1, b2, b3, b4⟩ := box_cells w (.int .i64 n.kind) (.string n.text) (.int .i64 n.lo) (.int .i64 n.hi) (.slice n.A n.kids.length n.c) 24
  have HB := Lib.hid ((Below.refl w.heap.size w).alloc (Nat.le_refl _) (.cells #[.int .i64 n.kind, .string n.text, .int .i64 n.lo, .int .i64 n.hi, .slice n.A n.kids.length n.c] 24))
  have hz : (w.alloc (.cells #[.int .i64 n.kind, .string n.text, .int .i64 n.lo, .int .i64 n.hi, .slice n.A n.kids.length n.c] 24)).heap.size = w.heap.size + 1 := by simp
  generalize (w.alloc (.cells #[.int .i64 n.kind, .string n.text, .int .i64 n.lo, .int .i64 n.hi, .slice n.A n.kids.length n.c] 24)) = W at *
  clear b0 b1 b2 b3
  go_loopw [3, 4] (fun x i wr => ∃ k : Nat, k ≤ n.kids.length ∧ i = .int .i64 (k : Int) ∧ x = .int .i64 ((NT.cnts (n.kids.take k) + 1 : Nat) : Int) ∧ Below (w.heap.size + 1) W wr) (fun _ i _ => n.kids.length - (intOf i).toNat)
  case atStart => exact ⟨0, Nat.zero_le _, rfl, rfl, Below.refl _ _⟩
  case round =>
    obtain ⟨k, hk, rfl, rfl, hbw⟩ := hrel
    have b4' : wr.cell? ⟨w.heap.size, 4, none⟩ = some (.slice n.A n.kids.length n.c) := (hbw.cell (p := ⟨w.heap.size, 4, none⟩) (by simp)).trans b4
    have HBW := Lib.hid (HB.out.trans (hbw.mono (by omega)))
    have hle := NT.cnts_take_le n.kids k
    have hcc := HC.out
    by_cases hlt : k < n.kids.length
    · obtain ⟨b, off, hA, hb, c0, c1, c2, c3, c4⟩ := (InT.below HBW.out n HI.out).cells k hlt
      have hq := Lib.hid (InT.later (InT.kidAt HI.out hlt) HBW.out)
      have hcg := NT.cnts_get hlt
      have hle2 := NT.cnts_take_le n.kids (k + 1)
      have hr := Lib.hid (IH.out _ (List.getElem_mem hlt) wr hq.out (by omega))
      have HG := Lib.hid hcg
      have hk2 : NT.cnts (n.kids.take k) + NT.cnt n.kids[k] ≤ 1000000000 := by omega
      clear hcg hle2
      generalize n.kids[k] = x at *
      rw [hA] at b4'
      clear hA
      go_wp2_with (fail)
      refine hr.out.mono ?_
      rintro e w' ⟨rfl, hb2⟩
      have hb3 : Below (w.heap.size + 1) W w' := hbw.trans (hb2.mono (by have := hbw.size; omega))
      go_wp2_with (fail)
      exact ⟨⟨k + 1, by omega, by go_num, by rw [HG.out]; go_num, hb3⟩, by simp [intOf]; omega⟩
    · have e : n.kids.take k = n.kids := List.take_of_length_le (by omega)
      have hv : NT.cnts (n.kids.take k) + 1 = NT.cnt n := by rw [e]; omega
      have HV := Lib.hid hv
      clear e hv
      go_wp2_with (fail)
      go_ret
      exact ⟨ret_int (by have := HV.out; omega), HBW.out⟩
set_option maxHeartbeats 400000 in
theorem r_levels_any : ∀ (n : NT) (w : World), InT w.heap.size w n → NT.cnt n ≤ 1000000000 →
    Calls Try.prog 31 #[.agg #[.int .i64 n.kind, .string n.text, .int .i64 n.lo, .int .i64 n.hi, .slice n.A n.kids.length n.c]] w fun e w' => e = .returned (.int .i64 (NT.lev n)) ∧ Below w.heap.size w w' := NT.ind fun n ih w hin hcn => by
  have hkl := NT.kids_len n
  have hcc := NT.cnt_eq n
  have IH := Lib.hid ih
  have HI := Lib.hid hin
  have HC := Lib.hid (NT.lev_eq n)
  clear ih hin
  go_enter Try.func31, Try.ntmps31
  go_wp2_with (fail)
  obtain ⟨b0, b1, b2, b3, b4⟩ := box_cells w (.int .i64 n.kind) (.string n.text) (.int .i64 n.lo) (.int .i64 n.hi) (.slice n.A n.kids.length n.c) 24
  have HB := Lib.hid ((Below.refl w.heap.size w).alloc (Nat.le_refl _) (.cells #[.int .i64 n.kind, .string n.text, .int .i64 n.lo, .int .i64 n.hi, .slice n.A n.kids.length n.c] 24))
  have hz : (w.alloc (.cells #[.int .i64 n.kind, .string n.text, .int .i64 n.lo, .int .i64 n.hi, .slice n.A n.kids.length n.c] 24)).heap.size = w.heap.size + 1 := by simp
  generalize (w.alloc (.cells #[.int .i64 n.kind, .string n.text, .int .i64 n.lo, .int .i64 n.hi, .slice n.A n.kids.length n.c] 24)) = W at *
  clear b0 b1 b2 b3
  go_loopw [3, 4] (fun x i wr => ∃ k : Nat, k ≤ n.kids.length ∧ i = .int .i64 (k : Int) ∧ x = .int .i64 ((NT.levs (n.kids.take k) : Nat) : Int) ∧ Below (w.heap.size + 1) W wr) (fun _ i _ => n.kids.length - (intOf i).toNat)
  case atStart => exact ⟨0, Nat.zero_le _, rfl, rfl, Below.refl _ _⟩
  case round =>
    obtain ⟨k, hk, rfl, rfl, hbw⟩ := hrel
    have b4' : wr.cell? ⟨w.heap.size, 4, none⟩ = some (.slice n.A n.kids.length n.c) := (hbw.cell (p := ⟨w.heap.size, 4, none⟩) (by simp)).trans b4
    have HBW := Lib.hid (HB.out.trans (hbw.mono (by omega)))
    have hle := NT.cnts_take_le n.kids k
    have hlk := NT.lev_le_cnts (n.kids.take k) (fun x _ => NT.lev_le x)
    by_cases hlt : k < n.kids.length
    · obtain ⟨b, off, hA, hb, c0, c1, c2, c3, c4⟩ := (InT.below HBW.out n HI.out).cells k hlt
      have hq := Lib.hid (InT.later (InT.kidAt HI.out hlt) HBW.out)
      have hcg := NT.levs_get hlt
      have hcg2 := NT.cnts_get hlt
      have hl1 := NT.lev_le n.kids[k]
      have hle2 := NT.cnts_take_le n.kids (k + 1)
      have hr := Lib.hid (IH.out _ (List.getElem_mem hlt) wr hq.out (by omega))
      have HG := Lib.hid hcg
      have hk2 : NT.cnt n.kids[k] ≤ 1000000000 := by omega
      have hk3 : NT.lev n.kids[k] ≤ 1000000000 := by omega
      clear hcg hle2 hcg2 hl1
      generalize n.kids[k] = x at *
      rw [hA] at b4'
      clear hA
      go_wp2_with (fail)
      refine hr.out.mono ?_
      rintro e w' ⟨rfl, hb2⟩
      have hb3 : Below (w.heap.size + 1) W w' := hbw.trans (hb2.mono (by have := hbw.size; omega))
      go_wp2_with (fail)
      exact ⟨⟨k + 1, by omega, by go_num, by rw [HG.out]; simp <;> omega, hb3⟩, by simp [intOf]; omega⟩
    · have e : n.kids.take k = n.kids := List.take_of_length_le (by omega)
      have hv : NT.levs (n.kids.take k) + 1 = NT.lev n := by rw [e, HC.out]
      have HV := Lib.hid hv
      clear e hv
      go_wp2_with (fail)
      go_ret
      exact ⟨ret_int (by have := HV.out; omega), HBW.out⟩
end Go.Proofs.Ytjikfdifcpdhhaa
