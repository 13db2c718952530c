/- What is proved: Few of records whose fields may be many. -/
import Derived.Test.YtnpcfmoiiecadaaDoorTyFew
set_option linter.unusedVariables false
namespace Go.Proofs.YtnpcfmoiiecadaaDoor
open Go.RowKit

/-- a slice of records, whatever their number -/
def RRowW (n₀ : Nat) (w : World) (A : Option Addr) (l : List RcV) : Prop :=
  0 < l.length → ∃ b off, A = some ⟨b, off, none⟩ ∧ b < n₀ ∧ ∀ (i : Nat) (h : i < l.length),
    w.cell? ⟨b, off + i * 2, none⟩ = some (.string l[i].name) ∧ w.cell? ⟨b, off + i * 2 + 1, none⟩ = some (.slice l[i].A l[i].flds.length l[i].c) ∧ FRow n₀ w l[i].A l[i].flds ∧ l[i].flds.length ≤ 9223372036854775807

theorem RRowW.below {n₀ : Nat} {w w' : World} {A : Option Addr} {l : List RcV} (h : RRowW n₀ w A l) (hb : Below n₀ w w') : RRowW n₀ w' A l := fun h0 => by
  obtain ⟨b, off, e, hlt, hc⟩ := h h0
  exact ⟨b, off, e, hlt, fun i hi => ⟨(hb.cell (p := ⟨b, off + i * 2, none⟩) hlt).trans (hc i hi).1, (hb.cell (p := ⟨b, off + i * 2 + 1, none⟩) hlt).trans (hc i hi).2.1, (hc i hi).2.2.1.below hb, (hc i hi).2.2.2⟩⟩
theorem RRowW.mono {n₀ n₁ : Nat} {w : World} {A : Option Addr} {l : List RcV} (h : RRowW n₀ w A l) (hn : n₀ ≤ n₁) : RRowW n₁ w A l := fun h0 => by
  obtain ⟨b, off, e, hlt, hc⟩ := h h0
  exact ⟨b, off, e, Nat.lt_of_lt_of_le hlt hn, fun i hi => ⟨(hc i hi).1, (hc i hi).2.1, (hc i hi).2.2.1.mono hn, (hc i hi).2.2.2⟩⟩
theorem RRowW.later {w w' : World} {A : Option Addr} {l : List RcV} (h : RRowW w.heap.size w A l) (hb : Below w.heap.size w w') : RRowW w'.heap.size w' A l := (h.below hb).mono hb.size
theorem RRowW.few {n₀ : Nat} {w : World} {A : Option Addr} {l : List RcV} (h : RRowW n₀ w A l) (hf : fewB l = true) : RRow n₀ w A l := fun h0 => by
  obtain ⟨b, off, e, hlt, hc⟩ := h h0
  exact ⟨b, off, e, hlt, fun i hi => ⟨(hc i hi).1, (hc i hi).2.1, (hc i hi).2.2.1, by have := few_fields hf (List.getElem_mem hi); omega⟩⟩

set_option maxHeartbeats 1000000 in
theorem fewW_any (A : Option Addr) (c : Nat) (l : List RcV) (w : World) (hl : l.length ≤ 9223372036854775807) (hr : RRowW w.heap.size w A l) :
    Calls Tryd.prog 4 #[.slice A l.length c] w fun e w' => e = .returned (.bool (fewB l)) ∧ w = w' := by
  have HR := Lib.hid hr
  clear hr
  go_enter Tryd.func4, Tryd.ntmps4
  go_wp2_with (fail)
  go_loop [3] (fun i => ∃ k : Nat, k ≤ l.length ∧ i = .int .i64 (k : Int) ∧ Hid ((l.take k).all (fun r => decide (r.flds.length ≤ 20)) = true)) (fun i => l.length - (intOf i).toNat)
  case atStart => exact ⟨0, Nat.zero_le _, rfl, rfl⟩
  case round =>
    obtain ⟨k, hk, rfl, hal⟩ := hrel
    by_cases hlt : k < l.length
    · obtain ⟨b, off, rfl, hb, hr⟩ := HR.out (by omega)
      obtain ⟨c1, c2, _, hfl⟩ := hr k hlt
      clear hr
      obtain ⟨x, HX⟩ : ∃ x, Hid (l[k] = x) := ⟨_, Lib.hid rfl⟩
      rw [HX.out] at c1 c2 hfl
      have HT := Lib.hid (show (l.take (k + 1)).all (fun r => decide (r.flds.length ≤ 20)) = ((l.take k).all (fun r => decide (r.flds.length ≤ 20)) && decide (x.flds.length ≤ 20)) by
        rw [List.take_succ_eq_append_getElem hlt, List.all_append, HX.out]; simp)
      by_cases g : x.flds.length ≤ 20
      · have HN := Lib.hid (show (l.take (k + 1)).all (fun r => decide (r.flds.length ≤ 20)) = true by rw [HT.out, hal.out]; simpa using g)
        have g' : decide ((20 : Int) < (x.flds.length : Int)) = false := by simp; omega
        go_wp2_with (fail)
        exact ⟨⟨k + 1, by omega, by go_num, HN⟩, by simp [intOf]; omega⟩
      · have HN := Lib.hid (show fewB l = false by
          unfold fewB
          have : l.all (fun r => decide (r.flds.length ≤ 20)) = false := by
            rw [List.all_eq_false]
            exact ⟨l[k], List.getElem_mem hlt, by rw [HX.out]; simpa using g⟩
          rw [this]; rfl)
        have g' : decide ((20 : Int) < (x.flds.length : Int)) = true := by simp; omega
        go_wp2_with (fail)
        go_ret
        exact ⟨ret_bool HN.out.symm, rfl⟩
    · have HN := Lib.hid (show fewB l = decide (l.length ≤ 20) by
        have h := hal.out
        rw [List.take_of_length_le (by omega)] at h
        unfold fewB
        rw [h]; rfl)
      by_cases g : l.length ≤ 20
      · go_wp2_with (fail)
        go_ret
        exact ⟨ret_bool (HN.out.trans (by simp; omega)).symm, rfl⟩
      · go_wp2_with (fail)
        go_ret
        exact ⟨ret_bool (HN.out.trans (by simp; omega)).symm, rfl⟩
theorem fewW_f (A : Option Addr) (c : Nat) (l : List RcV) (w : World) (v : Bool) (hv : fewB l = v) (hl : l.length ≤ 9223372036854775807) (hr : RRowW w.heap.size w A l) :
    Calls Tryd.prog 4 #[.slice A l.length c] w fun e w' => e = .returned (.bool v) ∧ w = w' := by
  rw [← hv]
  exact fewW_any A c l w hl hr

end Go.Proofs.YtnpcfmoiiecadaaDoor
