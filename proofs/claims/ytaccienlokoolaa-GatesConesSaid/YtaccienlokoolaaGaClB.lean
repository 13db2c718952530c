/- What is proved: slices.Clone of truth values; slices.Equal of two lists of numbers that are equal. -/
import Derived.Test.YtaccienlokoolaaGaCir
set_option linter.unusedVariables false
namespace Go.Proofs.Ytaccienlokoolaa
open Go.RowKit Go.Maps

set_option maxRecDepth 100000 in
set_option maxHeartbeats 1000000 in
theorem clone_bl (A : Option Addr) (c : Nat) (gs : List Bool) (w : World) (hr : BRow w A gs) (hn : gs.length ≤ 100000) : Calls Try.prog 33 #[.slice A gs.length c] w fun e w' => ∃ X cap, e = .returned (.slice X gs.length cap) ∧ BOwn w' w.heap.size (.slice X gs.length cap) gs ∧ Below w.heap.size w w' := by
  cases A with
  | none =>
    have h0 : gs.length = 0 := by
      rcases Nat.eq_zero_or_pos gs.length with h | h
      · exact h
      · obtain ⟨b, off, e, _⟩ := hr h; cases e
    obtain rfl : gs = [] := List.length_eq_zero_iff.1 h0
    have hnl := Lib.run_eql_slice_nil_nil (P := Try.prog) w (n := 0) (c := c) Try.underlying47
    clear h0 hr
    go_enter Try.func33, Try.ntmps33
    go_wp2_with (fail)
    go_ret
    exact ⟨none, 0, rfl, World.ownsRow_nil _ _ _ _, Below.refl _ _⟩
  | some a =>
    have hba := (Below.refl w.heap.size w).alloc (Nat.le_refl _) (.cells #[] 4)
    have ho : BOwn (w.alloc (.cells #[] 4)) w.heap.size (.slice (some ⟨w.heap.size, 0, none⟩) 0 0) [] := ⟨rfl, .inr ⟨w.heap.size, 0, #[], rfl, Nat.le_refl _, heap_alloc_new w _, Nat.le_refl _, by decide, rfl, rfl⟩⟩
    obtain ⟨X, cap, w', g1, g2, g3⟩ := b_append (w := w.alloc (.cells #[] 4)) w.heap.size 0 _ [] ho rfl (some a) c gs.length gs rfl (hr.later hba) (by omega) hba.size
    rw [Nat.zero_add] at g1 g2
    have HO := Lib.hid g2
    have HB := Lib.hid (hba.trans (grown_below g3 (own_lo ho) hba.size))
    have hnl := Lib.run_eql_slice_some_nil (P := Try.prog) w a gs.length c Try.underlying47
    clear g2 g3 ho hr
    go_enter Try.func33, Try.ntmps33
    go_wp2_with (at_builtin; refine app_by rfl _ _ 47 47 rfl _ _ rfl rfl _ _ g1 ?_; intro w9 hw9; obtain rfl := hw9.out)
    go_ret
    exact ⟨X, cap, rfl, HO.out, HB.out⟩
set_option maxRecDepth 100000 in
theorem equalI_any (A1 : Option Addr) (c1 : Nat) (A2 : Option Addr) (c2 : Nat) (l1 : List Int) (w : World) (h1 : ZRow w.heap.size w A1 l1) (h2 : ZRow w.heap.size w A2 l1) (hl : l1.length ≤ 1000000) :
    Calls Try.prog 32 #[.slice A1 l1.length c1, .slice A2 l1.length c2] w fun e w' => e = .returned (.bool true) ∧ Below w.heap.size w w' := by
  have HR1 := Lib.hid h1
  have HR2 := Lib.hid h2
  clear h1 h2
  go_enter Try.func32, Try.ntmps32
  go_wp2_with (fail)
  go_loopw [13] (fun jv wr => ∃ (k : Nat), k ≤ l1.length ∧ jv = .int .i64 (k : Int) ∧ Hid (Below w.heap.size w wr)) (fun jv _ => l1.length - (intOf jv).toNat)
  case atStart => exact ⟨0, Nat.zero_le _, rfl, Lib.hid (Below.refl _ _)⟩
  case round =>
    obtain ⟨k, hk, rfl, hbw⟩ := hrel
    by_cases hlt : k < l1.length
    · obtain ⟨a1, o1, e1, _, q1⟩ := (HR1.out.below hbw.out) (by omega)
      obtain ⟨a2, o2, e2, _, q2⟩ := (HR2.out.below hbw.out) (by omega)
      have r1 := q1 k hlt
      have r2 := q2 k hlt
      obtain ⟨x, HX⟩ : ∃ x, Hid (l1[k] = x) := ⟨_, Lib.hid rfl⟩
      rw [HX.out] at r1 r2
      cases e1
      cases e2
      clear q1 q2
      go_wp2_with (fail)
      go_quiet (fail)
      go_wp2_with (fail)
      exact ⟨⟨k + 1, by omega, by go_num, Lib.hid (hbw.out.trans ((drewN_below wr nq).mono hbw.out.size))⟩, by simp [intOf]; omega⟩
    · obtain rfl : k = l1.length := by omega
      go_wp2_with (fail)
      go_ret
      exact ⟨rfl, hbw.out⟩
end Go.Proofs.Ytaccienlokoolaa
