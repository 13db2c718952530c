/- What is proved: the two functions that Loops gives away: the way back within a loop, and what is not reached. -/
import Derived.Test.YtbdpdbeekbbehaaDoLoopP
import Derived.Test.YtbdpdbeekbbehaaDoForw
import Derived.Test.YtbdpdbeekbbehaaDoAbove
set_option linter.unusedVariables false
namespace Go.Proofs.Ytbdpdbeekbbehaa
open Go.RowKit Go.Shelf

theorem up_eK : ∀ args w, (callFunc 54 args).run Try.prog w = .ok (.enter 54 args) w := enters_of Try.func54 (by kernel_rfl) rfl
theorem gone_eK : ∀ args w, (callFunc 56 args).run Try.prog w = .ok (.enter 56 args) w := enters_of Try.func56 (by kernel_rfl) rfl
theorem up_ok {w : World} {B : Nat → List Nat} {n h hx vb b : Nat} {nx : Value} (hh : Bx w hx 3 (.int .i64 (h : Int))) (hv : w.heap[vb]? = some (.cells #[.int .i64 (n : Int), .int .i64 1, bkV b, nx] 57 (0, 0))) (hX : NxOk B n 66 #[.pointer (some ⟨b, 0, none⟩)] w) :
    NxOk (upE B h) n 54 #[.pointer (some ⟨hx, 0, none⟩), .pointer (some ⟨vb, 0, none⟩)] w := by
  intro W p hB hpn
  have c0 := (hh.later hB).cell
  have c2 := Lib.cell_of_heap ((hB.block vb (hlt hv)).trans hv) 2
  have HC := Lib.hid (hX W p hB hpn)
  clear hh hv hX hB
  by_cases he : p = h
  · subst he
    have HE : Hid (upE B p p = []) := Lib.hid (by simp [upE])
    go_enter Try.func54, Try.ntmps54
    go_wp2_with (fail)
    go_ret
    rw [HE.out]
    exact ⟨none, 0, rfl, NRow.nil _ _ _, Nat.le_refl _, 0, rfl⟩
  · have HE : Hid (upE B h p = B p) := Lib.hid (by simp [upE, he])
    have hne : ¬ (p : Int) = (h : Int) := by omega
    go_enter Try.func54, Try.ntmps54
    go_wp2_with (fail)
    refine HC.out.mono ?_
    rintro e w2 ⟨A, c, rfl, h1, h2, q, rfl⟩
    have HH := Lib.hid (show NRow w.heap.size w A (upE B h p) ∧ (upE B h p).length ≤ c from by rw [HE.out]; exact ⟨h1, h2⟩)
    clear h1 h2
    go_wp2_with (fail)
    go_ret
    rw [← HE.out]
    exact ⟨A, c, rfl, HH.out.1, HH.out.2, q, rfl⟩
theorem gone_ok {w : World} {M n xb ob : Nat} {ov : Nat → Int} {r : Nat → Bool} {L : List Nat} (hx : Bx w xb 29 (.slice (some ⟨ob, 0, none⟩) n n)) (ho : IArr w ob n ov) (h1 : xb < M) (h2 : ob < M) (hL : ∀ v ∈ L, v < n) (hn : n ≤ 1000000) (hr : ∀ v, r v = true ↔ Pr ov 0 v) :
    PbOk M (fun i => !(r i.toNat)) (zl L) 56 #[.pointer (some ⟨xb, 0, none⟩)] w := by
  intro W x hB hxL
  obtain ⟨v, hv, rfl⟩ := List.mem_map.1 hxL
  have hvn := hL v hv
  have c0 := Lib.cell_of_heap ((hB.block xb h1).trans hx) 0
  have HC := Lib.hid (reached_any W ob n 0 v ov (ho.below hB h2) hvn hn (r v) (hr v))
  have e : (((v : Nat) : Int).toNat) = v := rfl
  show Calls _ _ _ _ (fun e W' => e = .returned (.bool (!(r ((v : Int)).toNat))) ∧ _)
  rw [e]
  clear hx ho hB hxL hL hr e
  go_enter Try.func56, Try.ntmps56
  go_wp2_with (fail)
  refine HC.out.mono ?_
  rintro e w2 ⟨rfl, rfl⟩
  go_wp2_with (fail)
  go_ret
  exact ⟨rfl, Below.refl _ _⟩
end Go.Proofs.Ytbdpdbeekbbehaa
