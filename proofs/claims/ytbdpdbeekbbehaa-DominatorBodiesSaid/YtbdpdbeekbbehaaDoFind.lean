/- What is proved: IndexFunc and ContainsFunc of numbers and of points. -/
import Derived.Test.YtbdpdbeekbbehaaDoBase
set_option linter.unusedVariables false
namespace Go.Proofs.Ytbdpdbeekbbehaa
open Go.RowKit Go.Shelf

/-- a function that says yes or no of a number -/
def PrOk (P : Int → Bool) (l : List Int) (g : Nat) (caps : Array Value) (w : World) : Prop :=
  ∀ (W : World) (x : Int), Below w.heap.size w W → x ∈ l → Calls Try.prog g (#[.int .i64 x] ++ caps) W fun e W' => e = .returned (.bool (P x)) ∧ Below W.heap.size W W'
/-- a function that says yes or no of a point -/
def PpOk (P : PtV → Bool) (l : List PtV) (g : Nat) (caps : Array Value) (w : World) : Prop :=
  ∀ (W : World) (x : PtV), Below w.heap.size w W → x ∈ l → Calls Try.prog g (#[.agg #[.int .i64 x.kind, .int .i64 x.node, .slice x.A x.nx.length x.c]] ++ caps) W fun e W' => e = .returned (.bool (P x)) ∧ Below W.heap.size W W'
/-- where the first one is -/
def IxRes {α : Type} (P : α → Bool) (l : List α) (w : World) (e : Ending) (W : World) : Prop :=
  ((∃ k, ∃ hk : k < l.length, P l[k] = true ∧ (∀ x ∈ l.take k, P x = false) ∧ e = .returned (.int .i64 (k : Int))) ∨ ((∀ x ∈ l, P x = false) ∧ e = .returned (.int .i64 (-1)))) ∧ Below w.heap.size w W

set_option maxHeartbeats 1000000 in
theorem index_any (w : World) (A : Option Addr) (c : Nat) (l : List Int) (g : Nat) (caps : Array Value) (P : Int → Bool) (hl : ZRow w.heap.size w A l) (hn : l.length ≤ 1000000000) (hP : PrOk P l g caps w) (eK : ∀ args w, (callFunc g args).run Try.prog w = .ok (.enter g args) w) :
    Calls Try.prog 63 #[.slice A l.length c, .func (.func g) #[] caps] w (IxRes P l w) := by
  have HL := Lib.hid hl
  have HP := Lib.hid hP
  clear hl hP
  go_enter Try.func63, Try.ntmps63
  go_wp2_with (fail)
  go_loopw [8] (fun i wr => ∃ k : Nat, i = .int .i64 (k : Int) ∧ k ≤ l.length ∧ Hid (∀ x ∈ l.take k, P x = false) ∧ Hid (Below w.heap.size w wr)) (fun i _ => l.length - (intOf i).toNat)
  case atStart => exact ⟨0, rfl, Nat.zero_le _, Lib.hid (by simp), Lib.hid (Below.refl _ _)⟩
  case round =>
    obtain ⟨k, rfl, hk, hpre, hbw⟩ := hrel
    by_cases hlt' : k < l.length
    · obtain ⟨b, off, rfl, hb, hcs⟩ := (HL.out.below hbw.out) (by omega)
      have r0 := hcs k hlt'
      clear hcs
      have HTK := Lib.hid (List.take_succ_eq_append_getElem hlt')
      have HC := Lib.hid (HP.out wr l[k] hbw.out (List.getElem_mem hlt'))
      obtain ⟨x, HX⟩ : ∃ x, Hid (l[k] = x) := ⟨_, Lib.hid rfl⟩
      rw [HX.out] at HTK HC r0
      go_wp2_with (fail)
      refine HC.out.mono ?_
      rintro e w2 ⟨rfl, hb2⟩
      have HB2 := Lib.hid (hbw.out.trans (hb2.mono hbw.out.size))
      clear hb2
      cases hpx : P x with
      | true =>
        have HH := Lib.hid (show IxRes P l w (.returned (.int .i64 (k : Int))) w2 from ⟨.inl ⟨k, hlt', by rw [HX.out]; exact hpx, hpre.out, rfl⟩, HB2.out⟩)
        clear hpx
        go_wp2_with (fail)
        go_ret
        exact HH.out
      | false =>
        have HN := Lib.hid (show ∀ y ∈ l.take (k + 1), P y = false from fun y hy => by
          rw [HTK.out] at hy
          rcases List.mem_append.1 hy with h | h
          · exact hpre.out y h
          · rw [List.mem_singleton.1 h]; exact hpx)
        clear hpx
        go_wp2_with (fail)
        exact ⟨⟨k + 1, by go_num, by omega, HN, HB2⟩, by simp [intOf]; omega⟩
    · obtain rfl : k = l.length := by omega
      rw [List.take_length] at hpre
      go_wp2_with (fail)
      go_ret
      exact ⟨.inr ⟨hpre.out, rfl⟩, hbw.out⟩
theorem indexC_any (w : World) (A : Option Addr) (c : Nat) (l : List Int) (g : Nat) (caps : Array Value) (P : Int → Bool) (hl : ZRow w.heap.size w A l) (hn : l.length ≤ 1000000000) (hP : PrOk P l g caps w) (eK : ∀ args w, (callFunc g args).run Try.prog w = .ok (.enter g args) w) :
    Calls Try.prog 37 #[.slice A l.length c, .func (.func g) #[] caps] w fun e W => e = .returned (.bool (l.any P)) ∧ Below w.heap.size w W := by
  have HC := Lib.hid (index_any w A c l g caps P hl hn hP eK)
  clear hl hP
  go_enter Try.func37, Try.ntmps37
  go_wp2_with (fail)
  refine HC.out.mono ?_
  rintro e w2 ⟨⟨k, hk, hp, _, rfl⟩ | ⟨hp, rfl⟩, hb⟩
  · have HH := Lib.hid (show l.any P = true ∧ Below w.heap.size w w2 from ⟨List.any_eq_true.2 ⟨_, List.getElem_mem hk, hp⟩, hb⟩)
    have h0 : (0 : Int) ≤ (k : Int) := by omega
    clear hp hb
    go_wp2_with (fail)
    go_ret
    exact ⟨by rw [HH.out.1]; first | rfl | simp, HH.out.2⟩
  · have HH := Lib.hid (show l.any P = false ∧ Below w.heap.size w w2 from ⟨by rw [List.any_eq_false]; intro x hx; rw [hp x hx]; simp, hb⟩)
    clear hp hb
    go_wp2_with (fail)
    go_ret
    exact ⟨by rw [HH.out.1]; first | rfl | simp, HH.out.2⟩

set_option maxHeartbeats 1000000 in
theorem indexP_any (w : World) (A : Option Addr) (c : Nat) (l : List PtV) (g : Nat) (caps : Array Value) (P : PtV → Bool) (hl : PRow w.heap.size w A l) (hn : l.length ≤ 1000000000) (hP : PpOk P l g caps w) (eK : ∀ args w, (callFunc g args).run Try.prog w = .ok (.enter g args) w) :
    Calls Try.prog 64 #[.slice A l.length c, .func (.func g) #[] caps] w (IxRes P l w) := by
  have HL := Lib.hid hl
  have HP := Lib.hid hP
  clear hl hP
  go_enter Try.func64, Try.ntmps64
  go_wp2_with (fail)
  go_loopw [8] (fun i wr => ∃ k : Nat, i = .int .i64 (k : Int) ∧ k ≤ l.length ∧ Hid (∀ x ∈ l.take k, P x = false) ∧ Hid (Below w.heap.size w wr)) (fun i _ => l.length - (intOf i).toNat)
  case atStart => exact ⟨0, rfl, Nat.zero_le _, Lib.hid (by simp), Lib.hid (Below.refl _ _)⟩
  case round =>
    obtain ⟨k, rfl, hk, hpre, hbw⟩ := hrel
    by_cases hlt' : k < l.length
    · obtain ⟨b, off, rfl, hb, r0, r1, r2, _⟩ := (HL.out.below hbw.out).at hlt'
      have HTK := Lib.hid (List.take_succ_eq_append_getElem hlt')
      have HC := Lib.hid (HP.out wr l[k] hbw.out (List.getElem_mem hlt'))
      obtain ⟨x, HX⟩ : ∃ x, Hid (l[k] = x) := ⟨_, Lib.hid rfl⟩
      rw [HX.out] at HTK HC r0 r1 r2
      go_wp2_with (fail)
      refine HC.out.mono ?_
      rintro e w2 ⟨rfl, hb2⟩
      have HB2 := Lib.hid (hbw.out.trans (hb2.mono hbw.out.size))
      clear hb2
      cases hpx : P x with
      | true =>
        have HH := Lib.hid (show IxRes P l w (.returned (.int .i64 (k : Int))) w2 from ⟨.inl ⟨k, hlt', by rw [HX.out]; exact hpx, hpre.out, rfl⟩, HB2.out⟩)
        clear hpx
        go_wp2_with (fail)
        go_ret
        exact HH.out
      | false =>
        have HN := Lib.hid (show ∀ y ∈ l.take (k + 1), P y = false from fun y hy => by
          rw [HTK.out] at hy
          rcases List.mem_append.1 hy with h | h
          · exact hpre.out y h
          · rw [List.mem_singleton.1 h]; exact hpx)
        clear hpx
        go_wp2_with (fail)
        exact ⟨⟨k + 1, by go_num, by omega, HN, HB2⟩, by simp [intOf]; omega⟩
    · obtain rfl : k = l.length := by omega
      rw [List.take_length] at hpre
      go_wp2_with (fail)
      go_ret
      exact ⟨.inr ⟨hpre.out, rfl⟩, hbw.out⟩
theorem indexPC_any (w : World) (A : Option Addr) (c : Nat) (l : List PtV) (g : Nat) (caps : Array Value) (P : PtV → Bool) (hl : PRow w.heap.size w A l) (hn : l.length ≤ 1000000000) (hP : PpOk P l g caps w) (eK : ∀ args w, (callFunc g args).run Try.prog w = .ok (.enter g args) w) :
    Calls Try.prog 42 #[.slice A l.length c, .func (.func g) #[] caps] w fun e W => e = .returned (.bool (l.any P)) ∧ Below w.heap.size w W := by
  have HC := Lib.hid (indexP_any w A c l g caps P hl hn hP eK)
  clear hl hP
  go_enter Try.func42, Try.ntmps42
  go_wp2_with (fail)
  refine HC.out.mono ?_
  rintro e w2 ⟨⟨k, hk, hp, _, rfl⟩ | ⟨hp, rfl⟩, hb⟩
  · have HH := Lib.hid (show l.any P = true ∧ Below w.heap.size w w2 from ⟨List.any_eq_true.2 ⟨_, List.getElem_mem hk, hp⟩, hb⟩)
    have h0 : (0 : Int) ≤ (k : Int) := by omega
    clear hp hb
    go_wp2_with (fail)
    go_ret
    exact ⟨by rw [HH.out.1]; first | rfl | simp, HH.out.2⟩
  · have HH := Lib.hid (show l.any P = false ∧ Below w.heap.size w w2 from ⟨by rw [List.any_eq_false]; intro x hx; rw [hp x hx]; simp, hb⟩)
    clear hp hb
    go_wp2_with (fail)
    go_ret
    exact ⟨by rw [HH.out.1]; first | rfl | simp, HH.out.2⟩
end Go.Proofs.Ytbdpdbeekbbehaa
