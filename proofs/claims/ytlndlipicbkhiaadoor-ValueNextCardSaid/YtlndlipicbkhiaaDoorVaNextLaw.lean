/- What is proved: the law ValueNext, over the example's contract. -/
import Derived.Test.YtlndlipicbkhiaaDoorVaAwake
import Derived.Test.YtlndlipicbkhiaaDoorVaRNext
import Derived.Test.YtlndlipicbkhiaaDoorVaOpen
set_option linter.unusedVariables false
namespace Go.Proofs.YtlndlipicbkhiaaDoor
open Go.RowKit

set_option maxRecDepth 100000 in
set_option maxHeartbeats 4000000 in
theorem next_many (A B C : Option Addr) (ca cb cc : Nat) (lo hi l : List Int) (w : World) (h1 : lo.length ≤ 9223372036854775807) (h2 : hi.length ≤ 9223372036854775807) (h3 : l.length ≤ 9223372036854775807) (h : 40 < lo.length ∨ 40 < hi.length ∨ 40 < l.length) :
    Calls Tryd.prog 4 #[.slice A lo.length ca, .slice B hi.length cb, .slice C l.length cc] w fun e w' => e = .returned (.bool true) ∧ Below w.heap.size w w' := by
  have HA := Lib.hid (va_awake w)
  by_cases q1 : 40 < lo.length
  · have d1 : decide ((40 : Int) < (lo.length : Int)) = true := by simp; omega
    go_enter Tryd.func4, Tryd.ntmps4
    go_wp2_with (fail)
    refine HA.out.mono ?_
    rintro e w1 ⟨rfl, hb⟩
    go_wp2_with (fail)
    go_ret
    exact ⟨rfl, hb⟩
  have d1 : decide ((40 : Int) < (lo.length : Int)) = false := by simp; omega
  have e1 : ¬ (40 : Int) < (lo.length : Int) := by omega
  by_cases q2 : 40 < hi.length
  · have d2 : decide ((40 : Int) < (hi.length : Int)) = true := by simp; omega
    go_enter Tryd.func4, Tryd.ntmps4
    go_wp2_with (fail)
    refine HA.out.mono ?_
    rintro e w1 ⟨rfl, hb⟩
    go_wp2_with (fail)
    go_ret
    exact ⟨rfl, hb⟩
  have d2 : decide ((40 : Int) < (hi.length : Int)) = false := by simp; omega
  have e2 : ¬ (40 : Int) < (hi.length : Int) := by omega
  have q3 : 40 < l.length := by omega
  have d3 : decide ((40 : Int) < (l.length : Int)) = true := by simp; omega
  go_enter Tryd.func4, Tryd.ntmps4
  go_wp2_with (fail)
  refine HA.out.mono ?_
  rintro e w1 ⟨rfl, hb⟩
  go_wp2_with (fail)
  go_ret
  exact ⟨rfl, hb⟩

theorem bump_len (lo hi l : List Int) : ((nxtP lo hi l).getD []).length ≤ l.length := by
  unfold nxtP
  split
  · rename_i h
    have hr := gw_range hi l l.length
    show (bump lo l _).length ≤ _
    rw [bump_length h.1 (by have := h.2.2.2; omega)]
    exact Nat.le_refl _
  · simp

set_option maxRecDepth 100000 in
set_option maxHeartbeats 4000000 in
theorem next_few (A B C : Option Addr) (ca cb cc : Nat) (lo hi l : List Int) (w : World) (h1 : lo.length ≤ 40) (h2 : hi.length ≤ 40) (h3 : l.length ≤ 40) (ha : ZArg w A ca lo) (hb : ZArg w B cb hi) (hc : ZArg w C cc l) :
    Calls Tryd.prog 4 #[.slice A lo.length ca, .slice B hi.length cb, .slice C l.length cc] w fun e w' => e = .returned (.bool true) ∧ Below w.heap.size w w' := by
  have HAW := Lib.hid (fun W => va_awake W)
  have HN := Lib.hid (next_any A B C ca cb cc lo hi l w ha.2.2.1 hb.2.2.1 hc.2.2.1 ha.1 hc.1 (by omega) (by omega) (by omega) (fun i => ⟨(hc.2.2.2 i).1, (hb.2.2.2 i).2⟩))
  have HR := Lib.hid (fun (W : World) (h : Below w.heap.size w W) => r_next_any A B C ca cb cc lo hi l W (ha.2.2.1.later h) (hb.2.2.1.later h) (hc.2.2.1.later h) (by omega) (by omega) (by omega) (fun i => ⟨(hc.2.2.2 i).1, (hb.2.2.2 i).2⟩))
  have hrl := bump_len lo hi l
  obtain ⟨r, HRR⟩ : ∃ r, Hid (nxtP lo hi l = r) := ⟨_, Lib.hid rfl⟩
  rw [HRR.out] at HN HR hrl
  have d1 : decide ((40 : Int) < (lo.length : Int)) = false := by simp; omega
  have d2 : decide ((40 : Int) < (hi.length : Int)) = false := by simp; omega
  have d3 : decide ((40 : Int) < (l.length : Int)) = false := by simp; omega
  have e1 : ¬ (40 : Int) < (lo.length : Int) := by omega
  have e2 : ¬ (40 : Int) < (hi.length : Int) := by omega
  have e3 : ¬ (40 : Int) < (l.length : Int) := by omega
  have hrl2 : (r.getD []).length ≤ 1000000000 := by omega
  have HRL := Lib.hid hrl2
  obtain ⟨ok, HOK⟩ : ∃ ok, Hid (r.isSome = ok) := ⟨_, Lib.hid rfl⟩
  clear ha hb hc h1 h2 h3 hrl hrl2
  go_enter Tryd.func4, Tryd.ntmps4
  go_wp2_with (fail)
  refine HN.out.mono ?_
  rintro e w1 ⟨v1, rfl, hown1, hb1⟩
  obtain ⟨A1, c1, rfl, _, hz1⟩ := z_row hown1
  have HB1 := Lib.hid hb1
  have HZ1 := Lib.hid hz1
  rw [HOK.out]
  clear hown1 hz1 hb1 HN
  go_wp2_with (fail)
  refine (HR.out w1 HB1.out).mono ?_
  rintro e w2 ⟨v2, rfl, hown2, hb2⟩
  obtain ⟨A2, c2, rfl, _, hz2⟩ := z_row hown2
  have HE := Lib.hid (zEq_any A1 A2 c1 c2 (r.getD []) (r.getD []) w2 (HZ1.out.later hb2) hz2 HRL.out HRL.out)
  rw [show decide (r.getD [] = r.getD []) = true from decide_eq_true rfl] at HE
  have HB2 := Lib.hid (HB1.out.trans (hb2.mono HB1.out.size))
  rw [HOK.out]
  clear hown2 hz2 hb2 HR
  go_wp2_with (fail)
  refine HE.out.mono ?_
  rintro e w3 ⟨rfl, n, rfl⟩
  have HB3 := Lib.hid (HB2.out.trans ((drewN_below w2 n).mono HB2.out.size))
  go_wp2_with (fail)
  refine (HAW.out _).mono ?_
  rintro e w4 ⟨rfl, hb4⟩
  have HB4 := Lib.hid (HB3.out.trans (hb4.mono HB3.out.size))
  clear hb4
  go_wp2_with (fail)
  go_ret
  exact ⟨rfl, HB4.out⟩

theorem law_next (A : Option Addr) (ca : Nat) (lo : List Int) (B : Option Addr) (cb : Nat) (hi : List Int) (C : Option Addr) (cc : Nat) (l : List Int) (w : World) (ha : ZArg w A ca lo) (hb : ZArg w B cb hi) (hc : ZArg w C cc l) :
    Calls Tryd.prog 4 #[.slice A lo.length ca, .slice B hi.length cb, .slice C l.length cc] w fun e w' => e = .returned (.bool true) ∧ Below w.heap.size w w' := by
  by_cases h : 40 < lo.length ∨ 40 < hi.length ∨ 40 < l.length
  · exact next_many A B C ca cb cc lo hi l w ha.2.1 hb.2.1 hc.2.1 h
  · exact next_few A B C ca cb cc lo hi l w (by omega) (by omega) (by omega) ha hb hc
end Go.Proofs.YtlndlipicbkhiaaDoor
