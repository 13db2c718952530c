/- What is proved: the law ValueCounts, over the example's contract. -/
import Derived.Test.YtlndlipicbkhiaaDoorVaAwake
import Derived.Test.YtlndlipicbkhiaaDoorVaCmp
import Derived.Test.YtlndlipicbkhiaaDoorVaCntP
import Derived.Test.YtlndlipicbkhiaaDoorVaOpen
import Derived.BigQuiet
set_option linter.unusedVariables false
namespace Go.Proofs.YtlndlipicbkhiaaDoor
open Go.RowKit

theorem rg_low' : ∀ lo hi : List Int, lo.length = hi.length → (∀ j, j < lo.length → lo.getD j 0 ≤ hi.getD j 0) → rgP lo hi lo
  | [], [], _, _ => trivial
  | a :: lo, h :: hi, e, hr => ⟨⟨by omega, by simpa using hr 0 (by simp)⟩, rg_low' lo hi (by simpa using e) (fun j hj => by
      have := hr (j + 1) (by simpa using hj)
      simpa using this)⟩
  | [], _ :: _, e, _ => by simp at e
  | _ :: _, [], e, _ => by simp at e
def CYes (w : World) (e : Ending) (w' : World) : Prop := e = .returned (.bool true) ∧ Below w.heap.size w w'
set_option maxRecDepth 100000 in
set_option maxHeartbeats 4000000 in
theorem counts_out (A B : Option Addr) (ca cb : Nat) (lo hi : List Int) (w : World) (h1 : lo.length ≤ 9223372036854775807) (h2 : hi.length ≤ 9223372036854775807) (h : lo.length ≠ hi.length ∨ 8 < lo.length) :
    Calls Tryd.prog 7 #[.slice A lo.length ca, .slice B hi.length cb] w (CYes w) := by
  have HA := Lib.hid (va_awake w)
  by_cases q : lo.length = hi.length
  · have d1 : ((lo.length : Int) != (hi.length : Int)) = false := by simp; omega
    have d2 : decide ((8 : Int) < (lo.length : Int)) = true := by simp; omega
    have HQ := Lib.hid q
    clear q h
    go_enter Tryd.func7, Tryd.ntmps7
    go_wp2_with (fail)
    refine HA.out.mono ?_
    rintro e w1 ⟨rfl, hb⟩
    go_wp2_with (fail)
    go_ret
    exact ⟨rfl, hb⟩
  · have d1 : ((lo.length : Int) != (hi.length : Int)) = true := by simp; omega
    clear q h
    go_enter Tryd.func7, Tryd.ntmps7
    go_wp2_with (fail)
    refine HA.out.mono ?_
    rintro e w1 ⟨rfl, hb⟩
    go_wp2_with (fail)
    go_ret
    exact ⟨rfl, hb⟩

set_option maxRecDepth 100000 in
set_option maxHeartbeats 8000000 in
theorem counts_in (A B : Option Addr) (ca cb : Nat) (lo hi : List Int) (w : World) (ha : ZArg w A ca lo) (hb : ZArg w B cb hi) (hl : lo.length = hi.length) (h8 : lo.length ≤ 8) :
    Calls Tryd.prog 7 #[.slice A lo.length ca, .slice B hi.length cb] w (CYes w) := by
  have HAW := Lib.hid (fun W => va_awake W)
  have HA := Lib.hid ha
  have HB := Lib.hid hb
  have HLL := Lib.hid hl
  have d1 : ((lo.length : Int) != (hi.length : Int)) = false := by simp; omega
  have d2 : decide ((8 : Int) < (lo.length : Int)) = false := by simp; omega
  have d3 : ¬ (8 : Int) < (lo.length : Int) := by omega
  clear ha hb hl
  go_enter Tryd.func7, Tryd.ntmps7
  go_wp2_with (fail)
  clear d1 d2 d3
  go_loopw [5, 26] (fun v i wr => ∃ (k n : Nat) (c : Int), k ≤ lo.length ∧ i = .int .i64 (k : Int) ∧ v = .int .i64 c ∧ Hid (c = pcP lo hi k) ∧ Hid (1 ≤ c ∧ c ≤ 200) ∧ Hid (∀ j, j < k → lo.getD j 0 ≤ hi.getD j 0) ∧ wr = w.drewN n) (fun _ i _ => lo.length - (intOf i).toNat)
  case atStart => exact ⟨0, 0, 1, Nat.zero_le _, rfl, rfl, Lib.hid rfl, Lib.hid (by omega), Lib.hid (fun j h => absurd h (by omega)), rfl⟩
  case round =>
    obtain ⟨k, n, c, hk, rfl, rfl, hc, hcb, hin, rfl⟩ := hrel
    by_cases hlt : k < lo.length
    · have hk2 : k < hi.length := by have := HLL.out; omega
      obtain ⟨b1, o1, hA, _, hc1⟩ := HA.out.2.2.1 (by omega)
      obtain ⟨b2, o2, hB, _, hc2⟩ := HB.out.2.2.1 (by omega)
      have c1 := hc1 k hlt
      have c2 := hc2 k hk2
      rw [← getD_of hlt] at c1
      rw [← getD_of hk2] at c2
      have HPC := Lib.hid (show pcP lo hi (k + 1) = pcP lo hi k * (hi.getD k 0 - lo.getD k 0 + 1) from rfl)
      have HINS := Lib.hid (fun (h : lo.getD k 0 ≤ hi.getD k 0) => fun (j : Nat) (hj : j < k + 1) => (by
        rcases Nat.lt_or_ge j k with h' | h'
        · exact hin.out j h'
        · obtain rfl : j = k := by omega
          exact h : lo.getD j 0 ≤ hi.getD j 0))
      rw [hA, hB]
      clear hc1 hc2
      generalize lo.getD k 0 = x at *
      generalize hi.getD k 0 = y at *
      by_cases q1 : y < x
      · have q1' : decide (y < x) = true := by simpa using q1
        go_wp2_with (fail)
        go_quiet (fail)
        go_wp2_with (fail)
        refine (HAW.out _).mono ?_
        rintro e w1 ⟨rfl, hb⟩
        have HB1 := Lib.hid ((drewN_below w _).trans (hb.mono (drewN_below w _).size))
        clear hb
        go_wp2_with (fail)
        go_ret
        exact ⟨rfl, HB1.out⟩
      have q1' : decide (y < x) = false := by simpa using q1
      by_cases q2 : x < -1000
      · have q2' : decide (x < -1000) = true := by simpa using q2
        go_wp2_with (fail)
        go_quiet (fail)
        go_wp2_with (fail)
        refine (HAW.out _).mono ?_
        rintro e w1 ⟨rfl, hb⟩
        have HB1 := Lib.hid ((drewN_below w _).trans (hb.mono (drewN_below w _).size))
        clear hb
        go_wp2_with (fail)
        go_ret
        exact ⟨rfl, HB1.out⟩
      have q2' : decide (x < -1000) = false := by simpa using q2
      by_cases q3 : 1000 < y
      · have q3' : decide (1000 < y) = true := by simpa using q3
        go_wp2_with (fail)
        go_quiet (fail)
        go_wp2_with (fail)
        refine (HAW.out _).mono ?_
        rintro e w1 ⟨rfl, hb⟩
        have HB1 := Lib.hid ((drewN_below w _).trans (hb.mono (drewN_below w _).size))
        clear hb
        go_wp2_with (fail)
        go_ret
        exact ⟨rfl, HB1.out⟩
      have q3' : decide (1000 < y) = false := by simpa using q3
      have w1 : IntKind.i64.wrap (y - x) = y - x := by simp [IntKind.wrap, IntKind.bits, IntKind.signed]; omega
      have w2 : IntKind.i64.wrap (y - x + 1) = y - x + 1 := by simp [IntKind.wrap, IntKind.bits, IntKind.signed]; omega
      have hpb : 1 ≤ c * (y - x + 1) ∧ c * (y - x + 1) ≤ 1000000 := by
        have hcb' := hcb.out
        have e1 : 1 * 1 ≤ c * (y - x + 1) := Int.mul_le_mul (by omega) (by omega) (by omega) (by omega)
        have e2 : c * (y - x + 1) ≤ 200 * 2001 := Int.mul_le_mul (by omega) (by omega) (by omega) (by omega)
        omega
      have w3 : IntKind.i64.wrap (c * (y - x + 1)) = c * (y - x + 1) := by simp [IntKind.wrap, IntKind.bits, IntKind.signed]; omega
      have HNC := Lib.hid (show c * (y - x + 1) = pcP lo hi (k + 1) by rw [HPC.out, ← hc.out])
      have HPB := Lib.hid hpb
      have HIN := Lib.hid (HINS.out (by omega))
      clear HINS HPC
      by_cases q4 : 200 < c * (y - x + 1)
      · have q4' : decide (200 < c * (y - x + 1)) = true := by simpa using q4
        go_wp2_with (fail)
        go_quiet (fail)
        go_wp2_with (fail)
        go_quiet (fail)
        go_wp2_with (fail)
        refine (HAW.out _).mono ?_
        rintro e w1 ⟨rfl, hb⟩
        have HB1 := Lib.hid ((drewN_below w _).trans (hb.mono (drewN_below w _).size))
        clear hb
        go_wp2_with (fail)
        go_ret
        exact ⟨rfl, HB1.out⟩
      · have q4' : decide (200 < c * (y - x + 1)) = false := by simpa using q4
        go_wp2_with (fail)
        go_quiet (fail)
        go_wp2_with (fail)
        go_quiet (fail)
        go_wp2_with (fail)
        exact ⟨⟨k + 1, _, _, by omega, by go_num, rfl, HNC, Lib.hid (by have := HPB.out; omega), HIN, rfl⟩, by simp [intOf]; omega⟩
    · obtain rfl : k = lo.length := by omega
      have HC := Lib.hid (show c = cntP lo hi by rw [hc.out, pc_all lo hi HLL.out])
      have HRL := Lib.hid (rg_low' lo hi HLL.out hin.out)
      obtain ⟨v1, w1, hrun, hown, hb1⟩ := z_copy (w.drewN n) A ca lo HA.out.2.2.1 (by omega)
      have HRUN := Lib.hid hrun
      have HB1 := Lib.hid ((drewN_below w n).trans hb1)
      obtain ⟨A1, c1, rfl, hc1, hz1⟩ := z_row hown
      have HZ1 := Lib.hid hz1
      have hcb' := hcb.out
      clear hrun hown hb1 hz1 hlt hk hc hin
      go_wp2_with (first | (refine wpList_emptyZ rfl rfl ?_; rintro v0 hv0; have HRV := Lib.hid (by have h := HRUN.out; rw [← hv0] at h; exact h); clear hv0) | (at_builtin; refine wpList_append_by0 _ rfl _ _ 31 31 rfl _ _ rfl rfl _ _ HRV.out ?_))
      go_loopw [7, 8] (fun v i wr => ∃ (m : Nat) (X : Option Addr) (cx : Nat) (cur : List Int), i = .int .i64 (m : Int) ∧ v = .slice X cur.length cx ∧ (m : Int) ≤ c ∧ Hid (rgP lo hi cur) ∧ Hid (rkP lo hi cur = (m : Int) - 1) ∧ Hid (cur.length ≤ cx) ∧ Hid (ZRow wr.heap.size wr X cur) ∧ Hid (Below w.heap.size w wr)) (fun _ i _ => (c - intOf i).toNat)
      case atStart => exact ⟨1, A1, c1, lo, rfl, rfl, by omega, HRL, Lib.hid (by rw [rk_low]; rfl), Lib.hid hc1, HZ1, HB1⟩
      case round =>
        obtain ⟨m, X, cx, cur, rfl, rfl, hm, hrg, hrk, hcx, hz, hbw⟩ := hrel
        have hln := rg_len lo hi cur hrg.out
        have hcl : cur.length ≤ 8 := by omega
        have HLN := Lib.hid hln
        have HWF := Lib.hid (fun (i : Nat) => (by
          rcases Nat.lt_or_ge i cur.length with hi' | hi'
          · have h1 := rg_in lo hi cur hrg.out i hi'
            have h2 := HA.out.2.2.2 i
            have h3 := HB.out.2.2.2 i
            omega
          · rw [show cur.getD i 0 = 0 by rw [List.getD_eq_getElem?_getD, List.getElem?_eq_none hi']; rfl]
            have h3 := HB.out.2.2.2 i
            omega : -9223372036854775808 ≤ cur.getD i 0 ∧ hi.getD i 0 ≤ 9223372036854775807))
        have HN := Lib.hid (next_any A B X ca cb cx lo hi cur wr ((HA.out.2.2.1.below hbw.out).mono hbw.out.size) ((HB.out.2.2.1.below hbw.out).mono hbw.out.size) hz.out HA.out.1 hcx.out (by omega) (by omega) (by omega) HWF.out)
        obtain ⟨hst1, hst2⟩ := rk_step lo hi cur hrg.out
        have hgr := gw_range hi cur cur.length
        by_cases hg : gw hi cur cur.length = -1
        · have e1 : nxtP lo hi cur = none := nxt_end hg
          rw [e1] at HN
          have hmc : (m : Int) = c := by
            have h1 := hst1 hg
            have h2 := hrk.out
            have h3 := HC.out
            omega
          have HMC := Lib.hid hmc
          have hmc2 : ((m : Int) == c) = true := by simpa using hmc
          clear hst1 hst2 hgr hg e1 hmc hcl hln
          go_wp2_with (fail)
          refine HN.out.mono ?_
          rintro e w2 ⟨v2, rfl, hown, hb2⟩
          have HB2 := Lib.hid (hbw.out.trans (hb2.mono hbw.out.size))
          obtain ⟨A2, c2, rfl, _, _⟩ := z_own (l := []) hown
          clear hown hb2
          go_wp2_with (fail)
          refine (HAW.out _).mono ?_
          rintro e w3 ⟨rfl, hb3⟩
          have HB3 := Lib.hid (HB2.out.trans (hb3.mono HB2.out.size))
          clear hb3
          go_wp2_with (fail)
          go_ret
          exact ⟨rfl, HB3.out⟩
        · obtain ⟨g, hg'⟩ : ∃ g : Nat, gw hi cur cur.length = g := ⟨(gw hi cur cur.length).toNat, by omega⟩
          have e1 : nxtP lo hi cur = some (bump lo cur g) := nxt_some hln.1 hln.2 (rg_in lo hi cur hrg.out) hg'
          rw [e1] at HN
          obtain ⟨k1, k2⟩ := hst2 g hg'
          have hgl : g < cur.length := by omega
          have hbl := bump_length (g := g) hln.1 hgl
          have hba := bump_at lo cur g hgl
          have hrr := rk_range lo hi _ k2
          have hmc : (m : Int) < c := by
            have h2 := hrk.out
            have h3 := HC.out
            omega
          have HK := Lib.hid (show rkP lo hi (bump lo cur g) = ((m + 1 : Nat) : Int) - 1 by rw [k1, hrk.out]; omega)
          have HRG := Lib.hid k2
          have HBA := Lib.hid hba
          have HBL := Lib.hid hbl
          have d1 : decide (c ≤ (m : Int)) = false := by simp; omega
          have d1' : ¬ c ≤ (m : Int) := by omega
          clear hst1 hst2 hgr hg e1 hln k1 k2 hba hrr hg'
          obtain ⟨nx, HNX⟩ : ∃ nx, Hid (bump lo cur g = nx) := ⟨_, Lib.hid rfl⟩
          rw [HNX.out] at HN HK HRG HBA HBL
          obtain ⟨q, HQ⟩ : ∃ q, Hid (cur.length = q) := ⟨_, Lib.hid rfl⟩
          have hcl2 := hcl
          rw [HQ.out] at HBL hcl2
          go_wp2_with (fail)
          refine HN.out.mono ?_
          rintro e w2 ⟨v2, rfl, hown, hb2⟩
          have HB2 := Lib.hid (hbw.out.trans (hb2.mono hbw.out.size))
          obtain ⟨A2, c2, rfl, hc2, hz2⟩ := z_row (l := nx) hown
          have HZ2 := Lib.hid hz2
          have HC2 := Lib.hid hc2
          have HCM := Lib.hid (compare_less X A2 cx c2 cur nx w2 (hz.out.later hb2) hz2 (by omega) (by rw [HBL.out]; omega) g hgl (by rw [HBL.out, ← HQ.out]; exact hgl) HBA.out.1 HBA.out.2)
          have HLEN := Lib.hid (show nx.length = cur.length by rw [HBL.out, HQ.out])
          have hne : ((nx.length : Int) != (cur.length : Int)) = false := by rw [HLEN.out]; simp
          clear hown hb2 hz2 hc2 hgl
          go_wp2_with (fail)
          refine HCM.out.mono ?_
          rintro e w3 ⟨rfl, rfl⟩
          go_wp2_with (fail)
          go_loop [112] (fun i => ∃ k : Nat, k ≤ nx.length ∧ i = .int .i64 (k : Int)) (fun i => nx.length - (intOf i).toNat)
          case atStart => exact ⟨0, Nat.zero_le _, rfl⟩
          case round =>
            obtain ⟨k, hk, rfl⟩ := hrel
            have hnl := rg_len lo hi nx HRG.out
            by_cases hlt : k < nx.length
            · have hk1 : k < lo.length := by omega
              have hk2 : k < hi.length := by omega
              obtain ⟨b1, o1, hA, hb1, hc1'⟩ := HA.out.2.2.1 (by omega)
              obtain ⟨b2, o2, hB, hb2, hc2'⟩ := HB.out.2.2.1 (by omega)
              obtain ⟨b3, o3, hC, _, hc3'⟩ := HZ2.out (by omega)
              have y1 := (HB2.out.cell (p := ⟨b1, o1 + k, none⟩) hb1).trans (hc1' k hk1)
              have y2 := (HB2.out.cell (p := ⟨b2, o2 + k, none⟩) hb2).trans (hc2' k hk2)
              have y3 := hc3' k hlt
              rw [← getD_of hk1] at y1
              rw [← getD_of hk2] at y2
              rw [← getD_of hlt] at y3
              have hir := rg_in lo hi nx HRG.out k hlt
              rw [hA, hB, hC]
              clear hc1' hc2' hc3' hb1 hb2 hnl
              generalize lo.getD k 0 = x at *
              generalize hi.getD k 0 = y at *
              generalize nx.getD k 0 = z at *
              have t1 : ¬ z < x := by omega
              have t1' : decide (z < x) = false := by simpa using t1
              have t2 : ¬ y < z := by omega
              have t2' : decide (y < z) = false := by simpa using t2
              have HIR := Lib.hid hir
              clear hir
              go_wp2_with (fail)
              exact ⟨⟨k + 1, by omega, by go_num⟩, by simp [intOf]; omega⟩
            · obtain rfl : k = nx.length := by omega
              clear hnl
              go_wp2_with (fail)
              exact ⟨⟨m + 1, A2, c2, nx, by go_num, rfl, by omega, HRG, HK, HC2, HZ2, HB2⟩, by simp [intOf]; omega⟩

theorem law_counts (A : Option Addr) (ca : Nat) (lo : List Int) (B : Option Addr) (cb : Nat) (hi : List Int) (w : World) (ha : ZArg w A ca lo) (hb : ZArg w B cb hi) :
    Calls Tryd.prog 7 #[.slice A lo.length ca, .slice B hi.length cb] w fun e w' => e = .returned (.bool true) ∧ Below w.heap.size w w' := by
  by_cases h : lo.length ≠ hi.length ∨ 8 < lo.length
  · exact counts_out A B ca cb lo hi w ha.2.1 hb.2.1 h
  · exact counts_in A B ca cb lo hi w ha hb (by omega) (by omega)
end Go.Proofs.YtlndlipicbkhiaaDoor
