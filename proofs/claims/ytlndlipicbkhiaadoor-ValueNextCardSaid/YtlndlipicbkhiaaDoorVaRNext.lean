/- What is proved: the reference's Next answers what the plain function says. -/
import Derived.Test.YtlndlipicbkhiaaDoorVaApp
import Derived.BigQuiet
set_option linter.unusedVariables false
namespace Go.Proofs.YtlndlipicbkhiaaDoor
open Go.RowKit

set_option maxRecDepth 100000 in
set_option maxHeartbeats 8000000 in
theorem r_next_any (A B C : Option Addr) (ca cb cc : Nat) (lo hi l : List Int) (w : World) (ha : ZRow w.heap.size w A lo) (hb : ZRow w.heap.size w B hi) (hc : ZRow w.heap.size w C l) (hl : lo.length ≤ 1000000) (hl2 : hi.length ≤ 1000000) (hl3 : l.length ≤ 1000000) (hwf : ∀ i, -9223372036854775808 ≤ l.getD i 0 ∧ hi.getD i 0 ≤ 9223372036854775807) :
    Calls Tryd.prog 20 #[.slice A lo.length ca, .slice B hi.length cb, .slice C l.length cc] w (NxtRes (nxtP lo hi l) w) := by
  obtain ⟨i0, hi0, hz0, hz1, hz2⟩ := info_parts infoInt
  have HA := Lib.hid ha
  have HB := Lib.hid hb
  have HC := Lib.hid hc
  have HWF := Lib.hid hwf
  clear ha hb hc hwf
  by_cases hlen : ¬ (lo.length = l.length ∧ hi.length = l.length)
  · have HN := Lib.hid (nxt_len (lo := lo) (hi := hi) (l := l) (by omega))
    by_cases h1 : lo.length = l.length
    · have h2 : ((hi.length : Int) != (l.length : Int)) = true := by simp; omega
      have h3 : ((lo.length : Int) != (l.length : Int)) = false := by simp; omega
      have H1 := Lib.hid h1
      clear h1 hlen
      go_enter Tryd.func20, Tryd.ntmps20
      go_wp2_with (fail)
      go_ret2
      exact NxtRes.none_ HN.out (Below.refl _ _)
    · have h3 : ((lo.length : Int) != (l.length : Int)) = true := by simp; omega
      clear h1 hlen
      go_enter Tryd.func20, Tryd.ntmps20
      go_wp2_with (fail)
      go_ret2
      exact NxtRes.none_ HN.out (Below.refl _ _)
  obtain ⟨h1, h2⟩ := Classical.not_not.1 hlen
  have h3 : ((lo.length : Int) != (l.length : Int)) = false := by simp; omega
  have h4 : ((hi.length : Int) != (l.length : Int)) = false := by simp; omega
  have HL1 := Lib.hid h1
  have HL2 := Lib.hid h2
  clear h1 h2 hlen
  go_enter Tryd.func20, Tryd.ntmps20
  go_wp2_with (fail)
  clear h3 h4
  go_loopw [8] (fun i wr => ∃ (k n : Nat), k ≤ l.length ∧ i = .int .i64 (k : Int) ∧ Hid (inR lo hi l k) ∧ wr = w.drewN n) (fun i _ => l.length - (intOf i).toNat)
  case atStart => exact ⟨0, 0, Nat.zero_le _, rfl, Lib.hid (fun i h => absurd h (by omega)), rfl⟩
  case round =>
    obtain ⟨k, n, hk, rfl, hin, rfl⟩ := hrel
    by_cases hlt : k < l.length
    · have hk1 : k < lo.length := by have := HL1.out; omega
      have hk2 : k < hi.length := by have := HL2.out; omega
      obtain ⟨b1, o1, hA, _, hc1⟩ := HA.out (by omega)
      obtain ⟨b2, o2, hB, _, hc2⟩ := HB.out (by omega)
      obtain ⟨b3, o3, hC, _, hc3⟩ := HC.out (by omega)
      have c1 := hc1 k hk1
      have c2 := hc2 k hk2
      have c3 := hc3 k hlt
      have HX := Lib.hid (getD_of hlt)
      have HXL := Lib.hid (getD_of hk1)
      have HXH := Lib.hid (getD_of hk2)
      rw [hA, hB, hC]
      clear hc1 hc2 hc3
      obtain ⟨x, hx⟩ : ∃ x, l[k] = x := ⟨_, rfl⟩
      obtain ⟨y, hy⟩ : ∃ y, lo[k] = y := ⟨_, rfl⟩
      obtain ⟨z, hz⟩ : ∃ z, hi[k] = z := ⟨_, rfl⟩
      rw [hx] at c3 HX
      rw [hy] at c1 HXL
      rw [hz] at c2 HXH
      clear hx hy hz
      by_cases q1 : x < y
      · have HN := Lib.hid (nxt_out (lo := lo) (hi := hi) hlt (by rw [HX.out, HXL.out]; exact .inl q1))
        have q1' : decide (x < y) = true := by simpa using q1
        go_wp2_with (fail)
        go_quiet (fail)
        go_wp2_with (fail)
        go_ret2
        exact NxtRes.none_ HN.out (below_drewN2 _ _ _)
      · have q1' : decide (x < y) = false := by simpa using q1
        by_cases q2 : z < x
        · have HN := Lib.hid (nxt_out (lo := lo) (hi := hi) hlt (by rw [HX.out, HXH.out]; exact .inr q2))
          have q2' : decide (z < x) = true := by simpa using q2
          go_wp2_with (fail)
          go_quiet (fail)
          go_wp2_with (fail)
          go_ret2
          exact NxtRes.none_ HN.out (below_drewN2 _ _ _)
        · have q2' : decide (z < x) = false := by simpa using q2
          have HIN := Lib.hid (inR_succ hin.out (by rw [HX.out, HXL.out]; omega) (by rw [HX.out, HXH.out]; omega))
          go_wp2_with (fail)
          go_quiet (fail)
          go_wp2_with (fail)
          exact ⟨⟨k + 1, n + nq, by omega, by go_num, HIN, rfl⟩, by simp [intOf]; omega⟩
    · obtain rfl : k = l.length := by omega
      have hmin : IntKind.i64.wrap ((l.length : Int) - 1) = (l.length : Int) - 1 := by simp [IntKind.wrap, IntKind.bits, IntKind.signed]; omega
      obtain ⟨v1, w1, hrun, hown, hb1⟩ := z_copy (w.drewN n) C cc l HC.out hl3
      have HRUN := Lib.hid hrun
      have HB1 := Lib.hid ((drewN_below w n).trans hb1)
      obtain ⟨A1, c1, rfl, hc1, _⟩ := z_own hown
      have HO1 := Lib.hid (show w1.ownsRow w.heap.size 3 1 (.slice A1 l.length c1) l.length (zcells (l.take l.length ++ lo.drop l.length)) by
        rw [List.take_of_length_le (Nat.le_refl _), List.drop_eq_nil_of_le (by rw [HL1.out]; exact Nat.le_refl _), List.append_nil]; exact hown)
      clear hrun hown hb1 hlt hk
      go_wp2_with (first | (refine wpList_emptyZ rfl rfl ?_; rintro v0 hv0; have HRV := Lib.hid (by have h := HRUN.out; rw [← hv0] at h; exact h); clear hv0) | (at_builtin; refine wpList_append_by _ rfl _ _ 31 31 rfl _ _ rfl rfl _ _ HRV.out ?_))
      go_loopw [10] (fun i wr => ∃ m : Nat, m ≤ l.length ∧ i = .int .i64 ((m : Int) - 1) ∧ Hid (∀ t, m ≤ t → t < l.length → ¬ l.getD t 0 < hi.getD t 0) ∧ Hid (wr.ownsRow w.heap.size 3 1 (.slice A1 l.length c1) l.length (zcells (l.take m ++ lo.drop m))) ∧ Hid (Below w.heap.size w wr)) (fun i _ => (intOf i + 1).toNat)
      case atStart => exact ⟨l.length, Nat.le_refl _, rfl, Lib.hid (fun t h1 h2 => absurd h1 (by omega)), HO1, HB1⟩
      case round =>
        obtain ⟨m, hm, rfl, hno, hown, hbw⟩ := hrel
        by_cases h0 : m = 0
        · have HN := Lib.hid (nxt_end (lo := lo) (hi := hi) (gw_none hi l l.length (fun t h => hno.out t (by omega) h)))
          have d0 : decide (0 ≤ (m : Int) - 1) = false := by rw [decide_eq_false_iff_not]; omega
          have d1 : ¬ 0 ≤ (m : Int) - 1 := by omega
          clear h0
          go_wp2_with (fail)
          go_ret2
          exact NxtRes.none_ HN.out hbw.out
        · obtain ⟨j, rfl⟩ : ∃ j, m = j + 1 := ⟨m - 1, by omega⟩
          have hj : j < l.length := by omega
          have hj2 : j < hi.length := by have := HL2.out; omega
          have hj1 : j < lo.length := by have := HL1.out; omega
          have hidx : (((j + 1 : Nat) : Int) - 1) = (j : Int) := by omega
          have hlen : (l.take (j + 1) ++ lo.drop (j + 1)).length = l.length := by rw [List.length_append, List.length_take, List.length_drop]; have := HL1.out; omega
          have hown' := hown.out
          rw [← hlen] at hown'
          obtain ⟨c2, g2, n2, r2, hv2, hmn, HN2, HR2, HO, hgb, hx, hfz⟩ := bump_own hj hown'
          rw [hlen] at hv2
          simp only [Value.slice.injEq] at hv2
          obtain ⟨rfl, hnn, rfl⟩ := hv2
          obtain ⟨b1, o1, hA, hb1', hc1'⟩ := HA.out (by omega)
          obtain ⟨b2, o2, hB, hb2', hc2'⟩ := HB.out (by omega)
          have y1 := (hbw.out.cell (p := ⟨b1, o1 + j, none⟩) hb1').trans (hc1' j hj1)
          have y2 := (hbw.out.cell (p := ⟨b2, o2 + j, none⟩) hb2').trans (hc2' j hj2)
          rw [← getD_of hj1] at y1
          rw [← getD_of hj2] at y2
          have HHW := Lib.hid (HWF.out j)
          have HNO := Lib.hid (fun (h : ¬ l.getD j 0 < hi.getD j 0) => fun (t : Nat) (h1 : j ≤ t) (h2 : t < l.length) => (by
            rcases Nat.lt_or_ge j t with h' | h'
            · exact hno.out t h' h2
            · obtain rfl : t = j := by omega
              exact h : ¬ l.getD t 0 < hi.getD t 0))
          have HYES := Lib.hid (fun (h : l.getD j 0 < hi.getD j 0) => nxt_some (lo := lo) HL1.out HL2.out hin.out (gw_last hi l j l.length hj h (fun t h1 h2 => hno.out t (by omega) h2)))
          have HBUMP := Lib.hid (fun q => bump_done (w := wr.drewN q) hj HN2.out HR2.out (show (wr.drewN q).ownsRow _ _ _ _ _ _ from HO.out))
          have HBACK := Lib.hid (fun q => back_done (w := wr.drewN q) hj HL1.out HR2.out (show (wr.drewN q).ownsRow _ _ _ _ _ _ from HO.out))
          have HBD := Lib.hid (fun q u => (hbw.out.trans ((drewN_below wr q).mono hbw.out.size)).setCell (p := ⟨g2, j, none⟩) (by show w.heap.size ≤ g2; exact hgb) u)
          rw [hA, hB, hidx]
          have hnz : n2 = l.length := hnn.symm
          have HNZ := Lib.hid hnz
          obtain ⟨x, HX⟩ : ∃ x, Hid (l.getD j 0 = x) := ⟨_, Lib.hid rfl⟩
          obtain ⟨y, HY⟩ : ∃ y, Hid (lo.getD j 0 = y) := ⟨_, Lib.hid rfl⟩
          obtain ⟨z, HZ⟩ : ∃ z, Hid (hi.getD j 0 = z) := ⟨_, Lib.hid rfl⟩
          rw [HX.out] at hx HHW HNO HYES HBUMP
          rw [HY.out] at y1 HBACK
          rw [HZ.out] at y2 HHW HNO HYES
          have HGB := Lib.hid hgb
          clear hA hB hc1' hc2' hb1' hb2' hidx hown hown' hno hlen hnn hnz hgb hmn
          by_cases q : x < z
          · have q' : decide (x < z) = true := by simpa using q
            have hwx : IntKind.i64.wrap (x + 1) = x + 1 := by have := HHW.out; simp [IntKind.wrap, IntKind.bits, IntKind.signed]; omega
            go_wp2_with (fail)
            go_quiet (fail)
            go_wp2_with (fail)
            go_ret2
            refine NxtRes.some_ (v := .slice (some ⟨g2, 0, none⟩) l.length c1) (HYES.out q) ?_ (HBD.out nq _)
            have hd := HBUMP.out nq
            rw [HNZ.out] at hd
            rw [← hd.1]
            exact hd.2
          · have q' : decide (x < z) = false := by simpa using q
            go_wp2_with (fail)
            go_quiet (fail)
            go_wp2_with (fail)
            refine ⟨⟨j, by omega, by go_num, Lib.hid (fun t a b => Int.not_lt.2 (HNO.out q t a b)), ?_, Lib.hid (HBD.out nq _)⟩, by simp [intOf]⟩
            have hd := HBACK.out nq
            rw [HNZ.out] at hd
            exact Lib.hid hd
end Go.Proofs.YtlndlipicbkhiaaDoor
