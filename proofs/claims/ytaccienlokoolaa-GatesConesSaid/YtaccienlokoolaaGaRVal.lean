/- What is proved: the reference's Valid; whether numbers are literals of a valid circuit, on both sides. -/
import Derived.Test.YtaccienlokoolaaGaVal
import Derived.DeepKeys5
set_option linter.unusedVariables false
namespace Go.Proofs.Ytaccienlokoolaa
open Go.RowKit Go.Maps

/-- two gates are compared -/
theorem gt_eq (n : Nat) {x y : Gt} (hx : GtOk x) (hy : GtOk y) (W : World) : (Op.equalIn (n + 2) 69 (.agg #[.int .i64 x.x, .int .i64 x.y]) (.agg #[.int .i64 y.x, .int .i64 y.y])).run Try.prog W = .ok (decide (x = y)) W := by
  have f1 : (.agg #[.int .i64 x.x, .int .i64 x.y] : Value).formed Try.prog 69 = true := by simp [Value.formed, Try.underlying69, pairCells]
  have f2 : (.agg #[.int .i64 y.x, .int .i64 y.y] : Value).formed Try.prog 69 = true := by simp [Value.formed, Try.underlying69, pairCells]
  obtain ⟨r, hr, hiff⟩ := run_equalIn_deep (P := Try.prog) n 2 69 (by kernel_rfl) W _ _ _ _ _ _ f1 f2 (pair_lits 0 x hx) (pair_lits 0 y hy)
  have e : r = decide (x = y) := by
    rw [Bool.eq_iff_iff, hiff, decide_eq_true_eq]
    simp
    exact ⟨fun e => Gt.ext' e.1 e.2, fun e => by rw [e]; exact ⟨rfl, rfl⟩⟩
  rw [hr, e]
set_option maxRecDepth 100000 in
set_option maxHeartbeats 4000000 in
theorem r_valid_any (I : Int) (A : Option Addr) (c : Nat) (gs : List Gt) (w : World) (hr : GRow w A gs) (hok : ∀ x ∈ gs, GtOk x) (hn : gs.length ≤ 5000) :
    Calls Try.prog 24 #[.agg #[.int .i64 I, .slice A gs.length c]] w fun e w' => e = .returned (.bool (vldB I gs)) ∧ Below w.heap.size w w' := by
  have HB1 := Lib.hid ((Below.refl w.heap.size w).alloc (Nat.le_refl _) (.cells #[.int .i64 I, .slice A gs.length c] 30))
  have HBX := Lib.hid (CBx.new w I A gs.length c)
  have HR := Lib.hid hr
  have HOK := Lib.hid hok
  clear hr hok
  by_cases hI : 0 ≤ I ∧ I ≤ 1024
  · have HV := Lib.hid (vldB_in hI hn)
    have HC := Lib.hid (fun w => r_nodes_any I (by omega) A gs.length c (by omega) w)
    have hn1 : decide (65536 < nds I gs.length) = false := by unfold nds; simp; omega
    have hn2 : decide (65536 < (gs.length : Int)) = false := by simp; omega
    obtain ⟨N, HND⟩ : ∃ N, Hid (nds I gs.length = N) := ⟨_, Lib.hid rfl⟩
    rw [HND.out] at HC hn1
    have hi0 : 0 ≤ I := hI.1
    have hi1 : I ≤ 1024 := hI.2
    have hd0 : decide (I < 0) = false := by simpa using hi0
    have hd1 : decide (1024 < I) = false := by simpa using hi1
    clear hI
    go_enter Try.func24, Try.ntmps24
    go_upto_region 1 with fail
    generalize hgw : w.alloc (.cells #[.int .i64 I, .slice A gs.length c] 30) = w1 at *
    clear hgw
    obtain ⟨b0, b1⟩ := HBX.out.cells
    go_wp2_with (fail)
    refine (HC.out _).mono ?_
    rintro e w2 ⟨rfl, hb2⟩
    have HB2 := Lib.hid (HB1.out.trans (hb2.mono HB1.out.size))
    have HBX2 := Lib.hid (HBX.out.later hb2)
    clear hb2 b0 b1 HBX HB1
    go_wp2_with (fail)
    go_loopw [3] (fun jv wr => ∃ (k : Nat), k ≤ gs.length ∧ jv = .int .i64 (k : Int) ∧ Hid (vldF I gs k = true) ∧ Hid (CBx wr w.heap.size I A gs.length c) ∧ Hid (Below w.heap.size w wr)) (fun jv _ => gs.length - (intOf jv).toNat)
    case atStart => exact ⟨0, Nat.zero_le _, rfl, Lib.hid rfl, HBX2, HB2⟩
    case round =>
      obtain ⟨k, hk, rfl, hpre, hbx, hbw⟩ := hrel
      obtain ⟨b0, b1⟩ := hbx.out.cells
      by_cases hlt : k < gs.length
      · obtain ⟨b, off, hA, hb, hc0⟩ := (HR.out.later hbw.out).at hlt
        have HGK := Lib.hid (HOK.out _ (List.getElem_mem hlt))
        have HBAD := Lib.hid (fun h => vldF_bad (I := I) hlt h)
        have HGOOD := Lib.hid (fun h => vldF_good (I := I) hlt hpre.out h)
        subst hA
        obtain ⟨g, HG⟩ : ∃ g, Hid (gs[k] = g) := ⟨_, Lib.hid rfl⟩
        rw [HG.out] at hc0 HGK HBAD HGOOD
        obtain ⟨d0, d1⟩ := hc0
        go_upto_region 6 with fail
        go_quiet (fail)
        have hdr := drewN_below wr nq
        have HX5 := Lib.hid (hbx.out.later hdr)
        have HB5 := Lib.hid (hbw.out.trans (hdr.mono hbw.out.size))
        have HR5 := Lib.hid (HR.out.later HB5.out)
        clear hdr d0 d1 b0 b1 hbx hbw
        generalize hgw : wr.drewN nq = w5 at *
        clear hgw
        obtain ⟨b0, b1⟩ := HX5.out.cells
        have hgx := i64o_in HGK.out.hx
        have hgy := i64o_in HGK.out.hy
        by_cases q0 : g.x < 2
        · have e0 : decide (g.x < 2) = true := by simpa using q0
          have HE := Lib.hid (HBAD.out (.inl (by unfold gtB; rw [decide_eq_false (p := 2 ≤ g.x) (by omega)]; simp)))
          clear q0
          go_wp2_with (fail)
          go_ret
          rw [HV.out, HE.out]
          exact ⟨rfl, HB5.out⟩
        · have e0 : decide (g.x < 2) = false := by simpa using q0
          by_cases q1 : g.y ≤ g.x
          · have e1 : decide (g.y ≤ g.x) = true := by simpa using q1
            have HE := Lib.hid (HBAD.out (.inl (by unfold gtB; rw [decide_eq_false (p := g.x < g.y) (by omega)]; simp)))
            clear q0 q1
            go_wp2_with (fail)
            go_ret
            rw [HV.out, HE.out]
            exact ⟨rfl, HB5.out⟩
          · have e1 : decide (g.y ≤ g.x) = false := by simpa using q1
            by_cases q2 : 2 * (1 + I + (k : Int)) ≤ g.y
            · have e2 : decide (2 * (1 + I + (k : Int)) ≤ g.y) = true := by simpa using q2
              have HE := Lib.hid (HBAD.out (.inl (by unfold gtB; rw [decide_eq_false (p := g.y < 2 * (1 + I + (k : Int))) (by omega)]; simp)))
              clear q0 q1 q2
              go_wp2_with (fail)
              go_ret
              rw [HV.out, HE.out]
              exact ⟨rfl, HB5.out⟩
            · have e2 : decide (2 * (1 + I + (k : Int)) ≤ g.y) = false := by simpa using q2
              have HN := Lib.hid (fun w => r_not_any g.x (by omega) w)
              by_cases q3 : g.y = notP g.x
              · have e3 : (notP g.x == g.y) = true := by simpa using q3.symm
                have HE := Lib.hid (HBAD.out (.inl (by unfold gtB; rw [decide_eq_false (p := g.y ≠ notP g.x) (fun h => h q3)]; simp)))
                clear q0 q1 q2 q3
                go_wp2_with (fail)
                refine (HN.out _).mono ?_
                rintro e wx ⟨rfl, hx⟩
                obtain rfl := hx.symm
                go_wp2_with (fail)
                go_ret
                rw [HV.out, HE.out]
                exact ⟨rfl, HB5.out⟩
              · have e3 : (notP g.x == g.y) = false := by simpa using (fun h : notP g.x = g.y => q3 h.symm)
                have HGT := Lib.hid (show gtB I k g = true from gtB_iff.2 ⟨by omega, by omega, by omega, q3⟩)
                clear q0 q1 q2 q3
                go_wp2_with (fail)
                refine (HN.out _).mono ?_
                rintro e wx ⟨rfl, hx⟩
                obtain rfl := hx.symm
                go_wp2_with (fail)
                clear b0 b1
                go_loopw [6] (fun jv wr => ∃ (j : Nat), j ≤ k ∧ jv = .int .i64 (j : Int) ∧ Hid (g ∉ gs.take j) ∧ Hid (CBx wr w.heap.size I (some ⟨b, off, none⟩) gs.length c) ∧ Hid (Below w.heap.size w wr)) (fun jv _ => k - (intOf jv).toNat)
                case atStart => exact ⟨0, Nat.zero_le _, rfl, Lib.hid (by simp), HX5, HB5⟩
                case round =>
                  obtain ⟨j, hj, rfl, hno, hbx, hbw⟩ := hrel
                  obtain ⟨b0, b1⟩ := hbx.out.cells
                  by_cases hjk : j < k
                  · obtain ⟨b', off', hA', _, hj0⟩ := (HR.out.later hbw.out).at (show j < gs.length by omega)
                    obtain ⟨_, _, hA2, _, hk0⟩ := (HR.out.later hbw.out).at hlt
                    have HGJ := Lib.hid (HOK.out _ (List.getElem_mem (show j < gs.length by omega)))
                    have HT := Lib.hid (show gs.take (j + 1) = gs.take j ++ [gs[j]] from List.take_succ_eq_append_getElem (by omega))
                    cases hA'
                    cases hA2
                    rw [HG.out] at hk0
                    have HMK := Lib.hid (show gs[j] ∈ gs.take k from List.mem_take_iff_getElem.2 ⟨j, by omega, rfl⟩)
                    obtain ⟨y, HY⟩ : ∃ y, Hid (gs[j] = y) := ⟨_, Lib.hid rfl⟩
                    rw [HY.out] at hj0 HGJ HT HMK
                    obtain ⟨d0, d1⟩ := hk0
                    obtain ⟨f0, f1⟩ := hj0
                    have hdj : decide ((j : Int) < (k : Int)) = true := by simpa using hjk
                    have heq : ∀ n, (Op.equalIn 10000 69 (.agg #[.int .i64 y.x, .int .i64 y.y]) (.agg #[.int .i64 g.x, .int .i64 g.y])).run Try.prog (wr.drewN n) = .ok (decide (y = g)) (wr.drewN n) := fun n => gt_eq 9998 HGJ.out HGK.out _
                    by_cases hyg : y = g
                    · have HE := Lib.hid (HBAD.out (.inr (by rw [← hyg]; exact HMK.out)))
                      rw [decide_eq_true hyg] at heq
                      clear hyg
                      go_wp2_with (fail)
                      go_quiet (fail)
                      go_wp2_with (fail)
                      go_ret
                      rw [HV.out, HE.out]
                      exact ⟨rfl, hbw.out.trans ((drewN_below wr nq).mono hbw.out.size)⟩
                    · have HNO := Lib.hid (show g ∉ gs.take (j + 1) by rw [HT.out]; simp only [List.mem_append, List.mem_singleton, not_or]; exact ⟨hno.out, fun e => hyg e.symm⟩)
                      rw [decide_eq_false hyg] at heq
                      clear hyg
                      go_wp2_with (fail)
                      go_quiet (fail)
                      have hdr := drewN_below wr nq
                      have HX6 := Lib.hid (hbx.out.later hdr)
                      have HB6 := Lib.hid (hbw.out.trans (hdr.mono hbw.out.size))
                      clear hdr
                      go_wp2_with (fail)
                      exact ⟨⟨j + 1, by omega, by go_num, HNO, HX6, HB6⟩, by simp [intOf]; omega⟩
                  · obtain rfl : j = k := by omega
                    have HE := Lib.hid (HGOOD.out HGT.out hno.out)
                    go_wp2_with (fail)
                    exact ⟨⟨j + 1, by omega, by go_num, HE, hbx, hbw⟩, by simp [intOf]; omega⟩
      · obtain rfl : k = gs.length := by omega
        go_wp2_with (fail)
        go_ret
        rw [HV.out, hpre.out]
        exact ⟨rfl, hbw.out⟩
  · have HV := Lib.hid (vldB_out (gs := gs) hI)
    by_cases h0 : I < 0
    · have d0 : decide (I < 0) = true := by simpa using h0
      clear hI h0
      go_enter Try.func24, Try.ntmps24
      go_upto_region 1 with fail
      generalize w.alloc (.cells #[.int .i64 I, .slice A gs.length c] 30) = w1 at *
      obtain ⟨b0, b1⟩ := HBX.out.cells
      go_wp2_with (fail)
      go_ret
      rw [HV.out]
      exact ⟨rfl, HB1.out⟩
    · have d0 : decide (I < 0) = false := by simpa using h0
      have d1 : decide (1024 < I) = true := by simp; omega
      clear hI h0
      go_enter Try.func24, Try.ntmps24
      go_upto_region 1 with fail
      generalize w.alloc (.cells #[.int .i64 I, .slice A gs.length c] 30) = w1 at *
      obtain ⟨b0, b1⟩ := HBX.out.cells
      go_wp2_with (fail)
      go_ret
      rw [HV.out]
      exact ⟨rfl, HB1.out⟩
end Go.Proofs.Ytaccienlokoolaa
