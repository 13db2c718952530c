/- What is proved: Valid of package gates. -/
import Derived.Test.YtbcabnbgkicfdaaGaLit
set_option linter.unusedVariables false
namespace Go.Proofs.Ytbcabnbgkicfdaa
open Go.RowKit Go.Maps

theorem make_hint (n : Int) (w : World) : (Instr.makeMap 97 (some (.int .i64 n))).run Try.prog w = .ok (.map (some w.heap.size)) (w.alloc (.map #[] 0)) := by
  simp [Instr.makeMap, run_underlying Try.underlying97, asInt, asIntOf]
theorem i64o_in {a : Int} (h : I64o a) : -9223372036854775808 ≤ a ∧ a ≤ 9223372036854775807 := by
  unfold I64o at h
  simp [Lit.wf, IntKind.min, IntKind.max, IntKind.bits, IntKind.signed] at h
  omega
theorem vldB_out {I : Int} {gs : List Gt} (h : ¬ (0 ≤ I ∧ I ≤ 1024)) : vldB I gs = false := by
  unfold vldB
  by_cases h0 : 0 ≤ I
  · rw [decide_eq_false (p := I ≤ 1024) (fun h1 => h ⟨h0, h1⟩)]; simp
  · rw [decide_eq_false h0]; simp
theorem vldB_in {I : Int} {gs : List Gt} (h : 0 ≤ I ∧ I ≤ 1024) (hn : gs.length ≤ 5000) : vldB I gs = vldF I gs gs.length := by
  unfold vldB
  rw [decide_eq_true h.1, decide_eq_true h.2, decide_eq_true (by omega)]
  simp
set_option maxRecDepth 100000 in
set_option maxHeartbeats 4000000 in
theorem valid_any (I : Int) (A : Option Addr) (c : Nat) (gs : List Gt) (w : World) (hr : GRow w A gs) (hok : ∀ x ∈ gs, GtOk x) (hn : gs.length ≤ 5000) :
    Calls Try.prog 48 #[.agg #[.int .i64 I, .slice A gs.length c]] w fun e w' => e = .returned (.bool (vldB I gs)) ∧ Below w.heap.size w w' := by
  have HA := Lib.hid (fun w => areInputs_any I w)
  have HB1 := Lib.hid ((Below.refl w.heap.size w).alloc (Nat.le_refl _) (.cells #[.int .i64 I, .slice A gs.length c] 30))
  have HBX := Lib.hid (CBx.new w I A gs.length c)
  have HR := Lib.hid hr
  have HOK := Lib.hid hok
  clear hr hok
  by_cases hI : 0 ≤ I ∧ I ≤ 1024
  · have HV := Lib.hid (vldB_in hI hn)
    have HC := Lib.hid (fun w => count_any I (by omega) A gs.length c (by omega) w)
    have HIN := Lib.hid hI
    rw [decide_eq_true hI] at HA
    have hn1 : decide (65536 < nds I gs.length) = false := by unfold nds; simp; omega
    have hmm := make_hint
    obtain ⟨N, HND⟩ : ∃ N, Hid (nds I gs.length = N) := ⟨_, Lib.hid rfl⟩
    rw [HND.out] at HC hn1
    have hi0 : 0 ≤ I := hI.1
    have hi1 : I ≤ 1024 := hI.2
    clear hI
    go_enter Try.func48, Try.ntmps48
    go_upto_region 1 with fail
    generalize hgw : w.alloc (.cells #[.int .i64 I, .slice A gs.length c] 30) = w1 at *
    clear hgw
    obtain ⟨b0, b1⟩ := HBX.out.cells
    go_wp2_with (fail)
    refine (HA.out _).mono ?_
    rintro e wx ⟨rfl, hx⟩
    obtain rfl := hx.symm
    go_wp2_with (fail)
    refine (HC.out _).mono ?_
    rintro e w2 ⟨rfl, hb2⟩
    have HB2 := Lib.hid (HB1.out.trans (hb2.mono HB1.out.size))
    have HBX2 := Lib.hid (HBX.out.later hb2)
    clear hb2 b0 b1 HBX HB1
    obtain ⟨b0, b1⟩ := HBX2.out.cells
    go_upto_region 4 with fail
    have HBA := (Below.refl w2.heap.size w2).alloc (Nat.le_refl _) (.map #[] 0)
    have HS0 := Lib.hid (Seen.made w2 gs)
    have HB3 := Lib.hid (HB2.out.trans (HBA.mono HB2.out.size))
    have HBX3 := Lib.hid (HBX2.out.later HBA)
    have HLO := Lib.hid HB2.out.size
    clear HBA b0 b1 hmm
    generalize hgw : w2.alloc (.map #[] 0) = w3 at *
    clear hgw
    generalize w2.heap.size = mb at *
    obtain ⟨b0, b1⟩ := HBX3.out.cells
    go_wp2_with (fail)
    clear b0 b1
    go_loopw [25] (fun jv wr => ∃ (k : Nat), k ≤ gs.length ∧ jv = .int .i64 (k : Int) ∧ Hid (vldF I gs k = true) ∧ Hid (Seen wr mb gs k) ∧ Hid (CBx wr w.heap.size I A gs.length c) ∧ Hid (Below w.heap.size w wr)) (fun jv _ => gs.length - (intOf jv).toNat)
    case atStart => exact ⟨0, Nat.zero_le _, rfl, Lib.hid rfl, HS0, HBX3, HB3⟩
    case round =>
      obtain ⟨k, hk, rfl, hpre, hse, hbx, hbw⟩ := hrel
      by_cases hlt : k < gs.length
      · obtain ⟨b, off, hA, hb, hc0⟩ := (HR.out.later hbw.out).at hlt
        have HGK := Lib.hid (HOK.out _ (List.getElem_mem hlt))
        have HBAD := Lib.hid (fun h => vldF_bad (I := I) hlt h)
        have HGOOD := Lib.hid (fun h => vldF_good (I := I) hlt hpre.out h)
        have HSO := Lib.hid (fun (w : World) (h : w.ownsMap Try.prog 76 (plainElem (H := Unit) Try.prog 4) mb (k + 1) ((seenD gs k).put (keyG gs[k]) (.lit (.bool true)))) => Seen.of hlt h)
        subst hA
        obtain ⟨g, HG⟩ : ∃ g, Hid (gs[k] = g) := ⟨_, Lib.hid rfl⟩
        rw [HG.out] at hc0 HGK HBAD HGOOD HSO
        obtain ⟨d0, d1⟩ := hc0
        go_upto_region 7 with fail
        have hba := (Below.refl wr.heap.size wr).alloc (Nat.le_refl _) (.cells #[.int .i64 g.x, .int .i64 g.y] 76)
        have HGB := Lib.hid (GBox.new wr g)
        have HS4 := Lib.hid (hse.out.below hba)
        have HX4 := Lib.hid (hbx.out.later hba)
        have HB4 := Lib.hid (hbw.out.trans (hba.mono hbw.out.size))
        have HMB := Lib.hid (show w.heap.size ≤ mb from HLO.out)
        clear hba d0 d1 hse hbx hbw
        generalize hgw : wr.alloc (.cells #[.int .i64 g.x, .int .i64 g.y] 76) = w4 at *
        clear hgw
        generalize wr.heap.size = gb at *
        obtain ⟨x0, x1⟩ := HGB.out.cells
        go_quiet (fail)
        have hdr := drewN_below w4 nq
        have HGB5 := Lib.hid (HGB.out.later hdr)
        have HS5 := Lib.hid (HS4.out.below hdr)
        have HX5 := Lib.hid (HX4.out.later hdr)
        have HB5 := Lib.hid (HB4.out.trans (hdr.mono HB4.out.size))
        clear hdr x0 x1 HGB HS4 HX4 HB4
        generalize hgw : w4.drewN nq = w5 at *
        clear hgw
        obtain ⟨x0, x1⟩ := HGB5.out.cells
        obtain ⟨b0, b1⟩ := HX5.out.cells
        have HN := Lib.hid (fun w => not_any g.x (i64o_in HGK.out.hx) w)
        have hlk := HS5.out.look HOK.out hk HGK.out
        have hgx := i64o_in HGK.out.hx
        have hgy := i64o_in HGK.out.hy
        by_cases q0 : g.x < 2
        · have HE := Lib.hid (HBAD.out (.inl (by unfold gtB; rw [decide_eq_false (p := 2 ≤ g.x) (by omega)]; simp)))
          have e0 : decide (g.x < 2) = true := by simpa using q0
          clear q0 hlk
          go_wp2_with (fail)
          go_ret
          rw [HV.out, HE.out]
          exact ⟨rfl, HB5.out⟩
        · have e0 : decide (g.x < 2) = false := by simpa using q0
          by_cases q1 : g.y ≤ g.x
          · have HE := Lib.hid (HBAD.out (.inl (by unfold gtB; rw [decide_eq_false (p := g.x < g.y) (by omega)]; simp)))
            have e1 : decide (g.y ≤ g.x) = true := by simpa using q1
            clear q0 q1 hlk
            go_wp2_with (fail)
            go_ret
            rw [HV.out, HE.out]
            exact ⟨rfl, HB5.out⟩
          · have e1 : decide (g.y ≤ g.x) = false := by simpa using q1
            by_cases q2 : 2 * (1 + I + (k : Int)) ≤ g.y
            · have HE := Lib.hid (HBAD.out (.inl (by unfold gtB; rw [decide_eq_false (p := g.y < 2 * (1 + I + (k : Int))) (by omega)]; simp)))
              have e2 : decide (2 * (1 + I + (k : Int)) ≤ g.y) = true := by simpa using q2
              clear q0 q1 q2 hlk
              go_wp2_with (fail)
              go_ret
              rw [HV.out, HE.out]
              exact ⟨rfl, HB5.out⟩
            · have e2 : decide (2 * (1 + I + (k : Int)) ≤ g.y) = false := by simpa using q2
              by_cases q3 : g.y = notP g.x
              · have HE := Lib.hid (HBAD.out (.inl (by unfold gtB; rw [decide_eq_false (p := g.y ≠ notP g.x) (fun h => h q3)]; simp)))
                have e3 : (g.y == notP g.x) = true := by simpa using q3
                clear q0 q1 q2 q3 hlk
                go_wp2_with (fail)
                refine (HN.out _).mono ?_
                rintro e wx ⟨rfl, hx⟩
                obtain rfl := hx.symm
                go_wp2_with (fail)
                go_ret
                rw [HV.out, HE.out]
                exact ⟨rfl, HB5.out⟩
              · have e3 : (g.y == notP g.x) = false := by simpa using q3
                have HGT := Lib.hid (show gtB I k g = true from gtB_iff.2 ⟨by omega, by omega, by omega, q3⟩)
                by_cases q4 : g ∈ gs.take k
                · have HE := Lib.hid (HBAD.out (.inr q4))
                  rw [decide_eq_true q4] at hlk
                  clear q0 q1 q2 q3 q4
                  go_wp2_with (fail)
                  refine (HN.out _).mono ?_
                  rintro e wx ⟨rfl, hx⟩
                  obtain rfl := hx.symm
                  go_wp2_with (fail)
                  go_ret
                  rw [HV.out, HE.out]
                  exact ⟨rfl, HB5.out⟩
                · have HE := Lib.hid (HGOOD.out HGT.out q4)
                  rw [decide_eq_false q4] at hlk
                  clear q0 q1 q2 q3 q4
                  go_wp2_with (fail)
                  refine (HN.out _).mono ?_
                  rintro e wx ⟨rfl, hx⟩
                  obtain rfl := hx.symm
                  go_wp2_with (at_mapUpdate; refine wpList_mapUpdate_own _ rfl _ _ _ 97 rfl 76 4 pairLaw Try.underlying97 (plainElem (H := Unit) Try.prog 4) mb k _ rfl HS5.out.own (by unfold maxLen; omega) _ _ _ rfl rfl (pair_keyOf HGK.out) (.lit (.bool true)) [] (plainElem_bool Try.underlying4 true) ?_; intro w6 hown6 hgrow6)
                  have HS6 := Lib.hid (HSO.out _ hown6)
                  have HX6 := Lib.hid (show CBx w6 w.heap.size I (some ⟨b, off, none⟩) gs.length c from (hgrow6.block w.heap.size (Go.Proofs.Ytbcabnbgkicfdaa.hlt HX5.out) (fun e => by
                    injection e with e
                    obtain ⟨es, clock, hm0, _⟩ := HS5.out.own
                    have := HX5.out
                    unfold CBx at this
                    rw [e, hm0] at this
                    cases this)).trans HX5.out)
                  have HB6 := Lib.hid (HB5.out.grown hgrow6 HB5.out.size (fun j hj => by injection hj with hj; have := HMB.out; omega))
                  clear hown6 hgrow6 hlk
                  go_wp2_with (fail)
                  exact ⟨⟨k + 1, by omega, by go_num, HE, HS6, HX6, HB6⟩, by simp [intOf]; omega⟩
      · obtain rfl : k = gs.length := by omega
        obtain ⟨b0, b1⟩ := hbx.out.cells
        go_wp2_with (fail)
        go_ret
        rw [HV.out, hpre.out]
        exact ⟨rfl, hbw.out⟩
  · have HV := Lib.hid (vldB_out (gs := gs) hI)
    rw [decide_eq_false hI] at HA
    clear hI
    go_enter Try.func48, Try.ntmps48
    go_upto_region 1 with fail
    generalize w.alloc (.cells #[.int .i64 I, .slice A gs.length c] 30) = w1 at *
    obtain ⟨b0, b1⟩ := HBX.out.cells
    go_wp2_with (fail)
    refine (HA.out _).mono ?_
    rintro e wx ⟨rfl, hx⟩
    obtain rfl := hx.symm
    go_wp2_with (fail)
    go_ret
    rw [HV.out]
    exact ⟨rfl, HB1.out⟩
end Go.Proofs.Ytbcabnbgkicfdaa
