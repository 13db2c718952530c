/- What is proved: Binary of value answers what the plain function says. -/
import Derived.Test.YtlndlipicbkhiaaDoorVaOpf
set_option linter.unusedVariables false
namespace Go.Proofs.YtlndlipicbkhiaaDoor
open Go.RowKit Go.Shelf

/-- which table has the function of an operator -/
theorem op_ways (s : List UInt8) :
    (∃ g, opN s ≤ 4 ∧ Opf g (opN s) ∧ lkp s arT (.nilFunc, false) = (.func (.func g) #[] #[], true)) ∨
    (∃ g, 5 ≤ opN s ∧ opN s ≤ 10 ∧ Opf g (opN s) ∧ lkp s arT (.nilFunc, false) = (.nilFunc, false) ∧ lkp s reT (.nilFunc, false) = (.func (.func g) #[] #[], true)) ∨
    (∃ g, 11 ≤ opN s ∧ opN s ≤ 12 ∧ Opf g (opN s) ∧ lkp s arT (.nilFunc, false) = (.nilFunc, false) ∧ lkp s reT (.nilFunc, false) = (.nilFunc, false) ∧ lkp s coT (.nilFunc, false) = (.func (.func g) #[] #[], true)) ∨
    (opN s = 13 ∧ lkp s arT (.nilFunc, false) = (.nilFunc, false) ∧ lkp s reT (.nilFunc, false) = (.nilFunc, false) ∧ lkp s coT (.nilFunc, false) = (.nilFunc, false)) := by
  by_cases h0 : s = [43]
  · subst h0
    exact .inl ⟨_, by decide, opf0, rfl⟩
  by_cases h1 : s = [45]
  · subst h1
    exact .inl ⟨_, by decide, opf1, rfl⟩
  by_cases h2 : s = [42]
  · subst h2
    exact .inl ⟨_, by decide, opf2, rfl⟩
  by_cases h3 : s = [47]
  · subst h3
    exact .inl ⟨_, by decide, opf3, rfl⟩
  by_cases h4 : s = [37]
  · subst h4
    exact .inl ⟨_, by decide, opf4, rfl⟩
  by_cases h5 : s = [61, 61]
  · subst h5
    exact .inr (.inl ⟨_, by decide, by decide, opf5, rfl, rfl⟩)
  by_cases h6 : s = [33, 61]
  · subst h6
    exact .inr (.inl ⟨_, by decide, by decide, opf6, rfl, rfl⟩)
  by_cases h7 : s = [60]
  · subst h7
    exact .inr (.inl ⟨_, by decide, by decide, opf7, rfl, rfl⟩)
  by_cases h8 : s = [60, 61]
  · subst h8
    exact .inr (.inl ⟨_, by decide, by decide, opf8, rfl, rfl⟩)
  by_cases h9 : s = [62]
  · subst h9
    exact .inr (.inl ⟨_, by decide, by decide, opf9, rfl, rfl⟩)
  by_cases h10 : s = [62, 61]
  · subst h10
    exact .inr (.inl ⟨_, by decide, by decide, opf10, rfl, rfl⟩)
  by_cases h11 : s = [97, 110, 100]
  · subst h11
    exact .inr (.inr (.inl ⟨_, by decide, by decide, opf11, rfl, rfl, rfl⟩))
  by_cases h12 : s = [111, 114]
  · subst h12
    exact .inr (.inr (.inl ⟨_, by decide, by decide, opf12, rfl, rfl, rfl⟩))
  right; right; right
  refine ⟨by simp [opN, h0, h1, h2, h3, h4, h5, h6, h7, h8, h9, h10, h11, h12], by simp [lkp, arT, h0, h1, h2, h3, h4], by simp [lkp, reT, h5, h6, h7, h8, h9, h10], by simp [lkp, coT, h11, h12]⟩

/-- how Binary's three results read -/
def binV (r : Int × Int × Int) : Value := .tuple #[.int .i64 r.1, .int .i64 r.2.1, .int .i64 r.2.2]
theorem binP_out {W : Int} (h : W < 2 ∨ 8 < W) (k : Nat) (a b : Int) : binP W k a b = (0, 0, 2) := by
  unfold binP
  rw [if_pos (hf_out h)]
theorem hf_in {W : Int} (h : ¬ (W < 2 ∨ 8 < W)) : hf W ≠ 0 := by
  rcases hf_cases W with ⟨h1, _⟩ | h1
  · exact absurd h1 h
  · omega
theorem binP_none {W : Int} (h : ¬ (W < 2 ∨ 8 < W)) {k : Nat} (hk : k = 13) (a b : Int) : binP W k a b = (0, 0, 1) := by
  unfold binP
  rw [if_neg (hf_in h), if_pos hk]
theorem binP_bad {W : Int} (h : ¬ (W < 2 ∨ 8 < W)) {k : Nat} (hk : k ≠ 13) {a b : Int} (hs : (scB W (decide (11 ≤ k)) a && scB W (decide (11 ≤ k)) b) = false) : binP W k a b = (0, 0, 2) := by
  unfold binP
  rw [if_neg (hf_in h), if_neg hk, if_pos hs]
theorem binP_good {W : Int} (h : ¬ (W < 2 ∨ 8 < W)) {k : Nat} (hk : k ≠ 13) {a b : Int} (hs : (scB W (decide (11 ≤ k)) a && scB W (decide (11 ≤ k)) b) = true) : binP W k a b = (wrpP W (rawP k a b).1, (rawP k a b).2, 0) := by
  unfold binP
  rw [if_neg (hf_in h), if_neg hk, hs, if_neg (by decide)]

set_option maxRecDepth 100000 in
set_option maxHeartbeats 4000000 in
theorem binary_any (W a b : Int) (s : ByteArray) (hW : IntKind.i64.wrap W = W) (hs : s.size ≤ maxLen) (w : World) :
    Calls Tryd.prog 8 #[.int .i64 W, .string s, .int .i64 a, .int .i64 b] w fun e w' => e = .returned (binV (binP W (opN s.data.toList) a b)) ∧ Below w.heap.size w w' := by
  have HP := Lib.hid (possible_any W w)
  by_cases h : W < 2 ∨ 8 < W
  · have h0 : decide (2 ≤ W ∧ W ≤ 8) = false := by rw [decide_eq_false_iff_not]; omega
    rw [h0] at HP
    have HR := Lib.hid (binP_out h (opN s.data.toList) a b)
    clear h h0
    go_enter Tryd.func8, Tryd.ntmps8
    go_wp2_with (fail)
    refine HP.out.mono ?_
    rintro e w1 ⟨rfl, rfl⟩
    go_wp2_with (fail)
    go_ret3
    exact ⟨by rw [HR.out]; rfl, Below.refl _ _⟩
  have h0 : decide (2 ≤ W ∧ W ≤ 8) = true := by rw [decide_eq_true_iff]; omega
  rw [h0] at HP
  have HIN := Lib.hid h
  have HWW := Lib.hid hW
  clear h h0 hW
  have HA := Lib.hid (fun w => arithmetic_any s hs w)
  have HRE := Lib.hid (fun w => relation_any s hs w)
  have HC := Lib.hid (fun w => connective_any s hs w)
  clear hs
  obtain ⟨k, HK⟩ : ∃ k, Hid (opN s.data.toList = k) := ⟨_, Lib.hid rfl⟩
  have HWAY := op_ways s.data.toList
  rw [HK.out] at HWAY
  rcases HWAY with ⟨g, h1, h2, h3⟩ | ⟨g, h1, h1', h2, h3, h4⟩ | ⟨g, h1, h1', h2, h3, h4, h5⟩ | ⟨h1, h3, h4, h5⟩
  · rw [h3] at HA
    have HENT := h2.ent
    have HRUN := Lib.hid h2.run
    have hk13 : k ≠ 13 := by omega
    have HT := Lib.hid (show decide (11 ≤ k) = false by rw [decide_eq_false_iff_not]; omega)
    have HBAD := Lib.hid (fun hh => binP_bad (a := a) (b := b) HIN.out hk13 hh)
    have HGOOD := Lib.hid (fun hh => binP_good (a := a) (b := b) HIN.out hk13 hh)
    rw [HT.out] at HBAD HGOOD
    clear hk13 h2
    clear h1 h3
    obtain ⟨xa, HXA⟩ : ∃ x, Hid (scB W false a = x) := ⟨_, Lib.hid rfl⟩
    obtain ⟨xb, HXB⟩ : ∃ x, Hid (scB W false b = x) := ⟨_, Lib.hid rfl⟩
    have HSA := Lib.hid (fun w => scalar_any W a false HWW.out w)
    have HSB := Lib.hid (fun w => scalar_any W b false HWW.out w)
    rw [HXA.out] at HSA
    rw [HXB.out] at HSB
    rw [HXA.out, HXB.out] at HBAD HGOOD
    go_enter Tryd.func8, Tryd.ntmps8
    go_wp2_with (fail)
    refine HP.out.mono ?_
    rintro e w1 ⟨rfl, rfl⟩
    go_wp2_with (fail)
    refine (HA.out _).mono ?_
    rintro e w2 ⟨rfl, hb2⟩
    have HB := Lib.hid hb2
    clear hb2
    go_wp2_with (fail)
    refine (HSA.out _).mono ?_
    rintro e w5 ⟨rfl, rfl⟩
    cases xa with
    | false =>
      go_wp2_with (fail)
      go_ret3
      exact ⟨by rw [HK.out, HBAD.out rfl]; rfl, HB.out⟩
    | true =>
      go_wp2_with (fail)
      refine (HSB.out _).mono ?_
      rintro e w6 ⟨rfl, rfl⟩
      cases xb with
      | false =>
        go_wp2_with (fail)
        go_ret3
        exact ⟨by rw [HK.out, HBAD.out rfl]; rfl, HB.out⟩
      | true =>
        have HBA := Lib.hid (sc_bound HXA.out)
        have HBB := Lib.hid (sc_bound HXB.out)
        go_wp2_with (fail)
        refine (HRUN.out a b _ HBA.out HBB.out).mono ?_
        rintro e w7 ⟨rfl, rfl⟩
        obtain ⟨⟨r, f⟩, HRR⟩ : ∃ x, Hid (rawP k a b = x) := ⟨_, Lib.hid rfl⟩
        rw [HRR.out] at HGOOD ⊢
        have HW := Lib.hid (fun w => wrap_any W r HWW.out w)
        go_wp2_with (fail)
        refine (HW.out _).mono ?_
        rintro e w8 ⟨rfl, rfl⟩
        go_wp2_with (fail)
        go_ret3
        exact ⟨by rw [HK.out, HGOOD.out rfl]; rfl, HB.out⟩
  · rw [h3] at HA
    rw [h4] at HRE
    have HENT := h2.ent
    have HRUN := Lib.hid h2.run
    have hk13 : k ≠ 13 := by omega
    have HT := Lib.hid (show decide (11 ≤ k) = false by rw [decide_eq_false_iff_not]; omega)
    have HBAD := Lib.hid (fun hh => binP_bad (a := a) (b := b) HIN.out hk13 hh)
    have HGOOD := Lib.hid (fun hh => binP_good (a := a) (b := b) HIN.out hk13 hh)
    rw [HT.out] at HBAD HGOOD
    clear hk13 h2
    clear h1 h1' h3 h4
    obtain ⟨xa, HXA⟩ : ∃ x, Hid (scB W false a = x) := ⟨_, Lib.hid rfl⟩
    obtain ⟨xb, HXB⟩ : ∃ x, Hid (scB W false b = x) := ⟨_, Lib.hid rfl⟩
    have HSA := Lib.hid (fun w => scalar_any W a false HWW.out w)
    have HSB := Lib.hid (fun w => scalar_any W b false HWW.out w)
    rw [HXA.out] at HSA
    rw [HXB.out] at HSB
    rw [HXA.out, HXB.out] at HBAD HGOOD
    go_enter Tryd.func8, Tryd.ntmps8
    go_wp2_with (fail)
    refine HP.out.mono ?_
    rintro e w1 ⟨rfl, rfl⟩
    go_wp2_with (fail)
    refine (HA.out _).mono ?_
    rintro e w2 ⟨rfl, hb2⟩
    have HB := Lib.hid hb2
    clear hb2
    go_wp2_with (fail)
    refine (HRE.out _).mono ?_
    rintro e w3 ⟨rfl, hb2⟩
    have HBn := Lib.hid (HB.out.trans (hb2.mono HB.out.size))
    clear HB hb2
    have HB := HBn
    clear HBn
    go_wp2_with (fail)
    refine (HSA.out _).mono ?_
    rintro e w5 ⟨rfl, rfl⟩
    cases xa with
    | false =>
      go_wp2_with (fail)
      go_ret3
      exact ⟨by rw [HK.out, HBAD.out rfl]; rfl, HB.out⟩
    | true =>
      go_wp2_with (fail)
      refine (HSB.out _).mono ?_
      rintro e w6 ⟨rfl, rfl⟩
      cases xb with
      | false =>
        go_wp2_with (fail)
        go_ret3
        exact ⟨by rw [HK.out, HBAD.out rfl]; rfl, HB.out⟩
      | true =>
        have HBA := Lib.hid (sc_bound HXA.out)
        have HBB := Lib.hid (sc_bound HXB.out)
        go_wp2_with (fail)
        refine (HRUN.out a b _ HBA.out HBB.out).mono ?_
        rintro e w7 ⟨rfl, rfl⟩
        obtain ⟨⟨r, f⟩, HRR⟩ : ∃ x, Hid (rawP k a b = x) := ⟨_, Lib.hid rfl⟩
        rw [HRR.out] at HGOOD ⊢
        have HW := Lib.hid (fun w => wrap_any W r HWW.out w)
        go_wp2_with (fail)
        refine (HW.out _).mono ?_
        rintro e w8 ⟨rfl, rfl⟩
        go_wp2_with (fail)
        go_ret3
        exact ⟨by rw [HK.out, HGOOD.out rfl]; rfl, HB.out⟩
  · rw [h3] at HA
    rw [h4] at HRE
    rw [h5] at HC
    have HENT := h2.ent
    have HRUN := Lib.hid h2.run
    have hk13 : k ≠ 13 := by omega
    have HT := Lib.hid (show decide (11 ≤ k) = true by rw [decide_eq_true_iff]; omega)
    have HBAD := Lib.hid (fun hh => binP_bad (a := a) (b := b) HIN.out hk13 hh)
    have HGOOD := Lib.hid (fun hh => binP_good (a := a) (b := b) HIN.out hk13 hh)
    rw [HT.out] at HBAD HGOOD
    clear hk13 h2
    clear h1 h1' h3 h4 h5
    obtain ⟨xa, HXA⟩ : ∃ x, Hid (scB W true a = x) := ⟨_, Lib.hid rfl⟩
    obtain ⟨xb, HXB⟩ : ∃ x, Hid (scB W true b = x) := ⟨_, Lib.hid rfl⟩
    have HSA := Lib.hid (fun w => scalar_any W a true HWW.out w)
    have HSB := Lib.hid (fun w => scalar_any W b true HWW.out w)
    rw [HXA.out] at HSA
    rw [HXB.out] at HSB
    rw [HXA.out, HXB.out] at HBAD HGOOD
    go_enter Tryd.func8, Tryd.ntmps8
    go_wp2_with (fail)
    refine HP.out.mono ?_
    rintro e w1 ⟨rfl, rfl⟩
    go_wp2_with (fail)
    refine (HA.out _).mono ?_
    rintro e w2 ⟨rfl, hb2⟩
    have HB := Lib.hid hb2
    clear hb2
    go_wp2_with (fail)
    refine (HRE.out _).mono ?_
    rintro e w3 ⟨rfl, hb2⟩
    have HBn := Lib.hid (HB.out.trans (hb2.mono HB.out.size))
    clear HB hb2
    have HB := HBn
    clear HBn
    go_wp2_with (fail)
    refine (HC.out _).mono ?_
    rintro e w4 ⟨rfl, hb2⟩
    have HBn := Lib.hid (HB.out.trans (hb2.mono HB.out.size))
    clear HB hb2
    have HB := HBn
    clear HBn
    go_wp2_with (fail)
    refine (HSA.out _).mono ?_
    rintro e w5 ⟨rfl, rfl⟩
    cases xa with
    | false =>
      go_wp2_with (fail)
      go_ret3
      exact ⟨by rw [HK.out, HBAD.out rfl]; rfl, HB.out⟩
    | true =>
      go_wp2_with (fail)
      refine (HSB.out _).mono ?_
      rintro e w6 ⟨rfl, rfl⟩
      cases xb with
      | false =>
        go_wp2_with (fail)
        go_ret3
        exact ⟨by rw [HK.out, HBAD.out rfl]; rfl, HB.out⟩
      | true =>
        have HBA := Lib.hid (sc_bound HXA.out)
        have HBB := Lib.hid (sc_bound HXB.out)
        go_wp2_with (fail)
        refine (HRUN.out a b _ HBA.out HBB.out).mono ?_
        rintro e w7 ⟨rfl, rfl⟩
        obtain ⟨⟨r, f⟩, HRR⟩ : ∃ x, Hid (rawP k a b = x) := ⟨_, Lib.hid rfl⟩
        rw [HRR.out] at HGOOD ⊢
        have HW := Lib.hid (fun w => wrap_any W r HWW.out w)
        go_wp2_with (fail)
        refine (HW.out _).mono ?_
        rintro e w8 ⟨rfl, rfl⟩
        go_wp2_with (fail)
        go_ret3
        exact ⟨by rw [HK.out, HGOOD.out rfl]; rfl, HB.out⟩
  · rw [h3] at HA
    rw [h4] at HRE
    rw [h5] at HC
    have HNO := Lib.hid (binP_none HIN.out h1 a b)
    clear h1 h3 h4 h5
    go_enter Tryd.func8, Tryd.ntmps8
    go_wp2_with (fail)
    refine HP.out.mono ?_
    rintro e w1 ⟨rfl, rfl⟩
    go_wp2_with (fail)
    refine (HA.out _).mono ?_
    rintro e w2 ⟨rfl, hb2⟩
    have HB := Lib.hid hb2
    clear hb2
    go_wp2_with (fail)
    refine (HRE.out _).mono ?_
    rintro e w3 ⟨rfl, hb2⟩
    have HBn := Lib.hid (HB.out.trans (hb2.mono HB.out.size))
    clear HB hb2
    have HB := HBn
    clear HBn
    go_wp2_with (fail)
    refine (HC.out _).mono ?_
    rintro e w4 ⟨rfl, hb2⟩
    have HBn := Lib.hid (HB.out.trans (hb2.mono HB.out.size))
    clear HB hb2
    have HB := HBn
    clear HBn
    go_wp2_with (fail)
    go_ret3
    exact ⟨by rw [HK.out, HNO.out]; rfl, HB.out⟩
end Go.Proofs.YtlndlipicbkhiaaDoor
