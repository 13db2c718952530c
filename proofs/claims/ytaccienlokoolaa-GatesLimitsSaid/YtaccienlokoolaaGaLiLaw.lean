/- What is proved: the law GatesLimits, over the example's contract. -/
import Derived.Test.YtaccienlokoolaaGaAwk
import Derived.Test.YtaccienlokoolaaGaChn
set_option linter.unusedVariables false
namespace Go.Proofs.Ytaccienlokoolaa
open Go.RowKit Go.Maps

theorem li_k0 : opN 0 (litB 2 ([] : List Gt).length 2 && litB 2 ([] : List Gt).length 4) (andN 2 [] 2 4) = 6 ∧ opL 0 (litB 2 ([] : List Gt).length 2 && litB 2 ([] : List Gt).length 4) [] (andL [] 2 4) = chn 0 ∧ opE 0 (litB 2 ([] : List Gt).length 2 && litB 2 ([] : List Gt).length 4) = 0 := by decide +kernel
theorem li_step (i : Nat) : opN 0 (litB 2 (chn i).length (7 + 2 * (i : Int)) && litB 2 (chn i).length (chU i)) (andN 2 (chn i) (7 + 2 * (i : Int)) (chU i)) = 6 + 2 * ((i + 1 : Nat) : Int) ∧ opL 0 (litB 2 (chn i).length (7 + 2 * (i : Int)) && litB 2 (chn i).length (chU i)) (chn i) (andL (chn i) (7 + 2 * (i : Int)) (chU i)) = chn (i + 1) ∧ opE 0 (litB 2 (chn i).length (7 + 2 * (i : Int)) && litB 2 (chn i).length (chU i)) = 0 := by
  rw [litB_iff.2 (chn_lits i).1, litB_iff.2 (chn_lits i).2.1, Bool.true_and]
  obtain ⟨e1, e2, e3⟩ := op_yes (andN 2 (chn i) (7 + 2 * (i : Int)) (chU i)) (chn i) (andL (chn i) (7 + 2 * (i : Int)) (chU i))
  rw [e1, e2, e3]
  exact ⟨(chn_and i).1, (chn_and i).2, rfl⟩
theorem li_ev (flip : Bool) (k : Nat) (hk : k < 2000) : evL 2 (chn k) [true, !flip] [6 + 2 * (k : Int)] = [chV flip k] ∧ evE 2 (chn k) [true, !flip] [6 + 2 * (k : Int)] = 0 := by
  have hf : fitB 2 (chn k) [6 + 2 * (k : Int)] = true := fit_iff.2 ⟨⟨chn_ok k, by rw [chn_len]; omega⟩, fun x hx => by simp at hx; subst hx; exact (chn_lits k).2.2⟩
  obtain ⟨e1, e2⟩ := ev_yes (inp := [true, !flip]) hf rfl
  rw [e1, e2]
  simp [chn_val]
/-- the builder in the loop -/
def LiS (w0 : World) (n₀ bb mb i : Nat) (w : World) : Prop := (∃ rv, Bld w n₀ bb mb rv 2 (chn i) 0) ∧ Below w0.heap.size w0 w
set_option maxRecDepth 100000 in
set_option maxHeartbeats 4000000 in
theorem law_limits (n : Int) (flip : Bool) (w : World) (hwf : (Lit.int .u16 n).wf = true) :
    Calls Try.prog 8 #[.int .u16 n, .bool flip] w fun e w' => e = .returned (.bool true) ∧ Below w.heap.size w w' := by
  have hn : 0 ≤ n ∧ n ≤ 65535 := by
    simp [Lit.wf, IntKind.min, IntKind.max, IntKind.bits, IntKind.signed] at hwf
    omega
  clear hwf
  have HA := Lib.hid (awake_any w)
  have HN := Lib.hid (fun w => new_any 2 (by decide) w)
  obtain ⟨m, rfl⟩ : ∃ m : Nat, n = (m : Int) := ⟨n.toNat, by omega⟩
  have hk := Nat.mod_lt m (show 0 < 2000 by decide)
  have hw0 : IntKind.i64.wrap (m : Int) = (m : Int) := IntWalk.i64_in _ (by omega)
  go_enter Try.func8, Try.ntmps8
  go_wp2_with (fail)
  refine HA.out.mono ?_
  rintro e w1 ⟨rfl, hb1⟩
  have HB1 := Lib.hid hb1
  clear hb1 HA
  go_upto_region 4 with fail
  rw [show (m : Int) % 2000 = ((m % 2000 : Nat) : Int) by omega]
  generalize hkk : m % 2000 = k at *
  clear hkk
  go_wp2_with (fail)
  refine (HN.out _).mono ?_
  rintro e w2 ⟨bb, mb, rfl, ht2, hb2⟩
  have HB2 := Lib.hid (HB1.out.trans (hb2.mono HB1.out.size))
  have HT2 := Lib.hid ht2
  have HM1 := Lib.hid (binput_any 0 ht2)
  rw [ex_in.1, ex_in.2.1] at HM1
  have HN0 := Lib.hid (show w.heap.size ≤ w1.heap.size from HB1.out.size)
  clear ht2 hb2 HN
  go_wp2_with (fail)
  refine HM1.out.mono ?_
  rintro e w3 ⟨rfl, hr⟩
  have HB3 := Lib.hid (hr.below HT2.out HN0.out HB2.out)
  have HT3 := Lib.hid hr.tab
  have HM2 := Lib.hid (binput_any 1 hr.tab)
  rw [ex_in.2.2.1, ex_in.2.2.2] at HM2
  clear hr HT2 HM1
  go_wp2_with (fail)
  refine HM2.out.mono ?_
  rintro e w4 ⟨rfl, hr⟩
  have HB4 := Lib.hid (hr.below HT3.out HN0.out HB3.out)
  have HT4 := Lib.hid hr.tab
  have HM3 := Lib.hid (m_And 2 4 0 hr.tab (by decide))
  rw [li_k0.1, li_k0.2.1, li_k0.2.2] at HM3
  clear hr HT3 HM2
  go_wp2_with (fail)
  refine HM3.out.mono ?_
  rintro e w5 ⟨rfl, rv5, hr⟩
  have HL0 := Lib.hid (show LiS w w1.heap.size bb mb 0 w5 from ⟨⟨rv5, hr.tab⟩, hr.below HT4.out HN0.out HB4.out⟩)
  clear hr HT4 HM3
  go_wp2_with (fail)
  go_loopw [10, 37] (fun zv jv wr => ∃ (i : Nat), i ≤ k ∧ jv = .int .i64 (i : Int) ∧ zv = .int .i64 (6 + 2 * (i : Int)) ∧ Hid (LiS w w1.heap.size bb mb i wr)) (fun _ jv _ => k - (intOf jv).toNat)
  case atStart => exact ⟨0, Nat.zero_le _, rfl, rfl, HL0⟩
  case round =>
    obtain ⟨i, hi, rfl, rfl, hs⟩ := hrel
    obtain ⟨rv, ht⟩ := hs.out.1
    have HT := Lib.hid ht
    have HBW := Lib.hid hs.out.2
    by_cases hlt : i < k
    · have HNT := Lib.hid (not_any (6 + 2 * (i : Int)) (by omega) wr)
      rw [chn_not] at HNT
      obtain ⟨q1, q2, q3⟩ := li_step i
      have HM := Lib.hid (m_And (7 + 2 * (i : Int)) (chU i) 0 ht (by rw [chn_len]; omega))
      rw [q1, q2, q3] at HM
      clear ht q1 q2 q3 hs
      by_cases hp : i % 2 = 0
      · have d : ((i : Int) % 2 == 0) = true := by simp; omega
        rw [show chU i = 4 by unfold chU; rw [if_pos hp]] at HM
        clear hp
        go_wp2_with (fail)
        refine HNT.out.mono ?_
        rintro e wx ⟨rfl, hx⟩
        obtain rfl := hx.symm
        go_wp2_with (fail)
        refine HM.out.mono ?_
        rintro e w6 ⟨rfl, rv6, hr⟩
        have HS := Lib.hid (show LiS w w1.heap.size bb mb (i + 1) w6 from ⟨⟨rv6, hr.tab⟩, hr.below HT.out HN0.out HBW.out⟩)
        clear hr
        go_wp2_with (fail)
        exact ⟨⟨i + 1, by omega, by go_num, by go_num, HS⟩, by simp [intOf]; omega⟩
      · have d : ((i : Int) % 2 == 0) = false := by simp; omega
        rw [show chU i = 2 by unfold chU; rw [if_neg hp]] at HM
        clear hp
        go_wp2_with (fail)
        refine HNT.out.mono ?_
        rintro e wx ⟨rfl, hx⟩
        obtain rfl := hx.symm
        go_wp2_with (fail)
        refine HM.out.mono ?_
        rintro e w6 ⟨rfl, rv6, hr⟩
        have HS := Lib.hid (show LiS w w1.heap.size bb mb (i + 1) w6 from ⟨⟨rv6, hr.tab⟩, hr.below HT.out HN0.out HBW.out⟩)
        clear hr
        go_wp2_with (fail)
        exact ⟨⟨i + 1, by omega, by go_num, by go_num, HS⟩, by simp [intOf]; omega⟩
    · obtain rfl : i = k := by omega
      have HER := Lib.hid (berr_any ht)
      have HLE := Lib.hid (blen_any ht)
      have hnd : nds 2 (chn i).length = 4 + (i : Int) := by unfold nds; rw [chn_len]; omega
      rw [hnd] at HLE
      clear ht hs hnd
      go_wp2_with (fail)
      refine HER.out.mono ?_
      rintro e wx ⟨rfl, hx⟩
      obtain rfl := hx.symm
      have d1 : ((4 + (i : Int)) == (4 + (i : Int))) = true := by simp
      have d2 : ((4 + (i : Int)) != (4 + (i : Int))) = false := by simp
      go_wp2_with (fail)
      refine HLE.out.mono ?_
      rintro e w6 ⟨rfl, hb6⟩
      have HB6 := Lib.hid (HBW.out.trans (hb6.mono HBW.out.size))
      have HT6 := Lib.hid (HT.out.later hb6)
      have HC := Lib.hid (circuit_any HT6.out)
      clear hb6 HT HER HLE
      go_wp2_with (fail)
      refine HC.out.mono ?_
      rintro e w7 ⟨X, cap, rfl, ho7, hb7⟩
      have HB7 := Lib.hid (HB6.out.trans (hb7.mono HB6.out.size))
      have hba := (Below.refl w7.heap.size w7).alloc (Nat.le_refl _) (.cells #[.bool true, .bool (!flip)] 4)
      have hbb := (Below.refl (w7.alloc (.cells #[.bool true, .bool (!flip)] 4)).heap.size _).alloc (Nat.le_refl _) (.cells #[.int .i64 (6 + 2 * (i : Int))] 3)
      have hbc := hba.trans (hbb.mono hba.size)
      have HB8 := Lib.hid (HB7.out.trans (hbc.mono HB7.out.size))
      obtain ⟨A9, c9, hX9, _, hrow9, _⟩ := (GOwn.later ho7 hbc).form
      injection hX9 with hX9 _ hc9
      subst hX9
      subst hc9
      have HEV := Lib.hid (eval_any 2 X cap (chn i) (some ⟨w7.heap.size, 0, none⟩) 2 [true, !flip] (some ⟨(w7.alloc (.cells #[.bool true, .bool (!flip)] 4)).heap.size, 0, none⟩) 1 [6 + 2 * (i : Int)] _ hrow9 (ck_gtOk (chn_ok i) (by rw [chn_len]; omega)) (by rw [chn_len]; omega) ((BRow.two w7 true (!flip)).later hbb) (by simp) (ZRow.one _ _) (by simp))
      rw [(li_ev flip i (by omega)).1, (li_ev flip i (by omega)).2, show (w7.alloc (.cells #[.bool true, .bool (!flip)] 4)).heap.size = w7.heap.size + 1 by simp] at HEV
      clear hba hbb hbc hrow9 ho7 hb7 HC
      go_wp2_with (fail)
      refine HEV.out.mono ?_
      rintro e w10 ⟨A', c', rfl, hrow, hb⟩
      have HB10 := Lib.hid (HB8.out.trans (hb.mono HB8.out.size))
      obtain ⟨vb, vo, rfl, _, hcell⟩ := hrow (by simp)
      have HV0 := Lib.hid (hcell 0 (by simp))
      clear hrow hb hcell HEV
      have HC0 := Lib.hid (show w10.cell? ⟨vb, vo, none⟩ = some (.bool (chV flip i)) from HV0.out)
      clear HV0
      go_wp2_with (fail)
      go_loopw [15, 82] (fun uv jv wr => ∃ (j : Nat), j ≤ i ∧ jv = .int .i64 (j : Int) ∧ uv = .bool (chV flip j) ∧ Hid (wr = w10)) (fun _ jv _ => i - (intOf jv).toNat)
      case atStart => exact ⟨0, Nat.zero_le _, rfl, rfl, Lib.hid rfl⟩
      case round =>
        obtain ⟨j, hj, rfl, rfl, hw⟩ := hrel
        obtain rfl := hw.out
        by_cases hlt : j < i
        · have HNX := Lib.hid (show chV flip (j + 1) = (!chV flip j && (decide (j % 2 = 1) || !flip)) from rfl)
          cases hv : chV flip j with
          | true =>
            rw [hv] at HNX
            clear hv
            go_wp2_with (fail)
            exact ⟨⟨j + 1, by omega, by go_num, by rw [HNX.out]; exact ⟨by cases flip <;> rfl, Lib.hid trivial⟩⟩, by simp [intOf]; omega⟩
          | false =>
            rw [hv] at HNX
            clear hv
            by_cases hp : j % 2 = 1
            · have d : ((j : Int) % 2 == 1) = true := by simp; omega
              rw [decide_eq_true hp] at HNX
              clear hp
              go_wp2_with (fail)
              exact ⟨⟨j + 1, by omega, by go_num, by rw [HNX.out]; exact ⟨by cases flip <;> rfl, Lib.hid trivial⟩⟩, by simp [intOf]; omega⟩
            · have d : ((j : Int) % 2 == 1) = false := by simp; omega
              rw [decide_eq_false hp] at HNX
              clear hp
              go_wp2_with (fail)
              exact ⟨⟨j + 1, by omega, by go_num, by rw [HNX.out]; exact ⟨by cases flip <;> rfl, Lib.hid trivial⟩⟩, by simp [intOf]; omega⟩
        · obtain rfl : j = i := by omega
          have c0 := HC0.out
          generalize chV flip j = q at *
          go_wp2_with (fail)
          go_ret
          exact ⟨by cases q <;> rfl, HB10.out⟩
end Go.Proofs.Ytaccienlokoolaa
