/- What is proved: the reference's Binary, operator by operator. -/
import Derived.Test.YtlndlipicbkhiaaDoorVaRBin
set_option linter.unusedVariables false
namespace Go.Proofs.YtlndlipicbkhiaaDoor
open Go.RowKit

set_option maxRecDepth 100000 in
set_option maxHeartbeats 8000000 in
theorem r_bin_0 (W a b : Int) (h : ¬ (W < 2 ∨ 8 < W)) (w : World) :
    Calls Tryd.prog 9 #[.int .i64 W, .string ⟨#[43]⟩, .int .i64 a, .int .i64 b] w fun e w' => e = .returned (binV (binP W 0 a b)) ∧ Below w.heap.size w w' := by
  have HP := Lib.hid (r_width_any W w)
  rw [wok_yes h] at HP
  have HH := Lib.hid (fun w => r_has_op ⟨#[43]⟩ w)
  rw [show hasB rops ⟨#[43]⟩ = true by unfold hasB rops; simp only [List.any_cons, List.any_nil, ByteArray.toList_eq]; decide] at HH
  have HB := Lib.hid ((Below.refl w.heap.size w).alloc (Nat.le_refl _) (.cells (scells rops).toArray 9))
  have HIA := Lib.hid (fun w => r_isInt_any W a w)
  have HIB := Lib.hid (fun w => r_isInt_any W b w)
  rw [sc_int W a h] at HIA
  rw [sc_int W b h] at HIB
  have HBAD := Lib.hid (fun hh => binP_bad (a := a) (b := b) (k := 0) h (by decide) hh)
  have HGOOD := Lib.hid (fun hh => binP_good (a := a) (b := b) (k := 0) h (by decide) hh)
  rw [show decide (11 ≤ 0) = false by decide] at HBAD HGOOD
  obtain ⟨x, HX⟩ : ∃ x, Hid (scB W false a = x) := ⟨_, Lib.hid rfl⟩
  obtain ⟨y, HY⟩ : ∃ y, Hid (scB W false b = y) := ⟨_, Lib.hid rfl⟩
  rw [HX.out] at HIA
  rw [HY.out] at HIB
  rw [HX.out, HY.out] at HBAD HGOOD
  have HIN := Lib.hid h
  cases x with
  | false =>
    clear h
    go_enter Tryd.func9, Tryd.ntmps9
    go_wp2_with (fail)
    refine HP.out.mono ?_
    rintro e w1 ⟨rfl, rfl⟩
    go_wp2_with (fail)
    refine (HH.out _).mono ?_
    rintro e w2 ⟨rfl, rfl⟩
    go_wp2_with (fail)
    refine (HIA.out _).mono ?_
    rintro e w3 ⟨rfl, rfl⟩
    go_wp2_with (fail)
    go_ret3
    exact ⟨by rw [HBAD.out rfl]; rfl, HB.out⟩
  | true =>
    cases y with
    | false =>
      clear h
      go_enter Tryd.func9, Tryd.ntmps9
      go_wp2_with (fail)
      refine HP.out.mono ?_
      rintro e w1 ⟨rfl, rfl⟩
      go_wp2_with (fail)
      refine (HH.out _).mono ?_
      rintro e w2 ⟨rfl, rfl⟩
      go_wp2_with (fail)
      refine (HIA.out _).mono ?_
      rintro e w3 ⟨rfl, rfl⟩
      go_wp2_with (fail)
      refine (HIB.out _).mono ?_
      rintro e w4 ⟨rfl, rfl⟩
      go_wp2_with (fail)
      go_ret3
      exact ⟨by rw [HBAD.out rfl]; rfl, HB.out⟩
    | true =>
      have HBA := Lib.hid (sc_bound HX.out)
      have HBB := Lib.hid (sc_bound HY.out)
      have hba := sc_bound HX.out
      have hbb := sc_bound HY.out
      have hr := raw_bound 0 a b hba hbb
      have hr' : -20000 ≤ a + b ∧ a + b ≤ 20000 := hr
      have hw : IntKind.i64.wrap (a + b) = a + b := by simp [IntKind.wrap, IntKind.bits, IntKind.signed]; omega
      have HW := Lib.hid (fun w => r_wrap_any W (rawP 0 a b).1 (by have := raw_bound 0 a b HBA.out HBB.out; omega) w)
      rw [show (rawP 0 a b).1 = a + b from rfl] at HW
      have HG := HGOOD.out rfl
      rw [show (rawP 0 a b) = (a + b, 0) from rfl] at HG
      have HG2 := Lib.hid HG
      clear h hr hr' hba hbb HG
      go_enter Tryd.func9, Tryd.ntmps9
      go_wp2_with (fail)
      refine HP.out.mono ?_
      rintro e w1 ⟨rfl, rfl⟩
      go_wp2_with (fail)
      refine (HH.out _).mono ?_
      rintro e w2 ⟨rfl, rfl⟩
      go_wp2_with (fail)
      refine (HIA.out _).mono ?_
      rintro e w3 ⟨rfl, rfl⟩
      go_wp2_with (fail)
      refine (HIB.out _).mono ?_
      rintro e w4 ⟨rfl, rfl⟩
      go_wp2_with (fail)
      refine (HW.out _).mono ?_
      rintro e w5 ⟨rfl, rfl⟩
      go_wp2_with (fail)
      go_ret3
      exact ⟨by rw [HG2.out]; rfl, HB.out⟩

set_option maxRecDepth 100000 in
set_option maxHeartbeats 8000000 in
theorem r_bin_1 (W a b : Int) (h : ¬ (W < 2 ∨ 8 < W)) (w : World) :
    Calls Tryd.prog 9 #[.int .i64 W, .string ⟨#[45]⟩, .int .i64 a, .int .i64 b] w fun e w' => e = .returned (binV (binP W 1 a b)) ∧ Below w.heap.size w w' := by
  have HP := Lib.hid (r_width_any W w)
  rw [wok_yes h] at HP
  have HH := Lib.hid (fun w => r_has_op ⟨#[45]⟩ w)
  rw [show hasB rops ⟨#[45]⟩ = true by unfold hasB rops; simp only [List.any_cons, List.any_nil, ByteArray.toList_eq]; decide] at HH
  have HB := Lib.hid ((Below.refl w.heap.size w).alloc (Nat.le_refl _) (.cells (scells rops).toArray 9))
  have HIA := Lib.hid (fun w => r_isInt_any W a w)
  have HIB := Lib.hid (fun w => r_isInt_any W b w)
  rw [sc_int W a h] at HIA
  rw [sc_int W b h] at HIB
  have HBAD := Lib.hid (fun hh => binP_bad (a := a) (b := b) (k := 1) h (by decide) hh)
  have HGOOD := Lib.hid (fun hh => binP_good (a := a) (b := b) (k := 1) h (by decide) hh)
  rw [show decide (11 ≤ 1) = false by decide] at HBAD HGOOD
  obtain ⟨x, HX⟩ : ∃ x, Hid (scB W false a = x) := ⟨_, Lib.hid rfl⟩
  obtain ⟨y, HY⟩ : ∃ y, Hid (scB W false b = y) := ⟨_, Lib.hid rfl⟩
  rw [HX.out] at HIA
  rw [HY.out] at HIB
  rw [HX.out, HY.out] at HBAD HGOOD
  have HIN := Lib.hid h
  cases x with
  | false =>
    clear h
    go_enter Tryd.func9, Tryd.ntmps9
    go_wp2_with (fail)
    refine HP.out.mono ?_
    rintro e w1 ⟨rfl, rfl⟩
    go_wp2_with (fail)
    refine (HH.out _).mono ?_
    rintro e w2 ⟨rfl, rfl⟩
    go_wp2_with (fail)
    refine (HIA.out _).mono ?_
    rintro e w3 ⟨rfl, rfl⟩
    go_wp2_with (fail)
    go_ret3
    exact ⟨by rw [HBAD.out rfl]; rfl, HB.out⟩
  | true =>
    cases y with
    | false =>
      clear h
      go_enter Tryd.func9, Tryd.ntmps9
      go_wp2_with (fail)
      refine HP.out.mono ?_
      rintro e w1 ⟨rfl, rfl⟩
      go_wp2_with (fail)
      refine (HH.out _).mono ?_
      rintro e w2 ⟨rfl, rfl⟩
      go_wp2_with (fail)
      refine (HIA.out _).mono ?_
      rintro e w3 ⟨rfl, rfl⟩
      go_wp2_with (fail)
      refine (HIB.out _).mono ?_
      rintro e w4 ⟨rfl, rfl⟩
      go_wp2_with (fail)
      go_ret3
      exact ⟨by rw [HBAD.out rfl]; rfl, HB.out⟩
    | true =>
      have HBA := Lib.hid (sc_bound HX.out)
      have HBB := Lib.hid (sc_bound HY.out)
      have hba := sc_bound HX.out
      have hbb := sc_bound HY.out
      have hr := raw_bound 1 a b hba hbb
      have hr' : -20000 ≤ a - b ∧ a - b ≤ 20000 := hr
      have hw : IntKind.i64.wrap (a - b) = a - b := by simp [IntKind.wrap, IntKind.bits, IntKind.signed]; omega
      have HW := Lib.hid (fun w => r_wrap_any W (rawP 1 a b).1 (by have := raw_bound 1 a b HBA.out HBB.out; omega) w)
      rw [show (rawP 1 a b).1 = a - b from rfl] at HW
      have HG := HGOOD.out rfl
      rw [show (rawP 1 a b) = (a - b, 0) from rfl] at HG
      have HG2 := Lib.hid HG
      clear h hr hr' hba hbb HG
      go_enter Tryd.func9, Tryd.ntmps9
      go_wp2_with (fail)
      refine HP.out.mono ?_
      rintro e w1 ⟨rfl, rfl⟩
      go_wp2_with (fail)
      refine (HH.out _).mono ?_
      rintro e w2 ⟨rfl, rfl⟩
      go_wp2_with (fail)
      refine (HIA.out _).mono ?_
      rintro e w3 ⟨rfl, rfl⟩
      go_wp2_with (fail)
      refine (HIB.out _).mono ?_
      rintro e w4 ⟨rfl, rfl⟩
      go_wp2_with (fail)
      refine (HW.out _).mono ?_
      rintro e w5 ⟨rfl, rfl⟩
      go_wp2_with (fail)
      go_ret3
      exact ⟨by rw [HG2.out]; rfl, HB.out⟩

set_option maxRecDepth 100000 in
set_option maxHeartbeats 8000000 in
theorem r_bin_2 (W a b : Int) (h : ¬ (W < 2 ∨ 8 < W)) (w : World) :
    Calls Tryd.prog 9 #[.int .i64 W, .string ⟨#[42]⟩, .int .i64 a, .int .i64 b] w fun e w' => e = .returned (binV (binP W 2 a b)) ∧ Below w.heap.size w w' := by
  have HP := Lib.hid (r_width_any W w)
  rw [wok_yes h] at HP
  have HH := Lib.hid (fun w => r_has_op ⟨#[42]⟩ w)
  rw [show hasB rops ⟨#[42]⟩ = true by unfold hasB rops; simp only [List.any_cons, List.any_nil, ByteArray.toList_eq]; decide] at HH
  have HB := Lib.hid ((Below.refl w.heap.size w).alloc (Nat.le_refl _) (.cells (scells rops).toArray 9))
  have HIA := Lib.hid (fun w => r_isInt_any W a w)
  have HIB := Lib.hid (fun w => r_isInt_any W b w)
  rw [sc_int W a h] at HIA
  rw [sc_int W b h] at HIB
  have HBAD := Lib.hid (fun hh => binP_bad (a := a) (b := b) (k := 2) h (by decide) hh)
  have HGOOD := Lib.hid (fun hh => binP_good (a := a) (b := b) (k := 2) h (by decide) hh)
  rw [show decide (11 ≤ 2) = false by decide] at HBAD HGOOD
  obtain ⟨x, HX⟩ : ∃ x, Hid (scB W false a = x) := ⟨_, Lib.hid rfl⟩
  obtain ⟨y, HY⟩ : ∃ y, Hid (scB W false b = y) := ⟨_, Lib.hid rfl⟩
  rw [HX.out] at HIA
  rw [HY.out] at HIB
  rw [HX.out, HY.out] at HBAD HGOOD
  have HIN := Lib.hid h
  cases x with
  | false =>
    clear h
    go_enter Tryd.func9, Tryd.ntmps9
    go_wp2_with (fail)
    refine HP.out.mono ?_
    rintro e w1 ⟨rfl, rfl⟩
    go_wp2_with (fail)
    refine (HH.out _).mono ?_
    rintro e w2 ⟨rfl, rfl⟩
    go_wp2_with (fail)
    refine (HIA.out _).mono ?_
    rintro e w3 ⟨rfl, rfl⟩
    go_wp2_with (fail)
    go_ret3
    exact ⟨by rw [HBAD.out rfl]; rfl, HB.out⟩
  | true =>
    cases y with
    | false =>
      clear h
      go_enter Tryd.func9, Tryd.ntmps9
      go_wp2_with (fail)
      refine HP.out.mono ?_
      rintro e w1 ⟨rfl, rfl⟩
      go_wp2_with (fail)
      refine (HH.out _).mono ?_
      rintro e w2 ⟨rfl, rfl⟩
      go_wp2_with (fail)
      refine (HIA.out _).mono ?_
      rintro e w3 ⟨rfl, rfl⟩
      go_wp2_with (fail)
      refine (HIB.out _).mono ?_
      rintro e w4 ⟨rfl, rfl⟩
      go_wp2_with (fail)
      go_ret3
      exact ⟨by rw [HBAD.out rfl]; rfl, HB.out⟩
    | true =>
      have HBA := Lib.hid (sc_bound HX.out)
      have HBB := Lib.hid (sc_bound HY.out)
      have hba := sc_bound HX.out
      have hbb := sc_bound HY.out
      have hr := raw_bound 2 a b hba hbb
      have hr' : -20000 ≤ a * b ∧ a * b ≤ 20000 := hr
      have hw : IntKind.i64.wrap (a * b) = a * b := by simp [IntKind.wrap, IntKind.bits, IntKind.signed]; omega
      have HW := Lib.hid (fun w => r_wrap_any W (rawP 2 a b).1 (by have := raw_bound 2 a b HBA.out HBB.out; omega) w)
      rw [show (rawP 2 a b).1 = a * b from rfl] at HW
      have HG := HGOOD.out rfl
      rw [show (rawP 2 a b) = (a * b, 0) from rfl] at HG
      have HG2 := Lib.hid HG
      clear h hr hr' hba hbb HG
      go_enter Tryd.func9, Tryd.ntmps9
      go_wp2_with (fail)
      refine HP.out.mono ?_
      rintro e w1 ⟨rfl, rfl⟩
      go_wp2_with (fail)
      refine (HH.out _).mono ?_
      rintro e w2 ⟨rfl, rfl⟩
      go_wp2_with (fail)
      refine (HIA.out _).mono ?_
      rintro e w3 ⟨rfl, rfl⟩
      go_wp2_with (fail)
      refine (HIB.out _).mono ?_
      rintro e w4 ⟨rfl, rfl⟩
      go_wp2_with (fail)
      refine (HW.out _).mono ?_
      rintro e w5 ⟨rfl, rfl⟩
      go_wp2_with (fail)
      go_ret3
      exact ⟨by rw [HG2.out]; rfl, HB.out⟩

set_option maxRecDepth 100000 in
set_option maxHeartbeats 8000000 in
theorem r_bin_3 (W a b : Int) (h : ¬ (W < 2 ∨ 8 < W)) (w : World) :
    Calls Tryd.prog 9 #[.int .i64 W, .string ⟨#[47]⟩, .int .i64 a, .int .i64 b] w fun e w' => e = .returned (binV (binP W 3 a b)) ∧ Below w.heap.size w w' := by
  have HP := Lib.hid (r_width_any W w)
  rw [wok_yes h] at HP
  have HH := Lib.hid (fun w => r_has_op ⟨#[47]⟩ w)
  rw [show hasB rops ⟨#[47]⟩ = true by unfold hasB rops; simp only [List.any_cons, List.any_nil, ByteArray.toList_eq]; decide] at HH
  have HB := Lib.hid ((Below.refl w.heap.size w).alloc (Nat.le_refl _) (.cells (scells rops).toArray 9))
  have HIA := Lib.hid (fun w => r_isInt_any W a w)
  have HIB := Lib.hid (fun w => r_isInt_any W b w)
  rw [sc_int W a h] at HIA
  rw [sc_int W b h] at HIB
  have HBAD := Lib.hid (fun hh => binP_bad (a := a) (b := b) (k := 3) h (by decide) hh)
  have HGOOD := Lib.hid (fun hh => binP_good (a := a) (b := b) (k := 3) h (by decide) hh)
  rw [show decide (11 ≤ 3) = false by decide] at HBAD HGOOD
  obtain ⟨x, HX⟩ : ∃ x, Hid (scB W false a = x) := ⟨_, Lib.hid rfl⟩
  obtain ⟨y, HY⟩ : ∃ y, Hid (scB W false b = y) := ⟨_, Lib.hid rfl⟩
  rw [HX.out] at HIA
  rw [HY.out] at HIB
  rw [HX.out, HY.out] at HBAD HGOOD
  have HIN := Lib.hid h
  cases x with
  | false =>
    clear h
    go_enter Tryd.func9, Tryd.ntmps9
    go_wp2_with (fail)
    refine HP.out.mono ?_
    rintro e w1 ⟨rfl, rfl⟩
    go_wp2_with (fail)
    refine (HH.out _).mono ?_
    rintro e w2 ⟨rfl, rfl⟩
    go_wp2_with (fail)
    refine (HIA.out _).mono ?_
    rintro e w3 ⟨rfl, rfl⟩
    go_wp2_with (fail)
    go_ret3
    exact ⟨by rw [HBAD.out rfl]; rfl, HB.out⟩
  | true =>
    cases y with
    | false =>
      clear h
      go_enter Tryd.func9, Tryd.ntmps9
      go_wp2_with (fail)
      refine HP.out.mono ?_
      rintro e w1 ⟨rfl, rfl⟩
      go_wp2_with (fail)
      refine (HH.out _).mono ?_
      rintro e w2 ⟨rfl, rfl⟩
      go_wp2_with (fail)
      refine (HIA.out _).mono ?_
      rintro e w3 ⟨rfl, rfl⟩
      go_wp2_with (fail)
      refine (HIB.out _).mono ?_
      rintro e w4 ⟨rfl, rfl⟩
      go_wp2_with (fail)
      go_ret3
      exact ⟨by rw [HBAD.out rfl]; rfl, HB.out⟩
    | true =>
      have HBA := Lib.hid (sc_bound HX.out)
      have HBB := Lib.hid (sc_bound HY.out)
      have hba := sc_bound HX.out
      have hbb := sc_bound HY.out
      by_cases hb0 : b = 0
      · have h1 : (b == 0) = true := by simpa using hb0
        have HG := HGOOD.out rfl
        rw [show rawP 3 a b = (0, 1) by unfold rawP; simp only []; rw [if_pos hb0], show wrpP W 0 = 0 from wrp_bt W false h] at HG
        have HG2 := Lib.hid HG
        have HB0 := Lib.hid hb0
        clear h hba hbb HG hb0
        go_enter Tryd.func9, Tryd.ntmps9
        go_wp2_with (fail)
        refine HP.out.mono ?_
        rintro e w1 ⟨rfl, rfl⟩
        go_wp2_with (fail)
        refine (HH.out _).mono ?_
        rintro e w2 ⟨rfl, rfl⟩
        go_wp2_with (fail)
        refine (HIA.out _).mono ?_
        rintro e w3 ⟨rfl, rfl⟩
        go_wp2_with (fail)
        refine (HIB.out _).mono ?_
        rintro e w4 ⟨rfl, rfl⟩
        go_wp2_with (fail)
        go_ret3
        exact ⟨by rw [HG2.out]; rfl, HB.out⟩
      · have h1 : (b == 0) = false := by simpa using hb0
        have hr := raw_bound 3 a b hba hbb
        have HRW := show rawP 3 a b = (a.tdiv b, 0) by unfold rawP; simp only []; rw [if_neg hb0]
        rw [HRW] at hr
        simp only [] at hr
        have hw : IntKind.i64.wrap (a.tdiv b) = a.tdiv b := by simp [IntKind.wrap, IntKind.bits, IntKind.signed]; omega
        have HG := HGOOD.out rfl
        rw [HRW] at HG
        simp only [] at HG
        have HW := Lib.hid (fun w => r_wrap_any W (a.tdiv b) (by omega) w)
        have HG2 := Lib.hid HG
        clear h hba hbb HG hr HRW
        go_enter Tryd.func9, Tryd.ntmps9
        go_wp2_with (fail)
        refine HP.out.mono ?_
        rintro e w1 ⟨rfl, rfl⟩
        go_wp2_with (fail)
        refine (HH.out _).mono ?_
        rintro e w2 ⟨rfl, rfl⟩
        go_wp2_with (fail)
        refine (HIA.out _).mono ?_
        rintro e w3 ⟨rfl, rfl⟩
        go_wp2_with (fail)
        refine (HIB.out _).mono ?_
        rintro e w4 ⟨rfl, rfl⟩
        go_wp2_with (fail)
        refine (HW.out _).mono ?_
        rintro e w5 ⟨rfl, rfl⟩
        go_wp2_with (fail)
        go_ret3
        exact ⟨by rw [HG2.out]; rfl, HB.out⟩

set_option maxRecDepth 100000 in
set_option maxHeartbeats 8000000 in
theorem r_bin_4 (W a b : Int) (h : ¬ (W < 2 ∨ 8 < W)) (w : World) :
    Calls Tryd.prog 9 #[.int .i64 W, .string ⟨#[37]⟩, .int .i64 a, .int .i64 b] w fun e w' => e = .returned (binV (binP W 4 a b)) ∧ Below w.heap.size w w' := by
  have HP := Lib.hid (r_width_any W w)
  rw [wok_yes h] at HP
  have HH := Lib.hid (fun w => r_has_op ⟨#[37]⟩ w)
  rw [show hasB rops ⟨#[37]⟩ = true by unfold hasB rops; simp only [List.any_cons, List.any_nil, ByteArray.toList_eq]; decide] at HH
  have HB := Lib.hid ((Below.refl w.heap.size w).alloc (Nat.le_refl _) (.cells (scells rops).toArray 9))
  have HIA := Lib.hid (fun w => r_isInt_any W a w)
  have HIB := Lib.hid (fun w => r_isInt_any W b w)
  rw [sc_int W a h] at HIA
  rw [sc_int W b h] at HIB
  have HBAD := Lib.hid (fun hh => binP_bad (a := a) (b := b) (k := 4) h (by decide) hh)
  have HGOOD := Lib.hid (fun hh => binP_good (a := a) (b := b) (k := 4) h (by decide) hh)
  rw [show decide (11 ≤ 4) = false by decide] at HBAD HGOOD
  obtain ⟨x, HX⟩ : ∃ x, Hid (scB W false a = x) := ⟨_, Lib.hid rfl⟩
  obtain ⟨y, HY⟩ : ∃ y, Hid (scB W false b = y) := ⟨_, Lib.hid rfl⟩
  rw [HX.out] at HIA
  rw [HY.out] at HIB
  rw [HX.out, HY.out] at HBAD HGOOD
  have HIN := Lib.hid h
  cases x with
  | false =>
    clear h
    go_enter Tryd.func9, Tryd.ntmps9
    go_wp2_with (fail)
    refine HP.out.mono ?_
    rintro e w1 ⟨rfl, rfl⟩
    go_wp2_with (fail)
    refine (HH.out _).mono ?_
    rintro e w2 ⟨rfl, rfl⟩
    go_wp2_with (fail)
    refine (HIA.out _).mono ?_
    rintro e w3 ⟨rfl, rfl⟩
    go_wp2_with (fail)
    go_ret3
    exact ⟨by rw [HBAD.out rfl]; rfl, HB.out⟩
  | true =>
    cases y with
    | false =>
      clear h
      go_enter Tryd.func9, Tryd.ntmps9
      go_wp2_with (fail)
      refine HP.out.mono ?_
      rintro e w1 ⟨rfl, rfl⟩
      go_wp2_with (fail)
      refine (HH.out _).mono ?_
      rintro e w2 ⟨rfl, rfl⟩
      go_wp2_with (fail)
      refine (HIA.out _).mono ?_
      rintro e w3 ⟨rfl, rfl⟩
      go_wp2_with (fail)
      refine (HIB.out _).mono ?_
      rintro e w4 ⟨rfl, rfl⟩
      go_wp2_with (fail)
      go_ret3
      exact ⟨by rw [HBAD.out rfl]; rfl, HB.out⟩
    | true =>
      have HBA := Lib.hid (sc_bound HX.out)
      have HBB := Lib.hid (sc_bound HY.out)
      have hba := sc_bound HX.out
      have hbb := sc_bound HY.out
      by_cases hb0 : b = 0
      · have h1 : (b == 0) = true := by simpa using hb0
        have HG := HGOOD.out rfl
        rw [show rawP 4 a b = (0, 1) by unfold rawP; simp only []; rw [if_pos hb0], show wrpP W 0 = 0 from wrp_bt W false h] at HG
        have HG2 := Lib.hid HG
        have HB0 := Lib.hid hb0
        clear h hba hbb HG hb0
        go_enter Tryd.func9, Tryd.ntmps9
        go_wp2_with (fail)
        refine HP.out.mono ?_
        rintro e w1 ⟨rfl, rfl⟩
        go_wp2_with (fail)
        refine (HH.out _).mono ?_
        rintro e w2 ⟨rfl, rfl⟩
        go_wp2_with (fail)
        refine (HIA.out _).mono ?_
        rintro e w3 ⟨rfl, rfl⟩
        go_wp2_with (fail)
        refine (HIB.out _).mono ?_
        rintro e w4 ⟨rfl, rfl⟩
        go_wp2_with (fail)
        go_ret3
        exact ⟨by rw [HG2.out]; rfl, HB.out⟩
      · have h1 : (b == 0) = false := by simpa using hb0
        have hr := raw_bound 4 a b hba hbb
        have HRW := show rawP 4 a b = (a.tmod b, 0) by unfold rawP; simp only []; rw [if_neg hb0]
        rw [HRW] at hr
        simp only [] at hr
        have hw : IntKind.i64.wrap (a.tmod b) = a.tmod b := by simp [IntKind.wrap, IntKind.bits, IntKind.signed]; omega
        have HG := HGOOD.out rfl
        rw [HRW] at HG
        simp only [] at HG
        rw [rest_in W a b h (by have := HY.out; simp [scB] at this; exact this.symm) hb0] at HG
        have HG2 := Lib.hid HG
        clear h hba hbb HG hr HRW
        go_enter Tryd.func9, Tryd.ntmps9
        go_wp2_with (fail)
        refine HP.out.mono ?_
        rintro e w1 ⟨rfl, rfl⟩
        go_wp2_with (fail)
        refine (HH.out _).mono ?_
        rintro e w2 ⟨rfl, rfl⟩
        go_wp2_with (fail)
        refine (HIA.out _).mono ?_
        rintro e w3 ⟨rfl, rfl⟩
        go_wp2_with (fail)
        refine (HIB.out _).mono ?_
        rintro e w4 ⟨rfl, rfl⟩
        go_wp2_with (fail)
        go_ret3
        exact ⟨by rw [HG2.out]; rfl, HB.out⟩

set_option maxRecDepth 100000 in
set_option maxHeartbeats 8000000 in
theorem r_bin_5 (W a b : Int) (h : ¬ (W < 2 ∨ 8 < W)) (w : World) :
    Calls Tryd.prog 9 #[.int .i64 W, .string ⟨#[61, 61]⟩, .int .i64 a, .int .i64 b] w fun e w' => e = .returned (binV (binP W 5 a b)) ∧ Below w.heap.size w w' := by
  have HP := Lib.hid (r_width_any W w)
  rw [wok_yes h] at HP
  have HH := Lib.hid (fun w => r_has_op ⟨#[61, 61]⟩ w)
  rw [show hasB rops ⟨#[61, 61]⟩ = true by unfold hasB rops; simp only [List.any_cons, List.any_nil, ByteArray.toList_eq]; decide] at HH
  have HB := Lib.hid ((Below.refl w.heap.size w).alloc (Nat.le_refl _) (.cells (scells rops).toArray 9))
  have HIA := Lib.hid (fun w => r_isInt_any W a w)
  have HIB := Lib.hid (fun w => r_isInt_any W b w)
  rw [sc_int W a h] at HIA
  rw [sc_int W b h] at HIB
  have HBAD := Lib.hid (fun hh => binP_bad (a := a) (b := b) (k := 5) h (by decide) hh)
  have HGOOD := Lib.hid (fun hh => binP_good (a := a) (b := b) (k := 5) h (by decide) hh)
  rw [show decide (11 ≤ 5) = false by decide] at HBAD HGOOD
  obtain ⟨x, HX⟩ : ∃ x, Hid (scB W false a = x) := ⟨_, Lib.hid rfl⟩
  obtain ⟨y, HY⟩ : ∃ y, Hid (scB W false b = y) := ⟨_, Lib.hid rfl⟩
  rw [HX.out] at HIA
  rw [HY.out] at HIB
  rw [HX.out, HY.out] at HBAD HGOOD
  have HIN := Lib.hid h
  cases x with
  | false =>
    clear h
    go_enter Tryd.func9, Tryd.ntmps9
    go_wp2_with (fail)
    refine HP.out.mono ?_
    rintro e w1 ⟨rfl, rfl⟩
    go_wp2_with (fail)
    refine (HH.out _).mono ?_
    rintro e w2 ⟨rfl, rfl⟩
    go_wp2_with (fail)
    refine (HIA.out _).mono ?_
    rintro e w3 ⟨rfl, rfl⟩
    go_wp2_with (fail)
    go_ret3
    exact ⟨by rw [HBAD.out rfl]; rfl, HB.out⟩
  | true =>
    cases y with
    | false =>
      clear h
      go_enter Tryd.func9, Tryd.ntmps9
      go_wp2_with (fail)
      refine HP.out.mono ?_
      rintro e w1 ⟨rfl, rfl⟩
      go_wp2_with (fail)
      refine (HH.out _).mono ?_
      rintro e w2 ⟨rfl, rfl⟩
      go_wp2_with (fail)
      refine (HIA.out _).mono ?_
      rintro e w3 ⟨rfl, rfl⟩
      go_wp2_with (fail)
      refine (HIB.out _).mono ?_
      rintro e w4 ⟨rfl, rfl⟩
      go_wp2_with (fail)
      go_ret3
      exact ⟨by rw [HBAD.out rfl]; rfl, HB.out⟩
    | true =>
      have HBA := Lib.hid (sc_bound HX.out)
      have HBB := Lib.hid (sc_bound HY.out)
      have hba := sc_bound HX.out
      have hbb := sc_bound HY.out
      have HT := Lib.hid (fun w => r_bit_any (a == b) w)
      have HG := HGOOD.out rfl
      rw [show rawP 5 a b = (bt (a == b), 0) from rfl] at HG
      simp only [] at HG
      rw [wrp_bt W _ h] at HG
      have HG2 := Lib.hid HG
      clear h hba hbb HG
      go_enter Tryd.func9, Tryd.ntmps9
      go_wp2_with (fail)
      refine HP.out.mono ?_
      rintro e w1 ⟨rfl, rfl⟩
      go_wp2_with (fail)
      refine (HH.out _).mono ?_
      rintro e w2 ⟨rfl, rfl⟩
      go_wp2_with (fail)
      refine (HIA.out _).mono ?_
      rintro e w3 ⟨rfl, rfl⟩
      go_wp2_with (fail)
      refine (HIB.out _).mono ?_
      rintro e w4 ⟨rfl, rfl⟩
      go_wp2_with (fail)
      refine (HT.out _).mono ?_
      rintro e w5 ⟨rfl, rfl⟩
      go_wp2_with (fail)
      go_ret3
      exact ⟨by rw [HG2.out]; rfl, HB.out⟩

set_option maxRecDepth 100000 in
set_option maxHeartbeats 8000000 in
theorem r_bin_6 (W a b : Int) (h : ¬ (W < 2 ∨ 8 < W)) (w : World) :
    Calls Tryd.prog 9 #[.int .i64 W, .string ⟨#[33, 61]⟩, .int .i64 a, .int .i64 b] w fun e w' => e = .returned (binV (binP W 6 a b)) ∧ Below w.heap.size w w' := by
  have HP := Lib.hid (r_width_any W w)
  rw [wok_yes h] at HP
  have HH := Lib.hid (fun w => r_has_op ⟨#[33, 61]⟩ w)
  rw [show hasB rops ⟨#[33, 61]⟩ = true by unfold hasB rops; simp only [List.any_cons, List.any_nil, ByteArray.toList_eq]; decide] at HH
  have HB := Lib.hid ((Below.refl w.heap.size w).alloc (Nat.le_refl _) (.cells (scells rops).toArray 9))
  have HIA := Lib.hid (fun w => r_isInt_any W a w)
  have HIB := Lib.hid (fun w => r_isInt_any W b w)
  rw [sc_int W a h] at HIA
  rw [sc_int W b h] at HIB
  have HBAD := Lib.hid (fun hh => binP_bad (a := a) (b := b) (k := 6) h (by decide) hh)
  have HGOOD := Lib.hid (fun hh => binP_good (a := a) (b := b) (k := 6) h (by decide) hh)
  rw [show decide (11 ≤ 6) = false by decide] at HBAD HGOOD
  obtain ⟨x, HX⟩ : ∃ x, Hid (scB W false a = x) := ⟨_, Lib.hid rfl⟩
  obtain ⟨y, HY⟩ : ∃ y, Hid (scB W false b = y) := ⟨_, Lib.hid rfl⟩
  rw [HX.out] at HIA
  rw [HY.out] at HIB
  rw [HX.out, HY.out] at HBAD HGOOD
  have HIN := Lib.hid h
  cases x with
  | false =>
    clear h
    go_enter Tryd.func9, Tryd.ntmps9
    go_wp2_with (fail)
    refine HP.out.mono ?_
    rintro e w1 ⟨rfl, rfl⟩
    go_wp2_with (fail)
    refine (HH.out _).mono ?_
    rintro e w2 ⟨rfl, rfl⟩
    go_wp2_with (fail)
    refine (HIA.out _).mono ?_
    rintro e w3 ⟨rfl, rfl⟩
    go_wp2_with (fail)
    go_ret3
    exact ⟨by rw [HBAD.out rfl]; rfl, HB.out⟩
  | true =>
    cases y with
    | false =>
      clear h
      go_enter Tryd.func9, Tryd.ntmps9
      go_wp2_with (fail)
      refine HP.out.mono ?_
      rintro e w1 ⟨rfl, rfl⟩
      go_wp2_with (fail)
      refine (HH.out _).mono ?_
      rintro e w2 ⟨rfl, rfl⟩
      go_wp2_with (fail)
      refine (HIA.out _).mono ?_
      rintro e w3 ⟨rfl, rfl⟩
      go_wp2_with (fail)
      refine (HIB.out _).mono ?_
      rintro e w4 ⟨rfl, rfl⟩
      go_wp2_with (fail)
      go_ret3
      exact ⟨by rw [HBAD.out rfl]; rfl, HB.out⟩
    | true =>
      have HBA := Lib.hid (sc_bound HX.out)
      have HBB := Lib.hid (sc_bound HY.out)
      have hba := sc_bound HX.out
      have hbb := sc_bound HY.out
      have HT := Lib.hid (fun w => r_bit_any (a != b) w)
      have HG := HGOOD.out rfl
      rw [show rawP 6 a b = (bt (a != b), 0) from rfl] at HG
      simp only [] at HG
      rw [wrp_bt W _ h] at HG
      have HG2 := Lib.hid HG
      clear h hba hbb HG
      go_enter Tryd.func9, Tryd.ntmps9
      go_wp2_with (fail)
      refine HP.out.mono ?_
      rintro e w1 ⟨rfl, rfl⟩
      go_wp2_with (fail)
      refine (HH.out _).mono ?_
      rintro e w2 ⟨rfl, rfl⟩
      go_wp2_with (fail)
      refine (HIA.out _).mono ?_
      rintro e w3 ⟨rfl, rfl⟩
      go_wp2_with (fail)
      refine (HIB.out _).mono ?_
      rintro e w4 ⟨rfl, rfl⟩
      go_wp2_with (fail)
      refine (HT.out _).mono ?_
      rintro e w5 ⟨rfl, rfl⟩
      go_wp2_with (fail)
      go_ret3
      exact ⟨by rw [HG2.out]; rfl, HB.out⟩

set_option maxRecDepth 100000 in
set_option maxHeartbeats 8000000 in
theorem r_bin_7 (W a b : Int) (h : ¬ (W < 2 ∨ 8 < W)) (w : World) :
    Calls Tryd.prog 9 #[.int .i64 W, .string ⟨#[60]⟩, .int .i64 a, .int .i64 b] w fun e w' => e = .returned (binV (binP W 7 a b)) ∧ Below w.heap.size w w' := by
  have HP := Lib.hid (r_width_any W w)
  rw [wok_yes h] at HP
  have HH := Lib.hid (fun w => r_has_op ⟨#[60]⟩ w)
  rw [show hasB rops ⟨#[60]⟩ = true by unfold hasB rops; simp only [List.any_cons, List.any_nil, ByteArray.toList_eq]; decide] at HH
  have HB := Lib.hid ((Below.refl w.heap.size w).alloc (Nat.le_refl _) (.cells (scells rops).toArray 9))
  have HIA := Lib.hid (fun w => r_isInt_any W a w)
  have HIB := Lib.hid (fun w => r_isInt_any W b w)
  rw [sc_int W a h] at HIA
  rw [sc_int W b h] at HIB
  have HBAD := Lib.hid (fun hh => binP_bad (a := a) (b := b) (k := 7) h (by decide) hh)
  have HGOOD := Lib.hid (fun hh => binP_good (a := a) (b := b) (k := 7) h (by decide) hh)
  rw [show decide (11 ≤ 7) = false by decide] at HBAD HGOOD
  obtain ⟨x, HX⟩ : ∃ x, Hid (scB W false a = x) := ⟨_, Lib.hid rfl⟩
  obtain ⟨y, HY⟩ : ∃ y, Hid (scB W false b = y) := ⟨_, Lib.hid rfl⟩
  rw [HX.out] at HIA
  rw [HY.out] at HIB
  rw [HX.out, HY.out] at HBAD HGOOD
  have HIN := Lib.hid h
  cases x with
  | false =>
    clear h
    go_enter Tryd.func9, Tryd.ntmps9
    go_wp2_with (fail)
    refine HP.out.mono ?_
    rintro e w1 ⟨rfl, rfl⟩
    go_wp2_with (fail)
    refine (HH.out _).mono ?_
    rintro e w2 ⟨rfl, rfl⟩
    go_wp2_with (fail)
    refine (HIA.out _).mono ?_
    rintro e w3 ⟨rfl, rfl⟩
    go_wp2_with (fail)
    go_ret3
    exact ⟨by rw [HBAD.out rfl]; rfl, HB.out⟩
  | true =>
    cases y with
    | false =>
      clear h
      go_enter Tryd.func9, Tryd.ntmps9
      go_wp2_with (fail)
      refine HP.out.mono ?_
      rintro e w1 ⟨rfl, rfl⟩
      go_wp2_with (fail)
      refine (HH.out _).mono ?_
      rintro e w2 ⟨rfl, rfl⟩
      go_wp2_with (fail)
      refine (HIA.out _).mono ?_
      rintro e w3 ⟨rfl, rfl⟩
      go_wp2_with (fail)
      refine (HIB.out _).mono ?_
      rintro e w4 ⟨rfl, rfl⟩
      go_wp2_with (fail)
      go_ret3
      exact ⟨by rw [HBAD.out rfl]; rfl, HB.out⟩
    | true =>
      have HBA := Lib.hid (sc_bound HX.out)
      have HBB := Lib.hid (sc_bound HY.out)
      have hba := sc_bound HX.out
      have hbb := sc_bound HY.out
      have HT := Lib.hid (fun w => r_bit_any (decide (a < b)) w)
      have HG := HGOOD.out rfl
      rw [show rawP 7 a b = (bt (decide (a < b)), 0) from rfl] at HG
      simp only [] at HG
      rw [wrp_bt W _ h] at HG
      have HG2 := Lib.hid HG
      clear h hba hbb HG
      go_enter Tryd.func9, Tryd.ntmps9
      go_wp2_with (fail)
      refine HP.out.mono ?_
      rintro e w1 ⟨rfl, rfl⟩
      go_wp2_with (fail)
      refine (HH.out _).mono ?_
      rintro e w2 ⟨rfl, rfl⟩
      go_wp2_with (fail)
      refine (HIA.out _).mono ?_
      rintro e w3 ⟨rfl, rfl⟩
      go_wp2_with (fail)
      refine (HIB.out _).mono ?_
      rintro e w4 ⟨rfl, rfl⟩
      go_wp2_with (fail)
      refine (HT.out _).mono ?_
      rintro e w5 ⟨rfl, rfl⟩
      go_wp2_with (fail)
      go_ret3
      exact ⟨by rw [HG2.out]; rfl, HB.out⟩

set_option maxRecDepth 100000 in
set_option maxHeartbeats 8000000 in
theorem r_bin_8 (W a b : Int) (h : ¬ (W < 2 ∨ 8 < W)) (w : World) :
    Calls Tryd.prog 9 #[.int .i64 W, .string ⟨#[60, 61]⟩, .int .i64 a, .int .i64 b] w fun e w' => e = .returned (binV (binP W 8 a b)) ∧ Below w.heap.size w w' := by
  have HP := Lib.hid (r_width_any W w)
  rw [wok_yes h] at HP
  have HH := Lib.hid (fun w => r_has_op ⟨#[60, 61]⟩ w)
  rw [show hasB rops ⟨#[60, 61]⟩ = true by unfold hasB rops; simp only [List.any_cons, List.any_nil, ByteArray.toList_eq]; decide] at HH
  have HB := Lib.hid ((Below.refl w.heap.size w).alloc (Nat.le_refl _) (.cells (scells rops).toArray 9))
  have HIA := Lib.hid (fun w => r_isInt_any W a w)
  have HIB := Lib.hid (fun w => r_isInt_any W b w)
  rw [sc_int W a h] at HIA
  rw [sc_int W b h] at HIB
  have HBAD := Lib.hid (fun hh => binP_bad (a := a) (b := b) (k := 8) h (by decide) hh)
  have HGOOD := Lib.hid (fun hh => binP_good (a := a) (b := b) (k := 8) h (by decide) hh)
  rw [show decide (11 ≤ 8) = false by decide] at HBAD HGOOD
  obtain ⟨x, HX⟩ : ∃ x, Hid (scB W false a = x) := ⟨_, Lib.hid rfl⟩
  obtain ⟨y, HY⟩ : ∃ y, Hid (scB W false b = y) := ⟨_, Lib.hid rfl⟩
  rw [HX.out] at HIA
  rw [HY.out] at HIB
  rw [HX.out, HY.out] at HBAD HGOOD
  have HIN := Lib.hid h
  cases x with
  | false =>
    clear h
    go_enter Tryd.func9, Tryd.ntmps9
    go_wp2_with (fail)
    refine HP.out.mono ?_
    rintro e w1 ⟨rfl, rfl⟩
    go_wp2_with (fail)
    refine (HH.out _).mono ?_
    rintro e w2 ⟨rfl, rfl⟩
    go_wp2_with (fail)
    refine (HIA.out _).mono ?_
    rintro e w3 ⟨rfl, rfl⟩
    go_wp2_with (fail)
    go_ret3
    exact ⟨by rw [HBAD.out rfl]; rfl, HB.out⟩
  | true =>
    cases y with
    | false =>
      clear h
      go_enter Tryd.func9, Tryd.ntmps9
      go_wp2_with (fail)
      refine HP.out.mono ?_
      rintro e w1 ⟨rfl, rfl⟩
      go_wp2_with (fail)
      refine (HH.out _).mono ?_
      rintro e w2 ⟨rfl, rfl⟩
      go_wp2_with (fail)
      refine (HIA.out _).mono ?_
      rintro e w3 ⟨rfl, rfl⟩
      go_wp2_with (fail)
      refine (HIB.out _).mono ?_
      rintro e w4 ⟨rfl, rfl⟩
      go_wp2_with (fail)
      go_ret3
      exact ⟨by rw [HBAD.out rfl]; rfl, HB.out⟩
    | true =>
      have HBA := Lib.hid (sc_bound HX.out)
      have HBB := Lib.hid (sc_bound HY.out)
      have hba := sc_bound HX.out
      have hbb := sc_bound HY.out
      have HT := Lib.hid (fun w => r_bit_any (decide (a ≤ b)) w)
      have HG := HGOOD.out rfl
      rw [show rawP 8 a b = (bt (decide (a ≤ b)), 0) from rfl] at HG
      simp only [] at HG
      rw [wrp_bt W _ h] at HG
      have HG2 := Lib.hid HG
      clear h hba hbb HG
      go_enter Tryd.func9, Tryd.ntmps9
      go_wp2_with (fail)
      refine HP.out.mono ?_
      rintro e w1 ⟨rfl, rfl⟩
      go_wp2_with (fail)
      refine (HH.out _).mono ?_
      rintro e w2 ⟨rfl, rfl⟩
      go_wp2_with (fail)
      refine (HIA.out _).mono ?_
      rintro e w3 ⟨rfl, rfl⟩
      go_wp2_with (fail)
      refine (HIB.out _).mono ?_
      rintro e w4 ⟨rfl, rfl⟩
      go_wp2_with (fail)
      refine (HT.out _).mono ?_
      rintro e w5 ⟨rfl, rfl⟩
      go_wp2_with (fail)
      go_ret3
      exact ⟨by rw [HG2.out]; rfl, HB.out⟩

set_option maxRecDepth 100000 in
set_option maxHeartbeats 8000000 in
theorem r_bin_9 (W a b : Int) (h : ¬ (W < 2 ∨ 8 < W)) (w : World) :
    Calls Tryd.prog 9 #[.int .i64 W, .string ⟨#[62]⟩, .int .i64 a, .int .i64 b] w fun e w' => e = .returned (binV (binP W 9 a b)) ∧ Below w.heap.size w w' := by
  have HP := Lib.hid (r_width_any W w)
  rw [wok_yes h] at HP
  have HH := Lib.hid (fun w => r_has_op ⟨#[62]⟩ w)
  rw [show hasB rops ⟨#[62]⟩ = true by unfold hasB rops; simp only [List.any_cons, List.any_nil, ByteArray.toList_eq]; decide] at HH
  have HB := Lib.hid ((Below.refl w.heap.size w).alloc (Nat.le_refl _) (.cells (scells rops).toArray 9))
  have HIA := Lib.hid (fun w => r_isInt_any W a w)
  have HIB := Lib.hid (fun w => r_isInt_any W b w)
  rw [sc_int W a h] at HIA
  rw [sc_int W b h] at HIB
  have HBAD := Lib.hid (fun hh => binP_bad (a := a) (b := b) (k := 9) h (by decide) hh)
  have HGOOD := Lib.hid (fun hh => binP_good (a := a) (b := b) (k := 9) h (by decide) hh)
  rw [show decide (11 ≤ 9) = false by decide] at HBAD HGOOD
  obtain ⟨x, HX⟩ : ∃ x, Hid (scB W false a = x) := ⟨_, Lib.hid rfl⟩
  obtain ⟨y, HY⟩ : ∃ y, Hid (scB W false b = y) := ⟨_, Lib.hid rfl⟩
  rw [HX.out] at HIA
  rw [HY.out] at HIB
  rw [HX.out, HY.out] at HBAD HGOOD
  have HIN := Lib.hid h
  cases x with
  | false =>
    clear h
    go_enter Tryd.func9, Tryd.ntmps9
    go_wp2_with (fail)
    refine HP.out.mono ?_
    rintro e w1 ⟨rfl, rfl⟩
    go_wp2_with (fail)
    refine (HH.out _).mono ?_
    rintro e w2 ⟨rfl, rfl⟩
    go_wp2_with (fail)
    refine (HIA.out _).mono ?_
    rintro e w3 ⟨rfl, rfl⟩
    go_wp2_with (fail)
    go_ret3
    exact ⟨by rw [HBAD.out rfl]; rfl, HB.out⟩
  | true =>
    cases y with
    | false =>
      clear h
      go_enter Tryd.func9, Tryd.ntmps9
      go_wp2_with (fail)
      refine HP.out.mono ?_
      rintro e w1 ⟨rfl, rfl⟩
      go_wp2_with (fail)
      refine (HH.out _).mono ?_
      rintro e w2 ⟨rfl, rfl⟩
      go_wp2_with (fail)
      refine (HIA.out _).mono ?_
      rintro e w3 ⟨rfl, rfl⟩
      go_wp2_with (fail)
      refine (HIB.out _).mono ?_
      rintro e w4 ⟨rfl, rfl⟩
      go_wp2_with (fail)
      go_ret3
      exact ⟨by rw [HBAD.out rfl]; rfl, HB.out⟩
    | true =>
      have HBA := Lib.hid (sc_bound HX.out)
      have HBB := Lib.hid (sc_bound HY.out)
      have hba := sc_bound HX.out
      have hbb := sc_bound HY.out
      have HT := Lib.hid (fun w => r_bit_any (decide (b < a)) w)
      have HG := HGOOD.out rfl
      rw [show rawP 9 a b = (bt (decide (b < a)), 0) from rfl] at HG
      simp only [] at HG
      rw [wrp_bt W _ h] at HG
      have HG2 := Lib.hid HG
      clear h hba hbb HG
      go_enter Tryd.func9, Tryd.ntmps9
      go_wp2_with (fail)
      refine HP.out.mono ?_
      rintro e w1 ⟨rfl, rfl⟩
      go_wp2_with (fail)
      refine (HH.out _).mono ?_
      rintro e w2 ⟨rfl, rfl⟩
      go_wp2_with (fail)
      refine (HIA.out _).mono ?_
      rintro e w3 ⟨rfl, rfl⟩
      go_wp2_with (fail)
      refine (HIB.out _).mono ?_
      rintro e w4 ⟨rfl, rfl⟩
      go_wp2_with (fail)
      refine (HT.out _).mono ?_
      rintro e w5 ⟨rfl, rfl⟩
      go_wp2_with (fail)
      go_ret3
      exact ⟨by rw [HG2.out]; rfl, HB.out⟩

set_option maxRecDepth 100000 in
set_option maxHeartbeats 8000000 in
theorem r_bin_10 (W a b : Int) (h : ¬ (W < 2 ∨ 8 < W)) (w : World) :
    Calls Tryd.prog 9 #[.int .i64 W, .string ⟨#[62, 61]⟩, .int .i64 a, .int .i64 b] w fun e w' => e = .returned (binV (binP W 10 a b)) ∧ Below w.heap.size w w' := by
  have HP := Lib.hid (r_width_any W w)
  rw [wok_yes h] at HP
  have HH := Lib.hid (fun w => r_has_op ⟨#[62, 61]⟩ w)
  rw [show hasB rops ⟨#[62, 61]⟩ = true by unfold hasB rops; simp only [List.any_cons, List.any_nil, ByteArray.toList_eq]; decide] at HH
  have HB := Lib.hid ((Below.refl w.heap.size w).alloc (Nat.le_refl _) (.cells (scells rops).toArray 9))
  have HIA := Lib.hid (fun w => r_isInt_any W a w)
  have HIB := Lib.hid (fun w => r_isInt_any W b w)
  rw [sc_int W a h] at HIA
  rw [sc_int W b h] at HIB
  have HBAD := Lib.hid (fun hh => binP_bad (a := a) (b := b) (k := 10) h (by decide) hh)
  have HGOOD := Lib.hid (fun hh => binP_good (a := a) (b := b) (k := 10) h (by decide) hh)
  rw [show decide (11 ≤ 10) = false by decide] at HBAD HGOOD
  obtain ⟨x, HX⟩ : ∃ x, Hid (scB W false a = x) := ⟨_, Lib.hid rfl⟩
  obtain ⟨y, HY⟩ : ∃ y, Hid (scB W false b = y) := ⟨_, Lib.hid rfl⟩
  rw [HX.out] at HIA
  rw [HY.out] at HIB
  rw [HX.out, HY.out] at HBAD HGOOD
  have HIN := Lib.hid h
  cases x with
  | false =>
    clear h
    go_enter Tryd.func9, Tryd.ntmps9
    go_wp2_with (fail)
    refine HP.out.mono ?_
    rintro e w1 ⟨rfl, rfl⟩
    go_wp2_with (fail)
    refine (HH.out _).mono ?_
    rintro e w2 ⟨rfl, rfl⟩
    go_wp2_with (fail)
    refine (HIA.out _).mono ?_
    rintro e w3 ⟨rfl, rfl⟩
    go_wp2_with (fail)
    go_ret3
    exact ⟨by rw [HBAD.out rfl]; rfl, HB.out⟩
  | true =>
    cases y with
    | false =>
      clear h
      go_enter Tryd.func9, Tryd.ntmps9
      go_wp2_with (fail)
      refine HP.out.mono ?_
      rintro e w1 ⟨rfl, rfl⟩
      go_wp2_with (fail)
      refine (HH.out _).mono ?_
      rintro e w2 ⟨rfl, rfl⟩
      go_wp2_with (fail)
      refine (HIA.out _).mono ?_
      rintro e w3 ⟨rfl, rfl⟩
      go_wp2_with (fail)
      refine (HIB.out _).mono ?_
      rintro e w4 ⟨rfl, rfl⟩
      go_wp2_with (fail)
      go_ret3
      exact ⟨by rw [HBAD.out rfl]; rfl, HB.out⟩
    | true =>
      have HBA := Lib.hid (sc_bound HX.out)
      have HBB := Lib.hid (sc_bound HY.out)
      have hba := sc_bound HX.out
      have hbb := sc_bound HY.out
      have HT := Lib.hid (fun w => r_bit_any (decide (b ≤ a)) w)
      have HG := HGOOD.out rfl
      rw [show rawP 10 a b = (bt (decide (b ≤ a)), 0) from rfl] at HG
      simp only [] at HG
      rw [wrp_bt W _ h] at HG
      have HG2 := Lib.hid HG
      clear h hba hbb HG
      go_enter Tryd.func9, Tryd.ntmps9
      go_wp2_with (fail)
      refine HP.out.mono ?_
      rintro e w1 ⟨rfl, rfl⟩
      go_wp2_with (fail)
      refine (HH.out _).mono ?_
      rintro e w2 ⟨rfl, rfl⟩
      go_wp2_with (fail)
      refine (HIA.out _).mono ?_
      rintro e w3 ⟨rfl, rfl⟩
      go_wp2_with (fail)
      refine (HIB.out _).mono ?_
      rintro e w4 ⟨rfl, rfl⟩
      go_wp2_with (fail)
      refine (HT.out _).mono ?_
      rintro e w5 ⟨rfl, rfl⟩
      go_wp2_with (fail)
      go_ret3
      exact ⟨by rw [HG2.out]; rfl, HB.out⟩

set_option maxRecDepth 100000 in
set_option maxHeartbeats 8000000 in
theorem r_bin_11 (W a b : Int) (h : ¬ (W < 2 ∨ 8 < W)) (w : World) :
    Calls Tryd.prog 9 #[.int .i64 W, .string ⟨#[97, 110, 100]⟩, .int .i64 a, .int .i64 b] w fun e w' => e = .returned (binV (binP W 11 a b)) ∧ Below w.heap.size w w' := by
  have HP := Lib.hid (r_width_any W w)
  rw [wok_yes h] at HP
  have HH := Lib.hid (fun w => r_has_op ⟨#[97, 110, 100]⟩ w)
  rw [show hasB rops ⟨#[97, 110, 100]⟩ = true by unfold hasB rops; simp only [List.any_cons, List.any_nil, ByteArray.toList_eq]; decide] at HH
  have HB := Lib.hid ((Below.refl w.heap.size w).alloc (Nat.le_refl _) (.cells (scells rops).toArray 9))
  have HIA := Lib.hid (fun w => r_isInt_any W a w)
  have HIB := Lib.hid (fun w => r_isInt_any W b w)
  rw [sc_int W a h] at HIA
  rw [sc_int W b h] at HIB
  have HBAD := Lib.hid (fun hh => binP_bad (a := a) (b := b) (k := 11) h (by decide) hh)
  have HGOOD := Lib.hid (fun hh => binP_good (a := a) (b := b) (k := 11) h (by decide) hh)
  rw [show decide (11 ≤ 11) = true by decide] at HBAD HGOOD
  have HBA := Lib.hid (fun w => r_isBit_any a w)
  have HBB := Lib.hid (fun w => r_isBit_any b w)
  rw [show (a == 0 || a == 1) = scB W true a from rfl] at HBA
  rw [show (b == 0 || b == 1) = scB W true b from rfl] at HBB
  obtain ⟨x, HX⟩ : ∃ x, Hid (scB W true a = x) := ⟨_, Lib.hid rfl⟩
  obtain ⟨y, HY⟩ : ∃ y, Hid (scB W true b = y) := ⟨_, Lib.hid rfl⟩
  rw [HX.out] at HBA
  rw [HY.out] at HBB
  rw [HX.out, HY.out] at HBAD HGOOD
  cases x with
  | false =>
    clear h
    go_enter Tryd.func9, Tryd.ntmps9
    go_wp2_with (fail)
    refine HP.out.mono ?_
    rintro e w1 ⟨rfl, rfl⟩
    go_wp2_with (fail)
    refine (HH.out _).mono ?_
    rintro e w2 ⟨rfl, rfl⟩
    go_wp2_with (fail)
    refine (HBA.out _).mono ?_
    rintro e w3 ⟨rfl, rfl⟩
    go_wp2_with (fail)
    go_ret3
    exact ⟨by rw [HBAD.out rfl]; rfl, HB.out⟩
  | true =>
    cases y with
    | false =>
      clear h
      go_enter Tryd.func9, Tryd.ntmps9
      go_wp2_with (fail)
      refine HP.out.mono ?_
      rintro e w1 ⟨rfl, rfl⟩
      go_wp2_with (fail)
      refine (HH.out _).mono ?_
      rintro e w2 ⟨rfl, rfl⟩
      go_wp2_with (fail)
      refine (HBA.out _).mono ?_
      rintro e w3 ⟨rfl, rfl⟩
      go_wp2_with (fail)
      refine (HBB.out _).mono ?_
      rintro e w4 ⟨rfl, rfl⟩
      go_wp2_with (fail)
      go_ret3
      exact ⟨by rw [HBAD.out rfl]; rfl, HB.out⟩
    | true =>
      have h1 := sc_bits W a h HX.out
      have h2 := sc_bits W b h HY.out
      rw [h1.2] at HIA
      rw [h2.2] at HIB
      have HG := HGOOD.out rfl
      rw [show rawP 11 a b = (min a b, 0) from rfl] at HG
      simp only [] at HG
      rw [show wrpP W (min a b) = min a b from (Int.le_total a b).elim (fun q => by rw [Int.min_eq_left q]; exact h1.1) (fun q => by rw [Int.min_eq_right q]; exact h2.1)] at HG
      have HG2 := Lib.hid HG
      clear h h1 h2 HG
      go_enter Tryd.func9, Tryd.ntmps9
      go_wp2_with (fail)
      refine HP.out.mono ?_
      rintro e w1 ⟨rfl, rfl⟩
      go_wp2_with (fail)
      refine (HH.out _).mono ?_
      rintro e w2 ⟨rfl, rfl⟩
      go_wp2_with (fail)
      refine (HBA.out _).mono ?_
      rintro e w3 ⟨rfl, rfl⟩
      go_wp2_with (fail)
      refine (HBB.out _).mono ?_
      rintro e w4 ⟨rfl, rfl⟩
      go_wp2_with (fail)
      refine (HIA.out _).mono ?_
      rintro e w5 ⟨rfl, rfl⟩
      go_wp2_with (fail)
      refine (HIB.out _).mono ?_
      rintro e w6 ⟨rfl, rfl⟩
      go_wp2_with (fail)
      all_goals
        go_ret3
        refine ⟨?_, HB.out⟩
        rw [HG2.out]
        first
          | rfl
          | (rw [show min a b = b by omega]; rfl)
          | (rw [show min a b = a by omega]; rfl)

set_option maxRecDepth 100000 in
set_option maxHeartbeats 8000000 in
theorem r_bin_12 (W a b : Int) (h : ¬ (W < 2 ∨ 8 < W)) (w : World) :
    Calls Tryd.prog 9 #[.int .i64 W, .string ⟨#[111, 114]⟩, .int .i64 a, .int .i64 b] w fun e w' => e = .returned (binV (binP W 12 a b)) ∧ Below w.heap.size w w' := by
  have HP := Lib.hid (r_width_any W w)
  rw [wok_yes h] at HP
  have HH := Lib.hid (fun w => r_has_op ⟨#[111, 114]⟩ w)
  rw [show hasB rops ⟨#[111, 114]⟩ = true by unfold hasB rops; simp only [List.any_cons, List.any_nil, ByteArray.toList_eq]; decide] at HH
  have HB := Lib.hid ((Below.refl w.heap.size w).alloc (Nat.le_refl _) (.cells (scells rops).toArray 9))
  have HIA := Lib.hid (fun w => r_isInt_any W a w)
  have HIB := Lib.hid (fun w => r_isInt_any W b w)
  rw [sc_int W a h] at HIA
  rw [sc_int W b h] at HIB
  have HBAD := Lib.hid (fun hh => binP_bad (a := a) (b := b) (k := 12) h (by decide) hh)
  have HGOOD := Lib.hid (fun hh => binP_good (a := a) (b := b) (k := 12) h (by decide) hh)
  rw [show decide (11 ≤ 12) = true by decide] at HBAD HGOOD
  have HBA := Lib.hid (fun w => r_isBit_any a w)
  have HBB := Lib.hid (fun w => r_isBit_any b w)
  rw [show (a == 0 || a == 1) = scB W true a from rfl] at HBA
  rw [show (b == 0 || b == 1) = scB W true b from rfl] at HBB
  obtain ⟨x, HX⟩ : ∃ x, Hid (scB W true a = x) := ⟨_, Lib.hid rfl⟩
  obtain ⟨y, HY⟩ : ∃ y, Hid (scB W true b = y) := ⟨_, Lib.hid rfl⟩
  rw [HX.out] at HBA
  rw [HY.out] at HBB
  rw [HX.out, HY.out] at HBAD HGOOD
  cases x with
  | false =>
    clear h
    go_enter Tryd.func9, Tryd.ntmps9
    go_wp2_with (fail)
    refine HP.out.mono ?_
    rintro e w1 ⟨rfl, rfl⟩
    go_wp2_with (fail)
    refine (HH.out _).mono ?_
    rintro e w2 ⟨rfl, rfl⟩
    go_wp2_with (fail)
    refine (HBA.out _).mono ?_
    rintro e w3 ⟨rfl, rfl⟩
    go_wp2_with (fail)
    go_ret3
    exact ⟨by rw [HBAD.out rfl]; rfl, HB.out⟩
  | true =>
    cases y with
    | false =>
      clear h
      go_enter Tryd.func9, Tryd.ntmps9
      go_wp2_with (fail)
      refine HP.out.mono ?_
      rintro e w1 ⟨rfl, rfl⟩
      go_wp2_with (fail)
      refine (HH.out _).mono ?_
      rintro e w2 ⟨rfl, rfl⟩
      go_wp2_with (fail)
      refine (HBA.out _).mono ?_
      rintro e w3 ⟨rfl, rfl⟩
      go_wp2_with (fail)
      refine (HBB.out _).mono ?_
      rintro e w4 ⟨rfl, rfl⟩
      go_wp2_with (fail)
      go_ret3
      exact ⟨by rw [HBAD.out rfl]; rfl, HB.out⟩
    | true =>
      have h1 := sc_bits W a h HX.out
      have h2 := sc_bits W b h HY.out
      rw [h1.2] at HIA
      rw [h2.2] at HIB
      have HG := HGOOD.out rfl
      rw [show rawP 12 a b = (max a b, 0) from rfl] at HG
      simp only [] at HG
      rw [show wrpP W (max a b) = max a b from (Int.le_total a b).elim (fun q => by rw [Int.max_eq_right q]; exact h2.1) (fun q => by rw [Int.max_eq_left q]; exact h1.1)] at HG
      have HG2 := Lib.hid HG
      clear h h1 h2 HG
      go_enter Tryd.func9, Tryd.ntmps9
      go_wp2_with (fail)
      refine HP.out.mono ?_
      rintro e w1 ⟨rfl, rfl⟩
      go_wp2_with (fail)
      refine (HH.out _).mono ?_
      rintro e w2 ⟨rfl, rfl⟩
      go_wp2_with (fail)
      refine (HBA.out _).mono ?_
      rintro e w3 ⟨rfl, rfl⟩
      go_wp2_with (fail)
      refine (HBB.out _).mono ?_
      rintro e w4 ⟨rfl, rfl⟩
      go_wp2_with (fail)
      refine (HIA.out _).mono ?_
      rintro e w5 ⟨rfl, rfl⟩
      go_wp2_with (fail)
      refine (HIB.out _).mono ?_
      rintro e w6 ⟨rfl, rfl⟩
      go_wp2_with (fail)
      all_goals
        go_ret3
        refine ⟨?_, HB.out⟩
        rw [HG2.out]
        first
          | rfl
          | (rw [show max a b = b by omega]; rfl)
          | (rw [show max a b = a by omega]; rfl)

theorem r_binary_any (W a b : Int) (s : ByteArray) (w : World) :
    Calls Tryd.prog 9 #[.int .i64 W, .string s, .int .i64 a, .int .i64 b] w fun e w' => e = .returned (binV (binP W (opN s.data.toList) a b)) ∧ Below w.heap.size w w' := by
  by_cases h : W < 2 ∨ 8 < W
  · exact r_bin_out W a b s h w
  rcases op_bytes s with ⟨hk, rfl⟩ | ⟨hk, rfl⟩ | ⟨hk, rfl⟩ | ⟨hk, rfl⟩ | ⟨hk, rfl⟩ | ⟨hk, rfl⟩ | ⟨hk, rfl⟩ | ⟨hk, rfl⟩ | ⟨hk, rfl⟩ | ⟨hk, rfl⟩ | ⟨hk, rfl⟩ | ⟨hk, rfl⟩ | ⟨hk, rfl⟩ | hk
  · rw [hk]; exact r_bin_0 W a b h w
  · rw [hk]; exact r_bin_1 W a b h w
  · rw [hk]; exact r_bin_2 W a b h w
  · rw [hk]; exact r_bin_3 W a b h w
  · rw [hk]; exact r_bin_4 W a b h w
  · rw [hk]; exact r_bin_5 W a b h w
  · rw [hk]; exact r_bin_6 W a b h w
  · rw [hk]; exact r_bin_7 W a b h w
  · rw [hk]; exact r_bin_8 W a b h w
  · rw [hk]; exact r_bin_9 W a b h w
  · rw [hk]; exact r_bin_10 W a b h w
  · rw [hk]; exact r_bin_11 W a b h w
  · rw [hk]; exact r_bin_12 W a b h w
  · exact r_bin_none W a b s h hk w
end Go.Proofs.YtlndlipicbkhiaaDoor
