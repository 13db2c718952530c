/- What is proved: the laws BitvecWraps and BitvecDivides, over the example's contract. -/
import Derived.Test.YtlnpgcdgpahdmaaDoorBvAwake
set_option linter.unusedVariables false
namespace Go.Proofs.YtlnpgcdgpahdmaaDoor
open Go.RowKit Go.Maps

theorem r_isWidth_any (W : Int) (w : World) : Calls Tryd.prog 12 #[.int .i64 W] w fun e w' => e = .returned (.bool (decide (2 ≤ W ∧ W ≤ 8))) ∧ w' = w := by
  go_enter Tryd.func12, Tryd.ntmps12
  by_cases h : 2 ≤ W
  · have h1 : decide (2 ≤ W) = true := by simpa using h
    go_wp2_with (fail)
    go_ret
    simp [h]
  · have h1 : decide (2 ≤ W) = false := by simpa using h
    go_wp2_with (fail)
    go_ret
    simp
theorem wrp_out {W : Int} (h : W < 2 ∨ 8 < W) (n : Int) : wrpP W n = 0 := by
  unfold wrpP cut
  rw [hf_out h, if_pos rfl]
/-- the law's own short name for Wrap -/
theorem wclo_any (W n : Int) (b : Nat) (hW : IntKind.i64.wrap W = W) (w : World) (hb : Bx w b 3 (.int .i64 W)) : Calls Tryd.prog 32 #[.int .i64 n, .pointer (some ⟨b, 0, none⟩)] w fun e w' => e = .returned (.int .i64 (wrpP W n)) ∧ w' = w := by
  have HW := Lib.hid (fun w => wrap_any W n hW w)
  have c0 := hb.cell
  clear hb hW
  go_enter Tryd.func32, Tryd.ntmps32
  go_wp2_with (fail)
  refine (HW.out _).mono ?_
  rintro e wx ⟨rfl, hx⟩
  obtain rfl := hx.symm
  go_wp2_with (fail)
  go_ret
  exact ⟨rfl, rfl⟩
def VYes (w : World) (e : Ending) (w' : World) : Prop := e = .returned (.bool true) ∧ Below w.heap.size w w'
set_option maxRecDepth 100000 in
set_option maxHeartbeats 4000000 in
theorem wraps_out (W a b : Int) (hW : IntKind.i64.wrap W = W) (w : World) (ht : TabS w) (h : (W < 2 ∨ 8 < W) ∨ 1073741824 < a ∨ a < -1073741824 ∨ 1073741824 < b ∨ b < -1073741824) : Calls Tryd.prog 6 #[.int .i64 W, .int .i64 a, .int .i64 b] w (VYes w) := by
  have hb1 := (Below.refl w.heap.size w).alloc (Nat.le_refl _) (.cells #[.int .i64 W] 3)
  have HB1 := Lib.hid hb1
  have HA := Lib.hid (awake_any _ (ht.later hb1))
  have HBX := Lib.hid (show Bx (w.alloc (.cells #[.int .i64 W] 3)) w.heap.size 3 (.int .i64 W) from heap_alloc_new w _)
  have HIW := Lib.hid (fun w => r_isWidth_any W w)
  have HWR := Lib.hid (fun w => wrap_any W a hW w)
  clear hb1 ht hW
  by_cases hw : W < 2 ∨ 8 < W
  · rw [wok_no hw] at HIW
    rw [wrp_out hw] at HWR
    clear hw h
    go_enter Tryd.func6, Tryd.ntmps6
    go_wp2_with (fail)
    refine HA.out.mono ?_
    rintro e w2 ⟨rfl, hb2⟩
    have HB2 := Lib.hid (HB1.out.trans (hb2.mono HB1.out.size))
    have c0 := (HBX.out.later hb2).cell
    clear hb2
    go_wp2_with (fail)
    refine (HIW.out _).mono ?_
    rintro e wx ⟨rfl, hx⟩
    obtain rfl := hx.symm
    go_wp2_with (fail)
    refine (HWR.out _).mono ?_
    rintro e wx ⟨rfl, hx⟩
    obtain rfl := hx.symm
    go_wp2_with (fail)
    go_ret
    exact ⟨rfl, HB2.out⟩
  · rw [wok_yes hw] at HIW
    have h := h.resolve_left hw
    obtain ⟨p1, h1⟩ : ∃ p, decide (1073741824 < a) = p := ⟨_, rfl⟩
    obtain ⟨p2, h2⟩ : ∃ p, decide (a < -1073741824) = p := ⟨_, rfl⟩
    obtain ⟨p3, h3⟩ : ∃ p, decide (1073741824 < b) = p := ⟨_, rfl⟩
    obtain ⟨p4, h4⟩ : ∃ p, decide (b < -1073741824) = p := ⟨_, rfl⟩
    have H := Lib.hid (show (p1 || p2 || p3 || p4) = true by rw [← h1, ← h2, ← h3, ← h4]; simp; omega)
    clear hw h HWR
    cases p1 <;> cases p2 <;> cases p3 <;> cases p4 <;> first | exact absurd H.out (by decide) | skip
    all_goals
      clear H
      go_enter Tryd.func6, Tryd.ntmps6
      go_wp2_with (fail)
      refine HA.out.mono ?_
      rintro e w2 ⟨rfl, hb2⟩
      have HB2 := Lib.hid (HB1.out.trans (hb2.mono HB1.out.size))
      have c0 := (HBX.out.later hb2).cell
      clear hb2
      go_wp2_with (fail)
      refine (HIW.out _).mono ?_
      rintro e wx ⟨rfl, hx⟩
      obtain rfl := hx.symm
      go_wp2_with (fail)
      go_ret
      exact ⟨rfl, HB2.out⟩
theorem shl_low {W : Int} (h : ¬ (W < 2 ∨ 8 < W)) : IntKind.i64.wrap (-1 * 2 ^ min (W - 1).toNat 64) = -hf W := by
  have : W = 2 ∨ W = 3 ∨ W = 4 ∨ W = 5 ∨ W = 6 ∨ W = 7 ∨ W = 8 := by omega
  rcases this with rfl | rfl | rfl | rfl | rfl | rfl | rfl <;> decide +kernel
theorem shl_high {W : Int} (h : ¬ (W < 2 ∨ 8 < W)) : IntKind.i64.wrap (1 * 2 ^ min (W - 1).toNat 64) = hf W := by
  have : W = 2 ∨ W = 3 ∨ W = 4 ∨ W = 5 ∨ W = 6 ∨ W = 7 ∨ W = 8 := by omega
  rcases this with rfl | rfl | rfl | rfl | rfl | rfl | rfl <;> decide +kernel
theorem shl_full {W : Int} (h : ¬ (W < 2 ∨ 8 < W)) : IntKind.i64.wrap (1 * 2 ^ min W.toNat 64) = 2 * hf W := by
  have : W = 2 ∨ W = 3 ∨ W = 4 ∨ W = 5 ∨ W = 6 ∨ W = 7 ∨ W = 8 := by omega
  rcases this with rfl | rfl | rfl | rfl | rfl | rfl | rfl <;> decide +kernel
theorem wrp_neg (W n : Int) (h : ¬ (W < 2 ∨ 8 < W)) : wrpP W (-wrpP W n) = wrpP W (-n) := by
  obtain ⟨k, hk⟩ := wrp_diff W n h
  exact wrp_cong W _ _ (-k) h (by rw [hk, Int.mul_neg]; omega)
set_option maxRecDepth 100000 in
set_option maxHeartbeats 4000000 in
theorem wraps_in (W a b : Int) (w : World) (ht : TabS w) (h : ¬ (W < 2 ∨ 8 < W)) (ha : -1073741824 ≤ a ∧ a ≤ 1073741824) (hb : -1073741824 ≤ b ∧ b ≤ 1073741824) : Calls Tryd.prog 6 #[.int .i64 W, .int .i64 a, .int .i64 b] w (VYes w) := by
  have hW := w64 (n := W) (by omega)
  have hb1 := (Below.refl w.heap.size w).alloc (Nat.le_refl _) (.cells #[.int .i64 W] 3)
  have HB1 := Lib.hid hb1
  have HA := Lib.hid (awake_any _ (ht.later hb1))
  have HBX := Lib.hid (show Bx (w.alloc (.cells #[.int .i64 W] 3)) w.heap.size 3 (.int .i64 W) from heap_alloc_new w _)
  have HIW := Lib.hid (fun w => r_isWidth_any W w)
  rw [wok_yes h] at HIW
  have HC := fun n w hb => wclo_any W n w.heap.size hW w hb
  have hx := wrp_wrp W a h
  have hin := wrp_in W a (hf_in h)
  have hsum := wrp_sum W a b h
  have hpro := wrp_prod W a b h
  have hneg := wrp_neg W a h
  obtain ⟨k, hk⟩ := wrp_diff W a h
  have bx := wrp_bound W a
  have by_ := wrp_bound W b
  have hm := mul_small bx by_
  have hq : (a - wrpP W a).tmod (2 * hf W) = 0 := by
    rw [show a - wrpP W a = 2 * hf W * (-k) by rw [hk, Int.mul_neg]; omega]
    exact Int.mul_tmod_right _ _
  have w1 := w64 (n := a - wrpP W a) (by omega)
  have w2 := w64 (n := a + b) (by omega)
  have hab : -1152921504606846976 ≤ a * b ∧ a * b ≤ 1152921504606846976 := by
    have hn : (a * b).natAbs ≤ 1073741824 * 1073741824 := by
      rw [Int.natAbs_mul]
      exact Nat.mul_le_mul (by omega) (by omega)
    omega
  have w3 := w64 (n := a * b) (by omega)
  have w4 := w64 (n := -a) (by omega)
  have w5 := w64 (n := wrpP W a + wrpP W b) (by omega)
  have w6 := w64 (n := wrpP W a * wrpP W b) (by omega)
  have w7 := w64 (n := -wrpP W a) (by omega)
  have w8 := w64 (n := W - 1) (by omega)
  have hhf := hf_bound h
  have h10 : 0 ≤ W - 1 := by omega
  have h11 : 0 ≤ W := by omega
  have HS1 : ∀ w', (Op.shift BinOp.shl IntKind.i64 (-1) IntKind.i64 (W - 1)).run Tryd.prog w' = .ok (.int .i64 (-hf W)) w' := fun w' => by
    rw [shift_shl_any _ _ _ _ h10, show IntKind.i64.bits = 64 from rfl, shl_low h]; rfl
  have HS2 : ∀ w', (Op.shift BinOp.shl IntKind.i64 1 IntKind.i64 (W - 1)).run Tryd.prog w' = .ok (.int .i64 (hf W)) w' := fun w' => by
    rw [shift_shl_any _ _ _ _ h10, show IntKind.i64.bits = 64 from rfl, shl_high h]; rfl
  have HS3 : ∀ w', (Op.shift BinOp.shl IntKind.i64 1 IntKind.i64 W).run Tryd.prog w' = .ok (.int .i64 (2 * hf W)) w' := fun w' => by
    rw [shift_shl_any _ _ _ _ h11, show IntKind.i64.bits = 64 from rfl, shl_full h]; rfl
  have HCA := Lib.hid (fun w1 (hb : Bx w1 w.heap.size 3 (.int .i64 W)) => wclo_any W a w.heap.size hW w1 hb)
  have HCB := Lib.hid (fun w1 (hb : Bx w1 w.heap.size 3 (.int .i64 W)) => wclo_any W b w.heap.size hW w1 hb)
  have HCX := Lib.hid (fun w1 (hb : Bx w1 w.heap.size 3 (.int .i64 W)) => wclo_any W (wrpP W a) w.heap.size hW w1 hb)
  have HCS := Lib.hid (fun w1 (hb : Bx w1 w.heap.size 3 (.int .i64 W)) => wclo_any W (a + b) w.heap.size hW w1 hb)
  have HCS2 := Lib.hid (fun w1 (hb : Bx w1 w.heap.size 3 (.int .i64 W)) => wclo_any W (wrpP W a + wrpP W b) w.heap.size hW w1 hb)
  have HCP := Lib.hid (fun w1 (hb : Bx w1 w.heap.size 3 (.int .i64 W)) => wclo_any W (a * b) w.heap.size hW w1 hb)
  have HCP2 := Lib.hid (fun w1 (hb : Bx w1 w.heap.size 3 (.int .i64 W)) => wclo_any W (wrpP W a * wrpP W b) w.heap.size hW w1 hb)
  have HCN := Lib.hid (fun w1 (hb : Bx w1 w.heap.size 3 (.int .i64 W)) => wclo_any W (-a) w.heap.size hW w1 hb)
  have HCN2 := Lib.hid (fun w1 (hb : Bx w1 w.heap.size 3 (.int .i64 W)) => wclo_any W (-wrpP W a) w.heap.size hW w1 hb)
  rw [hx] at HCX
  rw [hsum] at HCS2
  rw [hpro] at HCP2
  rw [hneg] at HCN2
  unfold loP hiP at hin
  rw [if_neg (hf_in h)] at hin
  have hi1 := hin.1
  have hi2 : wrpP W a < hf W := by omega
  have d1 : decide (-hf W ≤ wrpP W a) = true := by simpa using hi1
  have d2 : decide (wrpP W a < hf W) = true := by simpa using hi2
  have q0 : (2 * hf W == 0) = false := by rw [beq_eq_false_iff_ne]; omega
  have q1 : ¬ 2 * hf W = 0 := by omega
  have dA1 : decide (1073741824 < a) = false := by simp; omega
  have dA2 : decide (a < -1073741824) = false := by simp; omega
  have dB1 : decide (1073741824 < b) = false := by simp; omega
  have dB2 : decide (b < -1073741824) = false := by simp; omega
  clear HC hx hsum hpro hneg hin hk k bx by_ hm hab hhf h10 h11 ha hb hb1 ht h hW
  generalize wrpP W (a + b) = s at *
  generalize wrpP W (a * b) = p at *
  generalize wrpP W (-a) = ng at *
  generalize wrpP W a = x at *
  generalize wrpP W b = y at *
  go_enter Tryd.func6, Tryd.ntmps6
  go_wp2_with (fail)
  refine HA.out.mono ?_
  rintro e w2 ⟨rfl, hb2⟩
  have HB2 := Lib.hid (HB1.out.trans (hb2.mono HB1.out.size))
  have HBX2 := Lib.hid (HBX.out.later hb2)
  have c0 := HBX2.out.cell
  clear hb2
  go_wp2_with (fail)
  refine (HIW.out _).mono ?_
  rintro e wx ⟨rfl, hx⟩
  obtain rfl := hx.symm
  go_wp2_with (fail)
  refine (HCA.out _ HBX2.out).mono ?_
  rintro e wx ⟨rfl, hx⟩
  obtain rfl := hx.symm
  go_wp2_with (fail)
  refine (HCX.out _ HBX2.out).mono ?_
  rintro e wx ⟨rfl, hx⟩
  obtain rfl := hx.symm
  go_wp2_with (fail)
  refine (HCS.out _ HBX2.out).mono ?_
  rintro e wx ⟨rfl, hx⟩
  obtain rfl := hx.symm
  go_wp2_with (fail)
  refine (HCA.out _ HBX2.out).mono ?_
  rintro e wx ⟨rfl, hx⟩
  obtain rfl := hx.symm
  go_wp2_with (fail)
  refine (HCB.out _ HBX2.out).mono ?_
  rintro e wx ⟨rfl, hx⟩
  obtain rfl := hx.symm
  go_wp2_with (fail)
  refine (HCS2.out _ HBX2.out).mono ?_
  rintro e wx ⟨rfl, hx⟩
  obtain rfl := hx.symm
  go_wp2_with (fail)
  refine (HCP.out _ HBX2.out).mono ?_
  rintro e wx ⟨rfl, hx⟩
  obtain rfl := hx.symm
  go_wp2_with (fail)
  refine (HCA.out _ HBX2.out).mono ?_
  rintro e wx ⟨rfl, hx⟩
  obtain rfl := hx.symm
  go_wp2_with (fail)
  refine (HCB.out _ HBX2.out).mono ?_
  rintro e wx ⟨rfl, hx⟩
  obtain rfl := hx.symm
  go_wp2_with (fail)
  refine (HCP2.out _ HBX2.out).mono ?_
  rintro e wx ⟨rfl, hx⟩
  obtain rfl := hx.symm
  go_wp2_with (fail)
  refine (HCN.out _ HBX2.out).mono ?_
  rintro e wx ⟨rfl, hx⟩
  obtain rfl := hx.symm
  go_wp2_with (fail)
  refine (HCA.out _ HBX2.out).mono ?_
  rintro e wx ⟨rfl, hx⟩
  obtain rfl := hx.symm
  go_wp2_with (fail)
  refine (HCN2.out _ HBX2.out).mono ?_
  rintro e wx ⟨rfl, hx⟩
  obtain rfl := hx.symm
  go_wp2_with (fail)
  go_ret
  exact ⟨rfl, HB2.out⟩
theorem law_wraps (W a b : Int) (w : World) (ht : TabS w) (hW : (Lit.int .i64 W).wf = true) : Calls Tryd.prog 6 #[.int .i64 W, .int .i64 a, .int .i64 b] w fun e w' => e = .returned (.bool true) ∧ Below w.heap.size w w' := by
  by_cases h : (W < 2 ∨ 8 < W) ∨ 1073741824 < a ∨ a < -1073741824 ∨ 1073741824 < b ∨ b < -1073741824
  · exact wraps_out W a b (w64 (wf_int hW)) w ht h
  · exact wraps_in W a b w ht (fun h2 => h (.inl h2)) (by omega) (by omega)
end Go.Proofs.YtlnpgcdgpahdmaaDoor
