/- What is proved: the law BitvecDivides, over the example's contract. -/
import Derived.Test.YtlnpgcdgpahdmaaDoorBvBuild
import Derived.Test.YtlnpgcdgpahdmaaDoorBvDen
import Derived.Test.YtlnpgcdgpahdmaaDoorBvWrLaw
set_option linter.unusedVariables false
namespace Go.Proofs.YtlnpgcdgpahdmaaDoor
open Go.RowKit Go.Maps

def dvL : List Tm := [⟨0, 0, 0, 0, 0⟩, ⟨0, 1, 0, 0, 0⟩, ⟨8, 0, 0, 1, 0⟩, ⟨9, 0, 0, 1, 0⟩]
theorem dv_bld (W : Int) : bldL W dvL = dvL := by kernel_rfl
theorem dv_tb (W : Int) : TbOk W dvL := by
  have := (bld_ok W dvL 4 (by decide)).1
  rw [show dvL.take 4 = dvL from rfl, dv_bld] at this
  exact this
theorem dv_fit {W x y : Int} (hx : wrpP W x = x) (hy : wrpP W y = y) : ∀ k (h : k < dvL.length), fitB W dvL[k] [x, y] = true := by
  intro k h
  have : k = 0 ∨ k = 1 ∨ k = 2 ∨ k = 3 := by simp [dvL] at h; omega
  rcases this with rfl | rfl | rfl | rfl
  · simp [dvL, fitB, hx]
  · simp [dvL, fitB, hy]
  · simp [dvL, fitB]
  · simp [dvL, fitB]
theorem dv_ev {W x y : Int} (hx : wrpP W x = x) (hy : wrpP W y = y) : evP W dvL 2 [x, y] = (divQ W x y, 0) ∧ evP W dvL 3 [x, y] = (divR W x y, 0) := by
  have ht := dv_tb W
  have hf := dv_fit hx hy
  have e0 : den W dvL [x, y] 0 = x := den_eq ht _ (k := 0) (by decide)
  have e1 : den W dvL [x, y] 1 = y := den_eq ht _ (k := 1) (by decide)
  have e2 : den W dvL [x, y] 2 = divQ W (den W dvL [x, y] 0) (den W dvL [x, y] 1) := den_eq ht _ (k := 2) (by decide)
  have e3 : den W dvL [x, y] 3 = divR W (den W dvL [x, y] 0) (den W dvL [x, y] 1) := den_eq ht _ (k := 3) (by decide)
  rw [e0, e1] at e2 e3
  have h2 := evP_den ht hf 2 (by decide)
  have h3 := evP_den ht hf 3 (by decide)
  rw [e2] at h2
  rw [e3] at h3
  exact ⟨h2, h3⟩
/-- the four nodes as they are written out -/
def dvO : Obj := .cells #[.int .i64 0, .int .i64 0, .int .i64 0, .int .i64 0, .int .i64 0, .int .i64 0, .int .i64 1, .int .i64 0, .int .i64 0, .int .i64 0, .int .i64 8, .int .i64 0, .int .i64 0, .int .i64 1, .int .i64 0, .int .i64 9, .int .i64 0, .int .i64 0, .int .i64 1, .int .i64 0] 34
theorem dv_row (w : World) : TRow (w.alloc dvO) (some ⟨w.heap.size, 0, none⟩) dvL := fun _ => by
  refine ⟨w.heap.size, 0, rfl, by simp, fun i hi => ?_⟩
  have q := fun j => Lib.cell_of_heap (heap_alloc_new w dvO) j
  have : i = 0 ∨ i = 1 ∨ i = 2 ∨ i = 3 := by simp [dvL] at hi; omega
  rcases this with rfl | rfl | rfl | rfl
  · exact ⟨q 0, q 1, q 2, q 3, q 4⟩
  · exact ⟨q 5, q 6, q 7, q 8, q 9⟩
  · exact ⟨q 10, q 11, q 12, q 13, q 14⟩
  · exact ⟨q 15, q 16, q 17, q 18, q 19⟩
theorem dv_ok : ∀ x ∈ dvL, TmOk x := by
  intro x hx
  simp only [dvL, List.mem_cons, List.not_mem_nil, or_false] at hx
  rcases hx with rfl | rfl | rfl | rfl <;> exact tmOk (by decide)
theorem two_row (w : World) (m n : Int) : ZRow (w.alloc (.cells #[.int .i64 m, .int .i64 n] 3)).heap.size (w.alloc (.cells #[.int .i64 m, .int .i64 n] 3)) (some ⟨w.heap.size, 0, none⟩) [m, n] := fun _ => by
  refine ⟨w.heap.size, 0, rfl, by simp, fun i hi => ?_⟩
  have q := fun j => Lib.cell_of_heap (heap_alloc_new w (.cells #[.int .i64 m, .int .i64 n] 3)) j
  have : i = 0 ∨ i = 1 := by simp at hi; omega
  rcases this with rfl | rfl
  · exact q 0
  · exact q 1
theorem rest_sq {x y : Int} (hy : y ≠ 0) : x.tmod y * x.tmod y < y * y := by
  have h := rest_abs x y hy
  have e : ∀ z : Int, z * z = ((z.natAbs * z.natAbs : Nat) : Int) := fun z => Int.natAbs_mul_self.symm
  rw [e (x.tmod y), e y]
  exact_mod_cast Nat.mul_lt_mul_of_lt_of_le h (Nat.le_of_lt h) (by omega)
theorem rest_mul {x y : Int} : 0 ≤ x.tmod y * x := by
  by_cases h0 : x.tmod y = 0
  · rw [h0]; simp
  · have h := rest_sign x y h0
    rcases Int.lt_or_le x 0 with h1 | h1
    · have h2 := h.2 h1
      exact Int.mul_nonneg_of_nonpos_of_nonpos (by omega) (by omega)
    · have h2 : 0 ≤ x.tmod y := Int.tmod_nonneg y h1
      exact Int.mul_nonneg h2 h1
theorem div_out {W : Int} (h : W < 2 ∨ 8 < W) (a b : Int) : divQ W a b = 0 ∧ divR W a b = 0 := by
  unfold divQ divR
  rw [if_pos (wrp_out h b), if_pos (wrp_out h b)]
  exact ⟨rfl, wrp_out h a⟩
set_option maxRecDepth 100000 in
set_option maxHeartbeats 4000000 in
theorem divides_out (W a b : Int) (hW : IntKind.i64.wrap W = W) (w : World) (ht : TabS w) (h : W < 2 ∨ 8 < W) : Calls Tryd.prog 7 #[.int .i64 W, .int .i64 a, .int .i64 b] w (VYes w) := by
  have HA := Lib.hid (awake_any w ht)
  have HD := Lib.hid (fun w => divide_any W a b hW w)
  rw [(div_out h a b).1, (div_out h a b).2] at HD
  have HIW := Lib.hid (fun w => r_isWidth_any W w)
  rw [wok_no h] at HIW
  clear ht h hW
  go_enter Tryd.func7, Tryd.ntmps7
  go_wp2_with (fail)
  refine HA.out.mono ?_
  rintro e w1 ⟨rfl, hb1⟩
  have HB1 := Lib.hid hb1
  clear hb1
  go_wp2_with (fail)
  refine (HD.out _).mono ?_
  rintro e wx ⟨rfl, m, rfl⟩
  have HB2 := Lib.hid (HB1.out.trans ((drewN_below w1 m).mono HB1.out.size))
  generalize w1.drewN m = w2 at *
  go_wp2_with (fail)
  refine (HIW.out _).mono ?_
  rintro e wx ⟨rfl, hx⟩
  obtain rfl := hx.symm
  go_wp2_with (fail)
  go_ret
  exact ⟨rfl, HB2.out⟩
theorem div_same (W a b : Int) (h : ¬ (W < 2 ∨ 8 < W)) : divQ W (wrpP W a) (wrpP W b) = divQ W a b ∧ divR W (wrpP W a) (wrpP W b) = divR W a b := by
  unfold divQ divR
  rw [wrp_wrp W a h, wrp_wrp W b h]
  exact ⟨rfl, rfl⟩
theorem div_sum (W a b : Int) (h : ¬ (W < 2 ∨ 8 < W)) : wrpP W (divQ W a b * wrpP W b + divR W a b) = wrpP W a := by
  unfold divQ divR
  split
  · rw [Int.zero_mul, Int.zero_add, wrp_wrp W a h]
  · rename_i h0
    have h1 := div_back W (wrpP W a) (wrpP W b) h (wrp_wrp W a h) (wrp_wrp W b h)
    rwa [wrp_sum W _ _ h] at h1
set_option maxRecDepth 100000 in
set_option maxHeartbeats 8000000 in
theorem divides_in (W a b : Int) (w : World) (ht : TabS w) (h : ¬ (W < 2 ∨ 8 < W)) : Calls Tryd.prog 7 #[.int .i64 W, .int .i64 a, .int .i64 b] w (VYes w) := by
  have hW := w64 (n := W) (by omega)
  have HA := Lib.hid (awake_any w ht)
  have HD := Lib.hid (fun w => divide_any W a b hW w)
  have HIW := Lib.hid (fun w => r_isWidth_any W w)
  rw [wok_yes h] at HIW
  have HWA := Lib.hid (fun w => wrap_any W a hW w)
  have HWB := Lib.hid (fun w => wrap_any W b hW w)
  have HWS := Lib.hid (fun w => wrap_any W (divQ W a b * wrpP W b + divR W a b) hW w)
  rw [div_sum W a b h] at HWS
  have HT := Lib.hid ht
  have HWW := Lib.hid h
  have hx := wrp_wrp W a h
  have hy := wrp_wrp W b h
  obtain ⟨v2, v3⟩ := dv_ev hx hy
  rw [(div_same W a b h).1] at v2
  rw [(div_same W a b h).2] at v3
  have V2 := Lib.hid v2
  have V3 := Lib.hid v3
  have bq := rng_bound (divQ_rng (a := a) (b := b) h)
  have br := rng_bound (divR_rng (a := a) (b := b) h)
  have bx := wrp_bound W a
  have by_ := wrp_bound W b
  have m1 := mul_small bq by_
  have m2 := mul_small br br
  have m3 := mul_small by_ by_
  have m4 := mul_small br bx
  have w1 := w64 (n := divQ W a b * wrpP W b) (by omega)
  have w2 := w64 (n := divQ W a b * wrpP W b + divR W a b) (by omega)
  have w3 := w64 (n := divR W a b * divR W a b) (by omega)
  have w4 := w64 (n := wrpP W b * wrpP W b) (by omega)
  have w5 := w64 (n := divR W a b * wrpP W a) (by omega)
  have hz : wrpP W b = 0 → divQ W a b = 0 ∧ divR W a b = wrpP W a := fun e => by
    unfold divQ divR
    rw [if_pos e, if_pos e]
    exact ⟨rfl, rfl⟩
  have hn : wrpP W b ≠ 0 → divR W a b * divR W a b < wrpP W b * wrpP W b ∧ 0 ≤ divR W a b * wrpP W a := fun e => by
    have er : divR W a b = (wrpP W a).tmod (wrpP W b) := by unfold divR; rw [if_neg e]
    rw [er]
    exact ⟨rest_sq e, rest_mul⟩
  have HZ := Lib.hid hz
  have HNZ := Lib.hid hn
  clear ht h hx hy v2 v3 bq br bx by_ m1 m2 m3 m4 hz hn hW
  generalize divQ W a b = q at *
  generalize divR W a b = r at *
  generalize wrpP W a = x at *
  generalize wrpP W b = y at *
  go_enter Tryd.func7, Tryd.ntmps7
  go_wp2_with (fail)
  refine HA.out.mono ?_
  rintro e wa ⟨rfl, hb1⟩
  have HB1 := Lib.hid hb1
  clear hb1
  go_wp2_with (fail)
  refine (HD.out _).mono ?_
  rintro e wx ⟨rfl, m, rfl⟩
  have HB2 := Lib.hid (HB1.out.trans ((drewN_below wa m).mono HB1.out.size))
  generalize wa.drewN m = wb at *
  go_wp2_with (fail)
  refine (HIW.out _).mono ?_
  rintro e wx ⟨rfl, hx⟩
  obtain rfl := hx.symm
  go_wp2_with (fail)
  refine (HWA.out _).mono ?_
  rintro e wx ⟨rfl, hx⟩
  obtain rfl := hx.symm
  go_wp2_with (fail)
  refine (HWB.out _).mono ?_
  rintro e wx ⟨rfl, hx⟩
  obtain rfl := hx.symm
  have hbd := (Below.refl wb.heap.size wb).alloc (Nat.le_refl _) dvO
  have HB3 := Lib.hid (HB2.out.trans (hbd.mono HB2.out.size))
  have HBU := Lib.hid (build_any W _ 4 dvL (wb.alloc dvO) (HT.out.later HB3.out) HWW.out (dv_row wb) dv_ok (by decide))
  rw [dv_bld W] at HBU
  clear hbd
  go_wp2_with (fail)
  refine HBU.out.mono ?_
  rintro e wc ⟨tb, mb, rv, rfl, htb, hb4⟩
  have HB4 := Lib.hid (HB3.out.trans (hb4.mono HB3.out.size))
  have HTB := Lib.hid htb
  have hbe := (Below.refl wc.heap.size wc).alloc (Nat.le_refl _) (.cells #[.int .i64 x, .int .i64 y] 3)
  have HB5 := Lib.hid (HB4.out.trans (hbe.mono HB4.out.size))
  have HE2 := Lib.hid (eval_any 2 _ 2 [x, y] (htb.later hbe) (HT.out.later HB5.out) HWW.out (two_row wc x y))
  rw [V2.out] at HE2
  clear htb hb4 hbe HBU
  go_wp2_with (fail)
  refine HE2.out.mono ?_
  rintro e wd ⟨rfl, hb6⟩
  have HB6 := Lib.hid (HB5.out.trans (hb6.mono HB5.out.size))
  have htd := (HTB.out.later ((Below.refl wc.heap.size wc).alloc (Nat.le_refl _) (.cells #[.int .i64 x, .int .i64 y] 3))).later hb6
  have hbf := (Below.refl wd.heap.size wd).alloc (Nat.le_refl _) (.cells #[.int .i64 x, .int .i64 y] 3)
  have HB7 := Lib.hid (HB6.out.trans (hbf.mono HB6.out.size))
  have HE3 := Lib.hid (eval_any 3 _ 2 [x, y] (htd.later hbf) (HT.out.later HB7.out) HWW.out (two_row wd x y))
  rw [V3.out] at HE3
  clear htd hb6 hbf HE2
  go_wp2_with (fail)
  refine HE3.out.mono ?_
  rintro e we ⟨rfl, hb8⟩
  have HB8 := Lib.hid (HB7.out.trans (hb8.mono HB7.out.size))
  clear hb8 HE3
  go_wp2_with (fail)
  refine (HWS.out _).mono ?_
  rintro e wx ⟨rfl, hx⟩
  obtain rfl := hx.symm
  by_cases hy0 : y = 0
  · obtain ⟨rfl, rfl⟩ := HZ.out hy0
    subst hy0
    go_wp2_with (fail)
    go_ret
    exact ⟨rfl, HB8.out⟩
  · obtain ⟨n1, n2⟩ := HNZ.out hy0
    have dy : (y == 0) = false := by simpa using hy0
    have d1 : decide (r * r < y * y) = true := by simpa using n1
    have d2 : decide (0 ≤ r * x) = true := by simpa using n2
    go_wp2_with (fail)
    go_ret
    exact ⟨rfl, HB8.out⟩
theorem law_divides (W a b : Int) (w : World) (ht : TabS w) (hW : (Lit.int .i64 W).wf = true) : Calls Tryd.prog 7 #[.int .i64 W, .int .i64 a, .int .i64 b] w fun e w' => e = .returned (.bool true) ∧ Below w.heap.size w w' := by
  by_cases h : W < 2 ∨ 8 < W
  · exact divides_out W a b (w64 (wf_int hW)) w ht h
  · exact divides_in W a b w ht h
end Go.Proofs.YtlnpgcdgpahdmaaDoor
