/- What is proved: the law BitvecAlgebra, over the example's contract. -/
import Derived.Test.YtlnpgcdgpahdmaaDoorBvAlOp2
set_option linter.unusedVariables false
namespace Go.Proofs.YtlnpgcdgpahdmaaDoor
open Go.RowKit Go.Maps
set_option maxRecDepth 100000 in
set_option maxHeartbeats 4000000 in
theorem algebra_out (W a b c : Int) (hW : IntKind.i64.wrap W = W) (w : World) (ht : TabS w) (h : W < 2 ∨ 8 < W) : Calls Tryd.prog 8 #[.int .i64 W, .int .i64 a, .int .i64 b, .int .i64 c] w (VYes w) := by
  have hb1 := (Below.refl w.heap.size w).alloc (Nat.le_refl _) (.cells #[.int .i64 W] 3)
  have HB1 := Lib.hid hb1
  have HA := Lib.hid (awake_any _ (ht.later hb1))
  have HBX := Lib.hid (show Bx (w.alloc (.cells #[.int .i64 W] 3)) w.heap.size 3 (.int .i64 W) from heap_alloc_new w _)
  have HIW := Lib.hid (fun w => r_isWidth_any W w)
  rw [wok_no h] at HIW
  clear ht h hW hb1
  go_enter Tryd.func8, Tryd.ntmps8
  go_wp2_with (fail)
  refine HA.out.mono ?_
  rintro e w1 ⟨rfl, hb1⟩
  have HB2 := Lib.hid (HB1.out.trans (hb1.mono HB1.out.size))
  have c0 := (HBX.out.later hb1).cell
  clear hb1
  go_wp2_with (fail)
  refine (HIW.out _).mono ?_
  rintro e wx ⟨rfl, hx⟩
  obtain rfl := hx.symm
  go_wp2_with (fail)
  go_ret
  exact ⟨rfl, HB2.out⟩
def algO : Obj := .cells #[.int .i64 0, .int .i64 0, .int .i64 0, .int .i64 0, .int .i64 0, .int .i64 0, .int .i64 1, .int .i64 0, .int .i64 0, .int .i64 0, .int .i64 0, .int .i64 2, .int .i64 0, .int .i64 0, .int .i64 0, .int .i64 1, .int .i64 3, .int .i64 0, .int .i64 0, .int .i64 0, .int .i64 1, .int .i64 4, .int .i64 0, .int .i64 0, .int .i64 0] 34
theorem alg_row (w : World) : TRow (w.alloc algO) (some ⟨w.heap.size, 0, none⟩) (algL.take 5) := fun _ => by
  refine ⟨w.heap.size, 0, rfl, by simp, fun i hi => ?_⟩
  have q := fun j => Lib.cell_of_heap (heap_alloc_new w algO) j
  have : i = 0 ∨ i = 1 ∨ i = 2 ∨ i = 3 ∨ i = 4 := by simp [algL] at hi; omega
  rcases this with rfl | rfl | rfl | rfl | rfl
  · exact ⟨q 0, q 1, q 2, q 3, q 4⟩
  · exact ⟨q 5, q 6, q 7, q 8, q 9⟩
  · exact ⟨q 10, q 11, q 12, q 13, q 14⟩
  · exact ⟨q 15, q 16, q 17, q 18, q 19⟩
  · exact ⟨q 20, q 21, q 22, q 23, q 24⟩
theorem and_one (a : Int) : bits BinOp.and IntKind.i64 a 1 = 0 ∨ bits BinOp.and IntKind.i64 a 1 = 1 := by
  have h : (BitVec.ofInt 64 a &&& BitVec.ofInt 64 1).toNat = 0 ∨ (BitVec.ofInt 64 a &&& BitVec.ofInt 64 1).toNat = 1 := by
    rw [BitVec.toNat_and, show (BitVec.ofInt 64 1).toNat = 1 from by decide, Nat.and_one_is_mod]
    omega
  unfold bits
  rcases h with h | h
  · left
    show IntKind.i64.wrap ((BitVec.ofInt 64 a &&& BitVec.ofInt 64 1).toNat : Int) = 0
    rw [h]
    decide
  · right
    show IntKind.i64.wrap ((BitVec.ofInt 64 a &&& BitVec.ofInt 64 1).toNat : Int) = 1
    rw [h]
    decide
theorem alg_ok : ∀ x ∈ algL.take 5, TmOk x := by
  intro x hx
  simp only [algL, List.take_succ_cons, List.take_zero, List.mem_cons, List.not_mem_nil, or_false] at hx
  rcases hx with rfl | rfl | rfl | rfl | rfl <;> exact tmOk (by decide)
set_option maxRecDepth 100000 in
set_option maxHeartbeats 8000000 in
theorem algebra_in (W a b c : Int) (w : World) (ht : TabS w) (h : ¬ (W < 2 ∨ 8 < W)) : Calls Tryd.prog 8 #[.int .i64 W, .int .i64 a, .int .i64 b, .int .i64 c] w (VYes w) := by
  have hW := w64 (n := W) (by omega)
  have hb1 := (Below.refl w.heap.size w).alloc (Nat.le_refl _) (.cells #[.int .i64 W] 3)
  have HB1 := Lib.hid hb1
  have HA := Lib.hid (awake_any _ (ht.later hb1))
  have HBX := Lib.hid (show Bx (w.alloc (.cells #[.int .i64 W] 3)) w.heap.size 3 (.int .i64 W) from heap_alloc_new w _)
  have HIW := Lib.hid (fun w => r_isWidth_any W w)
  rw [wok_yes h] at HIW
  have HCA := Lib.hid (fun w1 (hb : Bx w1 w.heap.size 3 (.int .i64 W)) => aclo_any a w.heap.size hW w1 hb)
  have HCB := Lib.hid (fun w1 (hb : Bx w1 w.heap.size 3 (.int .i64 W)) => aclo_any b w.heap.size hW w1 hb)
  have HCC := Lib.hid (fun w1 (hb : Bx w1 w.heap.size 3 (.int .i64 W)) => aclo_any c w.heap.size hW w1 hb)
  have HX := Lib.hid (wrp_wrp W a h)
  have HY := Lib.hid (wrp_wrp W b h)
  have HZ := Lib.hid (wrp_wrp W c h)
  have HT := Lib.hid ht
  have HWW := Lib.hid h
  clear ht h hW hb1
  generalize wrpP W a = x at *
  generalize wrpP W b = y at *
  generalize wrpP W c = z at *
  go_enter Tryd.func8, Tryd.ntmps8
  go_wp2_with (fail)
  refine HA.out.mono ?_
  rintro e w1 ⟨rfl, hb1⟩
  have HB2 := Lib.hid (HB1.out.trans (hb1.mono HB1.out.size))
  have HBY := Lib.hid (HBX.out.later hb1)
  have c0 := HBY.out.cell
  clear hb1
  go_wp2_with (fail)
  refine (HIW.out _).mono ?_
  rintro e wx ⟨rfl, hx⟩
  obtain rfl := hx.symm
  go_wp2_with (fail)
  refine (HCA.out _ HBY.out).mono ?_
  rintro e wx ⟨rfl, hx⟩
  obtain rfl := hx.symm
  go_wp2_with (fail)
  refine (HCB.out _ HBY.out).mono ?_
  rintro e wx ⟨rfl, hx⟩
  obtain rfl := hx.symm
  go_wp2_with (fail)
  refine (HCC.out _ HBY.out).mono ?_
  rintro e wx ⟨rfl, hx⟩
  obtain rfl := hx.symm
  go_upto_region 7 with fail
  have HP := Lib.hid (and_one a)
  have HQ := Lib.hid (and_one b)
  generalize bits BinOp.and IntKind.i64 a 1 = p at *
  generalize bits BinOp.and IntKind.i64 b 1 = q at *
  have hn1 := heap_alloc_new w1 (.cells #[.int .i64 x, .int .i64 y, .int .i64 z, .int .i64 p, .int .i64 q] 3)
  have hs1 : (w1.alloc (.cells #[.int .i64 x, .int .i64 y, .int .i64 z, .int .i64 p, .int .i64 q] 3)).heap.size = w1.heap.size + 1 := by simp
  have hr2 := (heap_alloc_old (w1.alloc (.cells #[.int .i64 x, .int .i64 y, .int .i64 z, .int .i64 p, .int .i64 q] 3)) (.cells #[.slice (some ⟨w1.heap.size, 0, none⟩) 5 5] 45) (show w1.heap.size < _ by omega)).trans hn1
  have hi2 := heap_alloc_new (w1.alloc (.cells #[.int .i64 x, .int .i64 y, .int .i64 z, .int .i64 p, .int .i64 q] 3)) (.cells #[.slice (some ⟨w1.heap.size, 0, none⟩) 5 5] 45)
  rw [hs1] at hi2
  have hbl := (Below.refl w1.heap.size w1).alloc (Nat.le_refl _) (.cells #[.int .i64 x, .int .i64 y, .int .i64 z, .int .i64 p, .int .i64 q] 3)
  have hbm := hbl.trans (((Below.refl _ (w1.alloc (.cells #[.int .i64 x, .int .i64 y, .int .i64 z, .int .i64 p, .int .i64 q] 3))).alloc (Nat.le_refl _) (.cells #[.slice (some ⟨w1.heap.size, 0, none⟩) 5 5] 45)).mono hbl.size)
  have HB3 := Lib.hid (HB2.out.trans (hbm.mono HB2.out.size))
  have c1 := (HBY.out.later hbm).cell
  have HIB : Hid (Bx ((w1.alloc (.cells #[.int .i64 x, .int .i64 y, .int .i64 z, .int .i64 p, .int .i64 q] 3)).alloc (.cells #[.slice (some ⟨w1.heap.size, 0, none⟩) 5 5] 45)) (w1.heap.size + 1) 45 (.slice (some ⟨w1.heap.size, 0, none⟩) 5 5)) := Lib.hid hi2
  have HRW := Lib.hid hr2
  clear hn1 hs1 hr2 hi2 hbl hbm c0
  generalize (w1.alloc (.cells #[.int .i64 x, .int .i64 y, .int .i64 z, .int .i64 p, .int .i64 q] 3)).alloc (.cells #[.slice (some ⟨w1.heap.size, 0, none⟩) 5 5] 45) = w2 at *
  generalize w1.heap.size + 1 = ib at *
  generalize w1.heap.size = ab at *
  have hbd := (Below.refl w2.heap.size w2).alloc (Nat.le_refl _) algO
  have HB4 := Lib.hid (HB3.out.trans (hbd.mono HB3.out.size))
  have HBU := Lib.hid (build_any W _ 5 (algL.take 5) (w2.alloc algO) (HT.out.later HB4.out) HWW.out (alg_row w2) alg_ok (by decide))
  rw [alg_bld5 W] at HBU
  have HIB := Lib.hid (HIB.out.later hbd)
  have HRW := Lib.hid ((hbd.block ab (hlt HRW.out)).trans HRW.out)
  clear hbd
  go_wp2_with (fail)
  refine HBU.out.mono ?_
  rintro e w3 ⟨tb, mb, rv, rfl, htb, hb5⟩
  have HB5 := Lib.hid (HB4.out.trans (hb5.mono HB4.out.size))
  have HIB := Lib.hid (HIB.out.later hb5)
  have HRW := Lib.hid ((hb5.block ab (hlt HRW.out)).trans HRW.out)
  have HN := Lib.hid HB4.out.size
  have HTB := Lib.hid htb
  clear htb hb5 HBU
  generalize (w2.alloc algO).heap.size = n₀ at *
  go_upto_region 10 with fail
  have hbe := (Below.refl w3.heap.size w3).alloc (Nat.le_refl _) (.cells #[.pointer (some ⟨tb, 0, none⟩)] 24)
  have HS0 : Hid (AlgSt w W tb w3.heap.size ib ab x y z p q (algL.take 5) (w3.alloc (.cells #[.pointer (some ⟨tb, 0, none⟩)] 24))) := Lib.hid ⟨⟨n₀, mb, rv, HTB.out.later hbe, HN.out⟩, heap_alloc_new w3 _, HIB.out.later hbe, (hbe.block ab (hlt HRW.out)).trans HRW.out, HB5.out.trans (hbe.mono HB5.out.size), HT.out⟩
  clear hbe HN HTB HIB HRW HB5 HB4 HB3 HB2 HB1 HBX HBY HA HIW HCA HCB HCC HT c1
  generalize w3.alloc (.cells #[.pointer (some ⟨tb, 0, none⟩)] 24) = v0 at *
  generalize w3.heap.size = tbb at *
  go_wp2_with (fail)
  refine (op2_any 5 0 1 5 HWW.out HS0.out (by decide) (alg_mk5_5_0_1 W) (tmOk (by decide))).mono ?_
  rintro e v1 ⟨rfl, st⟩
  have HS1 := Lib.hid st
  clear st HS0
  go_wp2_with (fail)
  refine (op2_any 6 5 1 6 HWW.out HS1.out (by decide) (alg_mk6_6_5_1 W) (tmOk (by decide))).mono ?_
  rintro e v2 ⟨rfl, st⟩
  have HS2 := Lib.hid st
  clear st HS1
  go_wp2_with (fail)
  obtain ⟨u1, g1, g2⟩ := alg_ev (W := W) HX.out HY.out HZ.out HP.out HQ.out 7 6 0 (by decide) (by decide) (by decide) (fun F hF => alg_1 HWW.out HX.out hF)
  have G := Lib.hid (is_any 6 0 u1 HWW.out HS2.out g1 g2)
  clear g1 g2
  refine G.out.mono ?_
  rintro e v3 ⟨rfl, st⟩
  have HS3 := Lib.hid st
  clear st HS2 G
  go_wp2_with (fail)
  refine (op2_any 5 1 2 7 HWW.out HS3.out (by decide) (alg_mk7_5_1_2 W) (tmOk (by decide))).mono ?_
  rintro e v4 ⟨rfl, st⟩
  have HS4 := Lib.hid st
  clear st HS3
  go_wp2_with (fail)
  refine (op2_any 7 0 7 8 HWW.out HS4.out (by decide) (alg_mk8_7_0_7 W) (tmOk (by decide))).mono ?_
  rintro e v5 ⟨rfl, st⟩
  have HS5 := Lib.hid st
  clear st HS4
  go_wp2_with (fail)
  refine (op2_any 7 0 1 9 HWW.out HS5.out (by decide) (alg_mk9_7_0_1 W) (tmOk (by decide))).mono ?_
  rintro e v6 ⟨rfl, st⟩
  have HS6 := Lib.hid st
  clear st HS5
  go_wp2_with (fail)
  refine (op2_any 7 0 2 10 HWW.out HS6.out (by decide) (alg_mk10_7_0_2 W) (tmOk (by decide))).mono ?_
  rintro e v7 ⟨rfl, st⟩
  have HS7 := Lib.hid st
  clear st HS6
  go_wp2_with (fail)
  refine (op2_any 5 9 10 11 HWW.out HS7.out (by decide) (alg_mk11_5_9_10 W) (tmOk (by decide))).mono ?_
  rintro e v8 ⟨rfl, st⟩
  have HS8 := Lib.hid st
  clear st HS7
  go_wp2_with (fail)
  obtain ⟨u2, g1, g2⟩ := alg_ev (W := W) HX.out HY.out HZ.out HP.out HQ.out 12 8 11 (by decide) (by decide) (by decide) (fun F hF => alg_2 HWW.out hF)
  have G := Lib.hid (is_any 8 11 u2 HWW.out HS8.out g1 g2)
  clear g1 g2
  refine G.out.mono ?_
  rintro e v9 ⟨rfl, st⟩
  have HS9 := Lib.hid st
  clear st HS8 G
  go_wp2_with (fail)
  refine (op2_any 6 0 1 12 HWW.out HS9.out (by decide) (alg_mk12_6_0_1 W) (tmOk (by decide))).mono ?_
  rintro e v10 ⟨rfl, st⟩
  have HS10 := Lib.hid st
  clear st HS9
  go_wp2_with (fail)
  refine (op1_any 4 12 13 HWW.out HS10.out (by decide) (alg_mk13_4_12 W) (tmOk (by decide))).mono ?_
  rintro e v11 ⟨rfl, st⟩
  have HS11 := Lib.hid st
  clear st HS10
  go_wp2_with (fail)
  refine (op2_any 6 1 0 14 HWW.out HS11.out (by decide) (alg_mk14_6_1_0 W) (tmOk (by decide))).mono ?_
  rintro e v12 ⟨rfl, st⟩
  have HS12 := Lib.hid st
  clear st HS11
  go_wp2_with (fail)
  obtain ⟨u3, g1, g2⟩ := alg_ev (W := W) HX.out HY.out HZ.out HP.out HQ.out 15 13 14 (by decide) (by decide) (by decide) (fun F hF => alg_3 HWW.out hF)
  have G := Lib.hid (is_any 13 14 u3 HWW.out HS12.out g1 g2)
  clear g1 g2
  refine G.out.mono ?_
  rintro e v13 ⟨rfl, st⟩
  have HS13 := Lib.hid st
  clear st HS12 G
  go_wp2_with (fail)
  refine (op2_any 5 1 2 7 HWW.out HS13.out (by decide) (alg_mk15_5_1_2 W) (tmOk (by decide))).mono ?_
  rintro e v14 ⟨rfl, st⟩
  have HS14 := Lib.hid st
  clear st HS13
  go_wp2_with (fail)
  refine (op2_any 5 0 7 15 HWW.out HS14.out (by decide) (alg_mk15_5_0_7 W) (tmOk (by decide))).mono ?_
  rintro e v15 ⟨rfl, st⟩
  have HS15 := Lib.hid st
  clear st HS14
  go_wp2_with (fail)
  refine (op2_any 5 0 1 5 HWW.out HS15.out (by decide) (alg_mk16_5_0_1 W) (tmOk (by decide))).mono ?_
  rintro e v16 ⟨rfl, st⟩
  have HS16 := Lib.hid st
  clear st HS15
  go_wp2_with (fail)
  refine (op2_any 5 5 2 16 HWW.out HS16.out (by decide) (alg_mk16_5_5_2 W) (tmOk (by decide))).mono ?_
  rintro e v17 ⟨rfl, st⟩
  have HS17 := Lib.hid st
  clear st HS16
  go_wp2_with (fail)
  obtain ⟨u4, g1, g2⟩ := alg_ev (W := W) HX.out HY.out HZ.out HP.out HQ.out 17 15 16 (by decide) (by decide) (by decide) (fun F hF => alg_4 HWW.out hF)
  have G := Lib.hid (is_any 15 16 u4 HWW.out HS17.out g1 g2)
  clear g1 g2
  refine G.out.mono ?_
  rintro e v18 ⟨rfl, st⟩
  have HS18 := Lib.hid st
  clear st HS17 G
  go_wp2_with (fail)
  refine (op2_any 17 0 1 17 HWW.out HS18.out (by decide) (alg_mk17_17_0_1 W) (tmOk (by decide))).mono ?_
  rintro e v19 ⟨rfl, st⟩
  have HS19 := Lib.hid st
  clear st HS18
  go_wp2_with (fail)
  refine (op1_any 11 17 18 HWW.out HS19.out (by decide) (alg_mk18_11_17 W) (tmOk (by decide))).mono ?_
  rintro e v20 ⟨rfl, st⟩
  have HS20 := Lib.hid st
  clear st HS19
  go_wp2_with (fail)
  refine (op2_any 17 1 0 19 HWW.out HS20.out (by decide) (alg_mk19_17_1_0 W) (tmOk (by decide))).mono ?_
  rintro e v21 ⟨rfl, st⟩
  have HS21 := Lib.hid st
  clear st HS20
  go_wp2_with (fail)
  refine (op2_any 16 0 1 20 HWW.out HS21.out (by decide) (alg_mk20_16_0_1 W) (tmOk (by decide))).mono ?_
  rintro e v22 ⟨rfl, st⟩
  have HS22 := Lib.hid st
  clear st HS21
  go_wp2_with (fail)
  refine (op2_any 13 19 20 21 HWW.out HS22.out (by decide) (alg_mk21_13_19_20 W) (tmOk (by decide))).mono ?_
  rintro e v23 ⟨rfl, st⟩
  have HS23 := Lib.hid st
  clear st HS22
  go_wp2_with (fail)
  obtain ⟨u5, g1, g2⟩ := alg_ev (W := W) HX.out HY.out HZ.out HP.out HQ.out 22 18 21 (by decide) (by decide) (by decide) (fun F hF => alg_5  hF)
  have G := Lib.hid (is_any 18 21 u5 HWW.out HS23.out g1 g2)
  clear g1 g2
  refine G.out.mono ?_
  rintro e v24 ⟨rfl, st⟩
  have HS24 := Lib.hid st
  clear st HS23 G
  go_wp2_with (fail)
  refine (op2_any 12 3 4 22 HWW.out HS24.out (by decide) (alg_mk22_12_3_4 W) (tmOk (by decide))).mono ?_
  rintro e v25 ⟨rfl, st⟩
  have HS25 := Lib.hid st
  clear st HS24
  go_wp2_with (fail)
  refine (op1_any 11 22 23 HWW.out HS25.out (by decide) (alg_mk23_11_22 W) (tmOk (by decide))).mono ?_
  rintro e v26 ⟨rfl, st⟩
  have HS26 := Lib.hid st
  clear st HS25
  go_wp2_with (fail)
  refine (op1_any 11 3 24 HWW.out HS26.out (by decide) (alg_mk24_11_3 W) (tmOk (by decide))).mono ?_
  rintro e v27 ⟨rfl, st⟩
  have HS27 := Lib.hid st
  clear st HS26
  go_wp2_with (fail)
  refine (op1_any 11 4 25 HWW.out HS27.out (by decide) (alg_mk25_11_4 W) (tmOk (by decide))).mono ?_
  rintro e v28 ⟨rfl, st⟩
  have HS28 := Lib.hid st
  clear st HS27
  go_wp2_with (fail)
  refine (op2_any 13 24 25 26 HWW.out HS28.out (by decide) (alg_mk26_13_24_25 W) (tmOk (by decide))).mono ?_
  rintro e v29 ⟨rfl, st⟩
  have HS29 := Lib.hid st
  clear st HS28
  go_wp2_with (fail)
  obtain ⟨u6, g1, g2⟩ := alg_ev (W := W) HX.out HY.out HZ.out HP.out HQ.out 27 23 26 (by decide) (by decide) (by decide) (fun F hF => alg_6 HP.out HQ.out hF)
  have G := Lib.hid (is_any 23 26 u6 HWW.out HS29.out g1 g2)
  clear g1 g2
  refine G.out.mono ?_
  rintro e v30 ⟨rfl, st⟩
  have HS30 := Lib.hid st
  clear st HS29 G
  go_wp2_with (fail)
  refine (op1_any 11 4 25 HWW.out HS30.out (by decide) (alg_mk27_11_4 W) (tmOk (by decide))).mono ?_
  rintro e v31 ⟨rfl, st⟩
  have HS31 := Lib.hid st
  clear st HS30
  go_wp2_with (fail)
  refine (op3_any 15 3 4 25 27 HWW.out HS31.out (by decide) (alg_mk27_15_3_4_25 W) (tmOk (by decide))).mono ?_
  rintro e v32 ⟨rfl, st⟩
  have HS32 := Lib.hid st
  clear st HS31
  go_wp2_with (fail)
  refine (op2_any 14 3 4 28 HWW.out HS32.out (by decide) (alg_mk28_14_3_4 W) (tmOk (by decide))).mono ?_
  rintro e v33 ⟨rfl, st⟩
  have HS33 := Lib.hid st
  clear st HS32
  go_wp2_with (fail)
  obtain ⟨u7, g1, g2⟩ := alg_ev (W := W) HX.out HY.out HZ.out HP.out HQ.out 29 27 28 (by decide) (by decide) (by decide) (fun F hF => alg_7 HP.out HQ.out hF)
  have G := Lib.hid (is_any 27 28 u7 HWW.out HS33.out g1 g2)
  clear g1 g2
  refine G.out.mono ?_
  rintro e v34 ⟨rfl, st⟩
  have HS34 := Lib.hid st
  clear st HS33 G
  go_wp2_with (fail)
  refine (op2_any 16 0 1 20 HWW.out HS34.out (by decide) (alg_mk29_16_0_1 W) (tmOk (by decide))).mono ?_
  rintro e v35 ⟨rfl, st⟩
  have HS35 := Lib.hid st
  clear st HS34
  go_wp2_with (fail)
  refine (op3_any 10 20 0 1 29 HWW.out HS35.out (by decide) (alg_mk29_10_20_0_1 W) (tmOk (by decide))).mono ?_
  rintro e v36 ⟨rfl, st⟩
  have HS36 := Lib.hid st
  clear st HS35
  go_wp2_with (fail)
  obtain ⟨u8, g1, g2⟩ := alg_ev (W := W) HX.out HY.out HZ.out HP.out HQ.out 30 29 1 (by decide) (by decide) (by decide) (fun F hF => alg_8  hF)
  have G := Lib.hid (is_any 29 1 u8 HWW.out HS36.out g1 g2)
  clear g1 g2
  refine G.out.mono ?_
  rintro e v37 ⟨rfl, st⟩
  have HS37 := Lib.hid st
  clear st HS36 G
  go_wp2_with (fail)
  refine (op3_any 10 3 0 1 30 HWW.out HS37.out (by decide) (alg_mk30_10_3_0_1 W) (tmOk (by decide))).mono ?_
  rintro e v38 ⟨rfl, st⟩
  have HS38 := Lib.hid st
  clear st HS37
  go_wp2_with (fail)
  refine (op2_any 17 30 2 31 HWW.out HS38.out (by decide) (alg_mk31_17_30_2 W) (tmOk (by decide))).mono ?_
  rintro e v39 ⟨rfl, st⟩
  have HS39 := Lib.hid st
  clear st HS38
  go_wp2_with (fail)
  refine (op2_any 17 0 2 32 HWW.out HS39.out (by decide) (alg_mk32_17_0_2 W) (tmOk (by decide))).mono ?_
  rintro e v40 ⟨rfl, st⟩
  have HS40 := Lib.hid st
  clear st HS39
  go_wp2_with (fail)
  refine (op2_any 17 1 2 33 HWW.out HS40.out (by decide) (alg_mk33_17_1_2 W) (tmOk (by decide))).mono ?_
  rintro e v41 ⟨rfl, st⟩
  have HS41 := Lib.hid st
  clear st HS40
  go_wp2_with (fail)
  refine (op3_any 15 3 32 33 34 HWW.out HS41.out (by decide) (alg_mk34_15_3_32_33 W) (tmOk (by decide))).mono ?_
  rintro e v42 ⟨rfl, st⟩
  have HS42 := Lib.hid st
  clear st HS41
  go_wp2_with (fail)
  obtain ⟨u9, g1, g2⟩ := alg_ev (W := W) HX.out HY.out HZ.out HP.out HQ.out 35 31 34 (by decide) (by decide) (by decide) (fun F hF => alg_9  hF)
  have G := Lib.hid (is_any 31 34 u9 HWW.out HS42.out g1 g2)
  clear g1 g2
  refine G.out.mono ?_
  rintro e v43 ⟨rfl, st⟩
  have HS43 := Lib.hid st
  clear st HS42 G
  go_wp2_with (fail)
  go_ret
  exact ⟨rfl, HS43.out.bel⟩
theorem law_algebra (W a b c : Int) (w : World) (ht : TabS w) (hW : (Lit.int .i64 W).wf = true) : Calls Tryd.prog 8 #[.int .i64 W, .int .i64 a, .int .i64 b, .int .i64 c] w fun e w' => e = .returned (.bool true) ∧ Below w.heap.size w w' := by
  by_cases h : W < 2 ∨ 8 < W
  · exact algebra_out W a b c (w64 (wf_int hW)) w ht h
  · exact algebra_in W a b c w ht h
end Go.Proofs.YtlnpgcdgpahdmaaDoor
