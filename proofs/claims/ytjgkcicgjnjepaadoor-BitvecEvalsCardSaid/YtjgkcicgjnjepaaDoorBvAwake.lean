/- What is proved: the example that each law of bitvec checks first. -/
import Derived.Test.YtjgkcicgjnjepaaDoorBvInps
import Derived.Test.YtjgkcicgjnjepaaDoorBvMake2
set_option linter.unusedVariables false
namespace Go.Proofs.YtjgkcicgjnjepaaDoor
open Go.RowKit Go.Maps

def I64ob (a : Int) : Bool := (Lit.int .i64 a).wf
theorem tmOk {x : Tm} (h : (I64ob x.op && I64ob x.v && I64ob x.a && I64ob x.b && I64ob x.c) = true) : TmOk x := by
  simp only [Bool.and_eq_true] at h
  exact ⟨h.1.1.1.1, h.1.1.1.2, h.1.1.2, h.1.2, h.2⟩
theorem MkRes.later {n₀ tb mb : Nat} {rv rv' : Value} {W : Int} {l : List Tm} {x : Tm} {w0 w w' : World} (h : MkRes n₀ tb mb rv W l x w w' rv') (hn : w0.heap.size ≤ n₀) (ht : Tab w n₀ tb mb rv W l) (hb : Below w0.heap.size w0 w) : Below w0.heap.size w0 w' :=
  hb.trans (h.fr.below hb.size fun k hk => Nat.le_trans hn (ht.lt hk).1)
def exT1 : Tm := ⟨0, 0, 0, 0, 0⟩
def exT2 : Tm := ⟨2, 1, 0, 0, 0⟩
def exT3 : Tm := ⟨5, 0, 0, 1, 0⟩
theorem ex_mk1 : mkL 3 [] exT1 = [exT1] ∧ mkN 3 [] exT1 = 0 ∧ mkE 3 [] exT1 = 0 := by decide +kernel
theorem ex_mk2 : mkL 3 [exT1] exT2 = [exT1, exT2] ∧ mkN 3 [exT1] exT2 = 1 ∧ mkE 3 [exT1] exT2 = 0 := by decide +kernel
theorem ex_mk3 : mkL 3 [exT1, exT2] exT3 = [exT1, exT2, exT3] ∧ mkN 3 [exT1, exT2] exT3 = 2 ∧ mkE 3 [exT1, exT2] exT3 = 0 := by decide +kernel
theorem ex_ev : evP 3 [exT1, exT2, exT3] 2 [3] = (-4, 0) := by decide +kernel
theorem ex_div : divQ 3 (-4) (-1) = -4 ∧ divR 3 (-4) (-1) = 0 ∧ wrpP 3 5 = -3 := by decide +kernel
theorem ex_sort : sortV [exT1, exT2, exT3] 2 = 0 ∧ nodeB [exT1, exT2, exT3] 2 = true := by decide +kernel
theorem ex_size : (prtZ [exT1, exT2, exT3] 2).length = 3 ∧ (inpN [exT1, exT2, exT3] 2).length = 1 := by decide +kernel
theorem one_row (w : World) (n : Int) : ZRow (w.alloc (.cells #[.int .i64 n] 3)).heap.size (w.alloc (.cells #[.int .i64 n] 3)) (some ⟨w.heap.size, 0, none⟩) [n] := fun _ => by
  refine ⟨w.heap.size, 0, rfl, by simp, fun i hi => ?_⟩
  have : i = 0 := by simp at hi; omega
  subst this
  exact Lib.cell_of_heap (heap_alloc_new w _) 0
set_option maxRecDepth 100000 in
set_option maxHeartbeats 2000000 in
theorem awake_any (w : World) (ht : TabS w) : Calls Tryd.prog 4 #[] w fun e w' => e = .returned (.bool true) ∧ Below w.heap.size w w' := by
  have HT := Lib.hid ht
  have HW3 := Lib.hid (show ¬ ((3 : Int) < 2 ∨ 8 < (3 : Int)) by decide)
  have HN := Lib.hid (new_any 3 HW3.out w)
  have HDV := Lib.hid (fun w => divide_any 3 (-4) (-1) (by decide) w)
  rw [ex_div.1, ex_div.2.1] at HDV
  have HWR := Lib.hid (fun w => wrap_any 3 5 (by decide) w)
  rw [ex_div.2.2] at HWR
  clear ht
  go_enter Tryd.func4, Tryd.ntmps4
  go_wp2_with (fail)
  refine HN.out.mono ?_
  rintro e w1 ⟨tb, mb, rfl, ht1, hb1⟩
  have HT1 := Lib.hid ht1
  have HB1 := Lib.hid hb1
  have HM1 := Lib.hid (make_any exT1 ht1 (tmOk (by decide)) (HT.out.later hb1) HW3.out (by decide))
  rw [ex_mk1.2.1, ex_mk1.2.2] at HM1
  clear ht1 hb1 HN
  dsimp only [exT1] at HM1
  go_wp2_with (fail)
  refine HM1.out.mono ?_
  rintro e w2 ⟨rfl, rv2, hm⟩
  have HB2 := Lib.hid (hm.later (Nat.le_refl _) HT1.out HB1.out)
  have ht2 := hm.tab
  rw [show mkL 3 [] (⟨0, 0, 0, 0, 0⟩ : Tm) = [exT1] from ex_mk1.1] at ht2
  have HT2 := Lib.hid ht2
  have HM2 := Lib.hid (make_any exT2 ht2 (tmOk (by decide)) (HT.out.later HB2.out) HW3.out (by decide))
  rw [ex_mk2.2.1, ex_mk2.2.2] at HM2
  clear ht2 hm HM1 HT1
  dsimp only [exT2] at HM2
  go_wp2_with (fail)
  refine HM2.out.mono ?_
  rintro e w3 ⟨rfl, rv3, hm⟩
  have HB3 := Lib.hid (hm.later (Nat.le_refl _) HT2.out HB2.out)
  have ht3 := hm.tab
  rw [show mkL 3 [exT1] (⟨2, 1, 0, 0, 0⟩ : Tm) = [exT1, exT2] from ex_mk2.1] at ht3
  have HT3 := Lib.hid ht3
  have HM3 := Lib.hid (make_any exT3 ht3 (tmOk (by decide)) (HT.out.later HB3.out) HW3.out (by decide))
  rw [ex_mk3.2.1, ex_mk3.2.2] at HM3
  clear ht3 hm HM2 HT2
  dsimp only [exT3] at HM3
  go_wp2_with (fail)
  refine HM3.out.mono ?_
  rintro e w4 ⟨rfl, rv4, hm⟩
  have HB4 := Lib.hid (hm.later (Nat.le_refl _) HT3.out HB3.out)
  have ht4 := hm.tab
  rw [show mkL 3 [exT1, exT2] (⟨5, 0, 0, 1, 0⟩ : Tm) = [exT1, exT2, exT3] from ex_mk3.1] at ht4
  have hba := (Below.refl w4.heap.size w4).alloc (Nat.le_refl _) (.cells #[.int .i64 3] 3)
  have HB5 := Lib.hid (HB4.out.trans (hba.mono HB4.out.size))
  have HT5 := Lib.hid (ht4.later hba)
  have HEV := Lib.hid (eval_any 2 _ 1 [3] HT5.out (HT.out.later HB5.out) HW3.out (one_row w4 3))
  rw [ex_ev] at HEV
  clear ht4 hm HM3 HT3 hba
  go_wp2_with (fail)
  refine HEV.out.mono ?_
  rintro e w6 ⟨rfl, hb6⟩
  have HB6 := Lib.hid (HB5.out.trans (hb6.mono HB5.out.size))
  have HT6 := Lib.hid (HT5.out.later hb6)
  clear hb6 HEV
  go_wp2_with (fail)
  refine (HDV.out _).mono ?_
  rintro e wx ⟨rfl, m, rfl⟩
  have HB7 := Lib.hid (HB6.out.trans ((drewN_below w6 m).mono HB6.out.size))
  have HT7 := Lib.hid (HT6.out.later (drewN_below w6 m))
  generalize w6.drewN m = w7 at *
  have HSO := Lib.hid (sort_any 2 HT7.out (HT.out.later HB7.out))
  rw [ex_sort.1, ex_sort.2] at HSO
  go_wp2_with (fail)
  refine HSO.out.mono ?_
  rintro e w8 ⟨rfl, hb8⟩
  have HB8 := Lib.hid (HB7.out.trans (hb8.mono HB7.out.size))
  have HT8 := Lib.hid (HT7.out.later hb8)
  have HL := Lib.hid (len_any HT8.out)
  have HWI := Lib.hid (width_any HT8.out)
  have HSZ := Lib.hid (size_any 2 HT8.out (HT.out.later HB8.out))
  rw [ex_size.1] at HSZ
  clear hb8 HSO
  go_wp2_with (fail)
  refine (HWR.out _).mono ?_
  rintro e wx ⟨rfl, hx⟩
  obtain rfl := hx.symm
  go_wp2_with (fail)
  refine HL.out.mono ?_
  rintro e wx ⟨rfl, hx⟩
  obtain rfl := hx.symm
  go_wp2_with (fail)
  refine HWI.out.mono ?_
  rintro e wx ⟨rfl, hx⟩
  obtain rfl := hx.symm
  go_wp2_with (fail)
  refine HSZ.out.mono ?_
  rintro e w9 ⟨rfl, hb9⟩
  have HB9 := Lib.hid (HB8.out.trans (hb9.mono HB8.out.size))
  have HT9 := Lib.hid (HT8.out.later hb9)
  have HIN := Lib.hid (inputs_any 2 HT9.out (HT.out.later HB9.out))
  rw [ex_size.2] at HIN
  clear hb9 HSZ
  go_wp2_with (fail)
  refine HIN.out.mono ?_
  rintro e w10 ⟨A, c, rfl, _, hb10⟩
  have HB10 := Lib.hid (HB9.out.trans (hb10.mono HB9.out.size))
  clear hb10 HIN
  go_wp2_with (fail)
  go_ret
  exact ⟨rfl, HB10.out⟩
end Go.Proofs.YtjgkcicgjnjepaaDoor
