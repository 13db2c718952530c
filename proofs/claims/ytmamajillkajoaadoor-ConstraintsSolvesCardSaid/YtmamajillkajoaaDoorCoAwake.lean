/- What is proved: the laws of constraints are awake (NOT CLEAN). -/
import Derived.Test.YtmamajillkajoaaDoorCoRest
set_option linter.unusedVariables false
namespace Go.Proofs.YtmamajillkajoaaDoor
open Go.RowKit Go.Shelf

set_option maxRecDepth 100000 in
set_option maxHeartbeats 1000000 in
theorem awake_any (w : World) : Calls Tryd.prog 5 #[] w fun e w' => e = .returned (.bool true) ∧ Below w.heap.size w w' := by
  have HEX := Lib.hid (fun W => example_any W)
  have HSL := Lib.hid (fun (W : World) (b : Nat) (c : Nat) (l : List Con) (h1 : ∀ x ∈ l, ConOk x) (h2 : l.all (posB 3) = true) (h3 : ((3 : Nat) : Int) + (mkSum l (clss l 3 3) : Int) < 1000000000) (h4 : l.length ≤ 1000000) (h5 : CRow W.heap.size W (some ⟨b, 0, none⟩) l) => solve_any 3 (by decide) (some ⟨b, 0, none⟩) c l W h4 h5 h1 h2 h3)
  go_enter Tryd.func5, Tryd.ntmps5
  go_wp2_with (fail)
  refine (HEX.out w).mono ?_
  rintro e w1 ⟨rfl, ⟨cs1, hc1, hl1⟩, hb1⟩
  have HC1 := Lib.hid hc1
  have HB1 := Lib.hid hb1
  have HS1 := Lib.hid (HSL.out w1 w.heap.size 5 exL exL_ok exL_pos (of_decide_eq_true exL_sum) (by decide) (crow_of hc1 hl1))
  clear hc1 hb1 hl1
  go_wp2_with (fail)
  refine Calls.mono (show Calls Tryd.prog _ #[.int .i64 3, .slice (some ⟨w.heap.size, 0, none⟩) 5 5] w1 _ from HS1.out) ?_
  rintro e w2 ⟨tb1, Y1, d1, g1, B1, rfl, htl1, hta1, hBl1, hlo1, hb2⟩
  have HT1 := Lib.hid (exL_row hta1)
  have hlr := hlo1.lrow
  rw [ex_chain] at hlr
  have HL1 := Lib.hid hlr
  have hlen1 : (slvC exL 3).length = 1 := by rw [ex_chain]; rfl
  have HB2 := Lib.hid (HB1.out.trans (hb2.mono HB1.out.size))
  rw [hlen1]
  clear hta1 hlo1 hb2 htl1 hBl1 HS1 HC1 HB1 hlr hlen1
  go_wp2_with (fail)
  go_region_law (first
    | (refine step_append_by (by rfl) _ _ 22 22 (by rfl) _ _ (by rfl) (by rfl) _ _ HRUN.out ?_)
    | (go_simp; go_at_call 13; have HC3x := HC3.out; refine (HEX.out _).mono ?_; rintro e w4 ⟨rfl, ⟨cs4, hc4, hl4⟩, hb4⟩; replace hb4 : Below w3.heap.size w3 w4 := (by first | exact hb4 | exact (Below.refl w3.heap.size w3).drew.trans hb4); obtain ⟨x0, x1, x2, x3, x4, x5, x6, x7⟩ := ex_last hc4 hl4; obtain ⟨R, cap, w5, hrun, hcrow, hb5⟩ := rest_run HC3.out.1 HC3.out.2 HB3.out hb4; have HRUN := Lib.hid hrun; have HCR := Lib.hid hcrow; have HB5 := Lib.hid (HB2.out.trans (hb5.mono HB2.out.size)); have HB25 := Lib.hid hb5; clear hb4 hrun hcrow hb5)
    | (go_simp; go_at_call 13; refine (HEX.out _).mono ?_; rintro e w3 ⟨rfl, ⟨cs3, hc3, hl3⟩, hb3⟩; have HC3 := Lib.hid (show w3.heap[w2.heap.size]? = some (.cells cs3 41 (0, 0)) ∧ cs3.toList = ccs exL from ⟨hc3, hl3⟩); have HB3 := Lib.hid (show Below w2.heap.size w2 w3 from by first | exact hb3 | exact (Below.refl w2.heap.size w2).drew.trans hb3); clear hc3 hl3 hb3))
  all_goals
    have HS2 := Lib.hid (HSL.out w5 R cap exM exM_ok exM_pos (of_decide_eq_true exM_sum) (by decide) HCR.out)
    clear HCR HEX HSL HRUN x0 x1 x2 x3 x4 x5 x6 x7 hc4 hl4 HC3 HC3x HB3
    go_simp
    go_wp2_with (fail)
    refine Calls.mono (show Calls Tryd.prog _ #[.int .i64 3, .slice (some ⟨R, 0, none⟩) 4 cap] w5 _ from HS2.out) ?_
    rintro e w6 ⟨tb2, Y2, d2, g2, B2, rfl, htl2, hta2, hBl2, hlo2, hb6⟩
    have hlen2 : (slvC exM 3).length = 0 := by rw [ex_none]; rfl
    rw [hlen2]
    have HT2 := Lib.hid (exM_row hta2)
    have HB6 := Lib.hid (HB5.out.trans (hb6.mono HB5.out.size))
    have HT1' := Lib.hid ((HT1.out.later HB25.out).later hb6)
    have HL1' := Lib.hid (lrow_later (lrow_later HL1.out HB25.out) hb6)
    clear hta2 hlo2 hb6 htl2 hBl2 HS2 hlen2 HT1 HL1 HB25
    obtain ⟨mc, HMC⟩ : ∃ mc, Hid (madeCells #[.int .i64 0, .int .i64 0, .string ⟨#[]⟩] (3 * 3) = mc) := ⟨_, Lib.hid rfl⟩
    have hmt : ∀ W : World, (Instr.makeSlice 26 (.int .i64 3) (.int .i64 3)).run Tryd.prog W = .ok (.slice (some ⟨W.heap.size, 0, none⟩) 3 3) (W.alloc (.cells mc 39)) := fun W => by rw [← HMC.out]; exact co_make_ty 3 (by decide) W
    have HMC2 := Lib.hid (HMC.out.symm.trans made9)
    clear HMC
    have hba := (Below.refl w6.heap.size w6).alloc (Nat.le_refl _) tBox
    have hz7 : ((w6.alloc tBox).alloc (.cells mc 39)).heap.size = w6.heap.size + 2 := by simp
    have hb7 := hba.alloc (by simp) (.cells mc 39)
    have hn7 := heap_alloc_new (w6.alloc tBox) (.cells mc 39)
    rw [World.size_alloc] at hn7
    have hx7 : ((w6.alloc tBox).alloc (.cells mc 39)).heap[w6.heap.size]? = some (.cells #[.int .i64 1, .int .i64 0, .string ⟨#[]⟩] 39 (0, 0)) := (heap_alloc_old _ _ (by simp)).trans (heap_alloc_new w6 tBox)
    have HE1 := Lib.hid (typesEq_any (some ⟨tb1, 0, none⟩) (some ⟨w6.heap.size + 1, 0, none⟩) 3 3 [noT, noT, noT] ((w6.alloc tBox).alloc (.cells mc 39)) (HT1'.out.later hb7) (trow3 hn7 HMC2.out) (by decide))
    have HB7 := Lib.hid hb7
    have HX7 := Lib.hid hx7
    clear hba hz7 hb7 hn7 hx7 HT1'
    go_wp2_with (fail)
    clear hmt
    refine Calls.mono (show Calls Tryd.prog 8 #[.slice (some ⟨tb1, 0, none⟩) 3 3, .slice (some ⟨w6.heap.size + 1, 0, none⟩) 3 3] ((w6.alloc tBox).alloc (.cells mc 39)) _ from HE1.out) ?_
    rintro e w7 ⟨rfl, n7, hw7⟩
    have hb7' : Below w6.heap.size w6 w7 := by rw [hw7]; exact co_drewN HB7.out n7
    have hx7' : w7.heap[w6.heap.size]? = some (.cells #[.int .i64 1, .int .i64 0, .string ⟨#[]⟩] 39 (0, 0)) := by rw [hw7]; exact HX7.out
    have HB67 := Lib.hid hb7'
    have HX67 := Lib.hid hx7'
    clear hw7 hb7' hx7' HB7 HX7 HE1
    have hl1 := (Below.refl w7.heap.size w7).alloc (Nat.le_refl _) (.cells #[.int .i64 0, .int .i64 4, .int .i64 3] 3)
    have hl2 := hl1.alloc (by simp) (.cells #[.slice (some ⟨w7.heap.size, 0, none⟩) 3 3] 23)
    have hq1 : ((w7.alloc (.cells #[.int .i64 0, .int .i64 4, .int .i64 3] 3)).alloc (.cells #[.slice (some ⟨w7.heap.size, 0, none⟩) 3 3] 23)).heap[w7.heap.size]? = some (.cells #[.int .i64 0, .int .i64 4, .int .i64 3] 3 (0, 0)) := (heap_alloc_old _ _ (by simp)).trans (heap_alloc_new w7 _)
    have hq2 := heap_alloc_new (w7.alloc (.cells #[.int .i64 0, .int .i64 4, .int .i64 3] 3)) (.cells #[.slice (some ⟨w7.heap.size, 0, none⟩) 3 3] 23)
    rw [World.size_alloc] at hq2
    have HE2 := Lib.hid (listsEq_any Y1 (some ⟨w7.heap.size + 1, 0, none⟩) d1 1 [[0, 4, 3]] _ (lrow_later (lrow_later HL1'.out HB67.out) hl2) (lrow_lit w7 _ hq1 hq2) (by decide) (fun x hx => by simp at hx; subst hx; decide))
    have HL8 := Lib.hid hl2
    clear hl1 hl2 hq1 hq2 HL1'
    go_wp2_with (fail)
    refine Calls.mono (show Calls Tryd.prog 9 #[.slice Y1 1 d1, .slice (some ⟨w7.heap.size + 1, 0, none⟩) 1 1] _ _ from HE2.out) ?_
    rintro e w9 ⟨rfl, hb9⟩
    have hb79 := HL8.out.trans (hb9.mono HL8.out.size)
    have hb69 := HB67.out.trans (hb79.mono HB67.out.size)
    have hx9 := (hb79.block _ (Array.getElem?_eq_some_iff.1 HX67.out).1).trans HX67.out
    have y0 := Lib.cell_of_heap hx9 0
    have y1 := Lib.cell_of_heap hx9 1
    have y2 := Lib.cell_of_heap hx9 2
    have ha9 := (Below.refl w9.heap.size w9).alloc (Nat.le_refl _) (.cells #[.int .i64 tInt.kind, .int .i64 tInt.len, .string tInt.nm, .int .i64 tInt.kind, .int .i64 tInt.len, .string tInt.nm, .int .i64 tInt.kind, .int .i64 tInt.len, .string tInt.nm] 39)
    have hn9 := heap_alloc_new w9 (.cells #[.int .i64 tInt.kind, .int .i64 tInt.len, .string tInt.nm, .int .i64 tInt.kind, .int .i64 tInt.len, .string tInt.nm, .int .i64 tInt.kind, .int .i64 tInt.len, .string tInt.nm] 39)
    have HE3 := Lib.hid (typesEq_any (some ⟨tb2, 0, none⟩) (some ⟨w9.heap.size, 0, none⟩) 3 3 [tInt, tInt, tInt] _ ((HT2.out.later hb69).later ha9) (trow3 hn9 rfl) (by decide))
    have HB9 := Lib.hid (HB6.out.trans ((hb69.trans (ha9.mono hb69.size)).mono HB6.out.size))
    clear hb9 hb79 hb69 hx9 ha9 hn9 HE2 HL8 HB67 HX67
    go_wp2_with (fail)
    refine Calls.mono (show Calls Tryd.prog 8 #[.slice (some ⟨tb2, 0, none⟩) 3 3, .slice (some ⟨w9.heap.size, 0, none⟩) 3 3] (w9.alloc (.cells #[.int .i64 tInt.kind, .int .i64 tInt.len, .string tInt.nm, .int .i64 tInt.kind, .int .i64 tInt.len, .string tInt.nm, .int .i64 tInt.kind, .int .i64 tInt.len, .string tInt.nm] 39)) _ from HE3.out) ?_
    rintro e w10 ⟨rfl, n10, rfl⟩
    go_wp2_with (fail)
    go_ret
    exact ⟨rfl, co_drewN HB9.out n10⟩
end Go.Proofs.YtmamajillkajoaaDoor
