/- What is proved: the reference's parser: parameters, procedure. -/
import Derived.Test.YtnpcfmoiiecadaaDoorParStops
import Derived.Test.YtnpcfmoiiecadaaDoorLxRefWords
import Derived.Deep.LoopGhost
import Derived.Test.YtnpcfmoiiecadaaDoorParArgs
import Derived.Test.YtnpcfmoiiecadaaDoorParLoop
set_option linter.unusedVariables false
namespace Go.Proofs.YtnpcfmoiiecadaaDoor.Par
open Go.RowKit
open Lx (Tok)

def bgS : List ByteArray := [(⟨#[118, 97, 114]⟩ : ByteArray), (⟨#[105, 102]⟩ : ByteArray), (⟨#[119, 104, 105, 108, 101]⟩ : ByteArray), (⟨#[102, 111, 114]⟩ : ByteArray), (⟨#[114, 101, 116, 117, 114, 110]⟩ : ByteArray), (⟨#[97, 115, 115, 101, 114, 116]⟩ : ByteArray)]
set_option maxRecDepth 100000 in
set_option maxHeartbeats 2000000 in
theorem begins_any {B0 bp : Nat} {E : Env} {w : World} {p : St} (h : PIs B0 bp E w p) :
    Calls Tryd.prog 86 #[.pointer (some ⟨bp, 0, none⟩)] w fun e w' => e = .returned (.bool (begins E p)) ∧ Below w.heap.size w w' := by
  have HK := Lib.hid (kind_any h)
  have HP := Lib.hid h
  clear h
  unfold ptr at *
  by_cases h1 : knd E p = 1
  · have HE := Lib.hid (show begins E p = Lx.hasB bgS (wd E p.k) from by unfold begins; rw [h1]; rfl)
    rw [h1] at HK
    clear h1
    go_enter Tryd.func86, Tryd.ntmps86
    go_wp2_with (fail)
    refine HK.out.mono ?_
    rintro e w1 ⟨rfl, hb1⟩
    have HP1 := Lib.hid (HP.out.later hb1)
    have HB1 := Lib.hid hb1
    have hal : Below w1.heap.size w1 (w1.alloc (.cells (Lx.scells bgS).toArray 9)) := (Below.refl _ _).alloc (Nat.le_refl _) _
    have HNX := Lib.hid (next_any (HP1.out.later hal))
    have HS := Lib.hid (Lx.lit_strs w1 bgS 9)
    have HAL := Lib.hid hal
    clear hb1 hal
    unfold ptr at *
    dsimp only [bgS, Lx.scells, List.map_cons, List.map_nil] at HNX HS HAL
    go_wp2_with (fail)
    refine HNX.out.mono ?_
    rintro e w2 ⟨rfl, hb2⟩
    have HB2 := Lib.hid (HB1.out.trans ((HAL.out.trans (hb2.mono HAL.out.size)).mono HB1.out.size))
    have HH := Lib.hid (Lx.has_any (some ⟨w1.heap.size, 0, none⟩) 6 bgS (wd E p.k) w2 (by decide) (HS.out.below hb2))
    clear hb2
    go_wp2_with (fail)
    refine HH.out.mono ?_
    rintro e w3 ⟨rfl, rfl⟩
    go_wp2_with (fail)
    go_ret
    exact ⟨by rw [HE.out]; rfl, HB2.out⟩
  · have HE := Lib.hid (show begins E p = false from by unfold begins; rw [show (knd E p == 1) = false from by simpa using h1]; rfl)
    have hk : (knd E p == 1) = false := by simpa using h1
    clear h1
    go_enter Tryd.func86, Tryd.ntmps86
    go_wp2_with (fail)
    refine HK.out.mono ?_
    rintro e w1 ⟨rfl, hb1⟩
    have HB1 := Lib.hid hb1
    clear hb1
    go_wp2_with (fail)
    go_ret
    exact ⟨by rw [HE.out]; rfl, HB1.out⟩
theorem begins_at {B0 bp : Nat} {E : Env} {w : World} {p : St} (h : PIs B0 bp E w p) {b : Bool} (hx : begins E p = b) :
    Calls Tryd.prog 86 #[.pointer (some ⟨bp, 0, none⟩)] w fun e w' => e = .returned (.bool b) ∧ Below w.heap.size w w' := by
  have := begins_any h; rw [hx] at this; exact this
theorem stops_at {B0 bp : Nat} {E : Env} {w : World} {p : St} (h : PIs B0 bp E w p) {b : Bool} (hx : stops E p = b) :
    Calls Tryd.prog 64 #[.pointer (some ⟨bp, 0, none⟩)] w fun e w' => e = .returned (.bool b) ∧ Below w.heap.size w w' := by
  have := stops_any h; rw [hx] at this; exact this
theorem stops_kind {E : Env} {p : St} (h : stops E p = false) : knd E p ≠ 5 := fun e => by unfold stops at h; rw [e] at h; simp at h
theorem eqS_val (a : ByteArray) {b : Bool} (h : eqS a (⟨#[59]⟩ : ByteArray) = b) : (a.toList == [59]) = b := by
  rw [← h]; unfold eqS; rw [show ((⟨#[59]⟩ : ByteArray)).toList = [59] from by rw [ByteArray.toList_eq]]

set_option maxRecDepth 100000 in
set_option maxHeartbeats 4000000 in
theorem skipped_any {B0 bp : Nat} {E : Env} {w : World} {p : St} (h : PIs B0 bp E w p) {m : NT} {q : St} (hm : skipped E p = some (m, q)) :
    Calls Tryd.prog 76 #[.pointer (some ⟨bp, 0, none⟩)] w fun e w' => Got B0 bp w.heap.size E w m q e w' := by
  have HF := Lib.hid h.ok.1
  have HB0 := Lib.hid h.b0
  have HP := Lib.hid h
  have HM := Lib.hid hm
  clear h hm
  unfold ptr at *
  go_enter Tryd.func76, Tryd.ntmps76
  have hb0 := (Below.refl w.heap.size w).alloc (Nat.le_refl _) (.cells #[.int .i64 0, .string ⟨#[]⟩, .int .i64 0, .int .i64 0, .slice none 0 0] 31)
  have hz0 : ZB (w.alloc (.cells #[.int .i64 0, .string ⟨#[]⟩, .int .i64 0, .int .i64 0, .slice none 0 0] 31)) w.heap.size := heap_alloc_new w _
  have HP0 := Lib.hid (HP.out.later hb0)
  have HF0 := Lib.hid (Fr.of_below hb0 HB0.out)
  have HZ0 := Lib.hid hz0
  have c0 := HP0.out.c2
  clear hb0 hz0
  go_wp2_with (fail)
  clear c0
  generalize (w.alloc (.cells #[.int .i64 0, .string ⟨#[]⟩, .int .i64 0, .int .i64 0, .slice none 0 0] 31)) = w0 at *
  refine (report_any HP0.out 6 (⟨#[]⟩ : ByteArray)).mono ?_
  rintro e w1 ⟨rfl, hp1, hf1⟩
  have HP1 := Lib.hid hp1
  have HF1 := Lib.hid (HF0.out.trans hf1)
  have HZ1 := Lib.hid (HZ0.out.fr hf1)
  clear hp1 hf1 HF0 HZ0 HP0
  go_wp2_with (fail)
  go_loopg [11] (fuel E) (fun f s11 wr => ∃ (st : St), Hid (PIs B0 bp E wr st) ∧ Hid (Fr B0 w wr) ∧ Hid (ZB wr w.heap.size) ∧ Hid ((skipT E p.k f st).map (fun q => (mkN E q p.k 1 (⟨#[]⟩ : ByteArray) [], q)) = some (m, q)))
  case atStart => exact ⟨_, HP1, HF1, HZ1, Lib.hid HM.out⟩
  case round =>
    obtain ⟨st, hps, hfs, hzs, hsk⟩ := hrel
    obtain ⟨f', rfl⟩ : ∃ f', gk = f' + 1 := by
      cases gk with
      | zero => have h9 := hsk.out; simp [skipT] at h9
      | succ f' => exact ⟨f', rfl⟩
    cases hss : stops E st with
    | true =>
      have HFIN := Lib.hid (show mkN E st p.k 1 (⟨#[]⟩ : ByteArray) [] = m ∧ st = q from by
        have h9 := hsk.out
        simp only [skipT, hss, Bool.not_true, Bool.false_and, Bool.false_eq_true, if_false, Option.map_some, Option.some.injEq, Prod.mk.injEq] at h9
        exact h9)
      have HST := Lib.hid hss
      clear hss
      go_wp2_with (fail)
      refine (stops_at hps.out HST.out).mono ?_
      rintro e wa ⟨rfl, hba⟩
      have HPa := Lib.hid (hps.out.later hba)
      have HFa := Lib.hid (hfs.out.trans (Fr.of_below hba hps.out.b0))
      have HZa := Lib.hid (hzs.out.fr (Fr.of_below hba hps.out.b0))
      clear hba
      go_wp2_with (fail)
      refine (node_leaf HPa.out (w.heap.size + 1) p.k 1 (⟨#[]⟩ : ByteArray) HF.out).mono ?_
      rintro e wc ⟨x, rfl, hst, hin, hpc, hfc⟩
      have HSX := Lib.hid (hst.trans HFIN.out.1)
      have HIX := Lib.hid hin
      have HPC := Lib.hid (show PIs B0 bp E wc q by rw [← HFIN.out.2]; exact hpc)
      have HFC := Lib.hid (HFa.out.trans hfc)
      have HZC := Lib.hid (HZa.out.fr hfc)
      clear hst hin hpc hfc
      obtain ⟨z0, z1, z2, z3, z4⟩ := HZC.out.cells
      have y0 := HZC.out.frozen 0
      have y1 := HZC.out.frozen 1
      have y2 := HZC.out.frozen 2
      have y3 := HZC.out.frozen 3
      have y4 := HZC.out.frozen 4
      go_wp2_with (fail)
      obtain ⟨hV, hin, hp, hf⟩ := got_put (w := w) (w2 := wc) (n := x) HB0.out HZC.out (Nat.le_refl _) HIX.out HPC.out HFC.out
      clear z0 z1 z2 z3 z4 y0 y1 y2 y3 y4
      dsimp only [putN] at hV hin hp hf
      generalize (((((wc.setCell ⟨w.heap.size, 0, none⟩ (.int .i64 x.kind)).setCell ⟨w.heap.size, 1, none⟩ (.string x.text)).setCell ⟨w.heap.size, 2, none⟩ (.int .i64 x.lo)).setCell ⟨w.heap.size, 3, none⟩ (.int .i64 x.hi)).setCell ⟨w.heap.size, 4, none⟩ (.slice x.A x.kids.length x.c)) = V at *
      have v0 := Lib.cell_of_heap hV 0
      have v1 := Lib.cell_of_heap hV 1
      have v2 := Lib.cell_of_heap hV 2
      have v3 := Lib.cell_of_heap hV 3
      have v4 := Lib.cell_of_heap hV 4
      exact bodyPost_ret (v := .agg #[.int .i64 x.kind, .string x.text, .int .i64 x.lo, .int .i64 x.hi, .slice x.A x.kids.length x.c]) (by simp [results, Tryd.results76, go_sem, v0, v1, v2, v3, v4]) rfl ⟨x, rfl, HSX.out, hin, hp, hf⟩
    | false =>
      have HST := Lib.hid hss
      by_cases hk : st.k = p.k
      · have hkb : ((st.k : Int) == (p.k : Int)) = true := by simp [hk]
        have HC := Lib.hid (show (st.k == p.k || !begins E st) = true from by simp [hk])
        clear hk
        go_wp2_with (fail)
        refine (stops_at hps.out HST.out).mono ?_
        rintro e wa ⟨rfl, hba⟩
        have HPb := Lib.hid (hps.out.later hba)
        have HFb := Lib.hid (hfs.out.trans (Fr.of_below hba hps.out.b0))
        have HZb := Lib.hid (hzs.out.fr (Fr.of_below hba hps.out.b0))
        have cc := HPb.out.c2
        clear hba
        go_wp2_with (fail)
        refine (read_any HPb.out (stops_kind HST.out)).mono ?_
        rintro e wr2 ⟨rfl, hpr, hfr⟩
        have HPR := Lib.hid hpr
        have HFR := Lib.hid (HFb.out.trans hfr)
        have HZR := Lib.hid (HZb.out.fr hfr)
        clear hpr hfr
        cases hse : eqS (wd E st.k) (⟨#[59]⟩ : ByteArray) with
        | true =>
          have hse2 := eqS_val _ hse
          have HFIN := Lib.hid (show mkN E (rd E st) p.k 1 (⟨#[]⟩ : ByteArray) [] = m ∧ rd E st = q from by
            have h9 := hsk.out
            simp only [skipT, hss, HC.out, hse, Bool.not_false, Bool.and_true, if_true, Option.map_some, Option.some.injEq, Prod.mk.injEq] at h9
            exact h9)
          clear hse
          go_wp2_with (fail)
          refine (node_leaf HPR.out (w.heap.size + 1) p.k 1 (⟨#[]⟩ : ByteArray) HF.out).mono ?_
          rintro e wc ⟨x, rfl, hst, hin, hpc, hfc⟩
          have HSX := Lib.hid (hst.trans HFIN.out.1)
          have HIX := Lib.hid hin
          have HPC := Lib.hid (show PIs B0 bp E wc q by rw [← HFIN.out.2]; exact hpc)
          have HFC := Lib.hid (HFR.out.trans hfc)
          have HZC := Lib.hid (HZR.out.fr hfc)
          clear hst hin hpc hfc
          obtain ⟨z0, z1, z2, z3, z4⟩ := HZC.out.cells
          have y0 := HZC.out.frozen 0
          have y1 := HZC.out.frozen 1
          have y2 := HZC.out.frozen 2
          have y3 := HZC.out.frozen 3
          have y4 := HZC.out.frozen 4
          go_wp2_with (fail)
          obtain ⟨hV, hin, hp, hf⟩ := got_put (w := w) (w2 := wc) (n := x) HB0.out HZC.out (Nat.le_refl _) HIX.out HPC.out HFC.out
          clear z0 z1 z2 z3 z4 y0 y1 y2 y3 y4
          dsimp only [putN] at hV hin hp hf
          generalize (((((wc.setCell ⟨w.heap.size, 0, none⟩ (.int .i64 x.kind)).setCell ⟨w.heap.size, 1, none⟩ (.string x.text)).setCell ⟨w.heap.size, 2, none⟩ (.int .i64 x.lo)).setCell ⟨w.heap.size, 3, none⟩ (.int .i64 x.hi)).setCell ⟨w.heap.size, 4, none⟩ (.slice x.A x.kids.length x.c)) = V at *
          have v0 := Lib.cell_of_heap hV 0
          have v1 := Lib.cell_of_heap hV 1
          have v2 := Lib.cell_of_heap hV 2
          have v3 := Lib.cell_of_heap hV 3
          have v4 := Lib.cell_of_heap hV 4
          exact bodyPost_ret (v := .agg #[.int .i64 x.kind, .string x.text, .int .i64 x.lo, .int .i64 x.hi, .slice x.A x.kids.length x.c]) (by simp [results, Tryd.results76, go_sem, v0, v1, v2, v3, v4]) rfl ⟨x, rfl, HSX.out, hin, hp, hf⟩
        | false =>
          have hse2 := eqS_val _ hse
          have HSK := Lib.hid (show (skipT E p.k f' (rd E st)).map (fun q => (mkN E q p.k 1 (⟨#[]⟩ : ByteArray) [], q)) = some (m, q) from by
            have h9 := hsk.out
            simp only [skipT, hss, HC.out, hse, Bool.not_false, Bool.and_true, if_true, if_false, Bool.false_eq_true] at h9
            exact h9)
          clear hse
          go_wp2_with (fail)
          go_roundg f'
          case measure => omega
          case rel => exact ⟨_, HPR, HFR, HZR, HSK⟩
      · have hkb : ((st.k : Int) == (p.k : Int)) = false := by simp; omega
        have HKB := Lib.hid (show (st.k == p.k) = false from by simpa using hk)
        clear hk
        go_wp2_with (fail)
        refine (stops_at hps.out HST.out).mono ?_
        rintro e wa ⟨rfl, hba⟩
        have HPa := Lib.hid (hps.out.later hba)
        have HFa := Lib.hid (hfs.out.trans (Fr.of_below hba hps.out.b0))
        have HZa := Lib.hid (hzs.out.fr (Fr.of_below hba hps.out.b0))
        have cc := HPa.out.c2
        clear hba
        go_wp2_with (fail)
        cases hbg : begins E st with
        | true =>
          have HFIN := Lib.hid (show mkN E st p.k 1 (⟨#[]⟩ : ByteArray) [] = m ∧ st = q from by
            have h9 := hsk.out
            simp only [skipT, hss, HKB.out, hbg, Bool.not_true, Bool.not_false, Bool.or_false, Bool.and_false, Bool.false_eq_true, if_false, Option.map_some, Option.some.injEq, Prod.mk.injEq] at h9
            exact h9)
          refine (begins_at HPa.out hbg).mono ?_
          rintro e wb ⟨rfl, hbb⟩
          have HPB := Lib.hid (HPa.out.later hbb)
          have HFB := Lib.hid (HFa.out.trans (Fr.of_below hbb HPa.out.b0))
          have HZB := Lib.hid (HZa.out.fr (Fr.of_below hbb HPa.out.b0))
          clear hbb hbg cc hss
          go_wp2_with (fail)
          refine (node_leaf HPB.out (w.heap.size + 1) p.k 1 (⟨#[]⟩ : ByteArray) HF.out).mono ?_
          rintro e wc ⟨x, rfl, hst, hin, hpc, hfc⟩
          have HSX := Lib.hid (hst.trans HFIN.out.1)
          have HIX := Lib.hid hin
          have HPC := Lib.hid (show PIs B0 bp E wc q by rw [← HFIN.out.2]; exact hpc)
          have HFC := Lib.hid (HFB.out.trans hfc)
          have HZC := Lib.hid (HZB.out.fr hfc)
          clear hst hin hpc hfc
          obtain ⟨z0, z1, z2, z3, z4⟩ := HZC.out.cells
          have y0 := HZC.out.frozen 0
          have y1 := HZC.out.frozen 1
          have y2 := HZC.out.frozen 2
          have y3 := HZC.out.frozen 3
          have y4 := HZC.out.frozen 4
          go_wp2_with (fail)
          obtain ⟨hV, hin, hp, hf⟩ := got_put (w := w) (w2 := wc) (n := x) HB0.out HZC.out (Nat.le_refl _) HIX.out HPC.out HFC.out
          clear z0 z1 z2 z3 z4 y0 y1 y2 y3 y4
          dsimp only [putN] at hV hin hp hf
          generalize (((((wc.setCell ⟨w.heap.size, 0, none⟩ (.int .i64 x.kind)).setCell ⟨w.heap.size, 1, none⟩ (.string x.text)).setCell ⟨w.heap.size, 2, none⟩ (.int .i64 x.lo)).setCell ⟨w.heap.size, 3, none⟩ (.int .i64 x.hi)).setCell ⟨w.heap.size, 4, none⟩ (.slice x.A x.kids.length x.c)) = V at *
          have v0 := Lib.cell_of_heap hV 0
          have v1 := Lib.cell_of_heap hV 1
          have v2 := Lib.cell_of_heap hV 2
          have v3 := Lib.cell_of_heap hV 3
          have v4 := Lib.cell_of_heap hV 4
          exact bodyPost_ret (v := .agg #[.int .i64 x.kind, .string x.text, .int .i64 x.lo, .int .i64 x.hi, .slice x.A x.kids.length x.c]) (by simp [results, Tryd.results76, go_sem, v0, v1, v2, v3, v4]) rfl ⟨x, rfl, HSX.out, hin, hp, hf⟩
        | false =>
          have HC := Lib.hid (show (st.k == p.k || !begins E st) = true from by rw [hbg]; simp)
          refine (begins_at HPa.out hbg).mono ?_
          rintro e wb ⟨rfl, hbb⟩
          have HPb := Lib.hid (HPa.out.later hbb)
          have HFb := Lib.hid (HFa.out.trans (Fr.of_below hbb HPa.out.b0))
          have HZb := Lib.hid (HZa.out.fr (Fr.of_below hbb HPa.out.b0))
          clear hbb hbg cc
          go_wp2_with (fail)
          refine (read_any HPb.out (stops_kind HST.out)).mono ?_
          rintro e wr2 ⟨rfl, hpr, hfr⟩
          have HPR := Lib.hid hpr
          have HFR := Lib.hid (HFb.out.trans hfr)
          have HZR := Lib.hid (HZb.out.fr hfr)
          clear hpr hfr
          cases hse : eqS (wd E st.k) (⟨#[59]⟩ : ByteArray) with
          | true =>
            have hse2 := eqS_val _ hse
            have HFIN := Lib.hid (show mkN E (rd E st) p.k 1 (⟨#[]⟩ : ByteArray) [] = m ∧ rd E st = q from by
              have h9 := hsk.out
              simp only [skipT, hss, HC.out, hse, Bool.not_false, Bool.and_true, if_true, Option.map_some, Option.some.injEq, Prod.mk.injEq] at h9
              exact h9)
            clear hse
            go_wp2_with (fail)
            refine (node_leaf HPR.out (w.heap.size + 1) p.k 1 (⟨#[]⟩ : ByteArray) HF.out).mono ?_
            rintro e wc ⟨x, rfl, hst, hin, hpc, hfc⟩
            have HSX := Lib.hid (hst.trans HFIN.out.1)
            have HIX := Lib.hid hin
            have HPC := Lib.hid (show PIs B0 bp E wc q by rw [← HFIN.out.2]; exact hpc)
            have HFC := Lib.hid (HFR.out.trans hfc)
            have HZC := Lib.hid (HZR.out.fr hfc)
            clear hst hin hpc hfc
            obtain ⟨z0, z1, z2, z3, z4⟩ := HZC.out.cells
            have y0 := HZC.out.frozen 0
            have y1 := HZC.out.frozen 1
            have y2 := HZC.out.frozen 2
            have y3 := HZC.out.frozen 3
            have y4 := HZC.out.frozen 4
            go_wp2_with (fail)
            obtain ⟨hV, hin, hp, hf⟩ := got_put (w := w) (w2 := wc) (n := x) HB0.out HZC.out (Nat.le_refl _) HIX.out HPC.out HFC.out
            clear z0 z1 z2 z3 z4 y0 y1 y2 y3 y4
            dsimp only [putN] at hV hin hp hf
            generalize (((((wc.setCell ⟨w.heap.size, 0, none⟩ (.int .i64 x.kind)).setCell ⟨w.heap.size, 1, none⟩ (.string x.text)).setCell ⟨w.heap.size, 2, none⟩ (.int .i64 x.lo)).setCell ⟨w.heap.size, 3, none⟩ (.int .i64 x.hi)).setCell ⟨w.heap.size, 4, none⟩ (.slice x.A x.kids.length x.c)) = V at *
            have v0 := Lib.cell_of_heap hV 0
            have v1 := Lib.cell_of_heap hV 1
            have v2 := Lib.cell_of_heap hV 2
            have v3 := Lib.cell_of_heap hV 3
            have v4 := Lib.cell_of_heap hV 4
            exact bodyPost_ret (v := .agg #[.int .i64 x.kind, .string x.text, .int .i64 x.lo, .int .i64 x.hi, .slice x.A x.kids.length x.c]) (by simp [results, Tryd.results76, go_sem, v0, v1, v2, v3, v4]) rfl ⟨x, rfl, HSX.out, hin, hp, hf⟩
          | false =>
            have hse2 := eqS_val _ hse
            have HSK := Lib.hid (show (skipT E p.k f' (rd E st)).map (fun q => (mkN E q p.k 1 (⟨#[]⟩ : ByteArray) [], q)) = some (m, q) from by
              have h9 := hsk.out
              simp only [skipT, hss, HC.out, hse, Bool.not_false, Bool.and_true, if_true, if_false, Bool.false_eq_true] at h9
              exact h9)
            clear hse
            go_wp2_with (fail)
            go_roundg f'
            case measure => omega
            case rel => exact ⟨_, HPR, HFR, HZR, HSK⟩
end Go.Proofs.YtnpcfmoiiecadaaDoor.Par
set_option linter.unusedVariables false
namespace Go.Proofs.YtnpcfmoiiecadaaDoor.Par
open Go.RowKit
open Lx (Tok)

theorem exq_yes {E : Env} {p : St} {x : ByteArray} (hx : isW E p x = true) : exq E p x = rd E p := by unfold exq; rw [if_pos hx]
theorem exq_no {E : Env} {p : St} {x : ByteArray} (hx : isW E p x = false) : exq E p x = rep E p 4 x := by unfold exq; rw [hx]; rfl
theorem LIn.start {lo : Nat} {B0 bp : Nat} {E : Env} {w w' : World} {v : Value} {st : St} (h : LIn lo w' v []) (hp : PIs B0 bp E w' st) (hf : Fr B0 w w') : Col B0 bp lo E w w' v [] [] st := ⟨h, rfl, hp, hf⟩
set_option maxRecDepth 100000 in
set_option maxHeartbeats 4000000 in
theorem blk_yes {B0 bp : Nat} {E : Env} {w : World} {p : St} (h : PIs B0 bp E w p) (hx : isW E p (⟨#[123]⟩ : ByteArray) = true) {R : Rec} (hstm : StmOK B0 bp E R) {m : NT} {q : St} (hm : (stmL E R (fuel E) [] (rd E p)).map (fun y => (mkN E (exq E y.2 (⟨#[125]⟩ : ByteArray)) p.k 11 (⟨#[]⟩ : ByteArray) y.1, exq E y.2 (⟨#[125]⟩ : ByteArray))) = some (m, q)) :
    Calls Tryd.prog 52 #[.pointer (some ⟨bp, 0, none⟩)] w fun e w' => Got B0 bp w.heap.size E w m q e w' := by
  obtain ⟨i0, hi0, hz0', hz1, hz2⟩ := info_parts infoNd
  have HF := Lib.hid h.ok.1
  have HB0 := Lib.hid h.b0
  have HP := Lib.hid h
  have HE := Lib.hid h.eok
  have HM := Lib.hid hm
  clear h hm
  unfold ptr at *
  go_enter Tryd.func52, Tryd.ntmps52
  have hbz := (Below.refl w.heap.size w).alloc (Nat.le_refl _) (.cells #[.int .i64 0, .string ⟨#[]⟩, .int .i64 0, .int .i64 0, .slice none 0 0] 31)
  have hb0 : Below w.heap.size w ((w.alloc (.cells #[.int .i64 0, .string ⟨#[]⟩, .int .i64 0, .int .i64 0, .slice none 0 0] 31)).alloc (.cells #[] 31)) := hbz.alloc (by simp) _
  have hz0 : ZB ((w.alloc (.cells #[.int .i64 0, .string ⟨#[]⟩, .int .i64 0, .int .i64 0, .slice none 0 0] 31)).alloc (.cells #[] 31)) w.heap.size := by
    have hx := heap_alloc_new w (.cells #[.int .i64 0, .string ⟨#[]⟩, .int .i64 0, .int .i64 0, .slice none 0 0] 31)
    exact (heap_alloc_old _ _ (by simp)).trans hx
  have hnb : ((w.alloc (.cells #[.int .i64 0, .string ⟨#[]⟩, .int .i64 0, .int .i64 0, .slice none 0 0] 31)).alloc (.cells #[] 31)).heap[w.heap.size + 1]? = some (.cells #[] 31 (0, 0)) := by
    have hx := heap_alloc_new (w.alloc (.cells #[.int .i64 0, .string ⟨#[]⟩, .int .i64 0, .int .i64 0, .slice none 0 0] 31)) (.cells #[] 31)
    rw [World.size_alloc] at hx
    exact hx
  have hs0 : w.heap.size + 1 ≤ ((w.alloc (.cells #[.int .i64 0, .string ⟨#[]⟩, .int .i64 0, .int .i64 0, .slice none 0 0] 31)).alloc (.cells #[] 31)).heap.size := by simp
  have c0 := (HP.out.later hbz).c2
  have HP0 := Lib.hid (HP.out.later hb0)
  have HF0 := Lib.hid (Fr.of_below hb0 HB0.out)
  have HZ0 := Lib.hid hz0
  have HS0 := Lib.hid hs0
  have HL0 := Lib.hid (LIn.empty (lo := w.heap.size + 1) hnb (Nat.le_refl _))
  clear hbz hb0 hz0 hs0 hnb
  go_wp2_with (fail)
  clear c0
  generalize ((w.alloc (.cells #[.int .i64 0, .string ⟨#[]⟩, .int .i64 0, .int .i64 0, .slice none 0 0] 31)).alloc (.cells #[] 31)) = w0 at *
  refine (expect_any HP0.out (⟨#[123]⟩ : ByteArray)).mono ?_
  rintro e w1 ⟨rfl, hp1, hf1⟩
  rw [exq_yes hx] at hp1
  have HP1 := Lib.hid hp1
  have HF1 := Lib.hid (HF0.out.trans hf1)
  have HZ1 := Lib.hid (HZ0.out.fr hf1)
  have HS1 := Lib.hid (Nat.le_trans HS0.out hf1.below.size)
  have HC1 := Lib.hid (LIn.start (HL0.out.fr hf1) hp1 HF1.out)
  clear hp1 hf1 HF0 HZ0 HL0 HP0
  go_wp2_with (fail)
  go_loopw [4] (fun v wr => ∃ (f : Nat) (l ms : List NT) (st : St), Hid (Col B0 bp (w.heap.size + 1) E w wr v l ms st) ∧ Hid ((stmL E R f ms st).map (fun y => (mkN E (exq E y.2 (⟨#[125]⟩ : ByteArray)) p.k 11 (⟨#[]⟩ : ByteArray) y.1, exq E y.2 (⟨#[125]⟩ : ByteArray))) = some (m, q)) ∧ l.length + f ≤ E.T.length + 2 ∧ Hid (ZB wr w.heap.size) ∧ Hid ((w.heap.size + 1) ≤ wr.heap.size) ∧ slLen v = l.length) (fun v _ => E.T.length + 2 - slLen v)
  case atStart => exact ⟨fuel E, [], [], rd E p, HC1, HM, by simp only [fuel, List.length_nil]; omega, HZ1, HS1, rfl⟩
  case round =>
    obtain ⟨f, l, ms, st, hcol, hmo, hlen, hz, hsw, hsl⟩ := hrel
    obtain ⟨f', rfl⟩ : ∃ f', f = f' + 1 := by
      cases f with
      | zero => have h9 := hmo.out; simp [stmL] at h9
      | succ f' => exact ⟨f', rfl⟩
    have hlT := HE.out.len
    obtain ⟨A, c, rfl, hkin⟩ := hcol.out.row.kin
    have HKIN := Lib.hid hkin
    clear hkin hsl
    cases hs : stops E st with
    | false =>
      obtain ⟨x9, q9, hx9, hr9⟩ : ∃ x9 q9, R.stm st = some (x9, q9) ∧ (stmL E R f' (ms ++ [x9]) q9).map (fun y => (mkN E (exq E y.2 (⟨#[125]⟩ : ByteArray)) p.k 11 (⟨#[]⟩ : ByteArray) y.1, exq E y.2 (⟨#[125]⟩ : ByteArray))) = some (m, q) := by
        have h9 := hmo.out
        simp only [stmL, hs, Bool.false_eq_true, if_false] at h9
        cases hr : R.stm st with
        | none => rw [hr] at h9; simp at h9
        | some y => rw [hr] at h9; exact ⟨y.1, y.2, rfl, by simpa using h9⟩
      have HX9 := Lib.hid hx9
      have HMX := Lib.hid hr9
      have HS9 := Lib.hid hs
      clear hs hmo hx9 hr9
      go_wp2_with (fail)
      refine (stops_at hcol.out.par HS9.out).mono ?_
      rintro e wa ⟨rfl, hba⟩
      have HPA := Lib.hid (hcol.out.par.later hba)
      have HFA := Lib.hid (Fr.of_below hba hcol.out.par.b0)
      clear hba
      go_wp2_with (fail)
      refine (hstm _ _ x9 q9 HX9.out HPA.out).mono ?_
      rintro e wb ⟨n, rfl, hst, hin, hpb, hfb⟩
      have HST := Lib.hid hst
      have HIN := Lib.hid hin
      have HPB := Lib.hid hpb
      have HFB := Lib.hid hfb
      have HOW := Lib.hid ((hcol.out.row.fr HFA.out).fr HFB.out).own
      have HLB := Lib.hid (show (w.heap.size + 1) ≤ wb.heap.size from Nat.le_trans (Nat.le_trans hsw.out HFA.out.below.size) HFB.out.below.size)
      clear hst hin hpb hfb
      go_wp2_with (at_builtin; refine wpList_append_lies _ rfl _ _ 29 rfl (w.heap.size + 1) 31 i0 _ 5 64 Tryd.underlying29 hi0 hz0' hz1 hz2 rfl (by decide) _ _ _ rfl (HOW.out.alloc _) ⟨wb.heap.size, 0, none⟩ 1 1 (ncl [n]) rfl rfl (World.news_of_block (cs := #[.int .i64 n.kind, .string n.text, .int .i64 n.lo, .int .i64 n.hi, .slice n.A n.kids.length n.c]) (heap_alloc_new wb _)) (ncl_one n) (by decide) ?c3 ?c4 ?c5 (wb.heap.size + 1) (World.size_alloc _ _) ?_)
      case c3 => unfold maxLen; omega
      case c4 => omega
      case c5 => rw [World.size_alloc]; have := HLB.out; omega
      intro g cap w3 hown hgr hsel hgl
      obtain ⟨hc', hz', hs'⟩ := hcol.out.push HB0.out (by omega) hsw.out HFA.out HST.out HIN.out HPB.out HFB.out hgr hown hsel
      have HC' := Lib.hid hc'
      have HZ' := Lib.hid (hz' w.heap.size (by omega) hz.out)
      have HS' := Lib.hid (Nat.le_trans hsw.out hs')
      clear hown hgr hsel hgl hc' hz' hs'
      go_wp2_with (fail)
      exact ⟨⟨f', l ++ [n], _, _, HC', HMX, by simp only [List.length_append, List.length_cons, List.length_nil]; omega, HZ', HS', by simp [slLen]⟩, by simp only [slLen]; omega⟩
    | true =>
      have HFIN := Lib.hid (show mkN E (exq E st (⟨#[125]⟩ : ByteArray)) p.k 11 (⟨#[]⟩ : ByteArray) ms = m ∧ exq E st (⟨#[125]⟩ : ByteArray) = q from by
        have h9 := hmo.out
        simp only [stmL, hs, if_true, Option.map_some, Option.some.injEq, Prod.mk.injEq] at h9
        exact h9)
      have HS9 := Lib.hid hs
      clear hs hmo
      go_wp2_with (fail)
      refine (stops_at hcol.out.par HS9.out).mono ?_
      rintro e wa ⟨rfl, hba⟩
      have HPA := Lib.hid (hcol.out.par.later hba)
      have HFA := Lib.hid (Fr.of_below hba hcol.out.par.b0)
      clear hba
      go_wp2_with (fail)
      refine (expect_any HPA.out (⟨#[125]⟩ : ByteArray)).mono ?_
      rintro e wb ⟨rfl, hpb, hfb⟩
      have HPB := Lib.hid hpb
      have HFB := Lib.hid (HFA.out.trans hfb)
      clear hpb hfb
      go_wp2_with (fail)
      refine (node_kids (lo := w.heap.size + 1) HPB.out p.k 11 (⟨#[]⟩ : ByteArray) A c l ms HF.out (HKIN.out.fr HFB.out) hcol.out.strips).mono ?_
      rintro e wc ⟨x, rfl, hst, hin, hpc, hfc⟩
      have HSX := Lib.hid (hst.trans HFIN.out.1)
      have HIX := Lib.hid hin
      have HPC := Lib.hid (show PIs B0 bp E wc q by rw [← HFIN.out.2]; exact hpc)
      have HFC := Lib.hid ((hcol.out.frame.trans HFB.out).trans hfc)
      have HZC := Lib.hid ((hz.out.fr HFB.out).fr hfc)
      clear hst hin hpc hfc
      obtain ⟨z0, z1, z2, z3, z4⟩ := HZC.out.cells
      have y0 := HZC.out.frozen 0
      have y1 := HZC.out.frozen 1
      have y2 := HZC.out.frozen 2
      have y3 := HZC.out.frozen 3
      have y4 := HZC.out.frozen 4
      go_wp2_with (fail)
      obtain ⟨hV, hin, hp, hf⟩ := got_put (w := w) (w2 := wc) (n := x) HB0.out HZC.out (Nat.le_refl _) HIX.out HPC.out HFC.out
      clear z0 z1 z2 z3 z4 y0 y1 y2 y3 y4
      dsimp only [putN] at hV hin hp hf
      generalize (((((wc.setCell ⟨w.heap.size, 0, none⟩ (.int .i64 x.kind)).setCell ⟨w.heap.size, 1, none⟩ (.string x.text)).setCell ⟨w.heap.size, 2, none⟩ (.int .i64 x.lo)).setCell ⟨w.heap.size, 3, none⟩ (.int .i64 x.hi)).setCell ⟨w.heap.size, 4, none⟩ (.slice x.A x.kids.length x.c)) = V at *
      have v0 := Lib.cell_of_heap hV 0
      have v1 := Lib.cell_of_heap hV 1
      have v2 := Lib.cell_of_heap hV 2
      have v3 := Lib.cell_of_heap hV 3
      have v4 := Lib.cell_of_heap hV 4
      exact bodyPost_ret (v := .agg #[.int .i64 x.kind, .string x.text, .int .i64 x.lo, .int .i64 x.hi, .slice x.A x.kids.length x.c]) (by simp [results, Tryd.results52, go_sem, v0, v1, v2, v3, v4]) rfl ⟨x, rfl, HSX.out, hin, hp, hf⟩
set_option maxRecDepth 100000 in
set_option maxHeartbeats 4000000 in
theorem blk_no {B0 bp : Nat} {E : Env} {w : World} {p : St} (h : PIs B0 bp E w p) (hx : isW E p (⟨#[123]⟩ : ByteArray) = false) {m : NT} {q : St} (hm : mkN E (rep E p 4 (⟨#[123]⟩ : ByteArray)) p.k 11 (⟨#[]⟩ : ByteArray) [] = m ∧ rep E p 4 (⟨#[123]⟩ : ByteArray) = q) :
    Calls Tryd.prog 52 #[.pointer (some ⟨bp, 0, none⟩)] w fun e w' => Got B0 bp w.heap.size E w m q e w' := by
  obtain ⟨i0, hi0, hz0', hz1, hz2⟩ := info_parts infoNd
  have HF := Lib.hid h.ok.1
  have HB0 := Lib.hid h.b0
  have HP := Lib.hid h
  have HE := Lib.hid h.eok
  have HM := Lib.hid hm
  clear h hm
  unfold ptr at *
  go_enter Tryd.func52, Tryd.ntmps52
  have hbz := (Below.refl w.heap.size w).alloc (Nat.le_refl _) (.cells #[.int .i64 0, .string ⟨#[]⟩, .int .i64 0, .int .i64 0, .slice none 0 0] 31)
  have hb0 : Below w.heap.size w ((w.alloc (.cells #[.int .i64 0, .string ⟨#[]⟩, .int .i64 0, .int .i64 0, .slice none 0 0] 31)).alloc (.cells #[] 31)) := hbz.alloc (by simp) _
  have hz0 : ZB ((w.alloc (.cells #[.int .i64 0, .string ⟨#[]⟩, .int .i64 0, .int .i64 0, .slice none 0 0] 31)).alloc (.cells #[] 31)) w.heap.size := by
    have hx := heap_alloc_new w (.cells #[.int .i64 0, .string ⟨#[]⟩, .int .i64 0, .int .i64 0, .slice none 0 0] 31)
    exact (heap_alloc_old _ _ (by simp)).trans hx
  have hnb : ((w.alloc (.cells #[.int .i64 0, .string ⟨#[]⟩, .int .i64 0, .int .i64 0, .slice none 0 0] 31)).alloc (.cells #[] 31)).heap[w.heap.size + 1]? = some (.cells #[] 31 (0, 0)) := by
    have hx := heap_alloc_new (w.alloc (.cells #[.int .i64 0, .string ⟨#[]⟩, .int .i64 0, .int .i64 0, .slice none 0 0] 31)) (.cells #[] 31)
    rw [World.size_alloc] at hx
    exact hx
  have hs0 : w.heap.size + 1 ≤ ((w.alloc (.cells #[.int .i64 0, .string ⟨#[]⟩, .int .i64 0, .int .i64 0, .slice none 0 0] 31)).alloc (.cells #[] 31)).heap.size := by simp
  have c0 := (HP.out.later hbz).c2
  have HP0 := Lib.hid (HP.out.later hb0)
  have HF0 := Lib.hid (Fr.of_below hb0 HB0.out)
  have HZ0 := Lib.hid hz0
  have HS0 := Lib.hid hs0
  have HL0 := Lib.hid (LIn.empty (lo := w.heap.size + 1) hnb (Nat.le_refl _))
  clear hbz hb0 hz0 hs0 hnb
  go_wp2_with (fail)
  clear c0
  generalize ((w.alloc (.cells #[.int .i64 0, .string ⟨#[]⟩, .int .i64 0, .int .i64 0, .slice none 0 0] 31)).alloc (.cells #[] 31)) = w0 at *
  refine (expect_any HP0.out (⟨#[123]⟩ : ByteArray)).mono ?_
  rintro e w1 ⟨rfl, hp1, hf1⟩
  rw [exq_no hx] at hp1
  have HP1 := Lib.hid hp1
  have HF1 := Lib.hid (HF0.out.trans hf1)
  have HZ1 := Lib.hid (HZ0.out.fr hf1)
  clear hp1 hf1 HF0 HZ0 HL0 HP0
  go_wp2_with (fail)
  refine (node_leaf HP1.out (w.heap.size + 1) p.k 11 (⟨#[]⟩ : ByteArray) HF.out).mono ?_
  rintro e wc ⟨x, rfl, hst, hin, hpc, hfc⟩
  have HSX := Lib.hid (hst.trans HM.out.1)
  have HIX := Lib.hid hin
  have HPC := Lib.hid (show PIs B0 bp E wc q by rw [← HM.out.2]; exact hpc)
  have HFC := Lib.hid (HF1.out.trans hfc)
  have HZC := Lib.hid (HZ1.out.fr hfc)
  clear hst hin hpc hfc
  obtain ⟨z0, z1, z2, z3, z4⟩ := HZC.out.cells
  have y0 := HZC.out.frozen 0
  have y1 := HZC.out.frozen 1
  have y2 := HZC.out.frozen 2
  have y3 := HZC.out.frozen 3
  have y4 := HZC.out.frozen 4
  go_wp2_with (fail)
  obtain ⟨hV, hin, hp, hf⟩ := got_put (w := w) (w2 := wc) (n := x) HB0.out HZC.out (Nat.le_refl _) HIX.out HPC.out HFC.out
  clear z0 z1 z2 z3 z4 y0 y1 y2 y3 y4
  dsimp only [putN] at hV hin hp hf
  generalize (((((wc.setCell ⟨w.heap.size, 0, none⟩ (.int .i64 x.kind)).setCell ⟨w.heap.size, 1, none⟩ (.string x.text)).setCell ⟨w.heap.size, 2, none⟩ (.int .i64 x.lo)).setCell ⟨w.heap.size, 3, none⟩ (.int .i64 x.hi)).setCell ⟨w.heap.size, 4, none⟩ (.slice x.A x.kids.length x.c)) = V at *
  have v0 := Lib.cell_of_heap hV 0
  have v1 := Lib.cell_of_heap hV 1
  have v2 := Lib.cell_of_heap hV 2
  have v3 := Lib.cell_of_heap hV 3
  have v4 := Lib.cell_of_heap hV 4
  exact bodyPost_ret (v := .agg #[.int .i64 x.kind, .string x.text, .int .i64 x.lo, .int .i64 x.hi, .slice x.A x.kids.length x.c]) (by simp [results, Tryd.results52, go_sem, v0, v1, v2, v3, v4]) rfl ⟨x, rfl, HSX.out, hin, hp, hf⟩
theorem blk_ok {B0 bp : Nat} {E : Env} {R : Rec} (hstm : StmOK B0 bp E R) : BlkOK B0 bp E (stp E R) := by
  intro p w m q hm h
  have hm' : blkS E R p = some (m, q) := hm
  cases hx : isW E p (⟨#[123]⟩ : ByteArray) with
  | true =>
    simp only [blkS, hx, if_true] at hm'
    exact blk_yes h hx hstm hm'
  | false =>
    simp only [blkS, hx, Bool.false_eq_true, if_false, Option.some.injEq, Prod.mk.injEq] at hm'
    exact blk_no h hx hm'
end Go.Proofs.YtnpcfmoiiecadaaDoor.Par
set_option linter.unusedVariables false
namespace Go.Proofs.YtnpcfmoiiecadaaDoor.Par
open Go.RowKit
open Lx (Tok)

set_option maxRecDepth 100000 in
set_option maxHeartbeats 4000000 in
theorem pars_any {B0 bp : Nat} {E : Env} {w : World} {p : St} (h : PIs B0 bp E w p) {m : NT} {q : St} (hm : pars E p = some (m, q)) :
    Calls Tryd.prog 50 #[.pointer (some ⟨bp, 0, none⟩)] w fun e w' => Got B0 bp w.heap.size E w m q e w' := by
  obtain ⟨i0, hi0, hz0', hz1, hz2⟩ := info_parts infoNd
  have HF := Lib.hid h.ok.1
  have HB0 := Lib.hid h.b0
  have HP := Lib.hid h
  have HE := Lib.hid h.eok
  have HM := Lib.hid hm
  clear h hm
  unfold ptr at *
  go_enter Tryd.func50, Tryd.ntmps50
  have hbz := (Below.refl w.heap.size w).alloc (Nat.le_refl _) (.cells #[.int .i64 0, .string ⟨#[]⟩, .int .i64 0, .int .i64 0, .slice none 0 0] 31)
  have hb0 : Below w.heap.size w ((w.alloc (.cells #[.int .i64 0, .string ⟨#[]⟩, .int .i64 0, .int .i64 0, .slice none 0 0] 31)).alloc (.cells #[] 31)) := hbz.alloc (by simp) _
  have hz0 : ZB ((w.alloc (.cells #[.int .i64 0, .string ⟨#[]⟩, .int .i64 0, .int .i64 0, .slice none 0 0] 31)).alloc (.cells #[] 31)) w.heap.size := by
    have hx := heap_alloc_new w (.cells #[.int .i64 0, .string ⟨#[]⟩, .int .i64 0, .int .i64 0, .slice none 0 0] 31)
    exact (heap_alloc_old _ _ (by simp)).trans hx
  have hnb : ((w.alloc (.cells #[.int .i64 0, .string ⟨#[]⟩, .int .i64 0, .int .i64 0, .slice none 0 0] 31)).alloc (.cells #[] 31)).heap[w.heap.size + 1]? = some (.cells #[] 31 (0, 0)) := by
    have hx := heap_alloc_new (w.alloc (.cells #[.int .i64 0, .string ⟨#[]⟩, .int .i64 0, .int .i64 0, .slice none 0 0] 31)) (.cells #[] 31)
    rw [World.size_alloc] at hx
    exact hx
  have hs0 : w.heap.size + 1 ≤ ((w.alloc (.cells #[.int .i64 0, .string ⟨#[]⟩, .int .i64 0, .int .i64 0, .slice none 0 0] 31)).alloc (.cells #[] 31)).heap.size := by simp
  have c0 := (HP.out.later hbz).c2
  have HP0 := Lib.hid (HP.out.later hb0)
  have HF0 := Lib.hid (Fr.of_below hb0 HB0.out)
  have HZ0 := Lib.hid hz0
  have HS0 := Lib.hid hs0
  have HL0 := Lib.hid (LIn.empty (lo := w.heap.size + 1) hnb (Nat.le_refl _))
  clear hbz hb0 hz0 hs0 hnb
  go_wp2_with (fail)
  clear c0
  generalize ((w.alloc (.cells #[.int .i64 0, .string ⟨#[]⟩, .int .i64 0, .int .i64 0, .slice none 0 0] 31)).alloc (.cells #[] 31)) = w0 at *
  refine (expect_any HP0.out (⟨#[40]⟩ : ByteArray)).mono ?_
  rintro e w1 ⟨rfl, hp1, hf1⟩
  have HP1 := Lib.hid hp1
  have HF1 := Lib.hid (HF0.out.trans hf1)
  have HZ1 := Lib.hid (HZ0.out.fr hf1)
  have HS1 := Lib.hid (Nat.le_trans HS0.out hf1.below.size)
  have HL1 := Lib.hid (HL0.out.fr hf1)
  clear hp1 hf1 HF0 HZ0 HL0 HP0
  go_wp2_with (fail)
  cases hx : isW E (exq E p (⟨#[40]⟩ : ByteArray)) (⟨#[41]⟩ : ByteArray) with
  | true =>
    have HFIN := Lib.hid (show mkN E (exq E (exq E p (⟨#[40]⟩ : ByteArray)) (⟨#[41]⟩ : ByteArray)) p.k 6 (⟨#[]⟩ : ByteArray) [] = m ∧ exq E (exq E p (⟨#[40]⟩ : ByteArray)) (⟨#[41]⟩ : ByteArray) = q from by
      have h9 := HM.out
      simp only [pars, hx, if_true, Option.some.injEq, Prod.mk.injEq] at h9
      exact h9)
    refine (is_at HP1.out hx).mono ?_
    rintro e w2 ⟨rfl, hb2⟩
    have HPA := Lib.hid (HP1.out.later hb2)
    have HF2 := Lib.hid (HF1.out.trans (Fr.of_below hb2 HP1.out.b0))
    have HZ2 := Lib.hid (HZ1.out.fr (Fr.of_below hb2 HP1.out.b0))
    have HKIN := Lib.hid (KIn.nil (w.heap.size + 1) w2 (some ⟨w.heap.size + 1, 0, none⟩) 0)
    clear hb2 hx
    go_wp2_with (fail)
    refine (expect_any HPA.out (⟨#[41]⟩ : ByteArray)).mono ?_
    rintro e wb ⟨rfl, hpb, hfb⟩
    have HPB := Lib.hid hpb
    have HFB := Lib.hid hfb
    clear hpb hfb
    go_wp2_with (fail)
    refine (node_kids (lo := w.heap.size + 1) HPB.out p.k 6 (⟨#[]⟩ : ByteArray) (some ⟨w.heap.size + 1, 0, none⟩) 0 [] [] HF.out (HKIN.out.fr HFB.out) rfl).mono ?_
    rintro e wc ⟨x, rfl, hst, hin, hpc, hfc⟩
    have HSX := Lib.hid (hst.trans HFIN.out.1)
    have HIX := Lib.hid hin
    have HPC := Lib.hid (show PIs B0 bp E wc q by rw [← HFIN.out.2]; exact hpc)
    have HFC := Lib.hid ((HF2.out.trans HFB.out).trans hfc)
    have HZC := Lib.hid ((HZ2.out.fr HFB.out).fr hfc)
    clear hst hin hpc hfc
    obtain ⟨z0, z1, z2, z3, z4⟩ := HZC.out.cells
    have y0 := HZC.out.frozen 0
    have y1 := HZC.out.frozen 1
    have y2 := HZC.out.frozen 2
    have y3 := HZC.out.frozen 3
    have y4 := HZC.out.frozen 4
    go_wp2_with (fail)
    obtain ⟨hV, hin, hp, hf⟩ := got_put (w := w) (w2 := wc) (n := x) HB0.out HZC.out (Nat.le_refl _) HIX.out HPC.out HFC.out
    clear z0 z1 z2 z3 z4 y0 y1 y2 y3 y4
    dsimp only [putN] at hV hin hp hf
    generalize (((((wc.setCell ⟨w.heap.size, 0, none⟩ (.int .i64 x.kind)).setCell ⟨w.heap.size, 1, none⟩ (.string x.text)).setCell ⟨w.heap.size, 2, none⟩ (.int .i64 x.lo)).setCell ⟨w.heap.size, 3, none⟩ (.int .i64 x.hi)).setCell ⟨w.heap.size, 4, none⟩ (.slice x.A x.kids.length x.c)) = V at *
    have v0 := Lib.cell_of_heap hV 0
    have v1 := Lib.cell_of_heap hV 1
    have v2 := Lib.cell_of_heap hV 2
    have v3 := Lib.cell_of_heap hV 3
    have v4 := Lib.cell_of_heap hV 4
    exact bodyPost_ret (v := .agg #[.int .i64 x.kind, .string x.text, .int .i64 x.lo, .int .i64 x.hi, .slice x.A x.kids.length x.c]) (by simp [results, Tryd.results50, go_sem, v0, v1, v2, v3, v4]) rfl ⟨x, rfl, HSX.out, hin, hp, hf⟩
  | false =>
    have HMO := Lib.hid (show (more E (fun q => some (par E q)) (fuel E) [(par E (exq E p (⟨#[40]⟩ : ByteArray))).1] (par E (exq E p (⟨#[40]⟩ : ByteArray))).2).map (fun y => (mkN E (exq E y.2 (⟨#[41]⟩ : ByteArray)) p.k 6 (⟨#[]⟩ : ByteArray) y.1, exq E y.2 (⟨#[41]⟩ : ByteArray))) = some (m, q) from by
      have h9 := HM.out
      simp only [pars, hx, Bool.false_eq_true, if_false] at h9
      exact h9)
    refine (is_at HP1.out hx).mono ?_
    rintro e w2 ⟨rfl, hb2⟩
    have HP2 := Lib.hid (HP1.out.later hb2)
    have HF2 := Lib.hid (HF1.out.trans (Fr.of_below hb2 HP1.out.b0))
    have HZ2 := Lib.hid (HZ1.out.fr (Fr.of_below hb2 HP1.out.b0))
    have HL2 := Lib.hid (HL1.out.fr (Fr.of_below hb2 HP1.out.b0))
    have HS2 := Lib.hid (Nat.le_trans HS1.out hb2.size)
    clear hb2 hx HF1 HL1 HZ1
    go_wp2_with (fail)
    refine (par_any HP2.out).mono ?_
    rintro e wb ⟨n, rfl, hst, hin, hpb, hfb⟩
    have HST := Lib.hid hst
    have HIN := Lib.hid hin
    have HPB := Lib.hid hpb
    have HFB := Lib.hid hfb
    have HOW := Lib.hid (HL2.out.fr HFB.out).own
    have HLB := Lib.hid (show w.heap.size + 1 ≤ wb.heap.size from Nat.le_trans HS2.out HFB.out.below.size)
    have HC2 := Lib.hid (show Col B0 bp (w.heap.size + 1) E w w2 (.slice (some ⟨w.heap.size + 1, 0, none⟩) 0 0) [] [] (exq E p (⟨#[40]⟩ : ByteArray)) from ⟨HL2.out, rfl, HP2.out, HF2.out⟩)
    clear hst hin hpb hfb
    go_wp2_with (at_builtin; refine wpList_append_lies _ rfl _ _ 29 rfl (w.heap.size + 1) 31 i0 _ 5 64 Tryd.underlying29 hi0 hz0' hz1 hz2 rfl (by decide) _ _ _ rfl (HOW.out.alloc _) ⟨wb.heap.size, 0, none⟩ 1 1 (ncl [n]) rfl rfl (World.news_of_block (cs := #[.int .i64 n.kind, .string n.text, .int .i64 n.lo, .int .i64 n.hi, .slice n.A n.kids.length n.c]) (heap_alloc_new wb _)) (ncl_one n) (by decide) ?c3 ?c4 ?c5 (wb.heap.size + 1) (World.size_alloc _ _) ?_)
    case c3 => decide
    case c4 => decide
    case c5 => rw [World.size_alloc]; have := HLB.out; omega
    intro g cap w3 hown hgr hsel hgl
    obtain ⟨hc', hz', hs'⟩ := HC2.out.push HB0.out (by omega) HS2.out (Fr.refl _ _) HST.out HIN.out HPB.out HFB.out hgr hown hsel
    have HC3 := Lib.hid hc'
    have HZ3 := Lib.hid (hz' w.heap.size (by omega) HZ2.out)
    have HS3 := Lib.hid (Nat.le_trans HS2.out hs')
    clear hown hgr hsel hgl hc' hz' hs' HC2 HOW HL2
    go_wp2_with (fail)
    go_loopw [4] (fun v wr => ∃ (f : Nat) (l ms : List NT) (st : St), Hid (Col B0 bp (w.heap.size + 1) E w wr v l ms st) ∧ Hid ((more E (fun q => some (par E q)) f ms st).map (fun y => (mkN E (exq E y.2 (⟨#[41]⟩ : ByteArray)) p.k 6 (⟨#[]⟩ : ByteArray) y.1, exq E y.2 (⟨#[41]⟩ : ByteArray))) = some (m, q)) ∧ l.length + f ≤ E.T.length + 2 ∧ Hid (ZB wr w.heap.size) ∧ Hid ((w.heap.size + 1) ≤ wr.heap.size) ∧ slLen v = l.length) (fun v _ => E.T.length + 2 - slLen v)
    case atStart => exact ⟨fuel E, [n], _, _, HC3, HMO, by simp only [fuel, List.length_cons, List.length_nil]; omega, HZ3, HS3, rfl⟩
    case round =>
      obtain ⟨f, l, ms, st, hcol, hmo, hlen, hz, hsw, hsl⟩ := hrel
      obtain ⟨f', rfl⟩ : ∃ f', f = f' + 1 := by
        cases f with
        | zero => have h9 := hmo.out; simp [more] at h9
        | succ f' => exact ⟨f', rfl⟩
      have hlT := HE.out.len
      obtain ⟨A, c, rfl, hkin⟩ := hcol.out.row.kin
      have HKIN := Lib.hid hkin
      clear hkin hsl
      cases hx : isW E st (⟨#[44]⟩ : ByteArray) with
      | true =>
        have HX := Lib.hid hx
        have HMX := Lib.hid (show (more E (fun q => some (par E q)) f' (ms ++ [(par E (rd E st)).1]) (par E (rd E st)).2).map (fun y => (mkN E (exq E y.2 (⟨#[41]⟩ : ByteArray)) p.k 6 (⟨#[]⟩ : ByteArray) y.1, exq E y.2 (⟨#[41]⟩ : ByteArray))) = some (m, q) from by
          have h9 := hmo.out
          simp only [more, hx, if_true, Option.bind_some] at h9
          exact h9)
        clear hx hmo
        go_wp2_with (fail)
        refine (accept_yes hcol.out.par HX.out).mono ?_
        rintro e wa ⟨rfl, hpa, hfa⟩
        have HPA := Lib.hid hpa
        have HFA := Lib.hid hfa
        clear hpa hfa
        go_wp2_with (fail)
        refine (par_any HPA.out).mono ?_
        rintro e wb ⟨n, rfl, hst, hin, hpb, hfb⟩
        have HST := Lib.hid hst
        have HIN := Lib.hid hin
        have HPB := Lib.hid hpb
        have HFB := Lib.hid hfb
        have HOW := Lib.hid ((hcol.out.row.fr HFA.out).fr HFB.out).own
        have HLB := Lib.hid (show (w.heap.size + 1) ≤ wb.heap.size from Nat.le_trans (Nat.le_trans hsw.out HFA.out.below.size) HFB.out.below.size)
        clear hst hin hpb hfb
        go_wp2_with (at_builtin; refine wpList_append_lies _ rfl _ _ 29 rfl (w.heap.size + 1) 31 i0 _ 5 64 Tryd.underlying29 hi0 hz0' hz1 hz2 rfl (by decide) _ _ _ rfl (HOW.out.alloc _) ⟨wb.heap.size, 0, none⟩ 1 1 (ncl [n]) rfl rfl (World.news_of_block (cs := #[.int .i64 n.kind, .string n.text, .int .i64 n.lo, .int .i64 n.hi, .slice n.A n.kids.length n.c]) (heap_alloc_new wb _)) (ncl_one n) (by decide) ?c3 ?c4 ?c5 (wb.heap.size + 1) (World.size_alloc _ _) ?_)
        case c3 => unfold maxLen; omega
        case c4 => omega
        case c5 => rw [World.size_alloc]; have := HLB.out; omega
        intro g cap w3 hown hgr hsel hgl
        obtain ⟨hc', hz', hs'⟩ := hcol.out.push HB0.out (by omega) hsw.out HFA.out HST.out HIN.out HPB.out HFB.out hgr hown hsel
        have HC' := Lib.hid hc'
        have HZ' := Lib.hid (hz' w.heap.size (by omega) hz.out)
        have HS' := Lib.hid (Nat.le_trans hsw.out hs')
        clear hown hgr hsel hgl hc' hz' hs'
        go_wp2_with (fail)
        exact ⟨⟨f', l ++ [n], _, _, HC', HMX, by simp only [List.length_append, List.length_cons, List.length_nil]; omega, HZ', HS', by simp [slLen]⟩, by simp only [slLen]; omega⟩
      | false =>
        have hfin : (fun y => (mkN E (exq E y.2 (⟨#[41]⟩ : ByteArray)) p.k 6 (⟨#[]⟩ : ByteArray) y.1, exq E y.2 (⟨#[41]⟩ : ByteArray))) (ms, st) = (m, q) := by
          have h9 := hmo.out
          simp only [more, hx, Bool.false_eq_true, if_false, Option.map_some, Option.some.injEq] at h9
          exact h9
        simp only [Prod.mk.injEq] at hfin
        have HFIN := Lib.hid hfin
        have HX := Lib.hid hx
        clear hx hmo hfin
        go_wp2_with (fail)
        refine (accept_no hcol.out.par HX.out).mono ?_
        rintro e wa ⟨rfl, hpa, hfa⟩
        have HPA := Lib.hid hpa
        have HFA := Lib.hid hfa
        clear hpa hfa
        go_wp2_with (fail)
        refine (expect_any HPA.out (⟨#[41]⟩ : ByteArray)).mono ?_
        rintro e wb ⟨rfl, hpb, hfb⟩
        have HPB := Lib.hid hpb
        have HFB := Lib.hid (HFA.out.trans hfb)
        clear hpb hfb
        go_wp2_with (fail)
        refine (node_kids (lo := w.heap.size + 1) HPB.out p.k 6 (⟨#[]⟩ : ByteArray) A c l ms HF.out (HKIN.out.fr HFB.out) hcol.out.strips).mono ?_
        rintro e wc ⟨x, rfl, hst, hin, hpc, hfc⟩
        have HSX := Lib.hid (hst.trans HFIN.out.1)
        have HIX := Lib.hid hin
        have HPC := Lib.hid (show PIs B0 bp E wc q by rw [← HFIN.out.2]; exact hpc)
        have HFC := Lib.hid ((hcol.out.frame.trans HFB.out).trans hfc)
        have HZC := Lib.hid ((hz.out.fr HFB.out).fr hfc)
        clear hst hin hpc hfc
        obtain ⟨z0, z1, z2, z3, z4⟩ := HZC.out.cells
        have y0 := HZC.out.frozen 0
        have y1 := HZC.out.frozen 1
        have y2 := HZC.out.frozen 2
        have y3 := HZC.out.frozen 3
        have y4 := HZC.out.frozen 4
        go_wp2_with (fail)
        obtain ⟨hV, hin, hp, hf⟩ := got_put (w := w) (w2 := wc) (n := x) HB0.out HZC.out (Nat.le_refl _) HIX.out HPC.out HFC.out
        clear z0 z1 z2 z3 z4 y0 y1 y2 y3 y4
        dsimp only [putN] at hV hin hp hf
        generalize (((((wc.setCell ⟨w.heap.size, 0, none⟩ (.int .i64 x.kind)).setCell ⟨w.heap.size, 1, none⟩ (.string x.text)).setCell ⟨w.heap.size, 2, none⟩ (.int .i64 x.lo)).setCell ⟨w.heap.size, 3, none⟩ (.int .i64 x.hi)).setCell ⟨w.heap.size, 4, none⟩ (.slice x.A x.kids.length x.c)) = V at *
        have v0 := Lib.cell_of_heap hV 0
        have v1 := Lib.cell_of_heap hV 1
        have v2 := Lib.cell_of_heap hV 2
        have v3 := Lib.cell_of_heap hV 3
        have v4 := Lib.cell_of_heap hV 4
        exact bodyPost_ret (v := .agg #[.int .i64 x.kind, .string x.text, .int .i64 x.lo, .int .i64 x.hi, .slice x.A x.kids.length x.c]) (by simp [results, Tryd.results50, go_sem, v0, v1, v2, v3, v4]) rfl ⟨x, rfl, HSX.out, hin, hp, hf⟩
set_option maxHeartbeats 4000000 in
set_option maxRecDepth 100000 in
theorem prc_any {B0 bp : Nat} {E : Env} {w : World} {p : St} (h : PIs B0 bp E w p) {R : Rec} (hbk : BlkOK B0 bp E R) (h5 : knd E p ≠ 5) (x1 : NT) (q1 : St) (hx : pars E (nam E (rd E p)).2 = some (x1, q1)) (b1 : NT) (q2 : St) (hb : R.blk (opt E q1).2 = some (b1, q2)) :
    Calls Tryd.prog 26 #[ptr bp] w fun e w' => Got B0 bp w.heap.size E w (mkN E q2 p.k 5 (nam E (rd E p)).1 [x1, (opt E q1).1, b1]) (q2) e w' := by
  have HF := Lib.hid h.ok.1
  have HB0 := Lib.hid h.b0
  have HP := Lib.hid h
  clear h
  unfold ptr at *
  go_enter Tryd.func26, Tryd.ntmps26
  have hb0 := (Below.refl w.heap.size w).alloc (Nat.le_refl _) (.cells #[.int .i64 0, .string ⟨#[]⟩, .int .i64 0, .int .i64 0, .slice none 0 0] 31)
  have hz0 : ZB (w.alloc (.cells #[.int .i64 0, .string ⟨#[]⟩, .int .i64 0, .int .i64 0, .slice none 0 0] 31)) w.heap.size := heap_alloc_new w _
  have hs0 : (w.alloc (.cells #[.int .i64 0, .string ⟨#[]⟩, .int .i64 0, .int .i64 0, .slice none 0 0] 31)).heap.size = w.heap.size + 1 := World.size_alloc _ _
  have HP0 := Lib.hid (HP.out.later hb0)
  have HF0 := Lib.hid (Fr.of_below hb0 HB0.out)
  have HZ0 := Lib.hid hz0
  have HS0 := Lib.hid (show w.heap.size + 1 ≤ (w.alloc (.cells #[.int .i64 0, .string ⟨#[]⟩, .int .i64 0, .int .i64 0, .slice none 0 0] 31)).heap.size by rw [hs0]; omega)
  have c0 := HP0.out.c2
  clear hb0 hz0 hs0
  go_wp2_with (fail)
  clear c0
  generalize (w.alloc (.cells #[.int .i64 0, .string ⟨#[]⟩, .int .i64 0, .int .i64 0, .slice none 0 0] 31)) = w0 at *
  refine (read_any HP0.out h5).mono ?_
  rintro e w1 ⟨rfl, hp1, hf1⟩
  have HP1 := Lib.hid hp1
  clear hp1
  have HF1 := Lib.hid (HF0.out.trans hf1)
  have HZ1 := Lib.hid (HZ0.out.fr hf1)
  have HS1 := Lib.hid (Nat.le_trans HS0.out hf1.below.size)
  clear HF0 HZ0
  clear hf1
  have c1 := HP1.out.c2
  go_wp2_with (fail)
  clear c1
  refine (name_any HP1.out).mono ?_
  rintro e w2 ⟨rfl, hp2, hf2⟩
  have HP2 := Lib.hid hp2
  clear hp2
  have HF2 := Lib.hid (HF1.out.trans hf2)
  have HZ2 := Lib.hid (HZ1.out.fr hf2)
  have HS2 := Lib.hid (Nat.le_trans HS1.out hf2.below.size)
  clear HF1 HZ1
  clear hf2
  have c2 := HP2.out.c2
  go_wp2_with (fail)
  clear c2
  refine (pars_any HP2.out hx).mono ?_
  rintro e w3 ⟨x, rfl, hst3, hin3, hp3, hf3⟩
  have HP3 := Lib.hid hp3
  have HST_x := Lib.hid hst3
  have HIN_x_3 := Lib.hid (InF.mono hin3 HS2.out)
  clear hp3 hst3 hin3
  have HF3 := Lib.hid (HF2.out.trans hf3)
  have HZ3 := Lib.hid (HZ2.out.fr hf3)
  have HS3 := Lib.hid (Nat.le_trans HS2.out hf3.below.size)
  clear HF2 HZ2
  clear hf3
  have c3 := HP3.out.c2
  have cA := (HP3.out.later ((Below.refl w3.heap.size w3).alloc (by simp) (.cells #[.int .i64 x.kind, .string x.text, .int .i64 x.lo, .int .i64 x.hi, .slice x.A x.kids.length x.c] 31))).c2
  go_wp2_with (fail)
  clear c3 cA
  have hbA : Below w3.heap.size w3 (w3.alloc (.cells #[.int .i64 x.kind, .string x.text, .int .i64 x.lo, .int .i64 x.hi, .slice x.A x.kids.length x.c] 31)) := ((Below.refl w3.heap.size w3).alloc (by simp) (.cells #[.int .i64 x.kind, .string x.text, .int .i64 x.lo, .int .i64 x.hi, .slice x.A x.kids.length x.c] 31))
  have hnb0 : (w3.alloc (.cells #[.int .i64 x.kind, .string x.text, .int .i64 x.lo, .int .i64 x.hi, .slice x.A x.kids.length x.c] 31)).heap[w3.heap.size]? = some (.cells #[.int .i64 x.kind, .string x.text, .int .i64 x.lo, .int .i64 x.hi, .slice x.A x.kids.length x.c] 31 (0, 0)) := by
    have hx := heap_alloc_new w3 (.cells #[.int .i64 x.kind, .string x.text, .int .i64 x.lo, .int .i64 x.hi, .slice x.A x.kids.length x.c] 31)
    exact hx
  have HP4 := Lib.hid (HP3.out.later hbA)
  have hf4 := Fr.of_below hbA HP3.out.b0
  have HNV_x_4 := Lib.hid (show NV (w3.alloc (.cells #[.int .i64 x.kind, .string x.text, .int .i64 x.lo, .int .i64 x.hi, .slice x.A x.kids.length x.c] 31)) (w3.heap.size) x from hnb0)
  have HF4 := Lib.hid (HF3.out.trans hf4)
  have HZ4 := Lib.hid (HZ3.out.fr hf4)
  have HS4 := Lib.hid (Nat.le_trans HS3.out hf4.below.size)
  have HIN_x_4 := Lib.hid (HIN_x_3.out.fr hf4)
  clear HF3 HZ3 HIN_x_3
  clear hbA hf4 hnb0
  generalize (w3.alloc (.cells #[.int .i64 x.kind, .string x.text, .int .i64 x.lo, .int .i64 x.hi, .slice x.A x.kids.length x.c] 31)) = w4 at *
  refine (opt_any HP4.out).mono ?_
  rintro e w5 ⟨t, rfl, hst5, hin5, hp5, hf5⟩
  have HP5 := Lib.hid hp5
  have HST_t := Lib.hid hst5
  have HIN_t_5 := Lib.hid (InF.mono hin5 HS4.out)
  clear hp5 hst5 hin5
  have HF5 := Lib.hid (HF4.out.trans hf5)
  have HZ5 := Lib.hid (HZ4.out.fr hf5)
  have HS5 := Lib.hid (Nat.le_trans HS4.out hf5.below.size)
  have HIN_x_5 := Lib.hid (HIN_x_4.out.fr hf5)
  have HNV_x_5 := Lib.hid (HNV_x_4.out.fr hf5)
  clear HF4 HZ4 HIN_x_4 HNV_x_4
  clear hf5
  have c5 := HP5.out.c2
  obtain ⟨b0_x, b1_x, b2_x, b3_x, b4_x⟩ := HNV_x_5.out.cells
  have cA := (HP5.out.later ((Below.refl w5.heap.size w5).alloc (by simp) (.cells #[.int .i64 t.kind, .string t.text, .int .i64 t.lo, .int .i64 t.hi, .slice t.A t.kids.length t.c] 31))).c2
  go_wp2_with (fail)
  clear b0_x b1_x b2_x b3_x b4_x
  clear c5 cA
  have hbA : Below w5.heap.size w5 (w5.alloc (.cells #[.int .i64 t.kind, .string t.text, .int .i64 t.lo, .int .i64 t.hi, .slice t.A t.kids.length t.c] 31)) := ((Below.refl w5.heap.size w5).alloc (by simp) (.cells #[.int .i64 t.kind, .string t.text, .int .i64 t.lo, .int .i64 t.hi, .slice t.A t.kids.length t.c] 31))
  have hnb0 : (w5.alloc (.cells #[.int .i64 t.kind, .string t.text, .int .i64 t.lo, .int .i64 t.hi, .slice t.A t.kids.length t.c] 31)).heap[w5.heap.size]? = some (.cells #[.int .i64 t.kind, .string t.text, .int .i64 t.lo, .int .i64 t.hi, .slice t.A t.kids.length t.c] 31 (0, 0)) := by
    have hx := heap_alloc_new w5 (.cells #[.int .i64 t.kind, .string t.text, .int .i64 t.lo, .int .i64 t.hi, .slice t.A t.kids.length t.c] 31)
    exact hx
  have HP6 := Lib.hid (HP5.out.later hbA)
  have hf6 := Fr.of_below hbA HP5.out.b0
  have HNV_t_6 := Lib.hid (show NV (w5.alloc (.cells #[.int .i64 t.kind, .string t.text, .int .i64 t.lo, .int .i64 t.hi, .slice t.A t.kids.length t.c] 31)) (w5.heap.size) t from hnb0)
  have HF6 := Lib.hid (HF5.out.trans hf6)
  have HZ6 := Lib.hid (HZ5.out.fr hf6)
  have HS6 := Lib.hid (Nat.le_trans HS5.out hf6.below.size)
  have HIN_x_6 := Lib.hid (HIN_x_5.out.fr hf6)
  have HIN_t_6 := Lib.hid (HIN_t_5.out.fr hf6)
  have HNV_x_6 := Lib.hid (HNV_x_5.out.fr hf6)
  clear HF5 HZ5 HIN_x_5 HIN_t_5 HNV_x_5
  clear hbA hf6 hnb0
  generalize (w5.alloc (.cells #[.int .i64 t.kind, .string t.text, .int .i64 t.lo, .int .i64 t.hi, .slice t.A t.kids.length t.c] 31)) = w6 at *
  refine (hbk _ _ _ _ hb HP6.out).mono ?_
  rintro e w7 ⟨y, rfl, hst7, hin7, hp7, hf7⟩
  have HP7 := Lib.hid hp7
  have HST_y := Lib.hid hst7
  have HIN_y_7 := Lib.hid (InF.mono hin7 HS6.out)
  clear hp7 hst7 hin7
  have HF7 := Lib.hid (HF6.out.trans hf7)
  have HZ7 := Lib.hid (HZ6.out.fr hf7)
  have HS7 := Lib.hid (Nat.le_trans HS6.out hf7.below.size)
  have HIN_x_7 := Lib.hid (HIN_x_6.out.fr hf7)
  have HIN_t_7 := Lib.hid (HIN_t_6.out.fr hf7)
  have HNV_x_7 := Lib.hid (HNV_x_6.out.fr hf7)
  have HNV_t_7 := Lib.hid (HNV_t_6.out.fr hf7)
  clear HF6 HZ6 HIN_x_6 HIN_t_6 HNV_x_6 HNV_t_6
  clear hf7
  have c7 := HP7.out.c2
  obtain ⟨b0_x, b1_x, b2_x, b3_x, b4_x⟩ := HNV_x_7.out.cells
  obtain ⟨b0_t, b1_t, b2_t, b3_t, b4_t⟩ := HNV_t_7.out.cells
  have cA := (HP7.out.later ((Below.refl w7.heap.size w7).alloc (by simp) (.cells #[.int .i64 y.kind, .string y.text, .int .i64 y.lo, .int .i64 y.hi, .slice y.A y.kids.length y.c] 31))).c2
  obtain ⟨f0_x, f1_x, f2_x, f3_x, f4_x⟩ := (HNV_x_7.out.fr (Fr.of_below (B0 := B0) ((Below.refl w7.heap.size w7).alloc (by simp) (.cells #[.int .i64 y.kind, .string y.text, .int .i64 y.lo, .int .i64 y.hi, .slice y.A y.kids.length y.c] 31)) HP7.out.b0)).cells
  obtain ⟨f0_t, f1_t, f2_t, f3_t, f4_t⟩ := (HNV_t_7.out.fr (Fr.of_below (B0 := B0) ((Below.refl w7.heap.size w7).alloc (by simp) (.cells #[.int .i64 y.kind, .string y.text, .int .i64 y.lo, .int .i64 y.hi, .slice y.A y.kids.length y.c] 31)) HP7.out.b0)).cells
  go_wp2_with (fail)
  clear b0_x b1_x b2_x b3_x b4_x
  clear b0_t b1_t b2_t b3_t b4_t
  clear c7 cA
  clear f0_x f1_x f2_x f3_x f4_x
  clear f0_t f1_t f2_t f3_t f4_t
  have hbA : Below w7.heap.size w7 ((w7.alloc (.cells #[.int .i64 y.kind, .string y.text, .int .i64 y.lo, .int .i64 y.hi, .slice y.A y.kids.length y.c] 31)).alloc (.cells #[.int .i64 x.kind, .string x.text, .int .i64 x.lo, .int .i64 x.hi, .slice x.A x.kids.length x.c, .int .i64 t.kind, .string t.text, .int .i64 t.lo, .int .i64 t.hi, .slice t.A t.kids.length t.c, .int .i64 y.kind, .string y.text, .int .i64 y.lo, .int .i64 y.hi, .slice y.A y.kids.length y.c] 31)) := (((Below.refl w7.heap.size w7).alloc (by simp) (.cells #[.int .i64 y.kind, .string y.text, .int .i64 y.lo, .int .i64 y.hi, .slice y.A y.kids.length y.c] 31)).alloc (by simp) (.cells #[.int .i64 x.kind, .string x.text, .int .i64 x.lo, .int .i64 x.hi, .slice x.A x.kids.length x.c, .int .i64 t.kind, .string t.text, .int .i64 t.lo, .int .i64 t.hi, .slice t.A t.kids.length t.c, .int .i64 y.kind, .string y.text, .int .i64 y.lo, .int .i64 y.hi, .slice y.A y.kids.length y.c] 31))
  have hnb0 : ((w7.alloc (.cells #[.int .i64 y.kind, .string y.text, .int .i64 y.lo, .int .i64 y.hi, .slice y.A y.kids.length y.c] 31)).alloc (.cells #[.int .i64 x.kind, .string x.text, .int .i64 x.lo, .int .i64 x.hi, .slice x.A x.kids.length x.c, .int .i64 t.kind, .string t.text, .int .i64 t.lo, .int .i64 t.hi, .slice t.A t.kids.length t.c, .int .i64 y.kind, .string y.text, .int .i64 y.lo, .int .i64 y.hi, .slice y.A y.kids.length y.c] 31)).heap[w7.heap.size]? = some (.cells #[.int .i64 y.kind, .string y.text, .int .i64 y.lo, .int .i64 y.hi, .slice y.A y.kids.length y.c] 31 (0, 0)) := by
    have hx := heap_alloc_new w7 (.cells #[.int .i64 y.kind, .string y.text, .int .i64 y.lo, .int .i64 y.hi, .slice y.A y.kids.length y.c] 31)
    have hx := (heap_alloc_old (w7.alloc (.cells #[.int .i64 y.kind, .string y.text, .int .i64 y.lo, .int .i64 y.hi, .slice y.A y.kids.length y.c] 31)) (.cells #[.int .i64 x.kind, .string x.text, .int .i64 x.lo, .int .i64 x.hi, .slice x.A x.kids.length x.c, .int .i64 t.kind, .string t.text, .int .i64 t.lo, .int .i64 t.hi, .slice t.A t.kids.length t.c, .int .i64 y.kind, .string y.text, .int .i64 y.lo, .int .i64 y.hi, .slice y.A y.kids.length y.c] 31) (by simp)).trans hx
    exact hx
  have hnb1 : ((w7.alloc (.cells #[.int .i64 y.kind, .string y.text, .int .i64 y.lo, .int .i64 y.hi, .slice y.A y.kids.length y.c] 31)).alloc (.cells #[.int .i64 x.kind, .string x.text, .int .i64 x.lo, .int .i64 x.hi, .slice x.A x.kids.length x.c, .int .i64 t.kind, .string t.text, .int .i64 t.lo, .int .i64 t.hi, .slice t.A t.kids.length t.c, .int .i64 y.kind, .string y.text, .int .i64 y.lo, .int .i64 y.hi, .slice y.A y.kids.length y.c] 31)).heap[w7.heap.size + 1]? = some (.cells #[.int .i64 x.kind, .string x.text, .int .i64 x.lo, .int .i64 x.hi, .slice x.A x.kids.length x.c, .int .i64 t.kind, .string t.text, .int .i64 t.lo, .int .i64 t.hi, .slice t.A t.kids.length t.c, .int .i64 y.kind, .string y.text, .int .i64 y.lo, .int .i64 y.hi, .slice y.A y.kids.length y.c] 31 (0, 0)) := by
    have hx := heap_alloc_new (w7.alloc (.cells #[.int .i64 y.kind, .string y.text, .int .i64 y.lo, .int .i64 y.hi, .slice y.A y.kids.length y.c] 31)) (.cells #[.int .i64 x.kind, .string x.text, .int .i64 x.lo, .int .i64 x.hi, .slice x.A x.kids.length x.c, .int .i64 t.kind, .string t.text, .int .i64 t.lo, .int .i64 t.hi, .slice t.A t.kids.length t.c, .int .i64 y.kind, .string y.text, .int .i64 y.lo, .int .i64 y.hi, .slice y.A y.kids.length y.c] 31)
    rw [World.size_alloc] at hx
    exact hx
  have HP8 := Lib.hid (HP7.out.later hbA)
  have hf8 := Fr.of_below hbA HP7.out.b0
  have HNV_y_8 := Lib.hid (show NV ((w7.alloc (.cells #[.int .i64 y.kind, .string y.text, .int .i64 y.lo, .int .i64 y.hi, .slice y.A y.kids.length y.c] 31)).alloc (.cells #[.int .i64 x.kind, .string x.text, .int .i64 x.lo, .int .i64 x.hi, .slice x.A x.kids.length x.c, .int .i64 t.kind, .string t.text, .int .i64 t.lo, .int .i64 t.hi, .slice t.A t.kids.length t.c, .int .i64 y.kind, .string y.text, .int .i64 y.lo, .int .i64 y.hi, .slice y.A y.kids.length y.c] 31)) (w7.heap.size) y from hnb0)
  have HK_8 := Lib.hid (kin_block (lo := w.heap.size + 1) (c := 3) (ks := [x, t, y]) hnb1 (fun j _ => by simp [ncl]) (by have := HS7.out; omega) (Nat.le_refl _) (fun k hk => by
    simp only [List.mem_cons, List.not_mem_nil, or_false] at hk
    rcases hk with rfl | rfl | rfl
    · exact HIN_x_7.out.fr hf8
    · exact HIN_t_7.out.fr hf8
    · exact HIN_y_7.out.fr hf8))
  have HF8 := Lib.hid (HF7.out.trans hf8)
  have HZ8 := Lib.hid (HZ7.out.fr hf8)
  have HS8 := Lib.hid (Nat.le_trans HS7.out hf8.below.size)
  have HIN_x_8 := Lib.hid (HIN_x_7.out.fr hf8)
  have HIN_t_8 := Lib.hid (HIN_t_7.out.fr hf8)
  have HIN_y_8 := Lib.hid (HIN_y_7.out.fr hf8)
  have HNV_x_8 := Lib.hid (HNV_x_7.out.fr hf8)
  have HNV_t_8 := Lib.hid (HNV_t_7.out.fr hf8)
  clear HF7 HZ7 HIN_x_7 HIN_t_7 HIN_y_7 HNV_x_7 HNV_t_7
  clear hbA hf8 hnb0 hnb1
  generalize ((w7.alloc (.cells #[.int .i64 y.kind, .string y.text, .int .i64 y.lo, .int .i64 y.hi, .slice y.A y.kids.length y.c] 31)).alloc (.cells #[.int .i64 x.kind, .string x.text, .int .i64 x.lo, .int .i64 x.hi, .slice x.A x.kids.length x.c, .int .i64 t.kind, .string t.text, .int .i64 t.lo, .int .i64 t.hi, .slice t.A t.kids.length t.c, .int .i64 y.kind, .string y.text, .int .i64 y.lo, .int .i64 y.hi, .slice y.A y.kids.length y.c] 31)) = w8 at *
  refine (node_kids HP8.out p.k 5 (nam E (rd E p)).1 _ 3 [x, t, y] [x1, (opt E q1).1, b1] HF.out HK_8.out (by simp only [List.map_cons, List.map_nil, HST_x.out, HST_t.out, HST_y.out])).mono ?_
  rintro e w9 ⟨m, rfl, hst9, hin9, hp9, hf9⟩
  have HP9 := Lib.hid hp9
  have HST_m := Lib.hid hst9
  have HIN_m_9 := Lib.hid hin9
  clear hp9 hst9 hin9
  have HF9 := Lib.hid (HF8.out.trans hf9)
  have HZ9 := Lib.hid (HZ8.out.fr hf9)
  have HS9 := Lib.hid (Nat.le_trans HS8.out hf9.below.size)
  have HIN_x_9 := Lib.hid (HIN_x_8.out.fr hf9)
  have HIN_t_9 := Lib.hid (HIN_t_8.out.fr hf9)
  have HIN_y_9 := Lib.hid (HIN_y_8.out.fr hf9)
  have HNV_x_9 := Lib.hid (HNV_x_8.out.fr hf9)
  have HNV_t_9 := Lib.hid (HNV_t_8.out.fr hf9)
  have HNV_y_9 := Lib.hid (HNV_y_8.out.fr hf9)
  clear HF8 HZ8 HIN_x_8 HIN_t_8 HIN_y_8 HNV_x_8 HNV_t_8 HNV_y_8
  clear hf9
  obtain ⟨z0, z1, z2, z3, z4⟩ := HZ9.out.cells
  have y0 := HZ9.out.frozen 0
  have y1 := HZ9.out.frozen 1
  have y2 := HZ9.out.frozen 2
  have y3 := HZ9.out.frozen 3
  have y4 := HZ9.out.frozen 4
  obtain ⟨b0_x, b1_x, b2_x, b3_x, b4_x⟩ := HNV_x_9.out.cells
  obtain ⟨b0_t, b1_t, b2_t, b3_t, b4_t⟩ := HNV_t_9.out.cells
  obtain ⟨b0_y, b1_y, b2_y, b3_y, b4_y⟩ := HNV_y_9.out.cells
  go_wp2_with (fail)
  clear b0_x b1_x b2_x b3_x b4_x
  clear b0_t b1_t b2_t b3_t b4_t
  clear b0_y b1_y b2_y b3_y b4_y
  obtain ⟨hV, hin, hp, hf⟩ := got_put (w := w) (w2 := w9) (n := m) HB0.out HZ9.out (Nat.le_refl _) HIN_m_9.out HP9.out HF9.out
  clear z0 z1 z2 z3 z4 y0 y1 y2 y3 y4
  dsimp only [putN] at hV hin hp hf
  generalize (((((w9.setCell ⟨w.heap.size, 0, none⟩ (.int .i64 m.kind)).setCell ⟨w.heap.size, 1, none⟩ (.string m.text)).setCell ⟨w.heap.size, 2, none⟩ (.int .i64 m.lo)).setCell ⟨w.heap.size, 3, none⟩ (.int .i64 m.hi)).setCell ⟨w.heap.size, 4, none⟩ (.slice m.A m.kids.length m.c)) = V at *
  have v0 := Lib.cell_of_heap hV 0
  have v1 := Lib.cell_of_heap hV 1
  have v2 := Lib.cell_of_heap hV 2
  have v3 := Lib.cell_of_heap hV 3
  have v4 := Lib.cell_of_heap hV 4
  exact bodyPost_ret (v := .agg #[.int .i64 m.kind, .string m.text, .int .i64 m.lo, .int .i64 m.hi, .slice m.A m.kids.length m.c]) (by simp [results, Tryd.results26, go_sem, v0, v1, v2, v3, v4]) rfl ⟨m, rfl, HST_m.out, hin, hp, hf⟩
end Go.Proofs.YtnpcfmoiiecadaaDoor.Par
