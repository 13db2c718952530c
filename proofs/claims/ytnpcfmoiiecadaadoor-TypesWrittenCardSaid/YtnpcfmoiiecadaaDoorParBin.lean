/- What is proved: the reference's parser: expression of the binary levels. -/
import Derived.Test.YtnpcfmoiiecadaaDoorParExp
import Derived.Deep.LoopGhost
import Derived.Deep.Cut
set_option linter.unusedVariables false
namespace Go.Proofs.YtnpcfmoiiecadaaDoor.Par
open Go.RowKit
open Lx (Tok)

/-- the variable of a loop is written: the tree lies in other blocks -/
theorem box_put {B0 bp lo bx : Nat} {E : Env} {w wf : World} {q : St} {z : NT} {a b c d f : Value} (hB : B0 ≤ w.heap.size) (hw : w.heap.size < bx) (hb : wf.heap[bx]? = some (.cells #[a, b, c, d, f] 31 (0, 0)))
    (hz : InS (fun b => (NB wf b ∧ lo ≤ b) ∧ b ≠ bx) wf z) (hp : PIs B0 bp E wf q) (hf : Fr B0 w wf) (hzb : ZB wf w.heap.size) :
    NV (putN wf bx z) bx z ∧ InS (fun b => (NB (putN wf bx z) b ∧ lo ≤ b) ∧ b ≠ bx) (putN wf bx z) z ∧ PIs B0 bp E (putN wf bx z) q ∧ Fr B0 w (putN wf bx z) ∧ ZB (putN wf bx z) w.heap.size := by
  have hfar : ∀ b', b' ≠ bx → (putN wf bx z).heap[b']? = wf.heap[b']? := fun b' hb => putN_far wf z hb
  have h1 : B0 ≤ bx := by omega
  refine ⟨hset (hset (hset (hset (hset hb _) _) _) _) _, InS.mono (fun b' h => ⟨⟨h.1.1.of_eq (hfar b' h.2), h.1.2⟩, h.2⟩) z (InS.keep (fun b' h => hfar b' h.2) z hz), hp.but (b := bx) ⟨_, _, hb⟩ hfar, ⟨?_, fun b' hb' hm => (hfar b' (by omega)).trans (hf.keep b' hb' hm)⟩, (hfar _ (by omega)).trans hzb⟩
  exact ((((hf.below.setCell (p := ⟨bx, 0, none⟩) h1 _).setCell (p := ⟨bx, 1, none⟩) h1 _).setCell (p := ⟨bx, 2, none⟩) h1 _).setCell (p := ⟨bx, 3, none⟩) h1 _).setCell (p := ⟨bx, 4, none⟩) h1 _
theorem oper_not_end {E : Env} {lvl : Nat} {p : St} (h : oper E lvl p = true) : knd E p ≠ 5 := fun e => by unfold oper at h; rw [e] at h; cases h
theorem operator_at {B0 bp : Nat} {E : Env} {w : World} {p : St} (h : PIs B0 bp E w p) {lvl : Nat} (hl : lvlB lvl) {b : Bool} (hx : oper E lvl p = b) :
    Calls Tryd.prog 84 #[.pointer (some ⟨bp, 0, none⟩), .int .i64 (lvl : Int)] w fun e w' => e = .returned (.bool b) ∧ Below w.heap.size w w' := by
  have := operator_any h lvl hl; rw [hx] at this; exact this
set_option maxHeartbeats 4000000 in
set_option maxRecDepth 100000 in
theorem bin_many {B0 bp : Nat} {E : Env} {w : World} {p : St} (h : PIs B0 bp E w p) {R : Rec} (hex : ExOK B0 bp E R) (lvl l1 : Nat) (hl : lvlB lvl) (hlb : lvl ≤ 6) (hl4 : ¬ lvl = 4) (q4 : (((lvl : Nat) : Int) == 4) = false) (q3 : (((lvl : Nat) : Int) == 3) = false) (q7 : (((lvl : Nat) : Int) == 7) = false) (hlk : (l1 : Int) = ((lvl + 1 : Nat) : Int)) (hls : ((lvl : Nat) : Int) + 1 = (l1 : Int)) (hlw : IntKind.i64.wrap (l1 : Int) = (l1 : Int)) (x1 : NT) (q1 : St) (hx1 : R.ex (lvl + 1) p = some (x1, q1)) (m : NT) (q : St) (hmb : binL E R lvl p.k (fuel E) x1 q1 = some (m, q)) :
    Calls Tryd.prog 70 #[ptr bp, .int .i64 (lvl : Int)] w fun e w' => Got B0 bp w.heap.size E w (m) (q) e w' := by
  have HF := Lib.hid h.ok.1
  have HB0 := Lib.hid h.b0
  have HP := Lib.hid h
  have HLK := Lib.hid hlk
  have HL4 := Lib.hid hl4
  clear hlk hl4
  clear h
  unfold ptr at *
  go_enter Tryd.func70, Tryd.ntmps70
  have hb0 := (Below.refl w.heap.size w).alloc (Nat.le_refl _) (.cells #[.int .i64 0, .string ⟨#[]⟩, .int .i64 0, .int .i64 0, .slice none 0 0] 31)
  have hz0 : ZB (w.alloc (.cells #[.int .i64 0, .string ⟨#[]⟩, .int .i64 0, .int .i64 0, .slice none 0 0] 31)) w.heap.size := heap_alloc_new w _
  have hs0 : (w.alloc (.cells #[.int .i64 0, .string ⟨#[]⟩, .int .i64 0, .int .i64 0, .slice none 0 0] 31)).heap.size = w.heap.size + 1 := World.size_alloc _ _
  have HP0 := Lib.hid (HP.out.later hb0)
  have HF0 := Lib.hid (Fr.of_below hb0 HB0.out)
  have HZ0 := Lib.hid hz0
  have HS0 := Lib.hid (show w.heap.size + 1 ≤ (w.alloc (.cells #[.int .i64 0, .string ⟨#[]⟩, .int .i64 0, .int .i64 0, .slice none 0 0] 31)).heap.size by rw [hs0]; omega)
  have c0 := HP0.out.c2
  clear hb0 hz0 hs0
  go_wp2_with (fail)
  clear c0
  generalize (w.alloc (.cells #[.int .i64 0, .string ⟨#[]⟩, .int .i64 0, .int .i64 0, .slice none 0 0] 31)) = w0 at *
  refine (HLK.out ▸ hex (lvl + 1) _ _ x1 q1 (by omega) (by omega) hx1 HP0.out).mono ?_
  rintro e w1 ⟨x0, rfl, hst1, hin1, hp1, hf1⟩
  have HP1 := Lib.hid hp1
  have HST_x0 := Lib.hid hst1
  have HIN_x0_1 := Lib.hid (InF.mono hin1 HS0.out)
  clear hp1 hst1 hin1
  have HF1 := Lib.hid (HF0.out.trans hf1)
  have HZ1 := Lib.hid (HZ0.out.fr hf1)
  have HS1 := Lib.hid (Nat.le_trans HS0.out hf1.below.size)
  clear HF0 HZ0
  clear hf1
  have c1 := HP1.out.c2
  go_wp2_with (fail)
  clear c1
  have hba := (Below.refl w1.heap.size w1).alloc (Nat.le_refl _) (.cells #[.int .i64 x0.kind, .string x0.text, .int .i64 x0.lo, .int .i64 x0.hi, .slice x0.A x0.kids.length x0.c] 31)
  have hnb : (w1.alloc (.cells #[.int .i64 x0.kind, .string x0.text, .int .i64 x0.lo, .int .i64 x0.hi, .slice x0.A x0.kids.length x0.c] 31)).heap[w1.heap.size]? = some (.cells #[.int .i64 x0.kind, .string x0.text, .int .i64 x0.lo, .int .i64 x0.hi, .slice x0.A x0.kids.length x0.c] 31 (0, 0)) := heap_alloc_new w1 _
  have hfc : Fr B0 w1 (w1.alloc (.cells #[.int .i64 x0.kind, .string x0.text, .int .i64 x0.lo, .int .i64 x0.hi, .slice x0.A x0.kids.length x0.c] 31)) := Fr.of_below hba HP1.out.b0
  have HNV := Lib.hid (show NV (w1.alloc (.cells #[.int .i64 x0.kind, .string x0.text, .int .i64 x0.lo, .int .i64 x0.hi, .slice x0.A x0.kids.length x0.c] 31)) w1.heap.size x0 from hnb)
  have HIX0 := Lib.hid (HIN_x0_1.out.alloc (.cells #[.int .i64 x0.kind, .string x0.text, .int .i64 x0.lo, .int .i64 x0.hi, .slice x0.A x0.kids.length x0.c] 31))
  have HPX := Lib.hid (HP1.out.later hba)
  have HFX := Lib.hid (HF1.out.trans hfc)
  have HZX := Lib.hid (HZ1.out.fr hfc)
  have HMX := Lib.hid hmb
  have HBS := Lib.hid (show w1.heap.size < (w1.alloc (.cells #[.int .i64 x0.kind, .string x0.text, .int .i64 x0.lo, .int .i64 x0.hi, .slice x0.A x0.kids.length x0.c] 31)).heap.size by rw [World.size_alloc]; omega)
  have HBW := Lib.hid (show w.heap.size < w1.heap.size from HS1.out)
  have HL := Lib.hid hl
  clear hba hnb hfc hmb HF1 HZ1 hl
  generalize (w1.alloc (.cells #[.int .i64 x0.kind, .string x0.text, .int .i64 x0.lo, .int .i64 x0.hi, .slice x0.A x0.kids.length x0.c] 31)) = wx at *
  generalize hbx : w1.heap.size = bx at *
  clear hbx
  go_loopg [9] (fuel E) (fun f s9 wr => ∃ (x xs : NT) (st : St), Hid (NV wr bx x) ∧ Hid (NT.strip x = xs) ∧ Hid (InS (fun b => (NB wr b ∧ w.heap.size + 1 ≤ b) ∧ b ≠ bx) wr x) ∧ Hid (PIs B0 bp E wr st) ∧ Hid (Fr B0 w wr) ∧ Hid (ZB wr w.heap.size) ∧ Hid (binL E R lvl p.k f xs st = some (m, q)) ∧ Hid (bx < wr.heap.size))
  case atStart => exact ⟨x0, x1, q1, HNV, HST_x0, HIX0, HPX, HFX, HZX, HMX, HBS⟩
  case round =>
    obtain ⟨x, xs, st, hnv, hst, hix, hps, hfs, hzs, hmb, hbs⟩ := hrel
    obtain ⟨f', rfl⟩ : ∃ f', gk = f' + 1 := by
      cases gk with
      | zero => have h9 := hmb.out; simp [binL] at h9
      | succ f' => exact ⟨f', rfl⟩
    cases hop : oper E lvl st with
    | true =>
      obtain ⟨y1, p1, hy1, hr1⟩ : ∃ y1 p1, R.ex (lvl + 1) (rd E st) = some (y1, p1) ∧ (if lvl = 4 then some (mkN E p1 p.k 29 (wd E st.k) [xs, y1], p1) else binL E R lvl p.k f' (mkN E p1 p.k 29 (wd E st.k) [xs, y1]) p1) = some (m, q) := by
        have h9 := hmb.out
        simp only [binL, hop, if_true] at h9
        cases hr : R.ex (lvl + 1) (rd E st) with
        | none => rw [hr] at h9; simp at h9
        | some y => rw [hr] at h9; exact ⟨y.1, y.2, rfl, by simpa using h9⟩
      rw [if_neg HL4.out] at hr1
      have HY1 := Lib.hid hy1
      have HR1 := Lib.hid hr1
      have HOP := Lib.hid hop
      clear hmb hy1 hr1 hop
      go_wp2_with (fail)
      refine (operator_at hps.out HL.out HOP.out).mono ?_
      rintro e wa ⟨rfl, hba⟩
      have hfa := Fr.of_below hba hps.out.b0
      have HPA := Lib.hid (hps.out.later hba)
      have HFA := Lib.hid hfa
      clear hba hfa
      go_wp2_with (fail)
      refine (read_any HPA.out (oper_not_end HOP.out)).mono ?_
      rintro e wb ⟨rfl, hpb, hfb⟩
      have HPB := Lib.hid hpb
      have HFB := Lib.hid (HFA.out.trans hfb)
      clear hpb hfb
      go_wp2_with (fail)
      refine (HLK.out ▸ hex (lvl + 1) _ _ y1 p1 (by omega) (by omega) HY1.out HPB.out).mono ?_
      rintro e wc ⟨y, rfl, hsy, hiy, hpc, hfc⟩
      have HSY := Lib.hid hsy
      have HIY := Lib.hid (show InS (fun b => (NB wc b ∧ w.heap.size + 1 ≤ b) ∧ b ≠ bx) wc y from InS.mono (fun b hb => ⟨⟨hb.1, by have := hb.2; have := HFB.out.below.size; have := hbs.out; have := HBW.out; omega⟩, by have := hb.2; have := HFB.out.below.size; have := hbs.out; omega⟩) y hiy)
      have HPC := Lib.hid hpc
      have HFC := Lib.hid (HFB.out.trans hfc)
      have HNC := Lib.hid (hnv.out.fr HFC.out)
      clear hsy hiy hpc hfc
      obtain ⟨a0, a1, a2, a3, a4⟩ := HNC.out.cells
      have hbd := (Below.refl wc.heap.size wc).alloc (Nat.le_refl _) (.cells #[.int .i64 y.kind, .string y.text, .int .i64 y.lo, .int .i64 y.hi, .slice y.A y.kids.length y.c] 31)
      have hnd := NV.fr HNC.out (Fr.of_below (B0 := B0) hbd HPC.out.b0)
      obtain ⟨e0, e1, e2, e3, e4⟩ := hnd.cells
      clear hbd hnd
      go_wp2_with (fail)
      clear a0 a1 a2 a3 a4 e0 e1 e2 e3 e4
      have hbe := ((Below.refl wc.heap.size wc).alloc (by simp) (.cells #[.int .i64 y.kind, .string y.text, .int .i64 y.lo, .int .i64 y.hi, .slice y.A y.kids.length y.c] 31)).alloc (by simp) (.cells #[.int .i64 x.kind, .string x.text, .int .i64 x.lo, .int .i64 x.hi, .slice x.A x.kids.length x.c, .int .i64 y.kind, .string y.text, .int .i64 y.lo, .int .i64 y.hi, .slice y.A y.kids.length y.c] 31)
      have hke := heap_alloc_new (wc.alloc (.cells #[.int .i64 y.kind, .string y.text, .int .i64 y.lo, .int .i64 y.hi, .slice y.A y.kids.length y.c] 31)) (.cells #[.int .i64 x.kind, .string x.text, .int .i64 x.lo, .int .i64 x.hi, .slice x.A x.kids.length x.c, .int .i64 y.kind, .string y.text, .int .i64 y.lo, .int .i64 y.hi, .slice y.A y.kids.length y.c] 31)
      rw [World.size_alloc] at hke
      have HKE := Lib.hid hke
      have HFE := Lib.hid (Fr.of_below hbe HPC.out.b0)
      have HPE := Lib.hid (HPC.out.later hbe)
      have HZE := Lib.hid ((hzs.out.fr HFC.out).fr HFE.out)
      have HNE := Lib.hid (HNC.out.fr HFE.out)
      have HCS := Lib.hid (show bx < wc.heap.size from Nat.lt_of_lt_of_le hbs.out HFC.out.below.size)
      clear hbe hke
      generalize ((wc.alloc (.cells #[.int .i64 y.kind, .string y.text, .int .i64 y.lo, .int .i64 y.hi, .slice y.A y.kids.length y.c] 31)).alloc (.cells #[.int .i64 x.kind, .string x.text, .int .i64 x.lo, .int .i64 x.hi, .slice x.A x.kids.length x.c, .int .i64 y.kind, .string y.text, .int .i64 y.lo, .int .i64 y.hi, .slice y.A y.kids.length y.c] 31)) = we at *
      have hks : ∀ k ∈ [x, y], InS (fun b => (NB we b ∧ w.heap.size + 1 ≤ b) ∧ b ≠ bx) we k := fun k hk => by
        have hk' : ∀ k, InS (fun b => (NB wc b ∧ w.heap.size + 1 ≤ b) ∧ b ≠ bx) wc k → InS (fun b => (NB we b ∧ w.heap.size + 1 ≤ b) ∧ b ≠ bx) we k := fun k h => InS.mono (fun b hb => ⟨⟨hb.1.1.of_eq (NB.fr hb.1.1 HFE.out), hb.1.2⟩, hb.2⟩) k (InS.keep (fun b hb => NB.fr hb.1.1 HFE.out) k h)
        simp only [List.mem_cons, List.not_mem_nil, or_false] at hk
        rcases hk with rfl | rfl
        · exact hk' _ (InS.mono (fun b hb => ⟨⟨hb.1.1.of_eq (NB.fr hb.1.1 HFC.out), hb.1.2⟩, hb.2⟩) _ (InS.keep (fun b hb => NB.fr hb.1.1 HFC.out) _ hix.out))
        · exact hk' _ HIY.out
      have HKS := Lib.hid hks
      have HKI := Lib.hid (kin_block (lo := w.heap.size + 1) (c := 2) (ks := [x, y]) HKE.out (fun j _ => by simp [ncl]) (by have := HCS.out; have := HBW.out; omega) (Nat.le_refl _) (fun k hk => InS.mono (fun b hb => hb.1) k (hks k hk)))
      clear hks
      refine (show Calls Tryd.prog 29 #[.pointer (some ⟨bp, 0, none⟩), .int .i64 (p.k : Int), .int .i64 29, .string (wd E st.k), .slice (some ⟨wc.heap.size + 1, 0, none⟩) 2 2] we (fun e w' => e = .returned (.agg #[.int .i64 29, .string (wd E st.k), .int .i64 (at1 E p1 p.k [x, y]), .int .i64 p1.last, .slice (some ⟨wc.heap.size + 1, 0, none⟩) 2 2]) ∧ Below we.heap.size we w') from node_any HPE.out p.k 29 (wd E st.k) (some ⟨wc.heap.size + 1, 0, none⟩) 2 [x, y] HF.out HKI.out).mono ?_
      rintro e wg ⟨rfl, hbg⟩
      have hfg := Fr.of_below hbg HPE.out.b0
      have hzg : InS (fun b => (NB wg b ∧ w.heap.size + 1 ≤ b) ∧ b ≠ bx) wg (.mk 29 (wd E st.k) (at1 E p1 p.k [x, y]) p1.last (some ⟨wc.heap.size + 1, 0, none⟩) 2 [x, y]) := by
        refine InS.mono (fun b hb => ⟨⟨hb.1.1.of_eq (NB.fr hb.1.1 hfg), hb.1.2⟩, hb.2⟩) _ (InS.keep (fun b hb => NB.fr hb.1.1 hfg) _ ((inS_iff _).2 ⟨fun h0 => ?_, Nat.le_refl _, HKS.out⟩))
        obtain ⟨b, o, hA, hS, hc⟩ := HKI.out.row h0
        cases hA
        exact ⟨_, _, rfl, ⟨hS, by have := HCS.out; omega⟩, hc⟩
      obtain ⟨hnV, hiV, hpV, hfV, hzV⟩ := box_put (z := .mk 29 (wd E st.k) (at1 E p1 p.k [x, y]) p1.last (some ⟨wc.heap.size + 1, 0, none⟩) 2 [x, y]) HB0.out HBW.out (HNE.out.fr hfg) hzg (HPE.out.later hbg) (((hfs.out.trans HFC.out).trans HFE.out).trans hfg) (HZE.out.fr hfg)
      have HSV := Lib.hid (show NT.strip (.mk 29 (wd E st.k) (at1 E p1 p.k [x, y]) p1.last (some ⟨wc.heap.size + 1, 0, none⟩) 2 [x, y]) = mkN E p1 p.k 29 (wd E st.k) [xs, y1] by rw [strip_mkN, List.map_cons, List.map_cons, List.map_nil, hst.out, HSY.out])
      have hnw := HNE.out.fr hfg
      have g0 := Lib.cell_of_heap hnw 0
      have g1 := Lib.cell_of_heap hnw 1
      have g2 := Lib.cell_of_heap hnw 2
      have g3 := Lib.cell_of_heap hnw 3
      have g4 := Lib.cell_of_heap hnw 4
      have y0 := hfrz hnw 0
      have y1' := hfrz hnw 1
      have y2 := hfrz hnw 2
      have y3 := hfrz hnw 3
      have y4 := hfrz hnw 4
      have HBV := Lib.hid (show bx < wg.heap.size from Nat.lt_of_lt_of_le (Nat.lt_of_lt_of_le HCS.out HFE.out.below.size) hbg.size)
      have HNV' := Lib.hid hnV
      have HBG := Lib.hid hbg
      have HIV := Lib.hid hiV
      have HPV := Lib.hid hpV
      have HFV := Lib.hid hfV
      have HZV := Lib.hid hzV
      clear hnw hzg hfg hbg hnV hiV hpV hfV hzV
      dsimp only [putN, NT.kind, NT.text, NT.lo, NT.hi, NT.A, NT.c, NT.kids, List.length_cons, List.length_nil, Nat.zero_add, Nat.reduceAdd] at HNV' HIV HPV HFV HZV
      go_wp2_with (fail)
      go_roundg f'
      case measure => omega
      case rel => exact ⟨_, _, p1, HNV', HSV, HIV, HPV, HFV, HZV, HR1, Lib.hid (by have := HBV.out; simpa [World.setCell] using this)⟩
    | false =>
      have hfin : xs = m ∧ st = q := by
        have h9 := hmb.out
        simp only [binL, hop, Bool.false_eq_true, if_false, Option.some.injEq, Prod.mk.injEq] at h9
        exact h9
      have HFIN := Lib.hid hfin
      have HOP := Lib.hid hop
      clear hmb hop hfin
      go_wp2_with (fail)
      refine (operator_at hps.out HL.out HOP.out).mono ?_
      rintro e wc ⟨rfl, hba⟩
      have hfa := Fr.of_below hba hps.out.b0
      have HPC := Lib.hid (show PIs B0 bp E wc q by rw [← HFIN.out.2]; exact hps.out.later hba)
      have HFC := Lib.hid (hfs.out.trans hfa)
      have HZC := Lib.hid (hzs.out.fr hfa)
      have HNC := Lib.hid (hnv.out.fr hfa)
      have HIX := Lib.hid (show InF (w.heap.size + 1) wc x from InF.fr (InS.mono (fun b hb => hb.1) x hix.out) hfa)
      have HSX := Lib.hid (hst.out.trans HFIN.out.1)
      clear hba hfa
      obtain ⟨a0, a1, a2, a3, a4⟩ := HNC.out.cells
      obtain ⟨z0, z1, z2, z3, z4⟩ := HZC.out.cells
      have y0 := HZC.out.frozen 0
      have y1 := HZC.out.frozen 1
      have y2 := HZC.out.frozen 2
      have y3 := HZC.out.frozen 3
      have y4 := HZC.out.frozen 4
      go_wp2_with (fail)
      obtain ⟨hV, hin, hp, hf⟩ := got_put (w := w) (w2 := wc) (n := x) HB0.out HZC.out (Nat.le_refl _) HIX.out HPC.out HFC.out
      clear a0 a1 a2 a3 a4
      clear z0 z1 z2 z3 z4 y0 y1 y2 y3 y4
      dsimp only [putN] at hV hin hp hf
      generalize (((((wc.setCell ⟨w.heap.size, 0, none⟩ (.int .i64 x.kind)).setCell ⟨w.heap.size, 1, none⟩ (.string x.text)).setCell ⟨w.heap.size, 2, none⟩ (.int .i64 x.lo)).setCell ⟨w.heap.size, 3, none⟩ (.int .i64 x.hi)).setCell ⟨w.heap.size, 4, none⟩ (.slice x.A x.kids.length x.c)) = V at *
      have v0 := Lib.cell_of_heap hV 0
      have v1 := Lib.cell_of_heap hV 1
      have v2 := Lib.cell_of_heap hV 2
      have v3 := Lib.cell_of_heap hV 3
      have v4 := Lib.cell_of_heap hV 4
      exact bodyPost_ret (v := .agg #[.int .i64 x.kind, .string x.text, .int .i64 x.lo, .int .i64 x.hi, .slice x.A x.kids.length x.c]) (by simp [results, Tryd.results70, go_sem, v0, v1, v2, v3, v4]) rfl ⟨x, rfl, HSX.out, hin, hp, hf⟩
set_option maxHeartbeats 4000000 in
set_option maxRecDepth 100000 in
theorem bin_once {B0 bp : Nat} {E : Env} {w : World} {p : St} (h : PIs B0 bp E w p) {R : Rec} (hex : ExOK B0 bp E R) (lvl l1 : Nat) (hl : lvlB lvl) (hlb : lvl ≤ 6) (hl4 : lvl = 4) (q4 : (((lvl : Nat) : Int) == 4) = true) (q3 : (((lvl : Nat) : Int) == 3) = false) (q7 : (((lvl : Nat) : Int) == 7) = false) (hlk : (l1 : Int) = ((lvl + 1 : Nat) : Int)) (hls : ((lvl : Nat) : Int) + 1 = (l1 : Int)) (hlw : IntKind.i64.wrap (l1 : Int) = (l1 : Int)) (x1 : NT) (q1 : St) (hx1 : R.ex (lvl + 1) p = some (x1, q1)) (m : NT) (q : St) (hmb : binL E R lvl p.k (fuel E) x1 q1 = some (m, q)) :
    Calls Tryd.prog 70 #[ptr bp, .int .i64 (lvl : Int)] w fun e w' => Got B0 bp w.heap.size E w (m) (q) e w' := by
  have HF := Lib.hid h.ok.1
  have HB0 := Lib.hid h.b0
  have HP := Lib.hid h
  have HLK := Lib.hid hlk
  have HL4 := Lib.hid hl4
  clear hlk hl4
  clear h
  unfold ptr at *
  go_enter Tryd.func70, Tryd.ntmps70
  have hb0 := (Below.refl w.heap.size w).alloc (Nat.le_refl _) (.cells #[.int .i64 0, .string ⟨#[]⟩, .int .i64 0, .int .i64 0, .slice none 0 0] 31)
  have hz0 : ZB (w.alloc (.cells #[.int .i64 0, .string ⟨#[]⟩, .int .i64 0, .int .i64 0, .slice none 0 0] 31)) w.heap.size := heap_alloc_new w _
  have hs0 : (w.alloc (.cells #[.int .i64 0, .string ⟨#[]⟩, .int .i64 0, .int .i64 0, .slice none 0 0] 31)).heap.size = w.heap.size + 1 := World.size_alloc _ _
  have HP0 := Lib.hid (HP.out.later hb0)
  have HF0 := Lib.hid (Fr.of_below hb0 HB0.out)
  have HZ0 := Lib.hid hz0
  have HS0 := Lib.hid (show w.heap.size + 1 ≤ (w.alloc (.cells #[.int .i64 0, .string ⟨#[]⟩, .int .i64 0, .int .i64 0, .slice none 0 0] 31)).heap.size by rw [hs0]; omega)
  have c0 := HP0.out.c2
  clear hb0 hz0 hs0
  go_wp2_with (fail)
  clear c0
  generalize (w.alloc (.cells #[.int .i64 0, .string ⟨#[]⟩, .int .i64 0, .int .i64 0, .slice none 0 0] 31)) = w0 at *
  refine (HLK.out ▸ hex (lvl + 1) _ _ x1 q1 (by omega) (by omega) hx1 HP0.out).mono ?_
  rintro e w1 ⟨x0, rfl, hst1, hin1, hp1, hf1⟩
  have HP1 := Lib.hid hp1
  have HST_x0 := Lib.hid hst1
  have HIN_x0_1 := Lib.hid (InF.mono hin1 HS0.out)
  clear hp1 hst1 hin1
  have HF1 := Lib.hid (HF0.out.trans hf1)
  have HZ1 := Lib.hid (HZ0.out.fr hf1)
  have HS1 := Lib.hid (Nat.le_trans HS0.out hf1.below.size)
  clear HF0 HZ0
  clear hf1
  have c1 := HP1.out.c2
  go_wp2_with (fail)
  clear c1
  have hba := (Below.refl w1.heap.size w1).alloc (Nat.le_refl _) (.cells #[.int .i64 x0.kind, .string x0.text, .int .i64 x0.lo, .int .i64 x0.hi, .slice x0.A x0.kids.length x0.c] 31)
  have hnb : (w1.alloc (.cells #[.int .i64 x0.kind, .string x0.text, .int .i64 x0.lo, .int .i64 x0.hi, .slice x0.A x0.kids.length x0.c] 31)).heap[w1.heap.size]? = some (.cells #[.int .i64 x0.kind, .string x0.text, .int .i64 x0.lo, .int .i64 x0.hi, .slice x0.A x0.kids.length x0.c] 31 (0, 0)) := heap_alloc_new w1 _
  have hfc : Fr B0 w1 (w1.alloc (.cells #[.int .i64 x0.kind, .string x0.text, .int .i64 x0.lo, .int .i64 x0.hi, .slice x0.A x0.kids.length x0.c] 31)) := Fr.of_below hba HP1.out.b0
  have HNV := Lib.hid (show NV (w1.alloc (.cells #[.int .i64 x0.kind, .string x0.text, .int .i64 x0.lo, .int .i64 x0.hi, .slice x0.A x0.kids.length x0.c] 31)) w1.heap.size x0 from hnb)
  have HIX0 := Lib.hid (HIN_x0_1.out.alloc (.cells #[.int .i64 x0.kind, .string x0.text, .int .i64 x0.lo, .int .i64 x0.hi, .slice x0.A x0.kids.length x0.c] 31))
  have HPX := Lib.hid (HP1.out.later hba)
  have HFX := Lib.hid (HF1.out.trans hfc)
  have HZX := Lib.hid (HZ1.out.fr hfc)
  have HMX := Lib.hid hmb
  have HBS := Lib.hid (show w1.heap.size < (w1.alloc (.cells #[.int .i64 x0.kind, .string x0.text, .int .i64 x0.lo, .int .i64 x0.hi, .slice x0.A x0.kids.length x0.c] 31)).heap.size by rw [World.size_alloc]; omega)
  have HBW := Lib.hid (show w.heap.size < w1.heap.size from HS1.out)
  have HL := Lib.hid hl
  clear hba hnb hfc hmb HF1 HZ1 hl
  generalize (w1.alloc (.cells #[.int .i64 x0.kind, .string x0.text, .int .i64 x0.lo, .int .i64 x0.hi, .slice x0.A x0.kids.length x0.c] 31)) = wx at *
  generalize hbx : w1.heap.size = bx at *
  clear hbx
  go_loopg [9] (fuel E) (fun f s9 wr => ∃ (x xs : NT) (st : St), Hid (NV wr bx x) ∧ Hid (NT.strip x = xs) ∧ Hid (InS (fun b => (NB wr b ∧ w.heap.size + 1 ≤ b) ∧ b ≠ bx) wr x) ∧ Hid (PIs B0 bp E wr st) ∧ Hid (Fr B0 w wr) ∧ Hid (ZB wr w.heap.size) ∧ Hid (binL E R lvl p.k f xs st = some (m, q)) ∧ Hid (bx < wr.heap.size))
  case atStart => exact ⟨x0, x1, q1, HNV, HST_x0, HIX0, HPX, HFX, HZX, HMX, HBS⟩
  case round =>
    obtain ⟨x, xs, st, hnv, hst, hix, hps, hfs, hzs, hmb, hbs⟩ := hrel
    obtain ⟨f', rfl⟩ : ∃ f', gk = f' + 1 := by
      cases gk with
      | zero => have h9 := hmb.out; simp [binL] at h9
      | succ f' => exact ⟨f', rfl⟩
    cases hop : oper E lvl st with
    | true =>
      obtain ⟨y1, p1, hy1, hr1⟩ : ∃ y1 p1, R.ex (lvl + 1) (rd E st) = some (y1, p1) ∧ (if lvl = 4 then some (mkN E p1 p.k 29 (wd E st.k) [xs, y1], p1) else binL E R lvl p.k f' (mkN E p1 p.k 29 (wd E st.k) [xs, y1]) p1) = some (m, q) := by
        have h9 := hmb.out
        simp only [binL, hop, if_true] at h9
        cases hr : R.ex (lvl + 1) (rd E st) with
        | none => rw [hr] at h9; simp at h9
        | some y => rw [hr] at h9; exact ⟨y.1, y.2, rfl, by simpa using h9⟩
      rw [if_pos HL4.out] at hr1
      have HY1 := Lib.hid hy1
      have HR1 := Lib.hid hr1
      have HOP := Lib.hid hop
      clear hmb hy1 hr1 hop
      go_wp2_with (fail)
      refine (operator_at hps.out HL.out HOP.out).mono ?_
      rintro e wa ⟨rfl, hba⟩
      have hfa := Fr.of_below hba hps.out.b0
      have HPA := Lib.hid (hps.out.later hba)
      have HFA := Lib.hid hfa
      clear hba hfa
      go_wp2_with (fail)
      refine (read_any HPA.out (oper_not_end HOP.out)).mono ?_
      rintro e wb ⟨rfl, hpb, hfb⟩
      have HPB := Lib.hid hpb
      have HFB := Lib.hid (HFA.out.trans hfb)
      clear hpb hfb
      go_wp2_with (fail)
      refine (HLK.out ▸ hex (lvl + 1) _ _ y1 p1 (by omega) (by omega) HY1.out HPB.out).mono ?_
      rintro e wc ⟨y, rfl, hsy, hiy, hpc, hfc⟩
      have HSY := Lib.hid hsy
      have HIY := Lib.hid (show InS (fun b => (NB wc b ∧ w.heap.size + 1 ≤ b) ∧ b ≠ bx) wc y from InS.mono (fun b hb => ⟨⟨hb.1, by have := hb.2; have := HFB.out.below.size; have := hbs.out; have := HBW.out; omega⟩, by have := hb.2; have := HFB.out.below.size; have := hbs.out; omega⟩) y hiy)
      have HPC := Lib.hid hpc
      have HFC := Lib.hid (HFB.out.trans hfc)
      have HNC := Lib.hid (hnv.out.fr HFC.out)
      clear hsy hiy hpc hfc
      obtain ⟨a0, a1, a2, a3, a4⟩ := HNC.out.cells
      have hbd := (Below.refl wc.heap.size wc).alloc (Nat.le_refl _) (.cells #[.int .i64 y.kind, .string y.text, .int .i64 y.lo, .int .i64 y.hi, .slice y.A y.kids.length y.c] 31)
      have hnd := NV.fr HNC.out (Fr.of_below (B0 := B0) hbd HPC.out.b0)
      obtain ⟨e0, e1, e2, e3, e4⟩ := hnd.cells
      clear hbd hnd
      go_wp2_with (fail)
      clear a0 a1 a2 a3 a4 e0 e1 e2 e3 e4
      have hbe := ((Below.refl wc.heap.size wc).alloc (by simp) (.cells #[.int .i64 y.kind, .string y.text, .int .i64 y.lo, .int .i64 y.hi, .slice y.A y.kids.length y.c] 31)).alloc (by simp) (.cells #[.int .i64 x.kind, .string x.text, .int .i64 x.lo, .int .i64 x.hi, .slice x.A x.kids.length x.c, .int .i64 y.kind, .string y.text, .int .i64 y.lo, .int .i64 y.hi, .slice y.A y.kids.length y.c] 31)
      have hke := heap_alloc_new (wc.alloc (.cells #[.int .i64 y.kind, .string y.text, .int .i64 y.lo, .int .i64 y.hi, .slice y.A y.kids.length y.c] 31)) (.cells #[.int .i64 x.kind, .string x.text, .int .i64 x.lo, .int .i64 x.hi, .slice x.A x.kids.length x.c, .int .i64 y.kind, .string y.text, .int .i64 y.lo, .int .i64 y.hi, .slice y.A y.kids.length y.c] 31)
      rw [World.size_alloc] at hke
      have HKE := Lib.hid hke
      have HFE := Lib.hid (Fr.of_below hbe HPC.out.b0)
      have HPE := Lib.hid (HPC.out.later hbe)
      have HZE := Lib.hid ((hzs.out.fr HFC.out).fr HFE.out)
      have HNE := Lib.hid (HNC.out.fr HFE.out)
      have HCS := Lib.hid (show bx < wc.heap.size from Nat.lt_of_lt_of_le hbs.out HFC.out.below.size)
      clear hbe hke
      generalize ((wc.alloc (.cells #[.int .i64 y.kind, .string y.text, .int .i64 y.lo, .int .i64 y.hi, .slice y.A y.kids.length y.c] 31)).alloc (.cells #[.int .i64 x.kind, .string x.text, .int .i64 x.lo, .int .i64 x.hi, .slice x.A x.kids.length x.c, .int .i64 y.kind, .string y.text, .int .i64 y.lo, .int .i64 y.hi, .slice y.A y.kids.length y.c] 31)) = we at *
      have hks : ∀ k ∈ [x, y], InS (fun b => (NB we b ∧ w.heap.size + 1 ≤ b) ∧ b ≠ bx) we k := fun k hk => by
        have hk' : ∀ k, InS (fun b => (NB wc b ∧ w.heap.size + 1 ≤ b) ∧ b ≠ bx) wc k → InS (fun b => (NB we b ∧ w.heap.size + 1 ≤ b) ∧ b ≠ bx) we k := fun k h => InS.mono (fun b hb => ⟨⟨hb.1.1.of_eq (NB.fr hb.1.1 HFE.out), hb.1.2⟩, hb.2⟩) k (InS.keep (fun b hb => NB.fr hb.1.1 HFE.out) k h)
        simp only [List.mem_cons, List.not_mem_nil, or_false] at hk
        rcases hk with rfl | rfl
        · exact hk' _ (InS.mono (fun b hb => ⟨⟨hb.1.1.of_eq (NB.fr hb.1.1 HFC.out), hb.1.2⟩, hb.2⟩) _ (InS.keep (fun b hb => NB.fr hb.1.1 HFC.out) _ hix.out))
        · exact hk' _ HIY.out
      have HKS := Lib.hid hks
      have HKI := Lib.hid (kin_block (lo := w.heap.size + 1) (c := 2) (ks := [x, y]) HKE.out (fun j _ => by simp [ncl]) (by have := HCS.out; have := HBW.out; omega) (Nat.le_refl _) (fun k hk => InS.mono (fun b hb => hb.1) k (hks k hk)))
      clear hks
      refine (show Calls Tryd.prog 29 #[.pointer (some ⟨bp, 0, none⟩), .int .i64 (p.k : Int), .int .i64 29, .string (wd E st.k), .slice (some ⟨wc.heap.size + 1, 0, none⟩) 2 2] we (fun e w' => e = .returned (.agg #[.int .i64 29, .string (wd E st.k), .int .i64 (at1 E p1 p.k [x, y]), .int .i64 p1.last, .slice (some ⟨wc.heap.size + 1, 0, none⟩) 2 2]) ∧ Below we.heap.size we w') from node_any HPE.out p.k 29 (wd E st.k) (some ⟨wc.heap.size + 1, 0, none⟩) 2 [x, y] HF.out HKI.out).mono ?_
      rintro e wg ⟨rfl, hbg⟩
      have hfg := Fr.of_below hbg HPE.out.b0
      have hzg : InS (fun b => (NB wg b ∧ w.heap.size + 1 ≤ b) ∧ b ≠ bx) wg (.mk 29 (wd E st.k) (at1 E p1 p.k [x, y]) p1.last (some ⟨wc.heap.size + 1, 0, none⟩) 2 [x, y]) := by
        refine InS.mono (fun b hb => ⟨⟨hb.1.1.of_eq (NB.fr hb.1.1 hfg), hb.1.2⟩, hb.2⟩) _ (InS.keep (fun b hb => NB.fr hb.1.1 hfg) _ ((inS_iff _).2 ⟨fun h0 => ?_, Nat.le_refl _, HKS.out⟩))
        obtain ⟨b, o, hA, hS, hc⟩ := HKI.out.row h0
        cases hA
        exact ⟨_, _, rfl, ⟨hS, by have := HCS.out; omega⟩, hc⟩
      obtain ⟨hnV, hiV, hpV, hfV, hzV⟩ := box_put (z := .mk 29 (wd E st.k) (at1 E p1 p.k [x, y]) p1.last (some ⟨wc.heap.size + 1, 0, none⟩) 2 [x, y]) HB0.out HBW.out (HNE.out.fr hfg) hzg (HPE.out.later hbg) (((hfs.out.trans HFC.out).trans HFE.out).trans hfg) (HZE.out.fr hfg)
      have HSV := Lib.hid (show NT.strip (.mk 29 (wd E st.k) (at1 E p1 p.k [x, y]) p1.last (some ⟨wc.heap.size + 1, 0, none⟩) 2 [x, y]) = mkN E p1 p.k 29 (wd E st.k) [xs, y1] by rw [strip_mkN, List.map_cons, List.map_cons, List.map_nil, hst.out, HSY.out])
      have hnw := HNE.out.fr hfg
      have g0 := Lib.cell_of_heap hnw 0
      have g1 := Lib.cell_of_heap hnw 1
      have g2 := Lib.cell_of_heap hnw 2
      have g3 := Lib.cell_of_heap hnw 3
      have g4 := Lib.cell_of_heap hnw 4
      have y0 := hfrz hnw 0
      have y1' := hfrz hnw 1
      have y2 := hfrz hnw 2
      have y3 := hfrz hnw 3
      have y4 := hfrz hnw 4
      have HBV := Lib.hid (show bx < wg.heap.size from Nat.lt_of_lt_of_le (Nat.lt_of_lt_of_le HCS.out HFE.out.below.size) hbg.size)
      have HNV' := Lib.hid hnV
      have HBG := Lib.hid hbg
      have HIV := Lib.hid hiV
      have HPV := Lib.hid hpV
      have HFV := Lib.hid hfV
      have HZV := Lib.hid hzV
      clear hnw hzg hfg hbg hnV hiV hpV hfV hzV
      dsimp only [putN, NT.kind, NT.text, NT.lo, NT.hi, NT.A, NT.c, NT.kids, List.length_cons, List.length_nil, Nat.zero_add, Nat.reduceAdd] at HNV' HIV HPV HFV HZV
      have HM2 := Lib.hid (show mkN E p1 p.k 29 (wd E st.k) [xs, y1] = m ∧ p1 = q by have h9 := HR1.out; simpa using h9)
      go_upto_region 18 with fail
      clear g0 g1 g2 g3 g4 y0 y1' y2 y3 y4
      generalize (((((wg.setCell ⟨bx, 0, none⟩ (.int .i64 29)).setCell ⟨bx, 1, none⟩ (.string (wd E st.k))).setCell ⟨bx, 2, none⟩ (.int .i64 (at1 E p1 p.k [x, y]))).setCell ⟨bx, 3, none⟩ (.int .i64 p1.last)).setCell ⟨bx, 4, none⟩ (.slice (some ⟨wc.heap.size + 1, 0, none⟩) 2 2)) = wv at *
      have hnv2 : wv.heap[bx]? = some (.cells #[.int .i64 29, .string (wd E st.k), .int .i64 (at1 E p1 p.k [x, y]), .int .i64 p1.last, .slice (some ⟨wc.heap.size + 1, 0, none⟩) 2 2] 31 (0, 0)) := HNV'.out
      have a0 := Lib.cell_of_heap hnv2 0
      have a1 := Lib.cell_of_heap hnv2 1
      have a2 := Lib.cell_of_heap hnv2 2
      have a3 := Lib.cell_of_heap hnv2 3
      have a4 := Lib.cell_of_heap hnv2 4
      obtain ⟨z0, z1, z2, z3, z4⟩ := HZV.out.cells
      have u0 := HZV.out.frozen 0
      have u1 := HZV.out.frozen 1
      have u2 := HZV.out.frozen 2
      have u3 := HZV.out.frozen 3
      have u4 := HZV.out.frozen 4
      clear hnv2
      go_wp2_with (fail)
      obtain ⟨hV, hin, hp, hf⟩ := got_put (w := w) (lo := w.heap.size + 1) (n := .mk 29 (wd E st.k) (at1 E p1 p.k [x, y]) p1.last (some ⟨wc.heap.size + 1, 0, none⟩) 2 [x, y]) HB0.out HZV.out (Nat.le_refl _) (InS.mono (fun b hb => hb.1) _ HIV.out) HPV.out HFV.out
      clear z0 z1 z2 z3 z4 u0 u1 u2 u3 u4 a0 a1 a2 a3 a4
      dsimp only [putN, NT.kind, NT.text, NT.lo, NT.hi, NT.A, NT.c, NT.kids, List.length_cons, List.length_nil, Nat.zero_add, Nat.reduceAdd] at hV hin hp hf
      generalize (((((wv.setCell ⟨w.heap.size, 0, none⟩ (.int .i64 29)).setCell ⟨w.heap.size, 1, none⟩ (.string (wd E st.k))).setCell ⟨w.heap.size, 2, none⟩ (.int .i64 (at1 E p1 p.k [x, y]))).setCell ⟨w.heap.size, 3, none⟩ (.int .i64 p1.last)).setCell ⟨w.heap.size, 4, none⟩ (.slice (some ⟨wc.heap.size + 1, 0, none⟩) 2 2)) = V at *
      have v0 := Lib.cell_of_heap hV 0
      have v1 := Lib.cell_of_heap hV 1
      have v2 := Lib.cell_of_heap hV 2
      have v3 := Lib.cell_of_heap hV 3
      have v4 := Lib.cell_of_heap hV 4
      rw [HM2.out.2] at hp
      refine bodyPost_ret (v := .agg #[.int .i64 29, .string (wd E st.k), .int .i64 (at1 E p1 p.k [x, y]), .int .i64 p1.last, .slice (some ⟨wc.heap.size + 1, 0, none⟩) 2 2]) ?_ rfl ⟨.mk 29 (wd E st.k) (at1 E p1 p.k [x, y]) p1.last (some ⟨wc.heap.size + 1, 0, none⟩) 2 [x, y], rfl, HSV.out.trans HM2.out.1, hin, hp, hf⟩
      simp [results, Tryd.results70, go_sem, v0, v1, v2, v3, v4]
    | false =>
      have hfin : xs = m ∧ st = q := by
        have h9 := hmb.out
        simp only [binL, hop, Bool.false_eq_true, if_false, Option.some.injEq, Prod.mk.injEq] at h9
        exact h9
      have HFIN := Lib.hid hfin
      have HOP := Lib.hid hop
      clear hmb hop hfin
      go_wp2_with (fail)
      refine (operator_at hps.out HL.out HOP.out).mono ?_
      rintro e wc ⟨rfl, hba⟩
      have hfa := Fr.of_below hba hps.out.b0
      have HPC := Lib.hid (show PIs B0 bp E wc q by rw [← HFIN.out.2]; exact hps.out.later hba)
      have HFC := Lib.hid (hfs.out.trans hfa)
      have HZC := Lib.hid (hzs.out.fr hfa)
      have HNC := Lib.hid (hnv.out.fr hfa)
      have HIX := Lib.hid (show InF (w.heap.size + 1) wc x from InF.fr (InS.mono (fun b hb => hb.1) x hix.out) hfa)
      have HSX := Lib.hid (hst.out.trans HFIN.out.1)
      clear hba hfa
      obtain ⟨a0, a1, a2, a3, a4⟩ := HNC.out.cells
      obtain ⟨z0, z1, z2, z3, z4⟩ := HZC.out.cells
      have y0 := HZC.out.frozen 0
      have y1 := HZC.out.frozen 1
      have y2 := HZC.out.frozen 2
      have y3 := HZC.out.frozen 3
      have y4 := HZC.out.frozen 4
      go_wp2_with (fail)
      obtain ⟨hV, hin, hp, hf⟩ := got_put (w := w) (w2 := wc) (n := x) HB0.out HZC.out (Nat.le_refl _) HIX.out HPC.out HFC.out
      clear a0 a1 a2 a3 a4
      clear z0 z1 z2 z3 z4 y0 y1 y2 y3 y4
      dsimp only [putN] at hV hin hp hf
      generalize (((((wc.setCell ⟨w.heap.size, 0, none⟩ (.int .i64 x.kind)).setCell ⟨w.heap.size, 1, none⟩ (.string x.text)).setCell ⟨w.heap.size, 2, none⟩ (.int .i64 x.lo)).setCell ⟨w.heap.size, 3, none⟩ (.int .i64 x.hi)).setCell ⟨w.heap.size, 4, none⟩ (.slice x.A x.kids.length x.c)) = V at *
      have v0 := Lib.cell_of_heap hV 0
      have v1 := Lib.cell_of_heap hV 1
      have v2 := Lib.cell_of_heap hV 2
      have v3 := Lib.cell_of_heap hV 3
      have v4 := Lib.cell_of_heap hV 4
      exact bodyPost_ret (v := .agg #[.int .i64 x.kind, .string x.text, .int .i64 x.lo, .int .i64 x.hi, .slice x.A x.kids.length x.c]) (by simp [results, Tryd.results70, go_sem, v0, v1, v2, v3, v4]) rfl ⟨x, rfl, HSX.out, hin, hp, hf⟩
end Go.Proofs.YtnpcfmoiiecadaaDoor.Par
