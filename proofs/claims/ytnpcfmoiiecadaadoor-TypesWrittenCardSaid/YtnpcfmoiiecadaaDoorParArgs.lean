/- What is proved: the reference's parser: arguments. -/
import Derived.Test.YtnpcfmoiiecadaaDoorParLoop
set_option linter.unusedVariables false
namespace Go.Proofs.YtnpcfmoiiecadaaDoor.Par
open Go.RowKit
open Lx (Tok)

theorem rep_Ok {E : Env} {p : St} (h : p.Ok E) (c : Int) (x : ByteArray) : (rep E p c x).Ok E := by
  unfold rep
  by_cases hc : (p.list.getLast?.map Dg.at_) = some (tk E p.k).at_
  · rw [if_pos hc]; exact h
  · rw [if_neg hc]; exact rep_ok h hc
theorem exq_Ok {E : Env} {p : St} (he : E.Ok) (h : p.Ok E) (x : ByteArray) : (exq E p x).Ok E := by
  unfold exq
  cases hx : isW E p x with
  | true => exact rd_ok h he (isW_not_end hx)
  | false => exact rep_Ok h _ _
theorem nam_Ok {E : Env} {p : St} (he : E.Ok) (h : p.Ok E) : (nam E p).2.Ok E := by
  unfold nam
  by_cases hk : knd E p = 0
  · rw [if_pos hk]; exact rd_ok h he (by rw [hk]; decide)
  · rw [if_neg hk]; exact rep_Ok h _ _
theorem InF.alloc {lo : Nat} {w : World} {n : NT} (h : InF lo w n) (o : Obj) : InS (fun b => (NB (w.alloc o) b ∧ lo ≤ b) ∧ b ≠ w.heap.size) (w.alloc o) n :=
  InS.mono (fun b hb => ⟨⟨hb.1.of_eq (Below.heap_alloc w o b hb.1.lt), hb.2⟩, by have := hb.1.lt; omega⟩) n (InS.keep (fun b hb => Below.heap_alloc w o b hb.1.lt) n h)
def slLen : Value → Nat
  | .slice _ n _ => n
  | _ => 0
/-- the state of the loops that collect nodes -/
structure Col (B0 bp lo : Nat) (E : Env) (w wr : World) (v : Value) (l ms : List NT) (st : St) : Prop where
  row : LIn lo wr v l
  strips : l.map NT.strip = ms
  par : PIs B0 bp E wr st
  frame : Fr B0 w wr
/-- one more node is collected -/
theorem Col.push {B0 bp lo : Nat} {E : Env} {w wr wa wb w3 : World} {v : Value} {l ms : List NT} {st q : St} {n m : NT} {g cap : Nat} (h : Col B0 bp lo E w wr v l ms st) (hB : B0 ≤ w.heap.size) (hlo : w.heap.size ≤ lo) (hlr : lo ≤ wr.heap.size)
    (hfa : Fr B0 wr wa) (hst : NT.strip n = m) (hin : InF wa.heap.size wb n) (hpb : PIs B0 bp E wb q) (hfb : Fr B0 wa wb)
    (hg : (wb.alloc (.cells #[.int .i64 n.kind, .string n.text, .int .i64 n.lo, .int .i64 n.hi, .slice n.A n.kids.length n.c] 31)).grownBy w3 v.ownBlock) (hown : w3.ownsRow lo 31 5 (.slice (some ⟨g, 0, none⟩) (l.length + 1) cap) (l.length + 1) (ncl l ++ ncl [n])) (hsel : v.ownBlock = some g ∨ g = wb.heap.size + 1) :
    Col B0 bp lo E w w3 (.slice (some ⟨g, 0, none⟩) (l.length + 1) cap) (l ++ [n]) (ms ++ [m]) q ∧ (∀ b, b < lo → ZB wr b → ZB w3 b) ∧ wr.heap.size ≤ w3.heap.size := by
  have hba := (Below.refl wb.heap.size wb).alloc (Nat.le_refl _) (.cells #[.int .i64 n.kind, .string n.text, .int .i64 n.lo, .int .i64 n.hi, .slice n.A n.kids.length n.c] 31)
  have hfc : Fr B0 wb (wb.alloc (.cells #[.int .i64 n.kind, .string n.text, .int .i64 n.lo, .int .i64 n.hi, .slice n.A n.kids.length n.c] 31)) := Fr.of_below hba hpb.b0
  have hL := ((h.row.fr hfa).fr hfb).fr hfc
  have hn : InS (fun b => (NB (wb.alloc (.cells #[.int .i64 n.kind, .string n.text, .int .i64 n.lo, .int .i64 n.hi, .slice n.A n.kids.length n.c] 31)) b ∧ lo ≤ b) ∧ some b ≠ v.ownBlock) (wb.alloc (.cells #[.int .i64 n.kind, .string n.text, .int .i64 n.lo, .int .i64 n.hi, .slice n.A n.kids.length n.c] 31)) n :=
    InS.mono (fun b hb => ⟨⟨hb.1, by have := hfa.below.size; have := hb.2; omega⟩, fun e => by have h1 := (own_ty (h.row.fr hfa).own b e.symm).1.lt; have h2 := hb.2; omega⟩) n (hin.fr hfc)
  have hfr : Fr B0 wr (wb.alloc (.cells #[.int .i64 n.kind, .string n.text, .int .i64 n.lo, .int .i64 n.hi, .slice n.A n.kids.length n.c] 31)) := (hfa.trans hfb).trans hfc
  have hBr : B0 ≤ wr.heap.size := Nat.le_trans hB h.frame.below.size
  have hfw : Fr B0 w w3 := (h.frame.trans hfr).grownN hB hlo hL.own hg
  refine ⟨⟨hL.push hn hg hown (hsel.imp id (fun e => by rw [World.size_alloc]; exact e)), by rw [List.map_append, h.strips, List.map_cons, List.map_nil, hst], (hpb.later hba).grownN hL.own hg, hfw⟩, ?_⟩
  exact ⟨fun b hb hz => (hz.fr hfr).grownN hb hL.own hg, Nat.le_trans hfr.below.size hg.size⟩

set_option maxHeartbeats 4000000 in
set_option maxRecDepth 100000 in
theorem rec_any {B0 bp : Nat} {E : Env} {w : World} {p : St} (h : PIs B0 bp E w p) (h5 : knd E p ≠ 5) {m : NT} {q : St} (hm : rec_ E p = some (m, q)) :
    Calls Tryd.prog 25 #[ptr bp] w fun e w' => Got B0 bp w.heap.size E w m q e w' := by
  obtain ⟨i0, hi0, hz0', hz1, hz2⟩ := info_parts infoNd
  have HF := Lib.hid h.ok.1
  have HB0 := Lib.hid h.b0
  have HP := Lib.hid h
  have HE := Lib.hid h.eok
  have HM := Lib.hid hm
  clear h hm
  unfold ptr at *
  go_enter Tryd.func25, Tryd.ntmps25
  have hb0 := (Below.refl w.heap.size w).alloc (Nat.le_refl _) (.cells #[.int .i64 0, .string ⟨#[]⟩, .int .i64 0, .int .i64 0, .slice none 0 0] 31)
  have hz0 : ZB (w.alloc (.cells #[.int .i64 0, .string ⟨#[]⟩, .int .i64 0, .int .i64 0, .slice none 0 0] 31)) w.heap.size := heap_alloc_new w _
  have hs0 : (w.alloc (.cells #[.int .i64 0, .string ⟨#[]⟩, .int .i64 0, .int .i64 0, .slice none 0 0] 31)).heap.size = w.heap.size + 1 := World.size_alloc _ _
  have HP0 := Lib.hid (HP.out.later hb0)
  have HF0 := Lib.hid (Fr.of_below hb0 HB0.out)
  have HZ0 := Lib.hid hz0
  have HS0 := Lib.hid (show w.heap.size + 1 ≤ (w.alloc (.cells #[.int .i64 0, .string ⟨#[]⟩, .int .i64 0, .int .i64 0, .slice none 0 0] 31)).heap.size by rw [hs0]; omega)
  have c0 := HP0.out.c2
  clear hb0 hz0 hs0
  go_wp2_with (fail)
  clear c0
  generalize (w.alloc (.cells #[.int .i64 0, .string ⟨#[]⟩, .int .i64 0, .int .i64 0, .slice none 0 0] 31)) = w0 at *
  refine (read_any HP0.out h5).mono ?_
  rintro e w1 ⟨rfl, hp1, hf1⟩
  have HP1 := Lib.hid hp1
  have HF1 := Lib.hid (HF0.out.trans hf1)
  have HZ1 := Lib.hid (HZ0.out.fr hf1)
  have HS1 := Lib.hid (Nat.le_trans HS0.out hf1.below.size)
  clear hp1 hf1 HF0 HZ0
  go_wp2_with (fail)
  refine (name_any HP1.out).mono ?_
  rintro e w2 ⟨rfl, hp2, hf2⟩
  have HP2 := Lib.hid hp2
  have HF2 := Lib.hid (HF1.out.trans hf2)
  have HZ2 := Lib.hid (HZ1.out.fr hf2)
  have HS2 := Lib.hid (Nat.le_trans HS1.out hf2.below.size)
  clear hp2 hf2 HF1 HZ1
  go_wp2_with (fail)
  refine (expect_any HP2.out (⟨#[123]⟩ : ByteArray)).mono ?_
  rintro e w3 ⟨rfl, hp3, hf3⟩
  have HP3 := Lib.hid hp3
  have HF3 := Lib.hid (HF2.out.trans hf3)
  have HZ3 := Lib.hid (HZ2.out.fr hf3)
  have HS3 := Lib.hid (Nat.le_trans HS2.out hf3.below.size)
  clear hp3 hf3 HF2 HZ2
  go_wp2_with (fail)
  refine (fld_any HP3.out (exq_Ok HE.out (nam_Ok HE.out HP3.out.ok) _).1).mono ?_
  rintro e w4 ⟨n, rfl, hst4, hin4, hp4, hf4⟩
  have HST4 := Lib.hid hst4
  have HIN4 := Lib.hid (hin4.mono HS3.out)
  have HP4 := Lib.hid hp4
  have HF4 := Lib.hid (HF3.out.trans hf4)
  have HZ4 := Lib.hid (HZ3.out.fr hf4)
  have HS4 := Lib.hid (Nat.le_trans HS3.out hf4.below.size)
  clear hst4 hin4 hp4 hf4 HF3 HZ3
  go_wp2_with (fail)
  have hba := (Below.refl w4.heap.size w4).alloc (Nat.le_refl _) (.cells #[.int .i64 n.kind, .string n.text, .int .i64 n.lo, .int .i64 n.hi, .slice n.A n.kids.length n.c] 31)
  have hnb : (w4.alloc (.cells #[.int .i64 n.kind, .string n.text, .int .i64 n.lo, .int .i64 n.hi, .slice n.A n.kids.length n.c] 31)).heap[w4.heap.size]? = some (.cells #[.int .i64 n.kind, .string n.text, .int .i64 n.lo, .int .i64 n.hi, .slice n.A n.kids.length n.c] 31 (0, 0)) := heap_alloc_new w4 _
  have hfc : Fr B0 w4 (w4.alloc (.cells #[.int .i64 n.kind, .string n.text, .int .i64 n.lo, .int .i64 n.hi, .slice n.A n.kids.length n.c] 31)) := Fr.of_below hba HP4.out.b0
  have HCOL := Lib.hid (show Col B0 bp (w.heap.size + 1) E w (w4.alloc (.cells #[.int .i64 n.kind, .string n.text, .int .i64 n.lo, .int .i64 n.hi, .slice n.A n.kids.length n.c] 31)) (.slice (some ⟨w4.heap.size, 0, none⟩) 1 1) [n] [(fld E (exq E (nam E (rd E p)).2 (⟨#[123]⟩ : ByteArray))).1] (fld E (exq E (nam E (rd E p)).2 (⟨#[123]⟩ : ByteArray))).2 from
    ⟨LIn.one hnb HS4.out (HIN4.out.alloc _), by rw [List.map_cons, List.map_nil, HST4.out], HP4.out.later hba, HF4.out.trans hfc⟩)
  have HZ5 := Lib.hid (HZ4.out.fr hfc)
  have HS5 := Lib.hid (Nat.le_trans HS4.out hba.size)
  have HMO := Lib.hid (show (more E (fun q => some (fld E q)) (fuel E) [(fld E (exq E (nam E (rd E p)).2 (⟨#[123]⟩ : ByteArray))).1] (fld E (exq E (nam E (rd E p)).2 (⟨#[123]⟩ : ByteArray))).2).map (fun y => (mkN E (exq E y.2 (⟨#[125]⟩ : ByteArray)) p.k 3 (nam E (rd E p)).1 y.1, exq E y.2 (⟨#[125]⟩ : ByteArray))) = some (m, q) from HM.out)
  clear hba hnb hfc HF4 HZ4 HS4 HS0 HS1 HS2 HS3 HP0 HP1 HP2 HP3 HP4 HIN4 HST4 HM
  go_loopw [5] (fun v wr => ∃ (f : Nat) (l ms : List NT) (st : St), Hid (Col B0 bp (w.heap.size + 1) E w wr v l ms st) ∧ Hid ((more E (fun q => some (fld E q)) f ms st).map (fun y => (mkN E (exq E y.2 (⟨#[125]⟩ : ByteArray)) p.k 3 (nam E (rd E p)).1 y.1, exq E y.2 (⟨#[125]⟩ : ByteArray))) = some (m, q)) ∧ l.length + f ≤ E.T.length + 2 ∧ Hid (ZB wr w.heap.size) ∧ Hid (w.heap.size + 1 ≤ wr.heap.size) ∧ slLen v = l.length) (fun v _ => E.T.length + 2 - slLen v)
  case atStart => exact ⟨fuel E, [n], _, _, HCOL, HMO, by simp only [fuel, List.length_cons, List.length_nil]; omega, HZ5, HS5, rfl⟩
  case round =>
    obtain ⟨f, l, ms, st, hcol, hmo, hlen, hz, hsw, hsl⟩ := hrel
    obtain ⟨f', rfl⟩ : ∃ f', f = f' + 1 := by
      cases f with
      | zero => have h9 := hmo.out; simp [more] at h9
      | succ f' => exact ⟨f', rfl⟩
    have hlT := HE.out.len
    obtain ⟨A, c, rfl, hkin⟩ := hcol.out.row.kin
    have HKIN := Lib.hid hkin
    clear hkin hsl
    cases hx : isW E st (⟨#[44]⟩ : ByteArray) with
    | true =>
      have HX := Lib.hid hx
      have HMX := Lib.hid (show (more E (fun q => some (fld E q)) f' (ms ++ [(fld E (rd E st)).1]) (fld E (rd E st)).2).map (fun y => (mkN E (exq E y.2 (⟨#[125]⟩ : ByteArray)) p.k 3 (nam E (rd E p)).1 y.1, exq E y.2 (⟨#[125]⟩ : ByteArray))) = some (m, q) from by
        have h9 := hmo.out
        simp only [more, hx, if_true, Option.bind_some] at h9
        exact h9)
      clear hx hmo
      go_wp2_with (fail)
      refine (accept_yes hcol.out.par HX.out).mono ?_
      rintro e wa ⟨rfl, hpa, hfa⟩
      have HPA := Lib.hid hpa
      have HFA := Lib.hid hfa
      clear hpa hfa
      go_wp2_with (fail)
      refine (fld_any HPA.out (exq_Ok HE.out (nam_Ok HE.out HPA.out.ok) _).1).mono ?_
      rintro e wb ⟨n, rfl, hst, hin, hpb, hfb⟩
      have HST := Lib.hid hst
      have HIN := Lib.hid hin
      have HPB := Lib.hid hpb
      have HFB := Lib.hid hfb
      have HOW := Lib.hid ((hcol.out.row.fr HFA.out).fr HFB.out).own
      have HLB := Lib.hid (show w.heap.size + 1 ≤ wb.heap.size from Nat.le_trans (Nat.le_trans hsw.out HFA.out.below.size) HFB.out.below.size)
      clear hst hin hpb hfb
      go_wp2_with (at_builtin; refine wpList_append_lies _ rfl _ _ 29 rfl (w.heap.size + 1) 31 i0 _ 5 64 Tryd.underlying29 hi0 hz0' hz1 hz2 rfl (by decide) _ _ _ rfl (HOW.out.alloc _) ⟨wb.heap.size, 0, none⟩ 1 1 (ncl [n]) rfl rfl (World.news_of_block (cs := #[.int .i64 n.kind, .string n.text, .int .i64 n.lo, .int .i64 n.hi, .slice n.A n.kids.length n.c]) (heap_alloc_new wb _)) (ncl_one n) (by decide) ?c3 ?c4 ?c5 (wb.heap.size + 1) (World.size_alloc _ _) ?_)
      case c3 => unfold maxLen; omega
      case c4 => omega
      case c5 => rw [World.size_alloc]; have := HLB.out; omega
      intro g cap w3 hown hgr hsel hgl
      obtain ⟨hc', hz', hs'⟩ := hcol.out.push HB0.out (Nat.le_succ _) hsw.out HFA.out HST.out HIN.out HPB.out HFB.out hgr hown hsel
      have HC' := Lib.hid hc'
      have HZ' := Lib.hid (hz' w.heap.size (Nat.lt_succ_self _) hz.out)
      have HS' := Lib.hid (Nat.le_trans hsw.out hs')
      clear hown hgr hsel hgl hc' hz' hs'
      go_wp2_with (fail)
      exact ⟨⟨f', l ++ [n], _, _, HC', HMX, by simp only [List.length_append, List.length_cons, List.length_nil]; omega, HZ', HS', by simp [slLen]⟩, by simp only [slLen]; omega⟩
    | false =>
      have hfin : mkN E (exq E st (⟨#[125]⟩ : ByteArray)) p.k 3 (nam E (rd E p)).1 ms = m ∧ exq E st (⟨#[125]⟩ : ByteArray) = q := by
        have h9 := hmo.out
        simp only [more, hx, Bool.false_eq_true, if_false, Option.map_some, Option.some.injEq, Prod.mk.injEq] at h9
        exact h9
      have HFIN := Lib.hid hfin
      have HX := Lib.hid hx
      clear hx hmo hfin
      go_wp2_with (fail)
      refine (accept_no hcol.out.par HX.out).mono ?_
      rintro e wa ⟨rfl, hpa, hfa⟩
      have HPA := Lib.hid hpa
      have HFA := Lib.hid hfa
      clear hpa hfa
      go_wp2_with (fail)
      refine (expect_any HPA.out (⟨#[125]⟩ : ByteArray)).mono ?_
      rintro e wb ⟨rfl, hpb, hfb⟩
      have HPB := Lib.hid hpb
      have HFB := Lib.hid (HFA.out.trans hfb)
      clear hpb hfb
      go_wp2_with (fail)
      refine (node_kids (lo := w.heap.size + 1) HPB.out p.k 3 (nam E (rd E p)).1 A c l ms HF.out (HKIN.out.fr HFB.out) hcol.out.strips).mono ?_
      rintro e wc ⟨x, rfl, hst, hin, hpc, hfc⟩
      have HSX := Lib.hid (hst.trans HFIN.out.1)
      have HIX := Lib.hid hin
      have HPC := Lib.hid (show PIs B0 bp E wc q by rw [← HFIN.out.2]; exact hpc)
      have HFC := Lib.hid ((hcol.out.frame.trans HFB.out).trans hfc)
      have HZC := Lib.hid ((hz.out.fr HFB.out).fr hfc)
      clear hst hin hpc hfc
      obtain ⟨z0, z1, z2, z3, z4⟩ := HZC.out.cells
      have y0 := HZC.out.frozen 0
      have y1 := HZC.out.frozen 1
      have y2 := HZC.out.frozen 2
      have y3 := HZC.out.frozen 3
      have y4 := HZC.out.frozen 4
      go_wp2_with (fail)
      obtain ⟨hV, hin, hp, hf⟩ := got_put (w := w) (w2 := wc) (n := x) HB0.out HZC.out (Nat.le_refl _) HIX.out HPC.out HFC.out
      clear z0 z1 z2 z3 z4 y0 y1 y2 y3 y4
      dsimp only [putN] at hV hin hp hf
      generalize (((((wc.setCell ⟨w.heap.size, 0, none⟩ (.int .i64 x.kind)).setCell ⟨w.heap.size, 1, none⟩ (.string x.text)).setCell ⟨w.heap.size, 2, none⟩ (.int .i64 x.lo)).setCell ⟨w.heap.size, 3, none⟩ (.int .i64 x.hi)).setCell ⟨w.heap.size, 4, none⟩ (.slice x.A x.kids.length x.c)) = V at *
      have v0 := Lib.cell_of_heap hV 0
      have v1 := Lib.cell_of_heap hV 1
      have v2 := Lib.cell_of_heap hV 2
      have v3 := Lib.cell_of_heap hV 3
      have v4 := Lib.cell_of_heap hV 4
      exact bodyPost_ret (v := .agg #[.int .i64 x.kind, .string x.text, .int .i64 x.lo, .int .i64 x.hi, .slice x.A x.kids.length x.c]) (by simp [results, Tryd.results25, go_sem, v0, v1, v2, v3, v4]) rfl ⟨x, rfl, HSX.out, hin, hp, hf⟩
end Go.Proofs.YtnpcfmoiiecadaaDoor.Par
set_option linter.unusedVariables false
namespace Go.Proofs.YtnpcfmoiiecadaaDoor.Par
open Go.RowKit
open Lx (Tok)

set_option maxHeartbeats 4000000 in
set_option maxRecDepth 100000 in
theorem args_any {B0 bp : Nat} {E : Env} {w : World} {p : St} (h : PIs B0 bp E w p) (h5 : knd E p ≠ 5) {R : Rec} (hex : ExOK B0 bp E R) {ms0 : List NT} {q : St} (hm : args E R p = some (ms0, q)) :
    Calls Tryd.prog 74 #[.pointer (some ⟨bp, 0, none⟩)] w fun e w' => ∃ A c l, e = .returned (.slice A l.length c) ∧ l.map NT.strip = ms0 ∧ KIn w.heap.size w' A c l ∧ PIs B0 bp E w' q ∧ Fr B0 w w' := by
  obtain ⟨i0, hi0, hz0', hz1, hz2⟩ := info_parts infoNd
  have HB0 := Lib.hid h.b0
  have HP := Lib.hid h
  have HE := Lib.hid h.eok
  have HM := Lib.hid hm
  clear h hm
  go_enter Tryd.func74, Tryd.ntmps74
  go_wp2_with (fail)
  have hb0 := (Below.refl w.heap.size w).alloc (Nat.le_refl _) (.cells #[] 31)
  have hnb : (w.alloc (.cells #[] 31)).heap[w.heap.size]? = some (.cells #[] 31 (0, 0)) := heap_alloc_new w _
  have HP0 := Lib.hid (HP.out.later hb0)
  have HF0 := Lib.hid (Fr.of_below hb0 HB0.out)
  have HL0 := Lib.hid (LIn.empty (lo := w.heap.size) hnb (Nat.le_refl _))
  have HS0 := Lib.hid hb0.size
  clear hb0 hnb
  generalize (w.alloc (.cells #[] 31)) = w0 at *
  refine (read_any HP0.out h5).mono ?_
  rintro e w1 ⟨rfl, hp1, hf1⟩
  have HP1 := Lib.hid hp1
  have HF1 := Lib.hid (HF0.out.trans hf1)
  have HL1 := Lib.hid (HL0.out.fr hf1)
  have HS1 := Lib.hid (Nat.le_trans HS0.out hf1.below.size)
  clear hp1 hf1 HF0 HL0
  go_wp2_with (fail)
  cases hx : isW E (rd E p) (⟨#[41]⟩ : ByteArray) with
  | true =>
    have hfin : [] = ms0 ∧ exq E (rd E p) (⟨#[41]⟩ : ByteArray) = q := by
      have h9 := HM.out
      simp only [args, hx, if_true, Option.some.injEq, Prod.mk.injEq] at h9
      exact h9
    have HFIN := Lib.hid hfin
    refine (is_at HP1.out hx).mono ?_
    rintro e w2 ⟨rfl, hb2⟩
    have HP2 := Lib.hid (HP1.out.later hb2)
    have HF2 := Lib.hid (HF1.out.trans (Fr.of_below hb2 HP1.out.b0))
    clear hb2 hfin hx
    go_wp2_with (fail)
    refine (expect_any HP2.out (⟨#[41]⟩ : ByteArray)).mono ?_
    rintro e w3 ⟨rfl, hp3, hf3⟩
    have HP3 := Lib.hid (show PIs B0 bp E w3 q by rw [← HFIN.out.2]; exact hp3)
    have HF3 := Lib.hid (HF2.out.trans hf3)
    clear hp3 hf3
    go_wp2_with (fail)
    go_ret
    exact ⟨_, _, [], rfl, HFIN.out.1, KIn.nil _ _ _ _, HP3.out, HF3.out⟩
  | false =>
    obtain ⟨x1, q1, hx1, hr1⟩ : ∃ x1 q1, R.ex 1 (rd E p) = some (x1, q1) ∧ (more E (R.ex 1) (fuel E) [x1] q1).map (fun y => (y.1, exq E y.2 (⟨#[41]⟩ : ByteArray))) = some (ms0, q) := by
      have h9 := HM.out
      simp only [args, hx, Bool.false_eq_true, if_false] at h9
      cases hr : R.ex 1 (rd E p) with
      | none => rw [hr] at h9; simp at h9
      | some y => rw [hr] at h9; exact ⟨y.1, y.2, rfl, by simpa using h9⟩
    have HX1 := Lib.hid hx1
    have HMO := Lib.hid hr1
    refine (is_at HP1.out hx).mono ?_
    rintro e w2 ⟨rfl, hb2⟩
    have HP2 := Lib.hid (HP1.out.later hb2)
    have HF2 := Lib.hid (HF1.out.trans (Fr.of_below hb2 HP1.out.b0))
    have HL2 := Lib.hid (HL1.out.fr (Fr.of_below hb2 HP1.out.b0))
    have HS2 := Lib.hid (Nat.le_trans HS1.out hb2.size)
    clear hb2 hx hx1 hr1 HF1 HL1
    go_wp2_with (fail)
    refine (hex 1 _ _ x1 q1 (by decide) (by decide) HX1.out HP2.out).mono ?_
    rintro e wb ⟨n, rfl, hst, hin, hpb, hfb⟩
    have HST := Lib.hid hst
    have HIN := Lib.hid hin
    have HPB := Lib.hid hpb
    have HFB := Lib.hid hfb
    have HOW := Lib.hid (HL2.out.fr HFB.out).own
    have HLB := Lib.hid (show w.heap.size ≤ wb.heap.size from Nat.le_trans HS2.out HFB.out.below.size)
    have HC2 := Lib.hid (show Col B0 bp w.heap.size E w w2 (.slice (some ⟨w.heap.size, 0, none⟩) 0 0) [] [] (rd E p) from ⟨HL2.out, rfl, HP2.out, HF2.out⟩)
    clear hst hin hpb hfb
    go_wp2_with (at_builtin; refine wpList_append_lies _ rfl _ _ 29 rfl w.heap.size 31 i0 _ 5 64 Tryd.underlying29 hi0 hz0' hz1 hz2 rfl (by decide) _ _ _ rfl (HOW.out.alloc _) ⟨wb.heap.size, 0, none⟩ 1 1 (ncl [n]) rfl rfl (World.news_of_block (cs := #[.int .i64 n.kind, .string n.text, .int .i64 n.lo, .int .i64 n.hi, .slice n.A n.kids.length n.c]) (heap_alloc_new wb _)) (ncl_one n) (by decide) ?c3 ?c4 ?c5 (wb.heap.size + 1) (World.size_alloc _ _) ?_)
    case c3 => decide
    case c4 => decide
    case c5 => rw [World.size_alloc]; have := HLB.out; omega
    intro g cap w3 hown hgr hsel hgl
    obtain ⟨hc', hz', hs'⟩ := HC2.out.push HB0.out (Nat.le_refl _) HS2.out (Fr.refl _ _) HST.out HIN.out HPB.out HFB.out hgr hown hsel
    have HC3 := Lib.hid hc'
    have HS3 := Lib.hid (Nat.le_trans HS2.out hs')
    clear hown hgr hsel hgl hc' hz' hs' HC2 HOW HL2
    go_wp2_with (fail)
    go_loopw [3] (fun v wr => ∃ (f : Nat) (l ms : List NT) (st : St), Hid (Col B0 bp w.heap.size E w wr v l ms st) ∧ Hid ((more E (R.ex 1) f ms st).map (fun y => (y.1, exq E y.2 (⟨#[41]⟩ : ByteArray))) = some (ms0, q)) ∧ l.length + f ≤ E.T.length + 2 ∧ Hid (w.heap.size ≤ wr.heap.size) ∧ slLen v = l.length) (fun v _ => E.T.length + 2 - slLen v)
    case atStart => exact ⟨fuel E, [n], [x1], q1, HC3, HMO, by simp only [fuel, List.length_cons, List.length_nil]; omega, HS3, rfl⟩
    case round =>
      obtain ⟨f, l, ms, st, hcol, hmo, hlen, hsw, hsl⟩ := hrel
      obtain ⟨f', rfl⟩ : ∃ f', f = f' + 1 := by
        cases f with
        | zero => have h9 := hmo.out; simp [more] at h9
        | succ f' => exact ⟨f', rfl⟩
      have hlT := HE.out.len
      obtain ⟨A, c, rfl, hkin⟩ := hcol.out.row.kin
      have HKIN := Lib.hid hkin
      clear hkin hsl
      cases hx : isW E st (⟨#[44]⟩ : ByteArray) with
      | true =>
        have HX := Lib.hid hx
        obtain ⟨x9, q9, hx9, hr9⟩ : ∃ x9 q9, R.ex 1 (rd E st) = some (x9, q9) ∧ (more E (R.ex 1) f' (ms ++ [x9]) q9).map (fun y => (y.1, exq E y.2 (⟨#[41]⟩ : ByteArray))) = some (ms0, q) := by
          have h9 := hmo.out
          simp only [more, hx, if_true] at h9
          cases hr : R.ex 1 (rd E st) with
          | none => rw [hr] at h9; simp at h9
          | some y => rw [hr] at h9; exact ⟨y.1, y.2, rfl, by simpa using h9⟩
        have HX9 := Lib.hid hx9
        have HMX := Lib.hid hr9
        clear hx hmo hx9 hr9
        go_wp2_with (fail)
        refine (accept_yes hcol.out.par HX.out).mono ?_
        rintro e wa ⟨rfl, hpa, hfa⟩
        have HPA := Lib.hid hpa
        have HFA := Lib.hid hfa
        clear hpa hfa
        go_wp2_with (fail)
        refine (hex 1 _ _ x9 q9 (by decide) (by decide) HX9.out HPA.out).mono ?_
        rintro e wb ⟨n, rfl, hst, hin, hpb, hfb⟩
        have HST := Lib.hid hst
        have HIN := Lib.hid hin
        have HPB := Lib.hid hpb
        have HFB := Lib.hid hfb
        have HOW := Lib.hid ((hcol.out.row.fr HFA.out).fr HFB.out).own
        have HLB := Lib.hid (show w.heap.size ≤ wb.heap.size from Nat.le_trans (Nat.le_trans hsw.out HFA.out.below.size) HFB.out.below.size)
        clear hst hin hpb hfb
        go_wp2_with (at_builtin; refine wpList_append_lies _ rfl _ _ 29 rfl w.heap.size 31 i0 _ 5 64 Tryd.underlying29 hi0 hz0' hz1 hz2 rfl (by decide) _ _ _ rfl (HOW.out.alloc _) ⟨wb.heap.size, 0, none⟩ 1 1 (ncl [n]) rfl rfl (World.news_of_block (cs := #[.int .i64 n.kind, .string n.text, .int .i64 n.lo, .int .i64 n.hi, .slice n.A n.kids.length n.c]) (heap_alloc_new wb _)) (ncl_one n) (by decide) ?c3 ?c4 ?c5 (wb.heap.size + 1) (World.size_alloc _ _) ?_)
        case c3 => unfold maxLen; omega
        case c4 => omega
        case c5 => rw [World.size_alloc]; have := HLB.out; omega
        intro g cap w3 hown hgr hsel hgl
        obtain ⟨hc', hz', hs'⟩ := hcol.out.push HB0.out (by omega) hsw.out HFA.out HST.out HIN.out HPB.out HFB.out hgr hown hsel
        have HC' := Lib.hid hc'
        have HS' := Lib.hid (Nat.le_trans hsw.out hs')
        clear hown hgr hsel hgl hc' hz' hs'
        go_wp2_with (fail)
        exact ⟨⟨f', l ++ [n], _, _, HC', HMX, by simp only [List.length_append, List.length_cons, List.length_nil]; omega, HS', by simp [slLen]⟩, by simp only [slLen]; omega⟩
      | false =>
        have hfin : (fun y => (y.1, exq E y.2 (⟨#[41]⟩ : ByteArray))) (ms, st) = (ms0, q) := by
          have h9 := hmo.out
          simp only [more, hx, Bool.false_eq_true, if_false, Option.map_some, Option.some.injEq] at h9
          exact h9
        simp only [Prod.mk.injEq] at hfin
        have HFIN := Lib.hid hfin
        have HX := Lib.hid hx
        clear hx hmo hfin
        go_wp2_with (fail)
        refine (accept_no hcol.out.par HX.out).mono ?_
        rintro e wa ⟨rfl, hpa, hfa⟩
        have HPA := Lib.hid hpa
        have HFA := Lib.hid hfa
        clear hpa hfa
        go_wp2_with (fail)
        refine (expect_any HPA.out (⟨#[41]⟩ : ByteArray)).mono ?_
        rintro e wb ⟨rfl, hpb, hfb⟩
        have HPB := Lib.hid (show PIs B0 bp E wb q by rw [← HFIN.out.2]; exact hpb)
        have HFB := Lib.hid (HFA.out.trans hfb)
        clear hpb hfb
        go_wp2_with (fail)
        go_ret
        exact ⟨A, c, l, rfl, hcol.out.strips.trans HFIN.out.1, HKIN.out.fr HFB.out, HPB.out, hcol.out.frame.trans HFB.out⟩
end Go.Proofs.YtnpcfmoiiecadaaDoor.Par
