/- What is proved: Make of bitvec's tables, the walk. -/
import Derived.Test.YtjgkcicgjnjepaaDoorBvMake
set_option linter.unusedVariables false
namespace Go.Proofs.YtjgkcicgjnjepaaDoor
open Go.RowKit Go.Maps

theorem mk_no {W : Int} {l : List Tm} {x : Tm} (h : okB W l x = false) : mkN W l x = 0 ∧ mkE W l x = 1 ∧ mkL W l x = l := by
  unfold mkN mkE mkL
  simp [h]
theorem mk_old {W : Int} {l : List Tm} {x : Tm} {i : Nat} (h : okB W l x = true) (hi : idx l x = some i) : mkN W l x = (i : Int) ∧ mkE W l x = 0 ∧ mkL W l x = l := by
  unfold mkN mkE mkL
  simp [h, hi]
theorem mk_new {W : Int} {l : List Tm} {x : Tm} (h : okB W l x = true) (hi : idx l x = none) : mkN W l x = (l.length : Int) ∧ mkE W l x = 0 ∧ mkL W l x = l ++ [x] := by
  unfold mkN mkE mkL
  simp [h, hi]
section
variable {w : World} {n₀ tb mb : Nat} {rv : Value} {W : Int} {l : List Tm}
set_option maxRecDepth 100000 in
set_option maxHeartbeats 1000000 in
theorem make_any (x : Tm) (h : Tab w n₀ tb mb rv W l) (hx : TmOk x) (ht : TabS w) (hW : ¬ (W < 2 ∨ 8 < W)) (hf : l.length < 1000) : Calls Tryd.prog 17 #[.pointer (some ⟨tb, 0, none⟩), .agg #[.int .i64 x.op, .int .i64 x.v, .int .i64 x.a, .int .i64 x.b, .int .i64 x.c]] w fun e w' => e = .returned (.tuple #[.int .i64 (mkN W l x), .int .i64 (mkE W l x)]) ∧ ∃ rv', MkRes n₀ tb mb rv W l x w w' rv' := by
  have hb1 := (Below.refl w.heap.size w).alloc (Nat.le_refl _) (.cells #[.int .i64 x.op, .int .i64 x.v, .int .i64 x.a, .int .i64 x.b, .int .i64 x.c] 46)
  have HB1 := Lib.hid hb1
  have HP := Lib.hid (possible_any x (h.later hb1) hx (ht.later hb1) hW)
  have HBX := Lib.hid (TBox.new w x)
  have HH := Lib.hid h
  have HX := Lib.hid hx
  have HF := Lib.hid hf
  have hlo := h.lo
  have htl := (h.lt (k := tb) (.inl rfl)).2
  have hml := (h.lt (k := mb) (.inr (.inl rfl))).2
  have HTK := Lib.hid h.tb
  cases hok : okB W l x with
  | false =>
    obtain ⟨e1, e2, e3⟩ := mk_no hok
    rw [hok] at HP
    have HE := Lib.hid e3
    rw [e1, e2]
    clear h hx ht hb1 hW e1 e2 e3 hok htl hml hlo
    go_enter Tryd.func17, Tryd.ntmps17
    go_wp2_with (fail)
    refine HP.out.mono ?_
    rintro e w2 ⟨rfl, hb2⟩
    have HB2 := Lib.hid (HB1.out.trans (hb2.mono HB1.out.size))
    clear hb2
    go_wp2_with (fail)
    go_ret2
    exact ⟨rfl, rv, by rw [HE.out]; exact HH.out.later HB2.out, .of HB2.out, fun g e => .inl e⟩
  | true =>
    rw [hok] at HP
    cases hi : idx l x with
    | some i =>
      obtain ⟨e1, e2, e3⟩ := mk_old hok hi
      have HE := Lib.hid e3
      have HI := Lib.hid hi
      rw [e1, e2]
      clear h hx ht hb1 hW e1 e2 e3 hok htl hml hlo hi
      go_enter Tryd.func17, Tryd.ntmps17
      go_wp2_with (fail)
      refine HP.out.mono ?_
      rintro e w2 ⟨rfl, hb2⟩
      have HB2 := Lib.hid (HB1.out.trans (hb2.mono HB1.out.size))
      have HBX2 := Lib.hid (HBX.out.later hb2)
      have HH2 := Lib.hid (HH.out.later HB2.out)
      have hlk : ∀ n, (Instr.lookup 55 (.map (some mb)) (.agg #[.int .i64 x.op, .int .i64 x.v, .int .i64 x.a, .int .i64 x.b, .int .i64 x.c]) true).run Tryd.prog (w2.drewN n) = .ok (.tuple #[.int .i64 (i : Int), .bool true]) (w2.drewN n) := fun n => by
        have := (HH2.out.later (drewN_below w2 n)).look HX.out
        rw [HI.out] at this
        exact this
      have c2 : w2.cell? ⟨tb, 2, none⟩ = some (.map (some mb)) := Lib.cell_of_heap HH2.out.box 2
      obtain ⟨x0, x1, x2, x3, x4⟩ := HBX2.out.cells
      clear hb2
      go_wp2_with (fail)
      go_quiet (fail)
      go_wp2_with (fail)
      go_ret2
      have hbq := HB2.out.trans ((drewN_below w2 nq).mono HB2.out.size)
      exact ⟨rfl, rv, by rw [HE.out]; exact HH.out.later hbq, .of hbq, fun g e => .inl e⟩
    | none =>
      obtain ⟨e1, e2, e3⟩ := mk_new hok hi
      have HE := Lib.hid e3
      have HI := Lib.hid hi
      have HTN := Lib.hid (HTK.out.mk' x)
      rw [e3] at HTN
      rw [e1, e2]
      clear h hx ht hb1 hW e1 e2 e3 hok hi
      go_enter Tryd.func17, Tryd.ntmps17
      go_wp2_with (fail)
      refine HP.out.mono ?_
      rintro e w2 ⟨rfl, hb2⟩
      have HB2 := Lib.hid (HB1.out.trans (hb2.mono HB1.out.size))
      have HBX2 := Lib.hid (HBX.out.later hb2)
      have HH2 := Lib.hid (HH.out.later HB2.out)
      have hlk : ∀ n, (Instr.lookup 55 (.map (some mb)) (.agg #[.int .i64 x.op, .int .i64 x.v, .int .i64 x.a, .int .i64 x.b, .int .i64 x.c]) true).run Tryd.prog (w2.drewN n) = .ok (.tuple #[.int .i64 0, .bool false]) (w2.drewN n) := fun n => by
        have := (HH2.out.later (drewN_below w2 n)).look HX.out
        rw [HI.out] at this
        exact this
      obtain ⟨A, c, hrv, hlc, hrow, hown⟩ := HH2.out.form
      have HRV := Lib.hid hrv
      have c1 : w2.cell? ⟨tb, 1, none⟩ = some (.slice A l.length c) := by rw [← hrv]; exact Lib.cell_of_heap HH2.out.box 1
      have c2 : w2.cell? ⟨tb, 2, none⟩ = some (.map (some mb)) := Lib.cell_of_heap HH2.out.box 2
      obtain ⟨x0, x1, x2, x3, x4⟩ := HBX2.out.cells
      have hne : ((l.length : Int) == 16384) = false := by have := HF.out; simp; omega
      clear hb2 hrow hown hrv hlc
      go_wp2_with (fail)
      go_quiet (fail)
      go_wp2_with (fail)
      have HB3 := Lib.hid (HB2.out.trans ((drewN_below w2 nq).mono HB2.out.size))
      have HBX3 := Lib.hid (HBX2.out.later (drewN_below w2 nq))
      have HH3 := Lib.hid (HH2.out.later (drewN_below w2 nq))
      clear hlk c1 c2 x0 x1 x2 x3 x4 HBX2 HH2 HB2 HBX HB1 HP hne
      generalize w2.drewN nq = w3 at *
      have c1 : w3.cell? ⟨tb, 1, none⟩ = some (.slice A l.length c) := by rw [← HRV.out]; exact Lib.cell_of_heap HH3.out.box 1
      have c2 : w3.cell? ⟨tb, 2, none⟩ = some (.map (some mb)) := Lib.cell_of_heap HH3.out.box 2
      obtain ⟨x0, x1, x2, x3, x4⟩ := HBX3.out.cells
      obtain ⟨w4, hrun, hmap, hgr⟩ := World.ownsMap.update (w := w3.drew) HH3.out.map tmLaw Tryd.underlying55 (by have := HF.out; unfold maxLen; omega) (tm_keyOf HX.out) (val := .int .i64 (l.length : Int)) (plainElem_int Tryd.underlying3 (by have := HF.out; exact WalkArith.wf_i64 (by omega)))
      have HMAP := Lib.hid hmap
      have HGR := Lib.hid hgr
      clear hmap hgr
      go_region
      have nbm : some tb ≠ some mb := fun e => by
        obtain ⟨es, clock, hm0, _⟩ := HH3.out.map
        injection e with e
        rw [← e, HH3.out.box] at hm0
        cases hm0
      have hgr := HGR.out
      have hbox4 := (hgr.block tb (show tb < w3.heap.size from hlt HH3.out.box) nbm).trans HH3.out.box
      have hrow4 : TOwn w4 n₀ rv l := own_stays HH3.out.row fun b e => hgr.block b (own_block' HH3.out.row e).2.1 (fun e2 => by
        obtain ⟨_, _, cs, hc⟩ := own_block' HH3.out.row e
        obtain ⟨es, clock, hm0, _⟩ := HH3.out.map
        injection e2 with e2
        rw [e2, hm0] at hc
        cases hc)
      have hx4 : TBox w4 w.heap.size x := (hgr.block w.heap.size (show w.heap.size < w3.heap.size from hlt HBX3.out) (fun e => by injection e with e; omega)).trans HBX3.out
      have hf34 : FrT tb mb rv w3 w4 := ⟨hgr.os, hgr.tape, hgr.output, hgr.size, fun k hk hno => hgr.block k hk (fun e => hno (.inr (.inl (by injection e))))⟩
      have HF4 := Lib.hid (show FrT tb mb rv w w4 from ⟨hf34.os.trans HB3.out.os, hf34.tape.trans HB3.out.tape, hf34.output.trans HB3.out.output, Nat.le_trans HB3.out.size hf34.size, fun k hk hno => (hf34.block k (Nat.lt_of_lt_of_le hk HB3.out.size) hno).trans (HB3.out.block k hk)⟩)
      have HM4 := Lib.hid (show w4.ownsMap Tryd.prog 46 (plainElem (H := Unit) Tryd.prog 3) mb (l.length + 1) (numD (l ++ [x])) by rw [numD_snoc]; exact HMAP.out)
      have HTM := Lib.hid (show ∀ y ∈ l ++ [x], TmOk y from fun y hy => by
        rcases List.mem_append.1 hy with h | h
        · exact HH3.out.tm y h
        · simp at h; subst h; exact HX.out)
      have HR4 := Lib.hid hrow4
      have HBO4 := Lib.hid hbox4
      have HX4 := Lib.hid hx4
      clear c1 c2 x0 x1 x2 x3 x4 hrun HMAP HGR HBX3 HB3 hgr hf34 hbox4 hrow4 hx4 nbm HH3
      have c1 : w4.cell? ⟨tb, 1, none⟩ = some (.slice A l.length c) := by rw [← HRV.out]; exact Lib.cell_of_heap HBO4.out 1
      obtain ⟨x0, x1, x2, x3, x4⟩ := HX4.out.cells
      have HBA := Lib.hid ((Below.refl w4.heap.size w4).alloc (Nat.le_refl _) (.cells #[.int .i64 x.op, .int .i64 x.v, .int .i64 x.a, .int .i64 x.b, .int .i64 x.c] 46))
      have ca1 : (w4.alloc (.cells #[.int .i64 x.op, .int .i64 x.v, .int .i64 x.a, .int .i64 x.b, .int .i64 x.c] 46)).cell? ⟨tb, 1, none⟩ = some (.slice A l.length c) := (HBA.out.cell (p := ⟨tb, 1, none⟩) (hlt HBO4.out)).trans c1
      have hcap1 : l.length + 1 ≤ maxLen := by have := HF.out; unfold maxLen; omega
      have hcap2 : (l.length + 1) * 40 ≤ 140737488355328 := by have := HF.out; omega
      have HC1 := Lib.hid hcap1
      have HC2 := Lib.hid hcap2
      have HNB := Lib.hid (show ∀ (j : Nat) (u : Value), (tcl [x])[j]? = some u → (w4.alloc (.cells #[.int .i64 x.op, .int .i64 x.v, .int .i64 x.a, .int .i64 x.b, .int .i64 x.c] 46)).drew.cell? ((⟨w4.heap.size, 0, none⟩ : Addr).add j) = some u from World.news_of_block (cs := #[.int .i64 x.op, .int .i64 x.v, .int .i64 x.a, .int .i64 x.b, .int .i64 x.c]) (heap_alloc_new w4 _))
      have hal : (w4.alloc (.cells #[.int .i64 x.op, .int .i64 x.v, .int .i64 x.a, .int .i64 x.b, .int .i64 x.c] 46)).heap.size = w4.heap.size + 1 := by simp
      have HOA := Lib.hid (show (w4.alloc (.cells #[.int .i64 x.op, .int .i64 x.v, .int .i64 x.a, .int .i64 x.b, .int .i64 x.c] 46)).drew.ownsRow n₀ 46 5 (.slice A l.length c) l.length (tcl l) by rw [← HRV.out]; exact own_stays HR4.out fun b e => HBA.out.drew.block b (own_block' HR4.out e).2.1)
      have HLA := Lib.hid (show n₀ ≤ (w4.alloc (.cells #[.int .i64 x.op, .int .i64 x.v, .int .i64 x.a, .int .i64 x.b, .int .i64 x.c] 46)).drew.heap.size by show n₀ ≤ (w4.alloc (.cells #[.int .i64 x.op, .int .i64 x.v, .int .i64 x.a, .int .i64 x.b, .int .i64 x.c] 46)).heap.size; rw [hal]; have := hlt HBO4.out; omega)
      have HSA := Lib.hid (show (w4.alloc (.cells #[.int .i64 x.op, .int .i64 x.v, .int .i64 x.a, .int .i64 x.b, .int .i64 x.c] 46)).drew.heap.size = w4.heap.size + 1 from hal)
      obtain ⟨i0, hi0, hz0, hz1, hz2⟩ := info_parts infoTm
      have HG := Lib.hid (fun w3 g cap h1 h2 h3 => tab_grown (g := g) (cap := cap) (w3 := w3) (x := x) hlo HTN.out (by have := HF.out; omega) HTM.out HBO4.out HR4.out HM4.out HBA.out.drew h1 h2 h3)
      rw [HRV.out] at HG
      clear hcap1 hcap2 hal
      go_wp2_with (fail)
      go_region_law (first | (refine step_append_lies _ (by rfl) _ _ _ (by rfl) n₀ 46 i0 _ 5 40 Tryd.underlying22 hi0 hz0 hz1 hz2 rfl (by decide) (.slice A l.length c) l.length (tcl l) (by rfl) HOA.out ⟨w4.heap.size, 0, none⟩ 1 1 (tcl [x]) (by rfl) (by rfl) HNB.out (tcl_one _) (by decide) HC1.out HC2.out HLA.out (w4.heap.size + 1) HSA.out ?_; intro g cap w5 hown hgr hsel hgl; obtain ⟨hpn, y1, y2, y3⟩ := HG.out w5 g cap hgr hown (by rcases hsel with h | h; exact .inl h; exact .inr (by rw [h, HSA.out]; exact Nat.le_refl _)); have HPN := Lib.hid hpn; have HSEL := Lib.hid hsel; clear hown hgr hsel hgl hpn))
      all_goals
        go_wp2_with (fail)
        go_ret2
        have hpn := HPN.out
        rw [← HRV.out] at hpn
        have hsel := HSEL.out
        rw [← HRV.out] at hsel
        refine ⟨by first | rfl | (congr 1; simp), _, by rw [HE.out]; exact hpn.1, HF4.out.trans hpn.2, fun q e => ?_⟩
        injection e with e
        subst e
        rcases hsel with h | h
        · exact .inl h
        · exact .inr (by have := HF4.out.size; show w.heap.size ≤ g; omega)
end
end Go.Proofs.YtjgkcicgjnjepaaDoor
