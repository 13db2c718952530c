/- What is proved: the reference's parser: Parse. -/
import Derived.Test.YtnpcfmoiiecadaaDoorParMrg
import Derived.Test.YtnpcfmoiiecadaaDoorParEnv
import Derived.Test.YtnpcfmoiiecadaaDoorParPrc
set_option linter.unusedVariables false
set_option linter.unusedSimpArgs false
namespace Go.Proofs.YtnpcfmoiiecadaaDoor.Par
open Go.RowKit
open Lx (Tok)

theorem decl_rec {E : Env} {R : Rec} {p : St} {m : NT} {q : St} (h1 : isW E p (⟨#[114, 101, 99, 111, 114, 100]⟩ : ByteArray) = true) (h : decl E R p = some (m, q)) : rec_ E p = some (m, q) := by unfold decl at h; rw [h1] at h; exact h
theorem decl_prc {E : Env} {R : Rec} {p : St} {m : NT} {q : St} (h1 : isW E p (⟨#[114, 101, 99, 111, 114, 100]⟩ : ByteArray) = false) (h2 : isW E p (⟨#[112, 114, 111, 99]⟩ : ByteArray) = true) (h : decl E R p = some (m, q)) :
    ∃ x1 q1 b1, pars E (nam E (rd E p)).2 = some (x1, q1) ∧ R.blk (opt E q1).2 = some (b1, q) ∧ m = mkN E q p.k 5 (nam E (rd E p)).1 [x1, (opt E q1).1, b1] := by
  unfold decl at h
  rw [h1, h2] at h
  simp only [Bool.false_eq_true, if_false, if_true, prc] at h
  cases hx : pars E (nam E (rd E p)).2 with
  | none => rw [hx] at h; simp at h
  | some x =>
    rw [hx] at h
    simp only [Option.bind_some, Option.map_eq_some_iff] at h
    obtain ⟨⟨b1, q2⟩, hb, he⟩ := h
    cases he
    exact ⟨x.1, x.2, b1, rfl, hb, rfl⟩
theorem decl_skip {E : Env} {R : Rec} {p : St} {m : NT} {q : St} (h1 : isW E p (⟨#[114, 101, 99, 111, 114, 100]⟩ : ByteArray) = false) (h2 : isW E p (⟨#[112, 114, 111, 99]⟩ : ByteArray) = false) (h : decl E R p = some (m, q)) :
    skipD E (fuel E) (rep E p 7 (⟨#[]⟩ : ByteArray)) = some q ∧ m = mkN E q p.k 1 (⟨#[]⟩ : ByteArray) [] := by
  unfold decl at h
  rw [h1, h2] at h
  simp only [Bool.false_eq_true, if_false, Option.map_eq_some_iff] at h
  obtain ⟨q', hb, he⟩ := h
  cases he
  exact ⟨hb, rfl⟩
theorem DRow.mono {w : World} {B B' : Nat} {A : Option Addr} {l : List Dg} (h : DRow w B A l) (hb : B ≤ B') : DRow w B' A l := fun hl => by
  obtain ⟨b, off, h1, h2, h3⟩ := h hl
  exact ⟨b, off, h1, Nat.lt_of_lt_of_le h2 hb, h3⟩
theorem lex_short (s : ByteArray) (hs : s.size ≤ 4096) : (lexical (Lx.scan s.data.toList)).length ≤ 5000 := by
  obtain ⟨ts, t, h1, hn, _⟩ := scan_shape s.data.toList (s.data.toList.length + 1) 0 (Nat.zero_le _) (by omega)
  have hl : s.data.toList.length = s.size := by simp
  have e : (Lx.scan s.data.toList).length = ts.length + 1 := by
    show (Lx.scanTo _ _ 0).length = _
    rw [h1]; simp
  have := lexical_len (Lx.scan s.data.toList)
  omega
theorem pse_mrg {wa wx : World} {B : Nat} {E : Env} {st : St} {s : ByteArray} {Ax Al : Option Addr} {cx cl : Nat} (hs : s.size ≤ 4096) (hx : DRow wx wx.heap.size Ax (lexical (Lx.scan s.data.toList))) (hcx : (lexical (Lx.scan s.data.toList)).length ≤ cx) (hl : DRow wa wa.heap.size Al st.list) (hcl : st.list.length ≤ cl) (hb : Below wa.heap.size wa wx) (hp : PIs B B E wa st) :
    Calls Tryd.prog 30 #[.slice Ax (lexical (Lx.scan s.data.toList)).length cx, .slice Al st.list.length cl] wx fun e w' => ∃ v, e = .returned v ∧ w'.ownsRow wx.heap.size 96 5 v (merged (lexical (Lx.scan s.data.toList)) st.list).length (dcells (merged (lexical (Lx.scan s.data.toList)) st.list)) ∧ Below wx.heap.size wx w' :=
  merged_any Ax Al cx cl _ _ wx hx ((hl.below hb).mono hb.size) hcx hcl (lex_short s hs) (by have h1 := hp.ok; have h2 := hp.eok.len; unfold St.Ok at h1; omega)
theorem pse_zb {wa wx wy : World} {r : Nat} (h : ZB wa r) (hb : Below wa.heap.size wa wx) (hy : Below wx.heap.size wx wy) : ZB wy r := by
  have hl := (Array.getElem?_eq_some_iff.1 h).1
  exact (hy.block r (Nat.lt_of_lt_of_le hl hb.size)).trans ((hb.block r hl).trans h)
theorem own_down {w : World} {B B' n sz : Nat} {e : TypeId} {v : Value} {xs : List Value} (h : w.ownsRow B e sz v n xs) (hb : B' ≤ B) : w.ownsRow B' e sz v n xs := by
  refine ⟨h.1, ?_⟩
  rcases h.2 with h0 | ⟨g, cap, cur, h1, h2, h3⟩
  · exact .inl h0
  · exact .inr ⟨g, cap, cur, h1, Nat.le_trans hb h2, h3⟩
theorem pse_end {w w1 wr wa wx wy : World} {B n : Nat} {A : Option Addr} {c : Nat} {l : List NT} {vy : Value} {xs : List Value} (hB : B = w.heap.size + 1) (h1 : Below w.heap.size w w1) (hB1 : B ≤ w1.heap.size) (h2 : Fr B w1 wr) (h3 : Fr B wr wa) (h4 : Below wa.heap.size wa wx) (h5 : Below wx.heap.size wx wy) (hz : ZB wy w.heap.size) (hk : KIn w1.heap.size wr A c l) (ho : wy.ownsRow wx.heap.size 96 5 vy n xs) (k : Int) (t : ByteArray) (o hi : Int) :
    (putN wy w.heap.size (.mk k t o hi A c l)).heap[w.heap.size]? = some (.cells #[.int .i64 k, .string t, .int .i64 o, .int .i64 hi, .slice A l.length c] 31 (0, 0)) ∧ InF (w.heap.size + 1) (putN wy w.heap.size (.mk k t o hi A c l)) (.mk k t o hi A c l) ∧ (putN wy w.heap.size (.mk k t o hi A c l)).ownsRow w.heap.size 96 5 vy n xs ∧ Below w.heap.size w (putN wy w.heap.size (.mk k t o hi A c l)) := by
  have s1 := h1.size
  have s2 := h2.below.size
  have s3 := h3.below.size
  have s4 := h4.size
  have hfar : ∀ b', b' ≠ w.heap.size → (putN wy w.heap.size (.mk k t o hi A c l)).heap[b']? = wy.heap[b']? := fun b' hb => putN_far wy _ hb
  have hin : InF w1.heap.size wy (.mk k t o hi A c l) := (((hk.fr h3).fr (Fr.of_below (B0 := B) h4 (by omega))).fr (Fr.of_below (B0 := B) h5 (by omega))).inF k t o hi
  refine ⟨hset (hset (hset (hset (hset hz _) _) _) _) _, ?_, ?_, ?_⟩
  · exact InS.mono (fun b' hb => ⟨hb.1.of_eq (hfar b' (by have := hb.2; omega)), by have := hb.2; omega⟩) _ (InS.keep (fun b' hb => hfar b' (by have := hb.2; omega)) _ hin)
  · refine own_far (g0 := 0) (own_down ho (by omega)) (fun b hb => hfar b (fun e => ?_))
    obtain ⟨cs, fr, e1⟩ := hb
    have hz' : wy.heap[w.heap.size]? = _ := hz
    rw [e, hz'] at e1; cases e1
  · have hb : Below w.heap.size w wy := ((h1.trans ((h2.below.trans h3.below).mono (by omega))).trans (h4.mono (by omega))).trans (h5.mono (by omega))
    exact ((((hb.setCell (p := ⟨w.heap.size, 0, none⟩) (Nat.le_refl _) _).setCell (p := ⟨w.heap.size, 1, none⟩) (Nat.le_refl _) _).setCell (p := ⟨w.heap.size, 2, none⟩) (Nat.le_refl _) _).setCell (p := ⟨w.heap.size, 3, none⟩) (Nat.le_refl _) _).setCell (p := ⟨w.heap.size, 4, none⟩) (Nat.le_refl _) _
theorem parse_eq {E : Env} {s : ByteArray} {ks : List NT} {q : St} (h : Ev E (env s)) (hk : declL E (it E (deep E)) (fuel E) [] st0 = some (ks, q)) : parse s = some (.mk 2 (⟨#[]⟩ : ByteArray) 0 s.size none 0 ks, merged (lexical (Lx.scan s.data.toList)) q.list) := by
  rw [declL_v h, it_v h, deep_v h, fuel_v h] at hk
  unfold parse
  simp only []
  rw [hk]
  rfl
set_option maxRecDepth 100000 in
set_option maxHeartbeats 8000000 in
theorem parse_any (s : ByteArray) (w : World) (hs : s.size ≤ 4096) :
    Calls Tryd.prog 8 #[.string s] w fun e w' => ∃ (x : NT) (v : Value) (m : NT) (ds : List Dg), e = .returned (.tuple #[.agg #[.int .i64 x.kind, .string x.text, .int .i64 x.lo, .int .i64 x.hi, .slice x.A x.kids.length x.c], v, .int .i64 0]) ∧ parse s = some (m, ds) ∧ NT.strip x = m ∧ InF (w.heap.size + 1) w' x ∧ w'.ownsRow w.heap.size 96 5 v ds.length (dcells ds) ∧ Below w.heap.size w w' := by
  obtain ⟨i0, hi0, hz0', hz1, hz2⟩ := info_parts infoNd
  have HST := Lib.hid (fun w => start_any s w hs)
  have HEN := Lib.hid (fun A c => (env_ok s A c hs).2)
  have hsz : decide ((4096 : Int) < (s.size : Int)) = false := by simp; omega
  have HSZ := Lib.hid hs
  clear hs
  unfold ptr at *
  go_enter Tryd.func8, Tryd.ntmps8
  go_wp2_with (fail)
  have hb0 := (Below.refl w.heap.size w).alloc (Nat.le_refl _) (.cells #[.int .i64 0, .string ⟨#[]⟩, .int .i64 0, .int .i64 0, .slice none 0 0] 31)
  have hz0 : ZB (w.alloc (.cells #[.int .i64 0, .string ⟨#[]⟩, .int .i64 0, .int .i64 0, .slice none 0 0] 31)) w.heap.size := heap_alloc_new w _
  have hs0 : (w.alloc (.cells #[.int .i64 0, .string ⟨#[]⟩, .int .i64 0, .int .i64 0, .slice none 0 0] 31)).heap.size = w.heap.size + 1 := World.size_alloc _ _
  generalize (w.alloc (.cells #[.int .i64 0, .string ⟨#[]⟩, .int .i64 0, .int .i64 0, .slice none 0 0] 31)) = w0 at *
  refine (HST.out w0).mono ?_
  rintro e w1 ⟨A, c, rfl, hp, hbw⟩
  have hev : Ev ⟨s, flt (Lx.scan s.data.toList), A, c⟩ (env s) := ⟨rfl, rfl⟩
  have hfn := HEN.out A c
  generalize (⟨s, flt (Lx.scan s.data.toList), A, c⟩ : Env) = E at *
  generalize hB : w0.heap.size = B at *
  have HB := Lib.hid (show B = w.heap.size + 1 from hs0)
  have HEV := Lib.hid hev
  have HFR1 := Lib.hid (hb0.trans (hbw.mono (by omega)))
  have HZ1 := Lib.hid (show ZB w1 w.heap.size from (hbw.block w.heap.size (by omega)).trans hz0)
  have HP1 := Lib.hid hp
  have HBB := Lib.hid hp.b0
  have HAL := Lib.hid (all_it (B0 := B) (bp := B) hfn (deep E))
  have HE := Lib.hid hp.eok
  obtain ⟨ks, q, hks⟩ := declL_some E
  generalize hR : it E (deep E) = R at *
  have HRR := Lib.hid hR
  have HKS := Lib.hid hks
  clear hb0 hz0 hs0 hbw hp hev hfn hB hks hR HST HEN
  have hnb := heap_alloc_new w1 (.cells #[] 31)
  have hbe := (Below.refl w1.heap.size w1).alloc (Nat.le_refl _) (.cells #[] 31)
  have HC1 := Lib.hid (LIn.start (LIn.empty (lo := w1.heap.size) hnb (Nat.le_refl _)) (HP1.out.later hbe) (Fr.of_below (B0 := B) hbe HBB.out))
  have HZ2 := Lib.hid (show ZB (w1.alloc (.cells #[] 31)) w.heap.size from (hbe.block w.heap.size (by have := HB.out; have := HBB.out; omega)).trans HZ1.out)
  have HS2 := Lib.hid (show w1.heap.size ≤ (w1.alloc (.cells #[] 31)).heap.size by rw [World.size_alloc]; omega)
  clear hnb hbe
  go_wp2_with (fail)
  generalize w1.alloc (.cells #[] 31) = w2 at *
  go_loopw [6] (fun v wr => ∃ (f : Nat) (l ms : List NT) (st : St), Hid (Col B B w1.heap.size E w1 wr v l ms st) ∧ Hid (declL E R f ms st = some (ks, q)) ∧ l.length + f ≤ E.T.length + 2 ∧ Hid (ZB wr w.heap.size) ∧ Hid (w1.heap.size ≤ wr.heap.size) ∧ slLen v = l.length) (fun v _ => E.T.length + 2 - slLen v)
  case atStart => exact ⟨fuel E, [], [], st0, HC1, HKS, by simp only [fuel, List.length_nil]; omega, HZ2, HS2, rfl⟩
  case round =>
    obtain ⟨f, l, ms, st, hcol, hmo, hlen, hz, hsw, hsl⟩ := hrel
    obtain ⟨f', rfl⟩ : ∃ f', f = f' + 1 := by
      cases f with
      | zero => have h9 := hmo.out; simp [declL] at h9
      | succ f' => exact ⟨f', rfl⟩
    have hlT := HE.out.len
    obtain ⟨A6, c6, rfl, hkin⟩ := hcol.out.row.kin
    have HKIN := Lib.hid hkin
    clear hkin hsl
    by_cases h5 : knd E st = 5
    · have HFIN := Lib.hid (show ms = ks ∧ st = q from by
        have h9 := hmo.out
        simp only [declL, h5, if_true, Option.some.injEq, Prod.mk.injEq] at h9
        exact h9)
      have HK5 := Lib.hid h5
      clear h5 hmo
      go_wp2_with (fail)
      refine (kind_at hcol.out.par HK5.out).mono ?_
      rintro e wa ⟨rfl, hba⟩
      have HPA := Lib.hid (hcol.out.par.later hba)
      have HFA := Lib.hid (Fr.of_below hba hcol.out.par.b0)
      clear hba
      obtain ⟨vl, hbx, how⟩ := HPA.out.box
      obtain ⟨Al, cl, rfl, hcl, hdl⟩ := own_drow how
      have HDL := Lib.hid hdl
      have HCL := Lib.hid hcl
      have c4 : wa.cell? ⟨B, 4, none⟩ = some (.slice Al st.list.length cl) := Lib.cell_of_heap hbx 4
      have HLT := Lib.hid HPA.out.lt
      have HZA := Lib.hid (hz.out.fr HFA.out)
      have HRL := Lib.hid (show w.heap.size < wa.heap.size from (Array.getElem?_eq_some_iff.1 HZA.out).1)
      have HLL := Lib.hid (lexical_len (Lx.scan s.data.toList))
      clear hbx how hdl hcl
      go_wp2_with (fail)
      have HLX := Lib.hid (fun w => lexical_any s w HSZ.out)
      go_region_law (first | (go_simp; go_at_call 31; refine (HLX.out _).mono ?_; rintro e wx ⟨vx, rfl, hox, hbx⟩; have hbx : Below wa.heap.size wa wx := (Below.refl wa.heap.size wa).drew.trans hbx; obtain ⟨Ax, cx, rfl, hcx, hdx⟩ := own_drow hox; have HDX := Lib.hid hdx; have HCX := Lib.hid hcx; have HBX := Lib.hid hbx; have c4' := (hbx.cell (p := ⟨B, 4, none⟩) HLT.out).trans c4; have HDM := Lib.hid (pse_mrg HSZ.out HDX.out HCX.out HDL.out HCL.out HBX.out HPA.out); clear hox hcx hdx hbx) | (go_simp; go_at_call 30; refine HDM.out.mono ?_; rintro e wy ⟨vy, rfl, hoy, hby⟩; have HOY := Lib.hid hoy; have HBY := Lib.hid hby; have HZY := Lib.hid (pse_zb HZA.out HBX.out HBY.out); obtain ⟨z0, z1, z2, z3, z4⟩ := HZY.out.cells; have y0 := HZY.out.frozen 0; have y1 := HZY.out.frozen 1; have y2 := HZY.out.frozen 2; have y3 := HZY.out.frozen 3; have y4 := HZY.out.frozen 4; clear hoy hby))
      all_goals
        go_wp2_with (fail)
        obtain ⟨hV, hin, hdg, hbl⟩ := pse_end HB.out HFR1.out HBB.out hcol.out.frame HFA.out HBX.out HBY.out HZY.out HKIN.out HOY.out 2 ⟨#[]⟩ 0 (s.size : Int)
        have HDG := Lib.hid hdg
        have HBL := Lib.hid hbl
        have HIV := Lib.hid hin
        clear z0 z1 z2 z3 z4 y0 y1 y2 y3 y4 hdg hbl hin c4 c4'
        dsimp only [putN, NT.kind, NT.text, NT.lo, NT.hi, NT.A, NT.c, NT.kids] at hV HIV HDG HBL
        generalize (((((wy.setCell ⟨w.heap.size, 0, none⟩ (.int .i64 2)).setCell ⟨w.heap.size, 1, none⟩ (.string ⟨#[]⟩)).setCell ⟨w.heap.size, 2, none⟩ (.int .i64 0)).setCell ⟨w.heap.size, 3, none⟩ (.int .i64 (s.size : Int))).setCell ⟨w.heap.size, 4, none⟩ (.slice A6 l.length c6)) = V at *
        have v0 := Lib.cell_of_heap hV 0
        have v1 := Lib.cell_of_heap hV 1
        have v2 := Lib.cell_of_heap hV 2
        have v3 := Lib.cell_of_heap hV 3
        have v4 := Lib.cell_of_heap hV 4
        refine bodyPost_ret (v := .tuple #[.agg #[.int .i64 2, .string ⟨#[]⟩, .int .i64 0, .int .i64 (s.size : Int), .slice A6 l.length c6], vy, .int .i64 0]) (by simp [results, Tryd.results8, go_sem, v0, v1, v2, v3, v4]) rfl ⟨.mk 2 ⟨#[]⟩ 0 (s.size : Int) A6 c6 l, vy, _, _, rfl, parse_eq HEV.out (by rw [HRR.out]; exact HKS.out), ?_, HIV.out, ?_, HBL.out⟩
        · rw [NT.strip_eq]
          have e1 := HFIN.out.1
          have e2 := hcol.out.strips
          subst e1
          show NT.mk 2 _ 0 _ none 0 (l.map NT.strip) = _
          rw [e2]
          rfl
        · rw [← HFIN.out.2]
          exact HDG.out
    · obtain ⟨x9, q9, hx9, hr9⟩ : ∃ x9 q9, decl E R st = some (x9, q9) ∧ declL E R f' (ms ++ [x9]) q9 = some (ks, q) := by
        have h9 := hmo.out
        simp only [declL, h5, if_false] at h9
        cases hr : decl E R st with
        | none => rw [hr] at h9; simp at h9
        | some y => rw [hr] at h9; exact ⟨y.1, y.2, rfl, by simpa using h9⟩
      have HMX := Lib.hid hr9
      have HX9 := Lib.hid hx9
      have HN5 := Lib.hid h5
      have hk5 : (knd E st != 5) = true := by simp [h5]
      clear hmo hx9 hr9 h5
      cases hr : isW E st (⟨#[114, 101, 99, 111, 114, 100]⟩ : ByteArray) with
      | true =>
        have HR := Lib.hid hr
        clear hr
        go_wp2_with (fail)
        refine (kind_at hcol.out.par rfl).mono ?_
        rintro e w3 ⟨rfl, hb3⟩
        have HP3 := Lib.hid (hcol.out.par.later hb3)
        have HF3 := Lib.hid (Fr.of_below hb3 hcol.out.par.b0)
        clear hb3
        go_wp2_with (fail)
        refine (is_at HP3.out HR.out).mono ?_
        rintro e wa ⟨rfl, hba⟩
        have HPA := Lib.hid (HP3.out.later hba)
        have HFA := Lib.hid (HF3.out.trans (Fr.of_below hba HP3.out.b0))
        clear hba HP3 HF3
        go_wp2_with (fail)
        refine (rec_any HPA.out HN5.out (decl_rec HR.out HX9.out)).mono ?_
        rintro e wb ⟨n, rfl, hst, hin, hpb, hfb⟩
        have HST := Lib.hid hst
        have HIN := Lib.hid hin
        have HPB := Lib.hid hpb
        have HFB := Lib.hid hfb
        have HOW := Lib.hid ((hcol.out.row.fr HFA.out).fr HFB.out).own
        have HLB := Lib.hid (show w1.heap.size ≤ wb.heap.size from Nat.le_trans (Nat.le_trans hsw.out HFA.out.below.size) HFB.out.below.size)
        clear hst hin hpb hfb
        go_wp2_with (at_builtin; refine wpList_append_lies _ rfl _ _ 29 rfl w1.heap.size 31 i0 _ 5 64 Tryd.underlying29 hi0 hz0' hz1 hz2 rfl (by decide) _ _ _ rfl (HOW.out.alloc _) ⟨wb.heap.size, 0, none⟩ 1 1 (ncl [n]) rfl rfl (World.news_of_block (cs := #[.int .i64 n.kind, .string n.text, .int .i64 n.lo, .int .i64 n.hi, .slice n.A n.kids.length n.c]) (heap_alloc_new wb _)) (ncl_one n) (by decide) ?c3 ?c4 ?c5 (wb.heap.size + 1) (World.size_alloc _ _) ?_)
        case c3 => unfold maxLen; omega
        case c4 => omega
        case c5 => rw [World.size_alloc]; have := HLB.out; omega
        intro g cap wz hown hgr hsel hgl
        obtain ⟨hc', hz', hs'⟩ := hcol.out.push HBB.out (Nat.le_refl _) hsw.out HFA.out HST.out HIN.out HPB.out HFB.out hgr hown hsel
        have HC' := Lib.hid hc'
        have HZ' := Lib.hid (hz' w.heap.size (by have := HB.out; have := HBB.out; omega) hz.out)
        have HS' := Lib.hid (Nat.le_trans hsw.out hs')
        clear hown hgr hsel hgl hc' hz' hs'
        go_wp2_with (fail)
        exact ⟨⟨f', l ++ [n], _, _, HC', HMX, by simp only [List.length_append, List.length_cons, List.length_nil]; omega, HZ', HS', by simp [slLen]⟩, by simp only [slLen]; omega⟩
      | false =>
        cases hpc : isW E st (⟨#[112, 114, 111, 99]⟩ : ByteArray) with
        | true =>
          have HR := Lib.hid hr
          have HQ := Lib.hid hpc
          clear hr hpc
          obtain ⟨x1, q1, b1, hx1, hb1, hm1⟩ := decl_prc HR.out HQ.out HX9.out
          have HX1 := Lib.hid hx1
          have HB1 := Lib.hid hb1
          have HM1 := Lib.hid hm1
          clear hx1 hb1 hm1
          go_wp2_with (fail)
          refine (kind_at hcol.out.par rfl).mono ?_
          rintro e w3 ⟨rfl, hb3⟩
          have HP3 := Lib.hid (hcol.out.par.later hb3)
          have HF3 := Lib.hid (Fr.of_below hb3 hcol.out.par.b0)
          clear hb3
          go_wp2_with (fail)
          refine (is_at HP3.out HR.out).mono ?_
          rintro e w4 ⟨rfl, hb4⟩
          have HP4 := Lib.hid (HP3.out.later hb4)
          have HF4 := Lib.hid (HF3.out.trans (Fr.of_below hb4 HP3.out.b0))
          clear hb4 HP3 HF3
          go_wp2_with (fail)
          refine (is_at HP4.out HQ.out).mono ?_
          rintro e wa ⟨rfl, hba⟩
          have HPA := Lib.hid (HP4.out.later hba)
          have HFA := Lib.hid (HF4.out.trans (Fr.of_below hba HP4.out.b0))
          clear hba HP4 HF4
          go_wp2_with (fail)
          refine (prc_any HPA.out HAL.out.blk HN5.out x1 q1 HX1.out b1 q9 HB1.out).mono ?_
          rintro e wb ⟨n, rfl, hst, hin, hpb, hfb⟩
          rw [← HM1.out] at hst
          have HST := Lib.hid hst
          have HIN := Lib.hid hin
          have HPB := Lib.hid hpb
          have HFB := Lib.hid hfb
          have HOW := Lib.hid ((hcol.out.row.fr HFA.out).fr HFB.out).own
          have HLB := Lib.hid (show w1.heap.size ≤ wb.heap.size from Nat.le_trans (Nat.le_trans hsw.out HFA.out.below.size) HFB.out.below.size)
          clear hst hin hpb hfb
          go_wp2_with (at_builtin; refine wpList_append_lies _ rfl _ _ 29 rfl w1.heap.size 31 i0 _ 5 64 Tryd.underlying29 hi0 hz0' hz1 hz2 rfl (by decide) _ _ _ rfl (HOW.out.alloc _) ⟨wb.heap.size, 0, none⟩ 1 1 (ncl [n]) rfl rfl (World.news_of_block (cs := #[.int .i64 n.kind, .string n.text, .int .i64 n.lo, .int .i64 n.hi, .slice n.A n.kids.length n.c]) (heap_alloc_new wb _)) (ncl_one n) (by decide) ?c3 ?c4 ?c5 (wb.heap.size + 1) (World.size_alloc _ _) ?_)
          case c3 => unfold maxLen; omega
          case c4 => omega
          case c5 => rw [World.size_alloc]; have := HLB.out; omega
          intro g cap wz hown hgr hsel hgl
          obtain ⟨hc', hz', hs'⟩ := hcol.out.push HBB.out (Nat.le_refl _) hsw.out HFA.out HST.out HIN.out HPB.out HFB.out hgr hown hsel
          have HC' := Lib.hid hc'
          have HZ' := Lib.hid (hz' w.heap.size (by have := HB.out; have := HBB.out; omega) hz.out)
          have HS' := Lib.hid (Nat.le_trans hsw.out hs')
          clear hown hgr hsel hgl hc' hz' hs'
          go_wp2_with (fail)
          exact ⟨⟨f', l ++ [n], _, _, HC', HMX, by simp only [List.length_append, List.length_cons, List.length_nil]; omega, HZ', HS', by simp [slLen]⟩, by simp only [slLen]; omega⟩
        | false =>
          have HR := Lib.hid hr
          have HQ := Lib.hid hpc
          clear hr hpc
          obtain ⟨hsk, hm1⟩ := decl_skip HR.out HQ.out HX9.out
          have HSK := Lib.hid hsk
          have HM1 := Lib.hid hm1
          have HKL := Lib.hid (knd_lt HN5.out)
          clear hsk hm1
          go_wp2_with (fail)
          refine (kind_at hcol.out.par rfl).mono ?_
          rintro e w3 ⟨rfl, hb3⟩
          have HP3 := Lib.hid (hcol.out.par.later hb3)
          have HF3 := Lib.hid (Fr.of_below hb3 hcol.out.par.b0)
          clear hb3
          go_wp2_with (fail)
          refine (is_at HP3.out HR.out).mono ?_
          rintro e w4 ⟨rfl, hb4⟩
          have HP4 := Lib.hid (HP3.out.later hb4)
          have HF4 := Lib.hid (HF3.out.trans (Fr.of_below hb4 HP3.out.b0))
          clear hb4 HP3 HF3
          go_wp2_with (fail)
          refine (is_at HP4.out HQ.out).mono ?_
          rintro e w5 ⟨rfl, hb5⟩
          have HP5 := Lib.hid (HP4.out.later hb5)
          have HF5 := Lib.hid (HF4.out.trans (Fr.of_below hb5 HP4.out.b0))
          clear hb5 HP4 HF4
          have c2 := HP5.out.c2
          go_wp2_with (fail)
          clear c2
          refine (report_any HP5.out 7 (⟨#[]⟩ : ByteArray)).mono ?_
          rintro e w6 ⟨rfl, hp6, hf6⟩
          have HP6 := Lib.hid hp6
          have HF6 := Lib.hid (HF5.out.trans hf6)
          clear hp6 hf6 HP5 HF5
          go_wp2_with (fail)
          go_loopg [38] (fuel E) (fun f _ wr2 => ∃ (sk : St), Hid (PIs B B E wr2 sk) ∧ Hid (Fr B wr wr2) ∧ Hid (skipD E f sk = some q9))
          case atStart => exact ⟨_, HP6, HF6, HSK⟩
          case round =>
            obtain ⟨sk, hps, hfs, hsk2⟩ := hrel
            obtain ⟨f2, rfl⟩ : ∃ f2, gk = f2 + 1 := by
              cases gk with
              | zero => have h9 := hsk2.out; simp [skipD] at h9
              | succ f2 => exact ⟨f2, rfl⟩
            have HPr := hps
            have HFr := hfs
            by_cases k5 : knd E sk = 5
            · have HFIN := Lib.hid (show sk = q9 from by
                have h9 := hsk2.out
                simp only [skipD, k5, bne_self_eq_false, Bool.false_and, Bool.and_false, Bool.not_true, Bool.true_and, Bool.not_false, Bool.false_eq_true, if_false, Option.some.injEq] at h9
                exact h9)
              have HK5 := Lib.hid k5
              clear k5 hsk2
              go_wp2_with (fail)
              refine (kind_at hps.out HK5.out).mono ?_
              rintro e wa ⟨rfl, hb9⟩
              have HPwa := Lib.hid (hps.out.later hb9)
              have HFwa := Lib.hid (HFr.out.trans (Fr.of_below hb9 hps.out.b0))
              clear hb9
              go_wp2_with (fail)
              have HPA := HPwa
              have HFA := HFwa
              refine (node_leaf HPA.out wa.heap.size st.k 1 (⟨#[]⟩ : ByteArray) HKL.out).mono ?_
              rintro e wb ⟨n, rfl, hst, hin, hpb, hfb⟩
              have e9 := HFIN.out
              subst e9
              rw [← HM1.out] at hst
              have HST := Lib.hid hst
              have HIN := Lib.hid hin
              have HPB := Lib.hid hpb
              have HFB := Lib.hid hfb
              have HOW := Lib.hid ((hcol.out.row.fr HFA.out).fr HFB.out).own
              have HLB := Lib.hid (show w1.heap.size ≤ wb.heap.size from Nat.le_trans (Nat.le_trans hsw.out HFA.out.below.size) HFB.out.below.size)
              clear hst hin hpb hfb
              go_wp2_with (at_builtin; refine wpList_append_lies _ rfl _ _ 29 rfl w1.heap.size 31 i0 _ 5 64 Tryd.underlying29 hi0 hz0' hz1 hz2 rfl (by decide) _ _ _ rfl (HOW.out.alloc _) ⟨wb.heap.size, 0, none⟩ 1 1 (ncl [n]) rfl rfl (World.news_of_block (cs := #[.int .i64 n.kind, .string n.text, .int .i64 n.lo, .int .i64 n.hi, .slice n.A n.kids.length n.c]) (heap_alloc_new wb _)) (ncl_one n) (by decide) ?c3 ?c4 ?c5 (wb.heap.size + 1) (World.size_alloc _ _) ?_)
              case c3 => unfold maxLen; omega
              case c4 => omega
              case c5 => rw [World.size_alloc]; have := HLB.out; omega
              intro g cap wz hown hgr hsel hgl
              obtain ⟨hc', hz', hs'⟩ := hcol.out.push HBB.out (Nat.le_refl _) hsw.out HFA.out HST.out HIN.out HPB.out HFB.out hgr hown hsel
              have HC' := Lib.hid hc'
              have HZ' := Lib.hid (hz' w.heap.size (by have := HB.out; have := HBB.out; omega) hz.out)
              have HS' := Lib.hid (Nat.le_trans hsw.out hs')
              clear hown hgr hsel hgl hc' hz' hs'
              go_wp2_with (fail)
              exact ⟨⟨f', l ++ [n], _, _, HC', HMX, by simp only [List.length_append, List.length_cons, List.length_nil]; omega, HZ', HS', by simp [slLen]⟩, by simp only [slLen]; omega⟩
            · have HK5 := Lib.hid k5
              have kb : (knd E sk != 5) = true := by simp [k5]
              cases kr : isW E sk (⟨#[114, 101, 99, 111, 114, 100]⟩ : ByteArray) with
              | true =>
                have HFIN := Lib.hid (show sk = q9 from by
                  have h9 := hsk2.out
                  simp only [skipD, kb, kr, bne_self_eq_false, Bool.false_and, Bool.and_false, Bool.not_true, Bool.true_and, Bool.not_false, Bool.false_eq_true, if_false, Option.some.injEq] at h9
                  exact h9)
                have HKR := Lib.hid kr
                clear kr k5 hsk2
                go_wp2_with (fail)
                refine (kind_at hps.out rfl).mono ?_
                rintro e wk ⟨rfl, hb9⟩
                have HPwk := Lib.hid (hps.out.later hb9)
                have HFwk := Lib.hid (HFr.out.trans (Fr.of_below hb9 hps.out.b0))
                clear hb9
                go_wp2_with (fail)
                refine (is_at HPwk.out HKR.out).mono ?_
                rintro e wa ⟨rfl, hb9⟩
                have HPwa := Lib.hid (HPwk.out.later hb9)
                have HFwa := Lib.hid (HFwk.out.trans (Fr.of_below hb9 HPwk.out.b0))
                clear hb9
                go_wp2_with (fail)
                have HPA := HPwa
                have HFA := HFwa
                refine (node_leaf HPA.out wa.heap.size st.k 1 (⟨#[]⟩ : ByteArray) HKL.out).mono ?_
                rintro e wb ⟨n, rfl, hst, hin, hpb, hfb⟩
                have e9 := HFIN.out
                subst e9
                rw [← HM1.out] at hst
                have HST := Lib.hid hst
                have HIN := Lib.hid hin
                have HPB := Lib.hid hpb
                have HFB := Lib.hid hfb
                have HOW := Lib.hid ((hcol.out.row.fr HFA.out).fr HFB.out).own
                have HLB := Lib.hid (show w1.heap.size ≤ wb.heap.size from Nat.le_trans (Nat.le_trans hsw.out HFA.out.below.size) HFB.out.below.size)
                clear hst hin hpb hfb
                go_wp2_with (at_builtin; refine wpList_append_lies _ rfl _ _ 29 rfl w1.heap.size 31 i0 _ 5 64 Tryd.underlying29 hi0 hz0' hz1 hz2 rfl (by decide) _ _ _ rfl (HOW.out.alloc _) ⟨wb.heap.size, 0, none⟩ 1 1 (ncl [n]) rfl rfl (World.news_of_block (cs := #[.int .i64 n.kind, .string n.text, .int .i64 n.lo, .int .i64 n.hi, .slice n.A n.kids.length n.c]) (heap_alloc_new wb _)) (ncl_one n) (by decide) ?c3 ?c4 ?c5 (wb.heap.size + 1) (World.size_alloc _ _) ?_)
                case c3 => unfold maxLen; omega
                case c4 => omega
                case c5 => rw [World.size_alloc]; have := HLB.out; omega
                intro g cap wz hown hgr hsel hgl
                obtain ⟨hc', hz', hs'⟩ := hcol.out.push HBB.out (Nat.le_refl _) hsw.out HFA.out HST.out HIN.out HPB.out HFB.out hgr hown hsel
                have HC' := Lib.hid hc'
                have HZ' := Lib.hid (hz' w.heap.size (by have := HB.out; have := HBB.out; omega) hz.out)
                have HS' := Lib.hid (Nat.le_trans hsw.out hs')
                clear hown hgr hsel hgl hc' hz' hs'
                go_wp2_with (fail)
                exact ⟨⟨f', l ++ [n], _, _, HC', HMX, by simp only [List.length_append, List.length_cons, List.length_nil]; omega, HZ', HS', by simp [slLen]⟩, by simp only [slLen]; omega⟩
              | false =>
                cases kp : isW E sk (⟨#[112, 114, 111, 99]⟩ : ByteArray) with
                | true =>
                  have HFIN := Lib.hid (show sk = q9 from by
                    have h9 := hsk2.out
                    simp only [skipD, kb, kr, kp, bne_self_eq_false, Bool.false_and, Bool.and_false, Bool.not_true, Bool.true_and, Bool.not_false, Bool.false_eq_true, if_false, Option.some.injEq] at h9
                    exact h9)
                  have HKR := Lib.hid kr
                  have HKP := Lib.hid kp
                  clear kr kp k5 hsk2
                  go_wp2_with (fail)
                  refine (kind_at hps.out rfl).mono ?_
                  rintro e wk ⟨rfl, hb9⟩
                  have HPwk := Lib.hid (hps.out.later hb9)
                  have HFwk := Lib.hid (HFr.out.trans (Fr.of_below hb9 hps.out.b0))
                  clear hb9
                  go_wp2_with (fail)
                  refine (is_at HPwk.out HKR.out).mono ?_
                  rintro e wl ⟨rfl, hb9⟩
                  have HPwl := Lib.hid (HPwk.out.later hb9)
                  have HFwl := Lib.hid (HFwk.out.trans (Fr.of_below hb9 HPwk.out.b0))
                  clear hb9
                  go_wp2_with (fail)
                  refine (is_at HPwl.out HKP.out).mono ?_
                  rintro e wa ⟨rfl, hb9⟩
                  have HPwa := Lib.hid (HPwl.out.later hb9)
                  have HFwa := Lib.hid (HFwl.out.trans (Fr.of_below hb9 HPwl.out.b0))
                  clear hb9
                  go_wp2_with (fail)
                  have HPA := HPwa
                  have HFA := HFwa
                  refine (node_leaf HPA.out wa.heap.size st.k 1 (⟨#[]⟩ : ByteArray) HKL.out).mono ?_
                  rintro e wb ⟨n, rfl, hst, hin, hpb, hfb⟩
                  have e9 := HFIN.out
                  subst e9
                  rw [← HM1.out] at hst
                  have HST := Lib.hid hst
                  have HIN := Lib.hid hin
                  have HPB := Lib.hid hpb
                  have HFB := Lib.hid hfb
                  have HOW := Lib.hid ((hcol.out.row.fr HFA.out).fr HFB.out).own
                  have HLB := Lib.hid (show w1.heap.size ≤ wb.heap.size from Nat.le_trans (Nat.le_trans hsw.out HFA.out.below.size) HFB.out.below.size)
                  clear hst hin hpb hfb
                  go_wp2_with (at_builtin; refine wpList_append_lies _ rfl _ _ 29 rfl w1.heap.size 31 i0 _ 5 64 Tryd.underlying29 hi0 hz0' hz1 hz2 rfl (by decide) _ _ _ rfl (HOW.out.alloc _) ⟨wb.heap.size, 0, none⟩ 1 1 (ncl [n]) rfl rfl (World.news_of_block (cs := #[.int .i64 n.kind, .string n.text, .int .i64 n.lo, .int .i64 n.hi, .slice n.A n.kids.length n.c]) (heap_alloc_new wb _)) (ncl_one n) (by decide) ?c3 ?c4 ?c5 (wb.heap.size + 1) (World.size_alloc _ _) ?_)
                  case c3 => unfold maxLen; omega
                  case c4 => omega
                  case c5 => rw [World.size_alloc]; have := HLB.out; omega
                  intro g cap wz hown hgr hsel hgl
                  obtain ⟨hc', hz', hs'⟩ := hcol.out.push HBB.out (Nat.le_refl _) hsw.out HFA.out HST.out HIN.out HPB.out HFB.out hgr hown hsel
                  have HC' := Lib.hid hc'
                  have HZ' := Lib.hid (hz' w.heap.size (by have := HB.out; have := HBB.out; omega) hz.out)
                  have HS' := Lib.hid (Nat.le_trans hsw.out hs')
                  clear hown hgr hsel hgl hc' hz' hs'
                  go_wp2_with (fail)
                  exact ⟨⟨f', l ++ [n], _, _, HC', HMX, by simp only [List.length_append, List.length_cons, List.length_nil]; omega, HZ', HS', by simp [slLen]⟩, by simp only [slLen]; omega⟩
                | false =>
                  have HSK2 := Lib.hid (show skipD E f2 (rd E sk) = some q9 from by
                    have h9 := hsk2.out
                    rw [skipD, kb, kr, kp] at h9
                    exact h9)
                  have HKR := Lib.hid kr
                  have HKP := Lib.hid kp
                  clear kr kp k5 hsk2
                  go_wp2_with (fail)
                  refine (kind_at hps.out rfl).mono ?_
                  rintro e wk ⟨rfl, hb9⟩
                  have HPwk := Lib.hid (hps.out.later hb9)
                  have HFwk := Lib.hid (HFr.out.trans (Fr.of_below hb9 hps.out.b0))
                  clear hb9
                  go_wp2_with (fail)
                  refine (is_at HPwk.out HKR.out).mono ?_
                  rintro e wl ⟨rfl, hb9⟩
                  have HPwl := Lib.hid (HPwk.out.later hb9)
                  have HFwl := Lib.hid (HFwk.out.trans (Fr.of_below hb9 HPwk.out.b0))
                  clear hb9
                  go_wp2_with (fail)
                  refine (is_at HPwl.out HKP.out).mono ?_
                  rintro e wa ⟨rfl, hb9⟩
                  have HPwa := Lib.hid (HPwl.out.later hb9)
                  have HFwa := Lib.hid (HFwl.out.trans (Fr.of_below hb9 HPwl.out.b0))
                  clear hb9
                  go_wp2_with (fail)
                  refine (read_any HPwa.out HK5.out).mono ?_
                  rintro e wb ⟨rfl, hpb, hfb⟩
                  have HPB := Lib.hid hpb
                  have HFB := Lib.hid (HFwa.out.trans hfb)
                  clear hpb hfb
                  go_wp2_with (fail)
                  go_roundg f2
                  case measure => omega
                  case rel => exact ⟨_, HPB, HFB, HSK2⟩
end Go.Proofs.YtnpcfmoiiecadaaDoor.Par
