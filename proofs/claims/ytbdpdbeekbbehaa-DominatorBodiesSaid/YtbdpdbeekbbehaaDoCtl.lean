/- What is proved: Control gives for each point the points on which it is control dependent, in order. -/
import Derived.Test.YtbdpdbeekbbehaaDoCtlP
set_option linter.unusedVariables false
namespace Go.Proofs.Ytbdpdbeekbbehaa
open Go.RowKit Go.Shelf

/-- what Control gives -/
def CtRes (cd : Nat → Nat → Bool) (l : List PtV) (w : World) (e : Ending) (W : World) : Prop :=
  Below w.heap.size w W ∧ ((validP l = true ∧ ∃ hb R, e = .returned (.slice (some ⟨hb, 0, none⟩) l.length l.length) ∧ HdR W hb l.length (hb + 1) R (fun v => (List.range l.length).filter (fun a => cd a v))) ∨ (validP l = false ∧ e = .returned (.slice none 0 0)))

set_option maxRecDepth 100000 in
set_option maxHeartbeats 4000000 in
theorem control_any (A : Option Addr) (c : Nat) (l : List PtV) (w : World) (hs : FlSm l) (hp : PRow w.heap.size w A l) (cd : Nat → Nat → Bool) (hcd : ∀ a v, cd a v = true ↔ CDp (edg l) (bke l) 1 a v) :
    Calls Try.prog 30 #[.agg #[.slice A l.length c]] w (CtRes cd l w) := by
  have HS := Lib.hid hs
  have HP := Lib.hid hp
  have HCD := Lib.hid hcd
  have HB1 := Lib.hid ((Below.refl w.heap.size w).alloc (Nat.le_refl _) (.cells #[.slice A l.length c] 24))
  have HFB := Lib.hid (show FBx (w.alloc (.cells #[.slice A l.length c] 24)) w.heap.size A c l from heap_alloc_new w _)
  have c0 := HFB.out.cell
  have hln := hs.n
  have hmk := do_make_sl l.length (by omega)
  clear hs hp hcd
  go_enter Try.func30, Try.ntmps30
  go_wp2_with (fail)
  generalize (w.alloc (.cells #[.slice A l.length c] 24)) = w1 at *
  have HP1 := Lib.hid ((HP.out.below HB1.out).mono HB1.out.size)
  refine (valid_any A c l w1 HS.out HP1.out).mono ?_
  rintro e w2 ⟨rfl, hb2⟩
  have HB2 := Lib.hid (HB1.out.trans (hb2.mono HB1.out.size))
  have HFB2 := Lib.hid (HFB.out.later hb2)
  have HP2 := Lib.hid (HP1.out.later hb2)
  clear c0 hb2
  cases hv : validP l with
  | false =>
    have HH := Lib.hid (show CtRes cd l w (.returned (.slice none 0 0)) w2 from ⟨HB2.out, .inr ⟨hv, rfl⟩⟩)
    clear hv
    go_wp2_with (fail)
    go_ret
    exact HH.out
  | true =>
    have c0 := HFB2.out.cell
    have HO := Lib.hid (HS.out.ok hv)
    have HV := Lib.hid hv
    clear hv
    go_wp2_with (fail)
    refine (postdominators_any A c l w2 HS.out HP2.out).mono ?_
    rintro e w3 ⟨hb3, ⟨_, ob, ov, rfl, ho, hob, hd, hvr⟩ | ⟨hv, rfl⟩⟩
    · have HB3 := Lib.hid (HB2.out.trans (hb3.mono HB2.out.size))
      have HFB3 := Lib.hid (HFB2.out.later hb3)
      have HOA := Lib.hid ho
      have HD := Lib.hid hd
      have HVR := Lib.hid hvr
      have c1 := HFB3.out.cell
      have hmk3 := hmk w3
      have c2 : (w3.alloc (.cells (hdr (fun _ => .slice none 0 0) l.length) 29)).cell? ⟨w.heap.size, 0, none⟩ = some (.slice A l.length c) := (HFB3.out.later ((Below.refl w3.heap.size w3).alloc (Nat.le_refl _) _)).cell
      clear c0 hb3 ho hob hd hvr hmk
      go_wp2_with (fail)
      have hal := (Below.refl w3.heap.size w3).alloc (Nat.le_refl _) (.cells (hdr (fun _ => .slice none 0 0) l.length) 29)
      have HC0 := Lib.hid (show CtS w A c l ob w3.heap.size ov (ctL cd 0 (fun _ => false)) (w3.alloc (.cells (hdr (fun _ => .slice none 0 0) l.length) 29)) from
        ⟨HFB3.out.later hal, HOA.out.later hal, ⟨_, heap_alloc_new w3 _, (show Rw _ _ _ _ _ by
          have e : ctL cd 0 (fun _ => false) = fun _ => [] := by funext v; rfl
          rw [e]; exact Rw.none _ _ _), by omega, by simp⟩, HB3.out.trans (hal.mono HB3.out.size), HFB3.out.lt, HOA.out.lt⟩)
      clear hal HOA HFB3 hmk3 c1 c2
      obtain ⟨hb, hhb⟩ : ∃ hb, hb = w3.heap.size := ⟨_, rfl⟩
      rw [← hhb] at HC0
      rw [← hhb]
      clear hhb
      generalize (w3.alloc (.cells (hdr (fun _ => .slice none 0 0) l.length) 29)) = w4 at *
      have HE1 := Lib.hid (show edg l 1 = [] by
        have h := HV.out
        unfold validP at h
        simp only [Bool.and_eq_true] at h
        have h2 := h.1.2
        have h3 := HO.out.two
        unfold edg
        rw [List.getElem?_eq_getElem (show 1 < l.length by omega)] at h2 ⊢
        simp only [Option.map_some, Option.getD_some] at h2 ⊢
        cases hq : l[1].nx with
        | nil => rfl
        | cons a t => rw [hq] at h2; simp at h2)
      go_loopw [22] (fun i wr => ∃ a : Nat, i = .int .i64 (a : Int) ∧ a ≤ l.length ∧ Hid (CtS w A c l ob hb ov (ctL cd a (fun _ => false)) wr)) (fun i _ => l.length - (intOf i).toNat)
      case atStart => exact ⟨0, rfl, Nat.zero_le _, HC0⟩
      case round =>
        obtain ⟨a, rfl, ha, hct⟩ := hrel
        by_cases hlt' : a < l.length
        · obtain ⟨h1, h2⟩ := edg_zl HO.out.ok hlt'
          obtain ⟨pb, off, rfl, hpb, e1, e2, e3, hz, hc⟩ := (HP.out.below hct.out.below).at hlt'
          have hz0 := (HP.out.2 _ (List.getElem_mem hlt')).1
          rw [h1] at hz0 hc e3
          rw [zl_len] at e3 hc
          have HZ := Lib.hid (NRow.of hz0)
          have HE2 := Lib.hid h2
          have HDG := Lib.hid (HO.out.edg a)
          have f0 := hct.out.fb.cell
          generalize l[a].A = A2 at *
          generalize l[a].c = c2 at *
          clear h1 h2 hz hz0 e1 e2
          generalize wr = wo at *
          go_wp2_with (fail)
          go_loopw [32] (fun i wr => ∃ (j : Nat) (mk : Nat → Bool), i = .int .i64 (j : Int) ∧ j ≤ (edg l a).length ∧ Hid (CtS w (some ⟨pb, off, none⟩) c l ob hb ov (ctL cd a mk) wr) ∧ Hid (∀ d : Nat, ov a = (d : Int) → ∀ v, mk v = true ↔ MkJ ov 1 d ((edg l a).take j) v) ∧ Hid ((∀ s ∈ (edg l a).take j, ¬ Pr ov 1 s) → ∀ v, mk v = false)) (fun i _ => (edg l a).length - (intOf i).toNat)
          case atStart => exact ⟨0, fun _ => false, rfl, Nat.zero_le _, hct, Lib.hid (fun d _ v => by simp [MkJ]), Lib.hid (fun _ _ => rfl)⟩
          case round =>
            obtain ⟨j, mk, rfl, hj, hcs, hmk, hmn⟩ := hrel
            by_cases hjt : j < (edg l a).length
            · obtain ⟨eb, eo, rfl, heb, hec⟩ := (HZ.out.below hcs.out.below) (by omega)
              have r0 := hec j hjt
              have HSN := Lib.hid (HE2.out _ (List.getElem_mem hjt)).2
              have HSM := Lib.hid (show (edg l a)[j] ∈ edg l a from List.getElem_mem hjt)
              have HTK := Lib.hid (List.take_succ_eq_append_getElem hjt)
              obtain ⟨s, HS1⟩ : ∃ s, Hid ((edg l a)[j] = s) := ⟨_, Lib.hid rfl⟩
              rw [HS1.out] at r0 HSN HSM HTK
              have HJ1 := Lib.hid (show j + 1 ≤ (edg l a).length ∧ (edg l a).length - (j + 1) < (edg l a).length - j by omega)
              have hdg := HDG.out
              have HC := Lib.hid (fun B hB => reached_any wr ob l.length 1 s ov hcs.out.oa HSN.out (by omega) B hB)
              have ca := hcs.out.oa.cell hlt'
              clear hec
              by_cases hp : Pr ov 1 s
              · have HPR := Lib.hid hp
                obtain ⟨d, hd, hup⟩ := HD.out.edge HO.out.bmem HE1.out HSM.out hp
                have HW0 := Lib.hid (Wy.start (hmk.out d hd) hup)
                have HDE := Lib.hid hd
                rw [hd] at ca
                obtain ⟨pl, N, hrk⟩ := HD.out.rk
                have HRK := Lib.hid hrk
                clear hp hd hup hrk
                go_wp2_with (fail)
                refine (HC.out true ⟨fun _ => HPR.out, fun _ => rfl⟩).mono ?_
                rintro e wx ⟨rfl, rfl⟩
                generalize wr = wp at *
                go_wp2_with (fail)
                go_loopw [8] (fun i wr => ∃ (x : Nat) (mk' : Nat → Bool), i = .int .i64 (x : Int) ∧ x < l.length ∧ Hid (CtS w (some ⟨pb, off, none⟩) c l ob hb ov (ctL cd a mk') wr) ∧ Hid (Wy ov 1 d ((edg l a).take j) s x mk')) (fun i _ => N - pl (intOf i).toNat)
                case atStart => exact ⟨s, mk, rfl, HSN.out, hcs, HW0⟩
                case round =>
                  obtain ⟨x, mk', rfl, hxn, hci, hwy⟩ := hrel
                  have da := hci.out.oa.cell hlt'
                  rw [HDE.out] at da
                  have FIN := Lib.hid (show (∀ v, mk' v = true ↔ MkJ ov 1 d ((edg l a).take j ++ [s]) v) → (∀ d' : Nat, ov a = (d' : Int) → ∀ v, mk' v = true ↔ MkJ ov 1 d' ((edg l a).take (j + 1)) v) ∧ ((∀ s ∈ (edg l a).take (j + 1), ¬ Pr ov 1 s) → ∀ v, mk' v = false) from fun h => by
                    rw [HTK.out]
                    refine ⟨fun d' hd' v => ?_, fun hno v => absurd HPR.out (hno s (by simp))⟩
                    rw [HDE.out] at hd'
                    have := Int.ofNat.inj hd'
                    subst this
                    exact h v)
                  by_cases hxd : x = d
                  · subst hxd
                    have HT := Lib.hid (FIN.out (hwy.out.top HPR.out))
                    go_wp2_with (fail)
                    exact ⟨⟨j + 1, mk', by go_num, HJ1.out.1, hci, Lib.hid HT.out.1, Lib.hid HT.out.2⟩, by have := HJ1.out.2; simp only [intOf, Int.toNat_natCast]; first | exact this | (simp; omega)⟩
                  · have hc2 : ((x : Int) != (d : Int)) = true := by simp; omega
                    obtain ⟨y, hy, hwn⟩ := hwy.out.step HD.out hxd
                    have kx := hci.out.oa.cell hxn
                    rw [hy] at kx
                    have HWN := Lib.hid (show Hid (Wy ov 1 d ((edg l a).take j) s y (fun v => if v = x then true else mk' v)) ∧ y < l.length ∧ N - pl y < N - pl x from ⟨Lib.hid hwn, by
                      rcases HVR.out x with h | ⟨z, h, h2⟩
                      · omega
                      · have : z = y := by omega
                        rw [← this]; exact h2, by have := HRK.out x y hy; omega⟩)
                    have HOY := Lib.hid hy
                    obtain ⟨R, hdr⟩ := hci.out.rows
                    have HDR := Lib.hid hdr
                    have rx := hdr.cell hxn
                    obtain ⟨A5, c5, hrx, hc5, hnr⟩ := hdr.nrow hxn
                    have HRX := Lib.hid hrx
                    have hll := ctL_len cd a mk' x
                    obtain ⟨hl1, hl2⟩ := ctL_last cd a mk' x
                    rw [hrx] at rx
                    obtain ⟨xs, HXS⟩ : ∃ xs, Hid (ctL cd a mk' x = xs) := ⟨_, Lib.hid rfl⟩
                    rw [HXS.out] at rx hc5 hnr hll HRX
                    have HL1 := Lib.hid hl1
                    have HL2 := Lib.hid hl2
                    rw [HXS.out] at HL1 HL2
                    clear hwn hy hdr hrx hl1 hl2 hxd
                    cases hmx : mk' x with
                    | true =>
                      obtain ⟨h1, h2⟩ := HL1.out hmx
                      have HT := Lib.hid (FIN.out (hwy.out.stop HPR.out hmx))
                      obtain ⟨b5, o5, rfl, hb5, hc6⟩ := hnr (by omega)
                      have r5 := hc6 _ h1
                      rw [h2] at r5
                      have hm0 : (0 : Int) < (xs.length : Int) := by omega
                      have hm1 : (0 : Int) ≤ (xs.length : Int) - 1 := by omega
                      have hm2 : (xs.length : Int) - 1 < (xs.length : Int) := by omega
                      have hm3 : ((xs.length : Int) - 1).toNat = xs.length - 1 := by omega
                      have hm4 : xs.length - 1 < xs.length := by omega
                      clear hmx h1 h2 hc6 hnr HL1 HL2
                      go_wp2_with (fail)
                      exact ⟨⟨j + 1, mk', by go_num, HJ1.out.1, hci, Lib.hid HT.out.1, Lib.hid HT.out.2⟩, by have := HJ1.out.2; simp only [intOf, Int.toNat_natCast]; first | exact this | (simp; omega)⟩
                    | false =>
                      have HCL := Lib.hid (ctL_set (cd := cd) (a := a) hmx)
                      have hlast := HL2.out hmx
                      clear hmx HL1 HL2
                      have HXN := Lib.hid hxn
                      obtain ⟨i0, hi0, hz0, hz1, hz2⟩ := info_parts infoInt
                      have HHI := Lib.hid (show hb + 1 ≤ (wr.alloc (.cells #[.int .i64 (a : Int)] 3)).heap.size by have := HDR.out.hi; simp; omega)
                      by_cases h0 : xs.length = 0
                      · have hm0 : ¬ (0 : Int) < (xs.length : Int) := by omega
                        clear hnr hlast h0 hc5
                        have HOW : Hid (wr.ownsRow (hb + 1) 3 1 (.slice A5 xs.length c5) xs.length (zcells (zl xs))) := Lib.hid (by have h := HDR.out.rows.own x HXN.out; unfold ZOwn at h; rw [HRX.out, HXS.out] at h; rw [zl_len] at h; exact h)
                        have hcap1 : xs.length + 1 ≤ maxLen := by unfold maxLen; omega
                        have hcap2 : (xs.length + 1) * 8 ≤ 140737488355328 := by omega
                        go_wp2_with (at_builtin; refine wpList_append_lies _ rfl _ _ 29 rfl (hb + 1) 3 i0 _ 1 8 Try.underlying29 hi0 hz0 hz1 hz2 rfl (by decide) (.slice A5 xs.length c5) xs.length (zcells (zl xs)) rfl (HOW.out.alloc _) ⟨wr.heap.size, 0, none⟩ 1 1 [.int .i64 (a : Int)] rfl rfl (World.news_of_block (cs := #[.int .i64 (a : Int)]) (heap_alloc_new wr _)) (by simp [Value.oneCell']) (by decide) hcap1 hcap2 HHI.out (wr.heap.size + 1) (by simp) ?_; intro g cap w4 hown hgr hsel hgl; have hst := HDR.out.step (x := x) (y := a) (o := .cells #[.int .i64 (a : Int)] 3) (w4 := w4) (v := .slice (some ⟨g, 0, none⟩) (xs.length + 1) cap) HXN.out (by rw [HXS.out]; exact hown) (fun b h1 h2 => hgr.block b h1 (by rw [HRX.out] at h2; exact h2)) hgr.size (fun b e => by rw [HRX.out]; cases e; exact hsel.elim .inl (fun h => .inr (by first | (rw [h]; done) | (rw [h]; simp)))); have hgx : (wr.alloc (.cells #[.int .i64 (a : Int)] 3)).grownBy w4 (R x).ownBlock := (by rw [HRX.out]; exact ⟨hgr.os, hgr.tape, hgr.output, hgr.size, hgr.block⟩); have HCT6 := Lib.hid (hci.out.step HDR.out HXN.out hgx rfl hst.1 hst.2.1); rw [← HCL.out] at HCT6; have hfz : w4.frozen? ⟨hb, x, none⟩ = false := hfrz (hst.2.2.1.trans HDR.out.hd) _; have hcz : w4.cell? ⟨hb, x, none⟩ = some (.slice A5 xs.length c5) := (World.cell?_of_block (a := ⟨hb, x, none⟩) hst.2.2.1).trans rx; have k6 := HCT6.out.oa.cell HXN.out; rw [HOY.out] at k6; clear hown hgr hsel hgl hst hgx)
                        exact ⟨⟨y, _, rfl, HWN.out.2.1, HCT6, HWN.out.1⟩, by have := HWN.out.2.2; simp only [intOf, Int.toNat_natCast]; exact this⟩
                      · obtain ⟨b5, o5, rfl, hb5, hc6⟩ := hnr (by omega)
                        have r5 := hc6 (xs.length - 1) (by omega)
                        have h5 := hlast (by omega)
                        obtain ⟨y5, hy5⟩ : ∃ y5, y5 = xs[xs.length - 1]'(by omega) := ⟨_, rfl⟩
                        rw [← hy5] at r5 h5
                        have e5 : ((y5 : Int) == (a : Int)) = false := by simp; omega
                        have hm0 : (0 : Int) < (xs.length : Int) := by omega
                        have hm1 : (0 : Int) ≤ (xs.length : Int) - 1 := by omega
                        have hm2 : (xs.length : Int) - 1 < (xs.length : Int) := by omega
                        have hm3 : ((xs.length : Int) - 1).toNat = xs.length - 1 := by omega
                        have hm4 : xs.length - 1 < xs.length := by omega
                        clear h5 hy5 hnr hlast hc5 hc6
                        have HOW : Hid (wr.ownsRow (hb + 1) 3 1 (.slice (some ⟨b5, o5, none⟩) xs.length c5) xs.length (zcells (zl xs))) := Lib.hid (by have h := HDR.out.rows.own x HXN.out; unfold ZOwn at h; rw [HRX.out, HXS.out] at h; rw [zl_len] at h; exact h)
                        have hcap1 : xs.length + 1 ≤ maxLen := by unfold maxLen; omega
                        have hcap2 : (xs.length + 1) * 8 ≤ 140737488355328 := by omega
                        go_wp2_with (at_builtin; refine wpList_append_lies _ rfl _ _ 29 rfl (hb + 1) 3 i0 _ 1 8 Try.underlying29 hi0 hz0 hz1 hz2 rfl (by decide) (.slice (some ⟨b5, o5, none⟩) xs.length c5) xs.length (zcells (zl xs)) rfl (HOW.out.alloc _) ⟨wr.heap.size, 0, none⟩ 1 1 [.int .i64 (a : Int)] rfl rfl (World.news_of_block (cs := #[.int .i64 (a : Int)]) (heap_alloc_new wr _)) (by simp [Value.oneCell']) (by decide) hcap1 hcap2 HHI.out (wr.heap.size + 1) (by simp) ?_; intro g cap w4 hown hgr hsel hgl; have hst := HDR.out.step (x := x) (y := a) (o := .cells #[.int .i64 (a : Int)] 3) (w4 := w4) (v := .slice (some ⟨g, 0, none⟩) (xs.length + 1) cap) HXN.out (by rw [HXS.out]; exact hown) (fun b h1 h2 => hgr.block b h1 (by rw [HRX.out] at h2; exact h2)) hgr.size (fun b e => by rw [HRX.out]; cases e; exact hsel.elim .inl (fun h => .inr (by first | (rw [h]; done) | (rw [h]; simp)))); have hgx : (wr.alloc (.cells #[.int .i64 (a : Int)] 3)).grownBy w4 (R x).ownBlock := (by rw [HRX.out]; exact ⟨hgr.os, hgr.tape, hgr.output, hgr.size, hgr.block⟩); have HCT6 := Lib.hid (hci.out.step HDR.out HXN.out hgx rfl hst.1 hst.2.1); rw [← HCL.out] at HCT6; have hfz : w4.frozen? ⟨hb, x, none⟩ = false := hfrz (hst.2.2.1.trans HDR.out.hd) _; have hcz : w4.cell? ⟨hb, x, none⟩ = some (.slice (some ⟨b5, o5, none⟩) xs.length c5) := (World.cell?_of_block (a := ⟨hb, x, none⟩) hst.2.2.1).trans rx; have k6 := HCT6.out.oa.cell HXN.out; rw [HOY.out] at k6; clear hown hgr hsel hgl hst hgx)
                        exact ⟨⟨y, _, rfl, HWN.out.2.1, HCT6, HWN.out.1⟩, by have := HWN.out.2.2; simp only [intOf, Int.toNat_natCast]; exact this⟩
              · have HN := Lib.hid (show (∀ d : Nat, ov a = (d : Int) → ∀ v, mk v = true ↔ MkJ ov 1 d ((edg l a).take (j + 1)) v) ∧ ((∀ s ∈ (edg l a).take (j + 1), ¬ Pr ov 1 s) → ∀ v, mk v = false) from by
                  rw [HTK.out]
                  refine ⟨fun d hd v => by rw [MkJ.skip hp]; exact hmk.out d hd v, fun h => hmn.out fun t ht => h t (by simp [ht])⟩)
                have HPN := Lib.hid hp
                clear hp
                go_wp2_with (fail)
                refine (HC.out false ⟨fun h => absurd h (by decide), fun h => absurd h HPN.out⟩).mono ?_
                rintro e wx ⟨rfl, rfl⟩
                go_wp2_with (fail)
                exact ⟨⟨j + 1, mk, by go_num, HJ1.out.1, hcs, Lib.hid HN.out.1, Lib.hid HN.out.2⟩, by have := HJ1.out.2; simp only [intOf, Int.toNat_natCast]; first | exact this | (simp; omega)⟩
            · obtain rfl : j = (edg l a).length := by omega
              rw [List.take_length] at hmk hmn
              have HN := Lib.hid (show CtS w (some ⟨pb, off, none⟩) c l ob hb ov (ctL cd (a + 1) (fun _ => false)) wr by
                rw [← ctL_next (mk := mk) (fun v => ?_)]
                · exact hcs.out
                · rw [Bool.eq_iff_iff, HCD.out]
                  by_cases hs : ∃ s ∈ edg l a, Pr ov 1 s
                  · obtain ⟨s, hs1, hs2⟩ := hs
                    obtain ⟨d, hd, _⟩ := HD.out.edge HO.out.bmem HE1.out hs1 hs2
                    rw [hmk.out d hd v, HD.out.cd HO.out.bmem HE1.out hd v]
                    exact Iff.rfl
                  · have hno : ∀ s ∈ edg l a, ¬ Pr ov 1 s := fun s h1 h2 => hs ⟨s, h1, h2⟩
                    rw [hmn.out hno v]
                    exact ⟨fun h => absurd h (by decide), fun h => absurd h (HD.out.nocd HO.out.bmem HE1.out hno v)⟩)
              go_wp2_with (fail)
              exact ⟨⟨a + 1, by go_num, by omega, HN⟩, by simp [intOf]; omega⟩
        · obtain rfl : a = l.length := by omega
          have HH := Lib.hid (show CtRes cd l w (.returned (.slice (some ⟨hb, 0, none⟩) l.length l.length)) wr from ⟨hct.out.below, .inl ⟨HV.out, hb, by
            obtain ⟨R, h⟩ := hct.out.rows
            refine ⟨R, rfl, ?_⟩
            have e : ctL cd l.length (fun _ => false) = fun v => (List.range l.length).filter (fun a => cd a v) := by funext v; unfold ctL; simp
            rw [← e]; exact h⟩⟩)
          go_wp2_with (fail)
          go_ret
          exact HH.out
    · rw [HV.out] at hv; cases hv
end Go.Proofs.Ytbdpdbeekbbehaa
