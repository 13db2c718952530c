/- What is proved: Loops gives the natural loops. -/
import Derived.Test.YtbdpdbeekbbehaaDoClos
import Derived.Test.YtbdpdbeekbbehaaDoDoms
set_option linter.unusedVariables false
namespace Go.Proofs.Ytbdpdbeekbbehaa
open Go.RowKit Go.Shelf

theorem infoLoop : (Try.prog.info? 36).map (fun i => (i.zero, i.size, i.bytes)) = some (some (.agg #[.int .i64 0, .slice none 0 0]), 2, 32) := by kernel_rfl
/-- the points that head loops -/
def lpHeads (dm : Nat → Nat → Bool) (l : List PtV) (k : Nat) : List Nat := (List.range k).filter fun h => !(tlL (edg l) dm l.length h).isEmpty
/-- what Loops gives -/
def LoRes (dm : Nat → Nat → Bool) (lp : Nat → Nat → Bool) (l : List PtV) (w : World) (e : Ending) (W : World) : Prop :=
  Below w.heap.size w W ∧ ((validP l = true ∧ ∃ v bs, e = .returned v ∧ LpRow W w.heap.size v bs (fun h => (List.range l.length).filter (lp h)) ∧ bs.map (·.head) = lpHeads dm l l.length) ∨ (validP l = false ∧ e = .returned (.slice none 0 0)))
/-- what lies ready behind the first calls -/
structure LoS (w : World) (dm : Nat → Nat → Bool) (A : Option Addr) (c : Nat) (l : List PtV) (nb xb ob vb mb base cnt a b : Nat) (ov : Nat → Int) (W : World) : Prop where
  fb : FBx W nb A c l
  xbx : Bx W xb 29 (.slice (some ⟨ob, 0, none⟩) l.length l.length)
  oa : IArr W ob l.length ov
  vbx : W.heap[vb]? = some (.cells #[.int .i64 (l.length : Int), .int .i64 1, bkV b, nxV a] 57 (0, 0))
  vw : Vw w.heap.size A c l a b W
  grp : Grp W mb base cnt (tlL (edg l) dm l.length)
  cn : cnt ≤ 1000000
  below : Below w.heap.size w W
theorem LoS.later {w : World} {dm : Nat → Nat → Bool} {A : Option Addr} {c : Nat} {l : List PtV} {nb xb ob vb mb base cnt a b : Nat} {ov : Nat → Int} {W W' : World} (h : LoS w dm A c l nb xb ob vb mb base cnt a b ov W) (hb : Below W.heap.size W W') : LoS w dm A c l nb xb ob vb mb base cnt a b ov W' :=
  ⟨h.fb.later hb, h.xbx.later hb, h.oa.later hb, (hb.block vb (hlt h.vbx)).trans h.vbx, h.vw.later hb, h.grp.later hb, h.cn, h.below.trans (hb.mono h.below.size)⟩

set_option maxRecDepth 100000 in
set_option maxHeartbeats 4000000 in
theorem loops_any (A : Option Addr) (c : Nat) (l : List PtV) (w : World) (hs : FlSm l) (hp : PRow w.heap.size w A l) (dm : Nat → Nat → Bool) (hdm : ∀ h u, dm h u = true ↔ Dom (edg l) 0 h u) (lp : Nat → Nat → Bool) (hlp : ∀ h c, lp h c = true ↔ LpP (edg l) h c) (rr : Nat → Bool) (hrr : ∀ v, rr v = true ↔ Rea (edg l) 0 v) :
    Calls Try.prog 24 #[.agg #[.slice A l.length c]] w (LoRes dm lp l w) := by
  have HS := Lib.hid hs
  have HP := Lib.hid hp
  have HDM := Lib.hid hdm
  have HLP := Lib.hid hlp
  have HRR := Lib.hid hrr
  have HB1 := Lib.hid ((Below.refl w.heap.size w).alloc (Nat.le_refl _) (.cells #[.slice A l.length c] 24))
  have HFB := Lib.hid (show FBx (w.alloc (.cells #[.slice A l.length c] 24)) w.heap.size A c l from heap_alloc_new w _)
  have c0 := HFB.out.cell
  have hln := hs.n
  clear hs hp hdm hlp hrr
  go_enter Try.func24, Try.ntmps24
  go_wp2_with (fail)
  generalize (w.alloc (.cells #[.slice A l.length c] 24)) = w1 at *
  have HP1 := Lib.hid ((HP.out.below HB1.out).mono HB1.out.size)
  refine (valid_any A c l w1 HS.out HP1.out).mono ?_
  rintro e w2 ⟨rfl, hb2⟩
  have HB2 := Lib.hid (HB1.out.trans (hb2.mono HB1.out.size))
  have HFB2 := Lib.hid (HFB.out.later hb2)
  have HP2 := Lib.hid (HP1.out.later hb2)
  clear c0 hb2
  cases hv : validP l with
  | false =>
    have HH := Lib.hid (show LoRes dm lp l w (.returned (.slice none 0 0)) w2 from ⟨HB2.out, .inr ⟨hv, rfl⟩⟩)
    clear hv
    go_wp2_with (fail)
    go_ret
    exact HH.out
  | true =>
    have c0 := HFB2.out.cell
    have HO := Lib.hid (HS.out.ok hv)
    have HV := Lib.hid hv
    clear hv
    go_wp2_with (fail)
    refine (dominators_any A c l w2 HS.out HP2.out).mono ?_
    rintro e w3 ⟨hb3, ⟨_, ob, ov, rfl, ho, hob, hd, hvr⟩ | ⟨hv, rfl⟩⟩
    · have HB3 := Lib.hid (HB2.out.trans (hb3.mono HB2.out.size))
      have HFB3 := Lib.hid (HFB2.out.later hb3)
      have HOA := Lib.hid ho
      have HD := Lib.hid hd
      have HVR := Lib.hid hvr
      have HP3 := Lib.hid (HP2.out.later hb3)
      clear c0 hb3 ho hob hd hvr
      go_wp2_with (fail)
      have HB4 := Lib.hid (HB3.out.trans (((Below.refl w3.heap.size w3).alloc (Nat.le_refl _) (.cells #[.slice (some ⟨ob, 0, none⟩) l.length l.length] 29)).mono HB3.out.size))
      have hal := (Below.refl w3.heap.size w3).alloc (Nat.le_refl _) (.cells #[.slice (some ⟨ob, 0, none⟩) l.length l.length] 29)
      have HFB4 := Lib.hid (show FBx _ w.heap.size A c l from HFB3.out.later hal)
      have HOA4 := Lib.hid (HOA.out.later hal)
      have HP4 := Lib.hid (HP3.out.later hal)
      have HXB4 := Lib.hid (show Bx _ w3.heap.size 29 (.slice (some ⟨ob, 0, none⟩) l.length l.length) from heap_alloc_new w3 _)
      obtain ⟨xb, hxb⟩ : ∃ xb, xb = w3.heap.size := ⟨_, rfl⟩
      rw [← hxb] at HXB4
      rw [← hxb]
      clear hal hxb HB3 HFB3 HOA HP3
      generalize (w3.alloc (.cells #[.slice (some ⟨ob, 0, none⟩) l.length l.length] 29)) = w4 at *
      have HC0 := Lib.hid (show ∀ W, Below w4.heap.size w4 W → W.cell? ⟨w.heap.size, 0, none⟩ = some (.slice A l.length c) from fun W hW => (HFB4.out.later hW).cell)
      have HC1 := Lib.hid (show ∀ W, Below w4.heap.size w4 W → W.cell? ⟨xb, 0, none⟩ = some (.slice (some ⟨ob, 0, none⟩) l.length l.length) from fun W hW => (HXB4.out.later hW).cell)
      have HT := Lib.hid (fun W (hW : Below w4.heap.size w4 W) => tails_any A c l ob ov W HO.out (HP4.out.later hW) (HOA4.out.later hW) HD.out HVR.out dm HDM.out)
      have HK4 := Lib.hid (fun W (hW : Below w4.heap.size w4 W) => backward_any A c l W HO.out (HP4.out.later hW))
      rename_i K hKK
      have HREST : ∀ (W : World) (vb mb base cnt a b : Nat), LoS w dm A c l w.heap.size xb ob vb mb base cnt a b ov W → K { tmps := #[.agg #[.slice A l.length c], .pointer (some ⟨w.heap.size, 0, none⟩), .slice none 0 0, .pointer (some ⟨xb, 0, none⟩), .map (some mb), .pointer (some ⟨vb, 0, none⟩), undef, undef, undef, .agg #[.slice A l.length c], .bool true, .bool false, .agg #[.slice A l.length c], .slice (some ⟨ob, 0, none⟩) l.length l.length, .agg #[.slice A l.length c], .slice (some ⟨ob, 0, none⟩) l.length l.length, .map (some mb), .agg #[.slice A l.length c], .agg #[.int .i64 (l.length : Int), .int .i64 1, bkV b, nxV a], undef, undef, undef, undef, undef, undef, undef, undef, undef, undef, undef, undef, undef, undef, undef, undef, undef, undef, undef, undef, undef, undef, undef, undef, undef, undef, undef, undef, undef, undef, undef], defers := [] } W := by
        intro w7 vb mb base cnt a b hlo
        refine hKK _ _ ?_
        have HLO := Lib.hid hlo
        have f0 := hlo.fb.cell
        clear hlo hKK HT HK4 HC0 HC1
        have h2n := HO.out.two
        go_wp2_with (fail)
        go_loopw [6, 22] (fun v i wr => ∃ (k : Nat) (bs : List LpV), i = .int .i64 (k : Int) ∧ k ≤ l.length ∧ Hid (LpRow wr w7.heap.size v bs (fun h => (List.range l.length).filter (lp h))) ∧ Hid (bs.map (·.head) = lpHeads dm l k) ∧ Hid (Below w7.heap.size w7 wr)) (fun _ i _ => l.length - (intOf i).toNat)
        case atStart => exact ⟨0, [], rfl, Nat.zero_le _, Lib.hid (LpRow.nil _ _ _), Lib.hid rfl, Lib.hid (Below.refl _ _)⟩
        case round =>
          obtain ⟨k, bs, rfl, hk, hrow, hhd, hbw⟩ := hrel
          by_cases hlt' : k < l.length
          · have hal := (Below.refl wr.heap.size wr).alloc (Nat.le_refl _) (.cells #[.int .i64 (k : Int)] 3)
            have HBA := Lib.hid (hbw.out.trans (hal.mono hbw.out.size))
            have HHX := Lib.hid (show Bx _ wr.heap.size 3 (.int .i64 (k : Int)) from heap_alloc_new wr _)
            have HROW := Lib.hid (hrow.out.later hal)
            clear hal hrow hbw
            go_upto_region 9 with fail
            generalize wr.alloc (.cells #[.int .i64 (k : Int)] 3) = wa at *
            generalize wr.heap.size = hx at *
            have HLA := Lib.hid (HLO.out.later HBA.out)
            obtain ⟨tv, hlk, htv, htl, _⟩ := HLA.out.grp.at HLA.out.cn (x := k) (by omega)
            have hcnt := HLA.out.cn
            obtain ⟨At, ct, rfl, hct, _⟩ := htv.form
            have HTV := Lib.hid htv
            rw [zl_len] at hct
            have HZL : Hid ((zl (tlL (edg l) dm l.length k)).length = (tlL (edg l) dm l.length k).length) := Lib.hid (zl_len _)
            rw [HZL.out] at hlk HTV
            have c0 := HHX.out.cell
            clear htv
            by_cases hT : tlL (edg l) dm l.length k = []
            · have hhd2 := Lib.hid (show bs.map (·.head) = lpHeads dm l (k + 1) from by
                rw [hhd.out]
                unfold lpHeads
                rw [List.range_succ, List.filter_append]
                simp [hT])
              have h0 : (tlL (edg l) dm l.length k).length = 0 := by rw [hT]; rfl
              rw [h0] at hlk
              clear hT h0 htl hct
              go_wp2_with (fail)
              exact ⟨⟨k + 1, bs, by go_num, by omega, HROW, hhd2, HBA⟩, by simp [intOf]; omega⟩
            · have HNE := Lib.hid hT
              have h0 : ¬ ((tlL (edg l) dm l.length k).length : Int) = 0 := by
                have := List.length_pos_iff.2 hT
                omega
              have hG : Gr (upE (bke l) k) l.length := ⟨HO.out.bgr.le, fun p hp x hx => by
                unfold upE at hx
                split at hx
                · simp at hx
                · exact HO.out.bgr.lt p hp x hx, fun p hp => by
                unfold upE
                split
                · simp
                · exact HO.out.bgr.few p hp⟩
              have HPA := Lib.hid (show PRow wa.heap.size wa A l from (HP.out.below HLA.out.below).mono HLA.out.below.size)
              have HSR := Lib.hid (search_any wa hG (up_ok HHX.out HLA.out.vbx (HLA.out.vw.nx HO.out HPA.out).2) up_eK At ct (tlL (edg l) dm l.length k) (NRow.of (by have h := HTV.out.row.2.2; exact h)) (fun x hx => (tlL_mem.1 hx).1) (by omega))
              have v0 := Lib.cell_of_heap HLA.out.vbx 0
              clear hT hG
              go_upto_region 11 with (go_at_call 53; refine HSR.out.mono ?_; rintro e ws ⟨X, cX, L, sn', rfl, hso, hvis, hsb⟩; have HSO := Lib.hid hso; have HVIS := Lib.hid hvis; have HSB := Lib.hid hsb; clear hso hvis hsb)
              have HLS := Lib.hid (HLA.out.later HSB.out)
              have hLn : L.length ≤ l.length := nodup_len HVIS.out.nd (fun x hx => (HVIS.out.new x hx).2.1)
              have HDL := Lib.hid (show Calls Try.prog 55 #[.slice X L.length cX, .func (.func 56) #[] #[.pointer (some ⟨xb, 0, none⟩)]] ws (fun e W => e = .returned (.slice X (L.filter rr).length cX) ∧ ZOwn W wa.heap.size (.slice X (L.filter rr).length cX) (zl (L.filter rr)) ∧ Below wa.heap.size ws W) from by
                have h := delete_any ws wa.heap.size X cX (zl L) 56 #[.pointer (some ⟨xb, 0, none⟩)] (fun i => !(rr i.toNat)) (by rw [zl_len]; exact HSO.out) HSB.out.size (by rw [zl_len]; omega)
                  (gone_ok HLS.out.xbx HLS.out.oa (HLA.out.xbx.lt) (HLA.out.oa.lt) (fun x hx => (HVIS.out.new x hx).2.1) (by omega) (fun v => (HRR.out v).trans HD.out.pr.symm)) gone_eK
                rw [zl_len] at h
                refine h.mono ?_
                rintro e W ⟨h1, h2, h3⟩
                rw [filter_zl, zl_len] at h1 h2
                exact ⟨h1, h2, h3⟩)
              have HLF := Lib.hid (List.length_filter_le rr L)
              have HMEM := Lib.hid (fun x => loop_mem HDM.out HO.out.bmem (fun q x hx => by
                by_cases hq : q < l.length
                · exact hq
                · rw [edg_out (by omega)] at hx
                  simp at hx) HNE.out HVIS.out HRR.out (HLP.out k) x)
              go_upto_region 12 with (go_at_call 55; refine HDL.out.mono ?_; rintro e wd ⟨rfl, hdo, hdb⟩; have HDO := Lib.hid hdo; have HDB := Lib.hid hdb; clear hdo hdb)
              have HSP := Lib.hid (srt_points (HVIS.out.nd.filter _) HMEM.out)
              have HLEN := Lib.hid (show (L.filter rr).length = ((List.range l.length).filter (lp k)).length from by
                have h := congrArg List.length HSP.out
                unfold srtZ at h
                rw [List.length_mergeSort, zl_len, zl_len] at h
                exact h)
              have HST := Lib.hid (sort_own (w := wd) (B := wa.heap.size) (c := cX) (X := X) (zl_len _).symm HDO.out (by have := HLF.out; omega))
              rw [HLEN.out, HSP.out] at HST
              rw [HLEN.out]
              go_upto_region 13 with (go_at_call 58; refine HST.out.mono ?_; rintro e we ⟨rfl, hse, _, _, hsb⟩; have HSE := Lib.hid hse; have HSB2 := Lib.hid hsb; clear hse hsb)
              have HBE := Lib.hid (show Below wa.heap.size wa we from (HSB.out.trans (HDB.out.mono (Nat.le_refl _))).trans HSB2.out)
              have hx0 := (HHX.out.later HBE.out).cell
              have HRE := Lib.hid (HROW.out.later HBE.out)
              have hbl : bs.length ≤ 30 := by
                have h := congrArg List.length hhd.out
                rw [List.length_map] at h
                have h2 := List.length_filter_le (fun h => !(tlL (edg l) dm l.length h).isEmpty) (List.range k)
                unfold lpHeads at h
                rw [List.length_range] at h2
                omega
              have hM : w7.heap.size ≤ we.heap.size := by have := HBA.out.size; have := HBE.out.size; omega
              obtain ⟨i0, hi0, hz0, hz1, hz2⟩ := info_parts infoLoop
              clear c0 v0 hlk htl hct h0
              go_wp2_with (at_builtin; refine wpList_append_own_at _ rfl _ _ 32 rfl w7.heap.size 36 i0 _ 2 32 Try.underlying32 hi0 hz0 hz1 hz2 rfl (by decide) u6 bs.length (lpcells (fun h => (List.range l.length).filter (lp h)) bs) rfl (HRE.out.row.alloc _) ⟨we.heap.size, 0, none⟩ 1 1 [.int .i64 (k : Int), .slice X ((List.range l.length).filter (lp k)).length cX] rfl rfl (World.news_of_block (cs := #[.int .i64 (k : Int), .slice X ((List.range l.length).filter (lp k)).length cX]) (heap_alloc_new we _)) (by simp [Value.oneCell']) (by unfold maxLen; omega) (by omega) (by simp; omega) ?_; intro v' wf hown hgr _ _; have HRN := Lib.hid (HRE.out.more (t := ⟨k, X, cX⟩) (own_down HSE.out HBA.out.size) hgr hown); have HGR := Lib.hid hgr; clear hown hgr)
              have hhd2 := Lib.hid (show (bs ++ [(⟨k, X, cX⟩ : LpV)]).map (·.head) = lpHeads dm l (k + 1) from by
                rw [List.map_append, hhd.out]
                unfold lpHeads
                rw [List.range_succ, List.filter_append]
                simp [HNE.out])
              have HBF := Lib.hid (show Below w7.heap.size w7 wf from ((HBA.out.trans (HBE.out.mono HBA.out.size)).alloc hM _).grown HGR.out (by simp; omega) (fun b e => (own_block' HRE.out.row e).1))
              exact ⟨⟨k + 1, bs ++ [⟨k, X, cX⟩], by go_num, by omega, HRN, hhd2, HBF⟩, by simp [intOf]; omega⟩
          · obtain rfl : k = l.length := by omega
            have HFIN := Lib.hid (show LoRes dm lp l w (.returned u6) wr from ⟨HLO.out.below.trans (hbw.out.mono HLO.out.below.size), .inl ⟨HV.out, _, bs, rfl, hrow.out.mono HLO.out.below.size, hhd.out⟩⟩)
            clear hrow hhd hbw
            go_wp2_with (fail)
            go_ret
            exact HFIN.out
      -- REGION 4
      refine wp_region_noPanic ?_
      refine wp_region_held_drew (S := fun w' => Below w4.heap.size w4 w') (by kernel_rfl) (Below.refl _ _).drew (fun _ => ?_)
      have HB5 := Lib.hid (show Below w4.heap.size w4 w4.drew from (Below.refl _ _).drew)
      generalize w4.drew = w5 at *
      refine wpAnyH_take (i := 0) (oi := { dst := some 14, op := Op.load 24 (Operand.tmp 1), type := 24, pos := "dominators.go:47", after := #[], guard := none }) (v := .agg #[.slice A l.length c]) rfl (by kernel_rfl) (by kernel_rfl) (by kernel_rfl) (fun _ _ _ h => h) (Or.inl ⟨by rfl, ?_⟩) HB5.out ?_
      · (intro w' hSw; have z := HC0.out w' hSw; go_simp)
      simp only [Act.put, List.setIfInBounds_toArray, List.set_cons_zero, List.set_cons_succ]
      refine wpAnyH_take (i := 1) (oi := { dst := some 15, op := Op.load 29 (Operand.tmp 3), type := 29, pos := "dominators.go:47", after := #[], guard := none }) (v := .slice (some ⟨ob, 0, none⟩) l.length l.length) rfl (by kernel_rfl) (by kernel_rfl) (by kernel_rfl) (fun _ _ _ h => h) (Or.inl ⟨by rfl, ?_⟩) HB5.out ?_
      · (intro w' hSw; have z := HC1.out w' hSw; go_simp)
      simp only [Act.put, List.setIfInBounds_toArray, List.set_cons_zero, List.set_cons_succ]
      refine wpAnyH_take (i := 3) (oi := { dst := some 17, op := Op.load 24 (Operand.tmp 1), type := 24, pos := "dominators.go:47", after := #[], guard := none }) (v := .agg #[.slice A l.length c]) rfl (by kernel_rfl) (by kernel_rfl) (by kernel_rfl) (fun _ _ _ h => h) (Or.inl ⟨by rfl, ?_⟩) HB5.out ?_
      · (intro w' hSw; have z := HC0.out w' hSw; go_simp)
      simp only [Act.put, List.setIfInBounds_toArray, List.set_cons_zero, List.set_cons_succ]
      refine wpAnyH_ready (rs := [2, 5]) (by kernel_rfl) (by simp) (AllReadyH.cons (o := { dst := some 16, op := Op.call { callee := Callee.value (Operand.func 52), args := #[Operand.tmp 14, Operand.tmp 15], argTypes := #[24, 29] }, type := 64, pos := "dominators.go:47", after := #[{ on := 0, ground := Ground.data }, { on := 1, ground := Ground.data }], guard := none }) rfl (fun K hK => ?_) (AllReadyH.cons (o := { dst := some 5, op := Op.alloc 57, type := 0, pos := "dominators.go:47", after := #[], guard := none }) rfl (fun K hK => ?_) AllReadyH.nil))
      go_simp
      go_at_call 52
      refine (HT.out w5 HB5.out).mono ?_
      rintro e wt ⟨mb, base, cnt, rfl, hg, hcn, hmb, hbt⟩
      have HTW := Lib.hid (show Below w5.heap.size w5 wt from hbt)
      have HBT := Lib.hid (show Below w4.heap.size w4 wt from HB5.out.trans (hbt.mono HB5.out.size))
      have HG := Lib.hid hg
      have HCN := Lib.hid hcn
      have HMB := Lib.hid hmb
      clear hg hcn hbt hmb
      refine hK.out _ _ HBT.out (fun _ => ?_)
      clear hK K
      try simp only [Act.put, List.setIfInBounds_toArray, List.set_cons_zero, List.set_cons_succ]
      refine wpAnyH_ready (rs := [4, 5]) (by kernel_rfl) (by simp) (AllReadyH.cons (o := { dst := some 18, op := Op.call { callee := Callee.value (Operand.func 48), args := #[Operand.tmp 17], argTypes := #[24] }, type := 57, pos := "dominators.go:47", after := #[{ on := 3, ground := Ground.data }, { on := 2, ground := Ground.chain }], guard := none }) rfl (fun K hK => ?_) (AllReadyH.cons (o := { dst := some 5, op := Op.alloc 57, type := 0, pos := "dominators.go:47", after := #[], guard := none }) rfl (fun K hK => ?_) AllReadyH.nil))
      go_simp
      go_at_call 48
      refine (HK4.out wt HBT.out).mono ?_
      rintro e wv ⟨a, b, rfl, hvw, hbv⟩
      have HVW := Lib.hid (show Below wt.heap.size wt wv from hbv)
      have HBV := Lib.hid (show Below w4.heap.size w4 wv from HBT.out.trans (hbv.mono HBT.out.size))
      have HVV := Lib.hid hvw
      clear hvw hbv
      refine hK.out _ _ HBV.out (fun _ => ?_)
      clear hK K
      try simp only [Act.put, List.setIfInBounds_toArray, List.set_cons_zero, List.set_cons_succ]
      refine wpAnyH_ready (rs := [5]) (by kernel_rfl) (by simp) (AllReadyH.cons (o := { dst := some 5, op := Op.alloc 57, type := 0, pos := "dominators.go:47", after := #[], guard := none }) rfl (fun K hK => ?_) AllReadyH.nil)
      go_simp
      have HAW := Lib.hid ((Below.refl wv.heap.size wv).alloc (Nat.le_refl _) (.cells #[.int .i64 0, .int .i64 0, .nilFunc, .nilFunc] 57))
      have HBA := Lib.hid (show Below w4.heap.size w4 (wv.alloc (.cells #[.int .i64 0, .int .i64 0, .nilFunc, .nilFunc] 57)) from HBV.out.alloc HBV.out.size _)
      have HVB := Lib.hid (heap_alloc_new wv (.cells #[.int .i64 0, .int .i64 0, .nilFunc, .nilFunc] 57))
      refine hK.out _ _ HBA.out (fun _ => ?_)
      clear hK K
      try simp only [Act.put, List.setIfInBounds_toArray, List.set_cons_zero, List.set_cons_succ]
      obtain ⟨vb, HVE⟩ : ∃ vb, Hid (vb = wv.heap.size) := ⟨_, Lib.hid rfl⟩
      rw [← HVE.out] at HVB
      try rw [← HVE.out]
      generalize (wv.alloc (.cells #[.int .i64 0, .int .i64 0, .nilFunc, .nilFunc] 57)) = wa at *
      refine wpAnyH_take (i := 6) (oi := { dst := some 4, op := Op.assign (Operand.tmp 16), type := 64, pos := "dominators.go:47", after := #[{ on := 2, ground := Ground.data }, { on := 4, ground := Ground.chain }, { on := 0, ground := Ground.phase }, { on := 1, ground := Ground.phase }, { on := 2, ground := Ground.phase }, { on := 3, ground := Ground.textOnly Departure.lateStores }, { on := 4, ground := Ground.textOnly Departure.lateStoresUnsure }, { on := 5, ground := Ground.phase }], guard := none }) (v := .map (some mb)) rfl (by kernel_rfl) (by kernel_rfl) (by kernel_rfl) (fun _ _ _ h => h) (Or.inl ⟨by rfl, ?_⟩) HBA.out ?_
      · (intro w' hSw; go_simp)
      simp only [Act.put, List.setIfInBounds_toArray, List.set_cons_zero, List.set_cons_succ]
      refine wpAnyH_ready (rs := [7]) (by kernel_rfl) (by simp) (AllReadyH.cons (o := { dst := none, op := Op.store 57 (Operand.tmp 5) (Operand.tmp 18), type := 0, pos := "dominators.go:47", after := #[{ on := 5, ground := Ground.data }, { on := 4, ground := Ground.data }, { on := 6, ground := Ground.chain }, { on := 0, ground := Ground.phase }, { on := 1, ground := Ground.phase }, { on := 2, ground := Ground.phase }, { on := 3, ground := Ground.phase }, { on := 4, ground := Ground.phase }, { on := 5, ground := Ground.phase }, { on := 6, ground := Ground.phase }], guard := none }) rfl (fun K hK => ?_) AllReadyH.nil)
      have HVL := Lib.hid (show w4.heap.size ≤ vb from by have e := HVE.out; have := HBV.out.size; omega)
      have hvl : w4.heap.size ≤ vb := HVL.out
      have p := Lib.cell_of_heap HVB.out
      have p0 := p 0
      have p1 := p 1
      have p2 := p 2
      have p3 := p 3
      have z0 := hfrz HVB.out 0
      have z1 := hfrz HVB.out 1
      have z2 := hfrz HVB.out 2
      have z3 := hfrz HVB.out 3
      clear p
      go_simp
      have HBZ := Lib.hid (show Below w4.heap.size w4 (((((wa).setCell ⟨vb, 0, none⟩ (.int .i64 (l.length : Int))).setCell ⟨vb, 1, none⟩ (.int .i64 1)).setCell ⟨vb, 2, none⟩ (bkV b)).setCell ⟨vb, 3, none⟩ (nxV a)) from ((((HBA.out.setCell hvl _).setCell hvl _).setCell hvl _).setCell hvl _))
      refine hK.out _ _ HBZ.out (fun _ => ?_)
      clear hK K
      try simp only [Act.put, List.setIfInBounds_toArray, List.set_cons_zero, List.set_cons_succ]
      refine wpAnyH_done (by kernel_rfl) ?_ _
      refine NoPanic.normal ?_
      clear p0 p1 p2 p3 z0 z1 z2 z3 hvl
      have HLO := Lib.hid (show LoS w dm A c l w.heap.size xb ob vb mb base cnt a b ov (((((wa).setCell ⟨vb, 0, none⟩ (.int .i64 (l.length : Int))).setCell ⟨vb, 1, none⟩ (.int .i64 1)).setCell ⟨vb, 2, none⟩ (bkV b)).setCell ⟨vb, 3, none⟩ (nxV a)) from ⟨HFB4.out.later HBZ.out, HXB4.out.later HBZ.out, HOA4.out.later HBZ.out, hset (hset (hset (hset HVB.out _) _) _) _, (by have e := HVE.out; have s1 := HB4.out.size; have s2 := HBT.out.size; exact (HVV.out.mono (n₁ := w.heap.size) (by omega)).later ((((HAW.out.setCell (by simp; omega) _).setCell (by simp; omega) _).setCell (by simp; omega) _).setCell (by simp; omega) _)), (by have e := HVE.out; exact (HG.out.later HVW.out).later ((((HAW.out.setCell (by simp; omega) _).setCell (by simp; omega) _).setCell (by simp; omega) _).setCell (by simp; omega) _)), HCN.out, HB4.out.trans (HBZ.out.mono HB4.out.size)⟩)
      generalize (((((wa).setCell ⟨vb, 0, none⟩ (.int .i64 (l.length : Int))).setCell ⟨vb, 1, none⟩ (.int .i64 1)).setCell ⟨vb, 2, none⟩ (bkV b)).setCell ⟨vb, 3, none⟩ (nxV a)) = w7 at *
      clear HBZ HVL HVE
      rotate_left
      go_simp
      have HAW := Lib.hid ((Below.refl wt.heap.size wt).alloc (Nat.le_refl _) (.cells #[.int .i64 0, .int .i64 0, .nilFunc, .nilFunc] 57))
      have HBA := Lib.hid (show Below w4.heap.size w4 (wt.alloc (.cells #[.int .i64 0, .int .i64 0, .nilFunc, .nilFunc] 57)) from HBT.out.alloc HBT.out.size _)
      have HVB := Lib.hid (heap_alloc_new wt (.cells #[.int .i64 0, .int .i64 0, .nilFunc, .nilFunc] 57))
      refine hK.out _ _ HBA.out (fun _ => ?_)
      clear hK K
      try simp only [Act.put, List.setIfInBounds_toArray, List.set_cons_zero, List.set_cons_succ]
      obtain ⟨vb, HVE⟩ : ∃ vb, Hid (vb = wt.heap.size) := ⟨_, Lib.hid rfl⟩
      rw [← HVE.out] at HVB
      try rw [← HVE.out]
      generalize (wt.alloc (.cells #[.int .i64 0, .int .i64 0, .nilFunc, .nilFunc] 57)) = wa at *
      refine wpAnyH_ready (rs := [4]) (by kernel_rfl) (by simp) (AllReadyH.cons (o := { dst := some 18, op := Op.call { callee := Callee.value (Operand.func 48), args := #[Operand.tmp 17], argTypes := #[24] }, type := 57, pos := "dominators.go:47", after := #[{ on := 3, ground := Ground.data }, { on := 2, ground := Ground.chain }], guard := none }) rfl (fun K hK => ?_) AllReadyH.nil)
      go_simp
      go_at_call 48
      refine (HK4.out wa HBA.out).mono ?_
      rintro e wv ⟨a, b, rfl, hvw, hbv⟩
      have HVW := Lib.hid (show Below wa.heap.size wa wv from hbv)
      have HBV := Lib.hid (show Below w4.heap.size w4 wv from HBA.out.trans (hbv.mono HBA.out.size))
      have HVV := Lib.hid hvw
      clear hvw hbv
      refine hK.out _ _ HBV.out (fun _ => ?_)
      clear hK K
      try simp only [Act.put, List.setIfInBounds_toArray, List.set_cons_zero, List.set_cons_succ]
      refine wpAnyH_take (i := 6) (oi := { dst := some 4, op := Op.assign (Operand.tmp 16), type := 64, pos := "dominators.go:47", after := #[{ on := 2, ground := Ground.data }, { on := 4, ground := Ground.chain }, { on := 0, ground := Ground.phase }, { on := 1, ground := Ground.phase }, { on := 2, ground := Ground.phase }, { on := 3, ground := Ground.textOnly Departure.lateStores }, { on := 4, ground := Ground.textOnly Departure.lateStoresUnsure }, { on := 5, ground := Ground.phase }], guard := none }) (v := .map (some mb)) rfl (by kernel_rfl) (by kernel_rfl) (by kernel_rfl) (fun _ _ _ h => h) (Or.inl ⟨by rfl, ?_⟩) HBV.out ?_
      · (intro w' hSw; go_simp)
      simp only [Act.put, List.setIfInBounds_toArray, List.set_cons_zero, List.set_cons_succ]
      refine wpAnyH_ready (rs := [7]) (by kernel_rfl) (by simp) (AllReadyH.cons (o := { dst := none, op := Op.store 57 (Operand.tmp 5) (Operand.tmp 18), type := 0, pos := "dominators.go:47", after := #[{ on := 5, ground := Ground.data }, { on := 4, ground := Ground.data }, { on := 6, ground := Ground.chain }, { on := 0, ground := Ground.phase }, { on := 1, ground := Ground.phase }, { on := 2, ground := Ground.phase }, { on := 3, ground := Ground.phase }, { on := 4, ground := Ground.phase }, { on := 5, ground := Ground.phase }, { on := 6, ground := Ground.phase }], guard := none }) rfl (fun K hK => ?_) AllReadyH.nil)
      have HVL := Lib.hid (show w4.heap.size ≤ vb from by have e := HVE.out; have := HBT.out.size; omega)
      have hvl : w4.heap.size ≤ vb := HVL.out
      have p := Lib.cell_of_heap ((HVW.out.block vb (hlt HVB.out)).trans HVB.out)
      have p0 := p 0
      have p1 := p 1
      have p2 := p 2
      have p3 := p 3
      have z0 := hfrz ((HVW.out.block vb (hlt HVB.out)).trans HVB.out) 0
      have z1 := hfrz ((HVW.out.block vb (hlt HVB.out)).trans HVB.out) 1
      have z2 := hfrz ((HVW.out.block vb (hlt HVB.out)).trans HVB.out) 2
      have z3 := hfrz ((HVW.out.block vb (hlt HVB.out)).trans HVB.out) 3
      clear p
      go_simp
      have HBZ := Lib.hid (show Below w4.heap.size w4 (((((wv).setCell ⟨vb, 0, none⟩ (.int .i64 (l.length : Int))).setCell ⟨vb, 1, none⟩ (.int .i64 1)).setCell ⟨vb, 2, none⟩ (bkV b)).setCell ⟨vb, 3, none⟩ (nxV a)) from ((((HBV.out.setCell hvl _).setCell hvl _).setCell hvl _).setCell hvl _))
      refine hK.out _ _ HBZ.out (fun _ => ?_)
      clear hK K
      try simp only [Act.put, List.setIfInBounds_toArray, List.set_cons_zero, List.set_cons_succ]
      refine wpAnyH_done (by kernel_rfl) ?_ _
      refine NoPanic.normal ?_
      clear p0 p1 p2 p3 z0 z1 z2 z3 hvl
      have HLO := Lib.hid (show LoS w dm A c l w.heap.size xb ob vb mb base cnt a b ov (((((wv).setCell ⟨vb, 0, none⟩ (.int .i64 (l.length : Int))).setCell ⟨vb, 1, none⟩ (.int .i64 1)).setCell ⟨vb, 2, none⟩ (bkV b)).setCell ⟨vb, 3, none⟩ (nxV a)) from ⟨HFB4.out.later HBZ.out, HXB4.out.later HBZ.out, HOA4.out.later HBZ.out, hset (hset (hset (hset ((HVW.out.block vb (hlt HVB.out)).trans HVB.out) _) _) _) _, (by have hq : vb < wa.heap.size := hlt HVB.out; have s1 := HB4.out.size; have s2 := HBA.out.size; exact ((((HVV.out.set (p := ⟨vb, 0, none⟩) hq _).set (p := ⟨vb, 1, none⟩) hq _).set (p := ⟨vb, 2, none⟩) hq _).set (p := ⟨vb, 3, none⟩) hq _).mono (by omega)), (by have e := HVE.out; exact HG.out.later (((((HAW.out.trans (HVW.out.mono HAW.out.size)).setCell (by simp; omega) _).setCell (by simp; omega) _).setCell (by simp; omega) _).setCell (by simp; omega) _)), HCN.out, HB4.out.trans (HBZ.out.mono HB4.out.size)⟩)
      generalize (((((wv).setCell ⟨vb, 0, none⟩ (.int .i64 (l.length : Int))).setCell ⟨vb, 1, none⟩ (.int .i64 1)).setCell ⟨vb, 2, none⟩ (bkV b)).setCell ⟨vb, 3, none⟩ (nxV a)) = w7 at *
      clear HBZ HVL HVE
      rotate_left
      go_simp
      have HAW := Lib.hid ((Below.refl w5.heap.size w5).alloc (Nat.le_refl _) (.cells #[.int .i64 0, .int .i64 0, .nilFunc, .nilFunc] 57))
      have HBA := Lib.hid (show Below w4.heap.size w4 (w5.alloc (.cells #[.int .i64 0, .int .i64 0, .nilFunc, .nilFunc] 57)) from HB5.out.alloc HB5.out.size _)
      have HVB := Lib.hid (heap_alloc_new w5 (.cells #[.int .i64 0, .int .i64 0, .nilFunc, .nilFunc] 57))
      refine hK.out _ _ HBA.out (fun _ => ?_)
      clear hK K
      try simp only [Act.put, List.setIfInBounds_toArray, List.set_cons_zero, List.set_cons_succ]
      obtain ⟨vb, HVE⟩ : ∃ vb, Hid (vb = w5.heap.size) := ⟨_, Lib.hid rfl⟩
      rw [← HVE.out] at HVB
      try rw [← HVE.out]
      generalize (w5.alloc (.cells #[.int .i64 0, .int .i64 0, .nilFunc, .nilFunc] 57)) = wa at *
      refine wpAnyH_ready (rs := [2]) (by kernel_rfl) (by simp) (AllReadyH.cons (o := { dst := some 16, op := Op.call { callee := Callee.value (Operand.func 52), args := #[Operand.tmp 14, Operand.tmp 15], argTypes := #[24, 29] }, type := 64, pos := "dominators.go:47", after := #[{ on := 0, ground := Ground.data }, { on := 1, ground := Ground.data }], guard := none }) rfl (fun K hK => ?_) AllReadyH.nil)
      go_simp
      go_at_call 52
      refine (HT.out wa HBA.out).mono ?_
      rintro e wt ⟨mb, base, cnt, rfl, hg, hcn, hmb, hbt⟩
      have HTW := Lib.hid (show Below wa.heap.size wa wt from hbt)
      have HBT := Lib.hid (show Below w4.heap.size w4 wt from HBA.out.trans (hbt.mono HBA.out.size))
      have HG := Lib.hid hg
      have HCN := Lib.hid hcn
      have HMB := Lib.hid hmb
      clear hg hcn hbt hmb
      refine hK.out _ _ HBT.out (fun _ => ?_)
      clear hK K
      try simp only [Act.put, List.setIfInBounds_toArray, List.set_cons_zero, List.set_cons_succ]
      refine wpAnyH_ready (rs := [4]) (by kernel_rfl) (by simp) (AllReadyH.cons (o := { dst := some 18, op := Op.call { callee := Callee.value (Operand.func 48), args := #[Operand.tmp 17], argTypes := #[24] }, type := 57, pos := "dominators.go:47", after := #[{ on := 3, ground := Ground.data }, { on := 2, ground := Ground.chain }], guard := none }) rfl (fun K hK => ?_) AllReadyH.nil)
      go_simp
      go_at_call 48
      refine (HK4.out wt HBT.out).mono ?_
      rintro e wv ⟨a, b, rfl, hvw, hbv⟩
      have HVW := Lib.hid (show Below wt.heap.size wt wv from hbv)
      have HBV := Lib.hid (show Below w4.heap.size w4 wv from HBT.out.trans (hbv.mono HBT.out.size))
      have HVV := Lib.hid hvw
      clear hvw hbv
      refine hK.out _ _ HBV.out (fun _ => ?_)
      clear hK K
      try simp only [Act.put, List.setIfInBounds_toArray, List.set_cons_zero, List.set_cons_succ]
      refine wpAnyH_take (i := 6) (oi := { dst := some 4, op := Op.assign (Operand.tmp 16), type := 64, pos := "dominators.go:47", after := #[{ on := 2, ground := Ground.data }, { on := 4, ground := Ground.chain }, { on := 0, ground := Ground.phase }, { on := 1, ground := Ground.phase }, { on := 2, ground := Ground.phase }, { on := 3, ground := Ground.textOnly Departure.lateStores }, { on := 4, ground := Ground.textOnly Departure.lateStoresUnsure }, { on := 5, ground := Ground.phase }], guard := none }) (v := .map (some mb)) rfl (by kernel_rfl) (by kernel_rfl) (by kernel_rfl) (fun _ _ _ h => h) (Or.inl ⟨by rfl, ?_⟩) HBV.out ?_
      · (intro w' hSw; go_simp)
      simp only [Act.put, List.setIfInBounds_toArray, List.set_cons_zero, List.set_cons_succ]
      refine wpAnyH_ready (rs := [7]) (by kernel_rfl) (by simp) (AllReadyH.cons (o := { dst := none, op := Op.store 57 (Operand.tmp 5) (Operand.tmp 18), type := 0, pos := "dominators.go:47", after := #[{ on := 5, ground := Ground.data }, { on := 4, ground := Ground.data }, { on := 6, ground := Ground.chain }, { on := 0, ground := Ground.phase }, { on := 1, ground := Ground.phase }, { on := 2, ground := Ground.phase }, { on := 3, ground := Ground.phase }, { on := 4, ground := Ground.phase }, { on := 5, ground := Ground.phase }, { on := 6, ground := Ground.phase }], guard := none }) rfl (fun K hK => ?_) AllReadyH.nil)
      have HVL := Lib.hid (show w4.heap.size ≤ vb from by have e := HVE.out; have := HB5.out.size; omega)
      have hvl : w4.heap.size ≤ vb := HVL.out
      have p := Lib.cell_of_heap ((HVW.out.block vb (hlt ((HTW.out.block vb (hlt HVB.out)).trans HVB.out))).trans ((HTW.out.block vb (hlt HVB.out)).trans HVB.out))
      have p0 := p 0
      have p1 := p 1
      have p2 := p 2
      have p3 := p 3
      have z0 := hfrz ((HVW.out.block vb (hlt ((HTW.out.block vb (hlt HVB.out)).trans HVB.out))).trans ((HTW.out.block vb (hlt HVB.out)).trans HVB.out)) 0
      have z1 := hfrz ((HVW.out.block vb (hlt ((HTW.out.block vb (hlt HVB.out)).trans HVB.out))).trans ((HTW.out.block vb (hlt HVB.out)).trans HVB.out)) 1
      have z2 := hfrz ((HVW.out.block vb (hlt ((HTW.out.block vb (hlt HVB.out)).trans HVB.out))).trans ((HTW.out.block vb (hlt HVB.out)).trans HVB.out)) 2
      have z3 := hfrz ((HVW.out.block vb (hlt ((HTW.out.block vb (hlt HVB.out)).trans HVB.out))).trans ((HTW.out.block vb (hlt HVB.out)).trans HVB.out)) 3
      clear p
      go_simp
      have HBZ := Lib.hid (show Below w4.heap.size w4 (((((wv).setCell ⟨vb, 0, none⟩ (.int .i64 (l.length : Int))).setCell ⟨vb, 1, none⟩ (.int .i64 1)).setCell ⟨vb, 2, none⟩ (bkV b)).setCell ⟨vb, 3, none⟩ (nxV a)) from ((((HBV.out.setCell hvl _).setCell hvl _).setCell hvl _).setCell hvl _))
      refine hK.out _ _ HBZ.out (fun _ => ?_)
      clear hK K
      try simp only [Act.put, List.setIfInBounds_toArray, List.set_cons_zero, List.set_cons_succ]
      refine wpAnyH_done (by kernel_rfl) ?_ _
      refine NoPanic.normal ?_
      clear p0 p1 p2 p3 z0 z1 z2 z3 hvl
      have HLO := Lib.hid (show LoS w dm A c l w.heap.size xb ob vb mb base cnt a b ov (((((wv).setCell ⟨vb, 0, none⟩ (.int .i64 (l.length : Int))).setCell ⟨vb, 1, none⟩ (.int .i64 1)).setCell ⟨vb, 2, none⟩ (bkV b)).setCell ⟨vb, 3, none⟩ (nxV a)) from ⟨HFB4.out.later HBZ.out, HXB4.out.later HBZ.out, HOA4.out.later HBZ.out, hset (hset (hset (hset ((HVW.out.block vb (hlt ((HTW.out.block vb (hlt HVB.out)).trans HVB.out))).trans ((HTW.out.block vb (hlt HVB.out)).trans HVB.out)) _) _) _) _, (by have hq : vb < wt.heap.size := Nat.lt_of_lt_of_le (hlt HVB.out) HTW.out.size; have s1 := HB4.out.size; have s2 := HBT.out.size; exact ((((HVV.out.set (p := ⟨vb, 0, none⟩) hq _).set (p := ⟨vb, 1, none⟩) hq _).set (p := ⟨vb, 2, none⟩) hq _).set (p := ⟨vb, 3, none⟩) hq _).mono (by omega)), (by have hq : vb < wa.heap.size := hlt HVB.out; have q2 := HMB.out; have q3 := HG.out.lt.2; exact (HG.out.later HVW.out).keep (fun b' hb' _ => by have hne : b' ≠ vb := (by omega); exact (hfar (p := ⟨vb, 3, none⟩) hne _).trans ((hfar (p := ⟨vb, 2, none⟩) hne _).trans ((hfar (p := ⟨vb, 1, none⟩) hne _).trans (hfar (p := ⟨vb, 0, none⟩) hne _))))), HCN.out, HB4.out.trans (HBZ.out.mono HB4.out.size)⟩)
      generalize (((((wv).setCell ⟨vb, 0, none⟩ (.int .i64 (l.length : Int))).setCell ⟨vb, 1, none⟩ (.int .i64 1)).setCell ⟨vb, 2, none⟩ (bkV b)).setCell ⟨vb, 3, none⟩ (nxV a)) = w7 at *
      clear HBZ HVL HVE
      rotate_left
      -- REGION 4 END
      all_goals exact HREST _ _ _ _ _ _ _ HLO.out
    · exact absurd hv (by rw [HV.out]; decide)
end Go.Proofs.Ytbdpdbeekbbehaa
