/- What is proved: tails gives, for the head of each loop, the points from which back edges lead to it. -/
import Derived.Test.YtbdpdbeekbbehaaDoTailP
import Derived.Test.YtbdpdbeekbbehaaDoRep
set_option linter.unusedVariables false
namespace Go.Proofs.Ytbdpdbeekbbehaa
open Go.RowKit Go.Shelf Go.Maps Go.ChangeShapes Go.WideElems

theorem Grp.keep {w w' : World} {b base n : Nat} {F : Nat → List Nat} (h : Grp w b base n F) (hk : ∀ b', (b' = b ∨ base ≤ b') → b' < w.heap.size → w'.heap[b']? = w.heap[b']?) : Grp w' b base n F := by
  obtain ⟨D, ⟨es, clock, hb, F0, hs, rfl, hbb, hlen, hap⟩, hm, hD⟩ := h
  have stay : ∀ v zs, w.ownsInts base 3 .i64 v zs → w'.ownsInts base 3 .i64 v zs := fun v zs h => ⟨own_stays h.1 (fun b e => hk b (.inr (own_block' h.1 e).1) (own_block' h.1 e).2.1), h.2⟩
  obtain ⟨F2, hmap2, _⟩ := F0.stay (R' := rowElem w' base 3 .i64) (fun x _ z hz => by
    obtain ⟨ys, ho, rfl⟩ := rowElem_inv hz
    exact rowElem_mk (stay _ _ ho))
  refine ⟨_, ⟨es, clock, (hk b (.inl rfl) (hlt hb)).trans hb, F2, hs, by rw [hmap2], hbb, fun x hx zs ho => ?_, hap⟩, hm, hD⟩
  obtain ⟨y, hy⟩ := F0.reads x hx
  obtain ⟨z, hz, _⟩ := rd_val hy
  obtain ⟨ys, ho2, _⟩ := rowElem_inv hz
  have := hlen x hx ys ho2
  rw [ho.unique (stay _ _ ho2)]
  exact this
theorem Grp.later {w w' : World} {b base n : Nat} {F : Nat → List Nat} (h : Grp w b base n F) (hb : Below w.heap.size w w') : Grp w' b base n F := h.keep fun b' _ hlt => hb.block b' hlt
theorem Grp.empty {w : World} {b base : Nat} (hb : w.heap[b]? = some (.map #[] 0)) (hlt : b < base) : Grp w b base 0 (fun _ => []) :=
  ⟨.map [], ⟨#[], 0, hb, ⟨by simp, MapKept.stamped_empty 0, by simp⟩, Nat.le_refl _, rfl, hlt, by simp, by simp⟩, isMap_empty, fun h => rfl⟩
theorem Grp.lt {w : World} {b base n : Nat} {F : Nat → List Nat} (h : Grp w b base n F) : b < w.heap.size ∧ b < base := by
  obtain ⟨D, ⟨es, clock, hb, F0, hs, rfl, hbb, hlen, hap⟩, hm, hD⟩ := h
  exact ⟨hlt hb, hbb⟩

/-- tails under way -/
structure TlS (w : World) (A : Option Addr) (c : Nat) (l : List PtV) (mb bw cnt : Nat) (bl : Nat → Int) (F : Nat → List Nat) (W : World) : Prop where
  fb : FBx W w.heap.size A c l
  bwa : IArr W bw l.length bl
  grp : Grp W mb (bw + 1) cnt F
  below : Below w.heap.size w W
  l1 : w.heap.size < mb
  l2 : mb < bw
theorem TlS.set {w : World} {A : Option Addr} {c : Nat} {l : List PtV} {mb bw cnt : Nat} {bl : Nat → Int} {F : Nat → List Nat} {W : World} (h : TlS w A c l mb bw cnt bl F W) {x : Nat} (hx : x < l.length) (y : Int) : TlS w A c l mb bw cnt (setF bl x y) F (W.setCell ⟨bw, x, none⟩ (.int .i64 y)) := by
  have l1 := h.l1
  have l2 := h.l2
  exact ⟨h.fb.other (by simp; omega) _, h.bwa.set hx y, h.grp.keep fun b' hb' _ => hfar (by simp; omega) _, h.below.setCell (by simp; omega) _, l1, l2⟩
theorem TlS.ext {w : World} {A : Option Addr} {c : Nat} {l : List PtV} {mb bw cnt : Nat} {bl : Nat → Int} {F F' : Nat → List Nat} {W : World} (h : TlS w A c l mb bw cnt bl F W) (hf : F = F') : TlS w A c l mb bw cnt bl F' W := hf ▸ h
theorem TlS.put {w : World} {A : Option Addr} {c : Nat} {l : List PtV} {mb bw cnt : Nat} {bl : Nat → Int} {F : Nat → List Nat} {W : World} (h : TlS w A c l mb bw cnt bl F W) {x : Nat} (hx : x ≤ 1000000) (hc : cnt ≤ 1000000) :
    ∃ v, (Instr.lookup 64 (.map (some mb)) (.int .i64 (x : Int)) false).run Try.prog W = .ok v W ∧ ZOwn W (bw + 1) v (zl (F x)) ∧ (F x).length ≤ cnt ∧
      (∀ (o : Obj) (w4 : World) (v' : Value) (y : Nat), (W.alloc o).grownBy w4 v.ownBlock → y ≤ 1000000 → w4.ownsRow (bw + 1) 3 1 v' ((zl (F x)).length + 1) (zcells (zl (F x)) ++ [.int .i64 (y : Int)]) → (v'.ownBlock = v.ownBlock ∨ v'.ownBlock = some (W.alloc o).heap.size) →
        ∃ w5, (Instr.mapUpdate 64 (.map (some mb)) (.int .i64 (x : Int)) v').run Try.prog w4 = .ok () w5 ∧ TlS w A c l mb bw (cnt + 1) bl (fun u => if u = x then F x ++ [y] else F u) w5) := by
  have l1 := h.l1
  have l2 := h.l2
  have hbs := h.bwa.lt
  obtain ⟨v, h1, h2, h3, h4⟩ := h.grp.at hc hx
  refine ⟨v, h1, h2, h3, fun o w4 v' y hg hy ho hl => ?_⟩
  have hz : (W.alloc o).heap.size = W.heap.size + 1 := by simp
  have hg' : W.grownBy w4 v.ownBlock := (World.grownBy_alloc W o _).trans hg
  obtain ⟨w5, e1, e2, e3⟩ := h4 w4 v' y hg' hy (by
    unfold ZOwn
    rw [zl_append, zcells_append, List.length_append]
    exact ho) (by
    rcases hl with hl | hl
    · exact .inl hl
    · exact .inr ⟨_, hl, by omega⟩)
  have hvb : ∀ k, v.ownBlock = some k → bw + 1 ≤ k := fun k hk => (own_block' h2 hk).1
  have far : ∀ k, k < bw + 1 → k ≠ mb → w5.heap[k]? = W.heap[k]? := fun k hk hne => (e3.block k (by have := hg'.size; omega) (by simp; omega)).trans (hg'.block k (by omega) (fun e => by have := hvb k e.symm; omega))
  refine ⟨w5, e1, ?_, h.bwa.eq (far bw (by omega) (by omega)), e2, (h.below.grown hg' (by omega) (fun k hk => by have := hvb k hk; omega)).grown e3 (by have := hg'.size; omega) (fun k hk => by cases hk; omega), l1, l2⟩
  exact (far w.heap.size (by omega) (by omega)).trans h.fb
theorem al3 (w : World) (o0 o1 o2 : Obj) {W : World} (h : W = ((w.alloc o0).alloc o1).alloc o2) : W.heap[w.heap.size]? = some o0 ∧ W.heap[w.heap.size + 1]? = some o1 ∧ W.heap[w.heap.size + 2]? = some o2 ∧ W.heap.size = w.heap.size + 3 ∧ Below w.heap.size w W := by
  subst h
  have s1 : (w.alloc o0).heap.size = w.heap.size + 1 := by simp
  have s2 : ((w.alloc o0).alloc o1).heap.size = w.heap.size + 2 := by simp
  have n0 := heap_alloc_new w o0
  have n1 := heap_alloc_new (w.alloc o0) o1
  have n2 := heap_alloc_new ((w.alloc o0).alloc o1) o2
  rw [s1] at n1
  rw [s2] at n2
  exact ⟨(heap_alloc_old _ _ (by omega)).trans ((heap_alloc_old _ _ (by omega)).trans n0), (heap_alloc_old _ _ (by omega)).trans n1, n2, by simp, (((Below.refl _ _).alloc (Nat.le_refl _) _).alloc (by simp) _).alloc (by simp; omega) _⟩

set_option maxRecDepth 100000 in
set_option maxHeartbeats 4000000 in
theorem tails_any (A : Option Addr) (c : Nat) (l : List PtV) (ob : Nat) (ov : Nat → Int) (w : World) (hl : FlOk l) (hp : PRow w.heap.size w A l) (ho : IArr w ob l.length ov) (hd : DTree (edg l) 0 ov) (hv : VR l.length ov) (dm : Nat → Nat → Bool) (hdm : ∀ h u, dm h u = true ↔ Dom (edg l) 0 h u) :
    Calls Try.prog 52 #[.agg #[.slice A l.length c], .slice (some ⟨ob, 0, none⟩) l.length l.length] w fun e W => ∃ mb base cnt, e = .returned (.map (some mb)) ∧ Grp W mb base cnt (tlL (edg l) dm l.length) ∧ cnt ≤ 1000000 ∧ w.heap.size ≤ mb ∧ Below w.heap.size w W := by
  have HL := Lib.hid hl
  have HP := Lib.hid hp
  have HO := Lib.hid ho
  have HD := Lib.hid hd
  have HV := Lib.hid hv
  have HDM := Lib.hid hdm
  have hln := hl.n
  have h2n := hl.two
  have hmm := @run_makeMap Try.prog
  obtain ⟨pl, N, hrk⟩ := hd.rk
  have HRK := Lib.hid hrk
  clear hl hp ho hd hv hdm hrk
  go_enter Try.func52, Try.ntmps52
  go_wp2_with (fail)
  clear hmm
  have h0 : ∀ W : World, W = _ → _ := fun W hW => al3 w (.cells #[.slice A l.length c] 24) (.map #[] 0) (.cells #[.int .i64 (-1)] 3) (W := W) hW
  obtain ⟨g0, g1, g2, g3, g4⟩ := h0 _ rfl
  have HFB := Lib.hid (show FBx _ w.heap.size A c l from g0)
  have HMB := Lib.hid g1
  have HSZ := Lib.hid g3
  have HBL := Lib.hid g4
  have HRP := Lib.hid (repeat_any (-1) (w.heap.size + 2) l.length (by omega) hln _ (Lib.cell_of_heap g2 0) (by rw [g3]; omega))
  clear h0 g0 g1 g2 g3 g4
  generalize (((w.alloc (.cells #[.slice A l.length c] 24)).alloc (.map #[] 0)).alloc (.cells #[.int .i64 (-1)] 3)) = w1 at *
  refine HRP.out.mono ?_
  rintro e w2 ⟨rfl, hob, hb2⟩
  have HT0 := Lib.hid (show TlS w A c l (w.heap.size + 1) w1.heap.size 0 (fun _ => -1) (tlL (edg l) dm 0) w2 from
    ⟨HFB.out.later hb2, ⟨_, hob, by simp [rowI_len], fun v hv => by simpa using rowI_src (-1) l.length l.length v hv⟩, (show Grp w2 (w.heap.size + 1) (w1.heap.size + 1) 0 (tlL (edg l) dm 0) from by
      have e : tlL (edg l) dm 0 = fun _ => [] := by funext h; rfl
      rw [e]
      exact Grp.empty ((hb2.block _ (hlt HMB.out)).trans HMB.out) (by have := HSZ.out; omega)), HBL.out.trans (hb2.mono HBL.out.size), by omega, by have := HSZ.out; omega⟩)
  have c0 := HT0.out.fb.cell
  obtain ⟨mb, hmb⟩ : ∃ mb, mb = w.heap.size + 1 := ⟨_, rfl⟩
  obtain ⟨bw, hbw⟩ : ∃ bw, bw = w1.heap.size := ⟨_, rfl⟩
  rw [← hmb, ← hbw] at HT0
  rw [← hmb, ← hbw]
  clear HRP hob hb2 HFB HMB HSZ HBL hmb hbw
  go_wp2_with (fail)
  clear c0
  go_loopw [20] (fun i wr => ∃ (b cnt : Nat) (bl : Nat → Int), i = .int .i64 (b : Int) ∧ b ≤ l.length ∧ Hid (TlS w A c l mb bw cnt bl (tlL (edg l) dm b) wr) ∧ Hid (cnt ≤ b * 1000) ∧ Hid (∀ v, v < l.length → bl v < (b : Int))) (fun i _ => l.length - (intOf i).toNat)
  case atStart => exact ⟨0, 0, _, rfl, Nat.zero_le _, HT0, Lib.hid (Nat.zero_le _), Lib.hid (fun v _ => by decide)⟩
  case round =>
    obtain ⟨b, cnt, bl, rfl, hb, hts, hcn, hbl⟩ := hrel
    by_cases hlt' : b < l.length
    · have HC := Lib.hid (fun T hT => reached_any wr ob l.length 0 b ov (HO.out.below hts.out.below HO.out.lt) hlt' (by omega) T hT)
      by_cases hpr : Pr ov 0 b
      · have HPR := Lib.hid hpr
        clear hpr
        go_wp2_with (fail)
        refine (HC.out true ⟨fun _ => HPR.out, fun _ => rfl⟩).mono ?_
        rintro e wx ⟨rfl, rfl⟩
        clear HC
        generalize wr = wo at *
        go_wp2_with (fail)
        go_loopw [8] (fun i wr => ∃ (x : Int) (bl' : Nat → Int), i = .int .i64 x ∧ Hid (TlS w A c l mb bw cnt bl' (tlL (edg l) dm b) wr) ∧ Hid ((∃ v : Nat, x = (v : Int) ∧ v < l.length ∧ Up ov b v ∧ (∀ u, u < l.length → Up ov b u → ¬ Up ov v u → bl' u = (b : Int)) ∧ (∀ u, u < l.length → ¬ (Up ov b u ∧ ¬ Up ov v u) → bl' u = bl u)) ∨ (x = -1 ∧ (∀ u, u < l.length → Up ov b u → bl' u = (b : Int)) ∧ (∀ u, u < l.length → ¬ Up ov b u → bl' u = bl u)))) (fun i _ => muS pl N (intOf i))
        case atStart => exact ⟨_, bl, rfl, hts, Lib.hid (.inl ⟨b, rfl, hlt', .refl _, fun u _ h1 h2 => absurd h1 h2, fun u _ _ => rfl⟩)⟩
        case round =>
          obtain ⟨x, bl', rfl, hts2, hx⟩ := hrel
          rcases hx.out with ⟨v, rfl, hvn, hup, h1, h2⟩ | ⟨rfl, h1, h2⟩
          · have h0 : (0 : Int) ≤ (v : Int) := by omega
            have z0 := hts2.out.bwa.frz v
            have k0 := hts2.out.bwa.cell hvn
            have HS2 := Lib.hid (hts2.out.set hvn (b : Int))
            have k1 := (HO.out.below HS2.out.below HO.out.lt).cell hvn
            have HN := Lib.hid (show ((∃ y : Nat, ov v = (y : Int) ∧ y < l.length ∧ Up ov b y ∧ (∀ u, u < l.length → Up ov b u → ¬ Up ov y u → setF bl' v (b : Int) u = (b : Int)) ∧ (∀ u, u < l.length → ¬ (Up ov b u ∧ ¬ Up ov y u) → setF bl' v (b : Int) u = bl u)) ∨ (ov v = -1 ∧ (∀ u, u < l.length → Up ov b u → setF bl' v (b : Int) u = (b : Int)) ∧ (∀ u, u < l.length → ¬ Up ov b u → setF bl' v (b : Int) u = bl u))) ∧ muS pl N (ov v) < muS pl N (v : Int) from by
              rcases HV.out v with g1 | ⟨y, g1, g2⟩
              · refine ⟨.inr ⟨g1, fun u hu hbu => ?_, fun u hu hbu => ?_⟩, by rw [g1]; unfold muS; rw [if_pos (by omega), if_neg (by omega)]; omega⟩
                · unfold setF
                  split
                  · rfl
                  · rename_i hne
                    refine h1 u hu hbu fun g => ?_
                    rcases g.cases' with g3 | ⟨z, g3, _⟩
                    · exact hne g3.symm
                    · omega
                · unfold setF
                  rw [if_neg (fun e => hbu (by rw [e]; exact hup))]
                  exact h2 u hu (fun g => hbu g.1)
              · have hyv : ¬ Up ov y v := fun g => by
                  have h := HD.out.anti v y (.one g1) g
                  have h3 := HRK.out v y g1
                  rw [h] at h3
                  omega
                have hxy : ∀ u, u ≠ v → (Up ov v u ↔ Up ov y u) := fun u hu => ⟨fun g => by
                  rcases g.cases' with g3 | ⟨z, g3, g4⟩
                  · exact absurd g3.symm hu
                  · rw [g1] at g3
                    have := Int.ofNat.inj g3
                    subst this
                    exact g4, fun g => .step g1 g⟩
                refine ⟨.inl ⟨y, g1, g2, hup.trans (.one g1), fun u hu hbu hn => ?_, fun u hu hn => ?_⟩, ?_⟩
                · unfold setF
                  split
                  · rfl
                  · rename_i hne
                    exact h1 u hu hbu (fun g => hn ((hxy u hne).1 g))
                · unfold setF
                  rw [if_neg (fun e => hn ⟨by rw [e]; exact hup, by rw [e]; exact hyv⟩)]
                  refine h2 u hu (fun g => hn ⟨g.1, fun g3 => g.2 (.step g1 g3)⟩)
                · have := HRK.out v y g1
                  rw [g1]
                  unfold muS
                  rw [if_neg (by omega), if_neg (by omega)]
                  simp only [Int.toNat_natCast]
                  omega)
            obtain ⟨q, hq⟩ : ∃ q, q = ov v := ⟨_, rfl⟩
            rw [← hq] at k1 HN
            clear hx h1 h2 hq hup
            go_wp2_with (fail)
            exact ⟨⟨q, _, rfl, HS2, Lib.hid HN.out.1⟩, HN.out.2⟩
          · have hn0 : ¬ (0 : Int) ≤ -1 := by decide
            have H1 := Lib.hid h1
            have H2 := Lib.hid h2
            have f0 := hts2.out.fb.cell
            obtain ⟨k1, k2⟩ := edg_zl HL.out.ok hlt'
            obtain ⟨pb, off, rfl, hpb, e1, e2, e3, hz, hc⟩ := (HP.out.below hts2.out.below).at hlt'
            have hz0 := (HP.out.2 _ (List.getElem_mem hlt')).1
            rw [k1] at hz0 hc e3
            rw [zl_len] at e3 hc
            have HZ := Lib.hid (NRow.of hz0)
            have HE2 := Lib.hid k2
            have HDG := Lib.hid (HL.out.edg b)
            generalize l[b].A = A2 at *
            generalize l[b].c = c2 at *
            clear k1 k2 hz hz0 e1 e2 hx h1 h2
            generalize wr = wp at *
            go_wp2_with (fail)
            go_loopw [45] (fun i wr => ∃ (j cn : Nat), i = .int .i64 (j : Int) ∧ j ≤ (edg l b).length ∧ Hid (TlS w (some ⟨pb, off, none⟩) c l mb bw cn bl' (tlP (edg l) dm b j) wr) ∧ Hid (cn ≤ b * 1000 + j)) (fun i _ => (edg l b).length - (intOf i).toNat)
            case atStart => exact ⟨0, cnt, rfl, Nat.zero_le _, Lib.hid (hts2.out.ext (tlP_zero (E := edg l) (dm := dm) b).symm), Lib.hid hcn.out⟩
            case round =>
              obtain ⟨j, cn, rfl, hj, hti, hcn2⟩ := hrel
              have hdg := HDG.out
              by_cases hjl : j < (edg l b).length
              · obtain ⟨eb, eo, rfl, heb, hec⟩ := (HZ.out.below hti.out.below) (by omega)
                have hxn := (HE2.out _ (List.getElem_mem hjl)).2
                have c5 := hec j hjl
                obtain ⟨x, hx⟩ : ∃ x, x = (edg l b)[j] := ⟨_, rfl⟩
                rw [← hx] at c5 hxn
                have HX := Lib.hid hx
                clear hx hec
                have k5 := hti.out.bwa.cell hxn
                by_cases hq : bl' x = (b : Int)
                · have HDX := Lib.hid (show dm x b = true from (HDM.out x b).2 ((HD.out.dom b x (HD.out.pr.1 HPR.out)).1 (by
                    by_cases hu : Up ov b x
                    · exact hu
                    · have h5 := H2.out x hxn hu
                      have h6 := hbl.out x hxn
                      omega)))
                  rw [hq] at k5
                  obtain ⟨v, hlk, hov, hvl, hbk⟩ := hti.out.put (x := x) (by omega) (by have := hcn2.out; have := HDG.out; omega)
                  have HOV := Lib.hid hov
                  have HBK := Lib.hid hbk
                  clear hov hbk
                  obtain ⟨i0, hi0, hz0, hz1, hz2⟩ := info_parts infoInt
                  have hlen : (zl (tlP (edg l) dm b j x)).length ≤ 1000000 := by rw [zl_len]; have := hcn2.out; have := HDG.out; omega
                  have hbs := hti.out.bwa.lt
                  go_wp2_with (at_builtin; refine wpList_append_own_at _ rfl _ _ 29 rfl (bw + 1) 3 i0 _ 1 8 Try.underlying29 hi0 hz0 hz1 hz2 rfl (by decide) v (zl (tlP (edg l) dm b j x)).length (zcells (zl (tlP (edg l) dm b j x))) rfl (HOV.out.alloc _) ⟨wr.heap.size, 0, none⟩ 1 1 [.int .i64 (b : Int)] rfl rfl (cell_one_new _ _ _) (by simp [Value.oneCell']) (by unfold maxLen; omega) (by omega) (by simp; omega) ?_; intro v' w4 hown hgr _ hloc; obtain ⟨w5, hmu, hts5⟩ := HBK.out _ w4 v' b hgr (by omega) hown hloc; have HT5 := Lib.hid (hts5.ext (funext fun u => (tlP_more (E := edg l) (dm := dm) hjl HX.out.symm HDX.out u).symm)); clear hown hgr hloc hts5)
                  exact ⟨⟨j + 1, cn + 1, by go_num, by omega, HT5, Lib.hid (by have := hcn2.out; omega)⟩, by simp [intOf]; omega⟩
                · have HDX := Lib.hid (show dm x b = false from by
                    cases hq2 : dm x b with
                    | false => rfl
                    | true => exact absurd (H1.out x hxn ((HD.out.dom b x (HD.out.pr.1 HPR.out)).2 ((HDM.out x b).1 hq2))) hq)
                  have HT5 := Lib.hid (hti.out.ext (tlP_skip (E := edg l) (dm := dm) hjl HX.out.symm HDX.out).symm)
                  go_wp2_with (fail)
                  exact ⟨⟨j + 1, cn, by go_num, by omega, HT5, Lib.hid (by have := hcn2.out; omega)⟩, by simp [intOf]; omega⟩
              · obtain rfl : j = (edg l b).length := by omega
                have HT5 := Lib.hid (hti.out.ext (tlP_all (E := edg l) (dm := dm) b))
                go_wp2_with (fail)
                exact ⟨⟨b + 1, cn, bl', by go_num, by omega, HT5, Lib.hid (by have := hcn2.out; have := HDG.out; omega), Lib.hid (fun v hv => by
                  by_cases hu : Up ov b v
                  · rw [H1.out v hv hu]; omega
                  · rw [H2.out v hv hu]; have := hbl.out v hv; omega)⟩, by simp [intOf]; omega⟩
      · have HPR := Lib.hid hpr
        have HN := Lib.hid (hts.out.ext (tlL_none (E := edg l) (dm := dm) (k := b) (show ∀ x, dm x b = false from fun x => by
          cases hq : dm x b with
          | false => rfl
          | true => exact absurd (HD.out.pr.2 ((HDM.out x b).1 hq).1) hpr)).symm)
        clear hpr
        go_wp2_with (fail)
        refine (HC.out false ⟨fun h => absurd h (by decide), fun h => absurd h HPR.out⟩).mono ?_
        rintro e wx ⟨rfl, rfl⟩
        go_wp2_with (fail)
        exact ⟨⟨b + 1, cnt, bl, by go_num, by omega, HN, Lib.hid (by have := hcn.out; omega), Lib.hid (fun v hv => by have := hbl.out v hv; omega)⟩, by simp [intOf]; omega⟩
    · obtain rfl : b = l.length := by omega
      go_wp2_with (fail)
      go_ret
      exact ⟨mb, bw + 1, cnt, rfl, hts.out.grp, by have := hcn.out; omega, by have := hts.out.l1; omega, hts.out.below⟩
end Go.Proofs.Ytbdpdbeekbbehaa
