/- What is proved: the reference's Reach: the points to which paths lead that do not contain another one. -/
import Derived.Test.YtbdpdbeekbbehaaDoReachP
import Derived.Test.YtbdpdbeekbbehaaDoNext
import Derived.Test.YtbdpdbeekbbehaaDoAbove
import Derived.Test.YtbdpdbeekbbehaaDoRep
import Derived.BigQuiet
import Derived.Deep.QuietTactic
set_option linter.unusedVariables false
namespace Go.Proofs.Ytbdpdbeekbbehaa
open Go.RowKit Go.Shelf

/-- Reach under way -/
structure ReS (w : World) (A : Option Addr) (c : Nat) (l : List PtV) (fb ob : Nat) (f : Nat → Bool) (v : Value) (q : List Nat) (W : World) : Prop where
  bx : FBx W fb A c l
  oa : BArr W ob l.length f
  qu : Qu W (ob + 1) v (zl q)
  below : Below w.heap.size w W
  l1 : w.heap.size ≤ fb
  l2 : fb < ob
section
variable {w W W' : World} {A : Option Addr} {c : Nat} {l : List PtV} {fb ob : Nat} {f : Nat → Bool} {v v' : Value} {q q' : List Nat}
theorem ReS.later (h : ReS w A c l fb ob f v q W) (hb : Below W.heap.size W W') : ReS w A c l fb ob f v q W' :=
  ⟨h.bx.later hb, h.oa.later hb, h.qu.later fun g e => hb.block g (h.qu.block e).2.1, h.below.trans (hb.mono h.below.size), h.l1, h.l2⟩
theorem ReS.see (h : ReS w A c l fb ob f v q W) {y : Nat} (hy : y < l.length) : ReS w A c l fb ob (setS f y) v q (W.setCell ⟨ob, y, none⟩ (.bool true)) := by
  have l1 := h.l1
  have l2 := h.l2
  exact ⟨h.bx.other (by simp; omega) _, h.oa.set hy, h.qu.later fun g e => hfar (by have := (h.qu.block e).1; simp; omega) _, h.below.setCell (by simp; omega) _, l1, l2⟩
theorem ReS.push (h : ReS w A c l fb ob f v q W) {o : Obj} (hg : (W.alloc o).grownBy W' v.ownBlock) (hq : Qu W' (ob + 1) v' (zl q')) : ReS w A c l fb ob f v' q' W' := by
  have l1 := h.l1
  have l2 := h.l2
  have far : ∀ k, k < ob + 1 → k < W.heap.size → W'.heap[k]? = W.heap[k]? := fun k hk hlt' => (hg.block k (by simp; omega) (fun e => by have := (h.qu.block e.symm).1; omega)).trans (heap_alloc_old _ _ hlt')
  exact ⟨(far fb (by omega) h.bx.lt).trans h.bx, h.oa.eq (far ob (by omega) h.oa.lt), hq, (h.below.alloc h.below.size _).grown hg (by have := h.below.size; simp; omega) (fun k e => by have := (h.qu.block e).1; omega), l1, l2⟩
theorem ReS.with (h : ReS w A c l fb ob f v q W) (hq : Qu W (ob + 1) v' (zl q')) : ReS w A c l fb ob f v' q' W := ⟨h.bx, h.oa, hq, h.below, h.l1, h.l2⟩
end
theorem barr_one (w : World) (n y : Nat) : BArr (w.alloc (.cells ((hdr (fun _ => .bool false) n).setIfInBounds y (.bool true)) 4)) w.heap.size n (setS (fun _ => false) y) := by
  refine ⟨_, heap_alloc_new w _, by simp [hdr], fun v hv => ?_⟩
  have hv2 : v < (hdr (fun _ => Value.bool false) n).size := by simp [hdr, hv]
  rw [Array.getElem?_setIfInBounds]
  unfold setS
  by_cases e : y = v
  · subst e
    rw [if_pos rfl, if_pos hv2, if_pos rfl]
  · rw [if_neg e, if_neg (fun h => e h.symm)]
    simp [hdr, hv]
/-- what Reach gives -/
def ReRes (l : List PtV) (fr : Nat) (wo : Int) (w : World) (e : Ending) (W : World) : Prop :=
  ∃ ob f, e = .returned (.slice (some ⟨ob, 0, none⟩) l.length l.length) ∧ BArr W ob l.length f ∧ (∀ v, v < l.length → (f v = true ↔ Rch (edg l) (fun x => (x : Int) ≠ wo) fr v)) ∧ w.heap.size ≤ ob ∧ Below w.heap.size w W

set_option maxRecDepth 100000 in
set_option maxHeartbeats 4000000 in
theorem reach17_any (A : Option Addr) (c : Nat) (l : List PtV) (fr : Nat) (wo : Int) (w : World) (hl : FlOk l) (hp : PRow w.heap.size w A l) (hf : fr < l.length) :
    Calls Try.prog 70 #[.agg #[.slice A l.length c], .int .i64 (fr : Int), .int .i64 wo] w (ReRes l fr wo w) := by
  have HL := Lib.hid hl
  have HP := Lib.hid hp
  have hln := hl.n
  have HB1 := Lib.hid ((Below.refl w.heap.size w).alloc (Nat.le_refl _) (.cells #[.slice A l.length c] 24))
  have HFB := Lib.hid (show FBx (w.alloc (.cells #[.slice A l.length c] 24)) w.heap.size A c l from heap_alloc_new w _)
  have hs1 : (w.alloc (.cells #[.slice A l.length c] 24)).heap.size = w.heap.size + 1 := by simp
  have HS1 := Lib.hid hs1
  have c0 := HFB.out.cell
  clear hl hp hs1
  go_enter Try.func70, Try.ntmps70
  go_upto_region 1 with (fail)
  generalize (w.alloc (.cells #[.slice A l.length c] 24)) = w1 at *
  have hmk := do_make_bl l.length (by omega) w1
  have hsz : w.heap.size < w1.heap.size := by have := HS1.out; omega
  have hal := (Below.refl w1.heap.size w1).alloc (Nat.le_refl _) (.cells (hdr (fun _ => .bool false) l.length) 4)
  have HB2 := Lib.hid (HB1.out.trans (hal.mono HB1.out.size))
  have HA2 := Lib.hid (BArr.new w1 l.length)
  have HF2 := Lib.hid (show FBx _ w.heap.size A c l from HFB.out.later hal)
  have hz2 : w1.heap.size < (w1.alloc (.cells (hdr (fun _ => .bool false) l.length) 4)).heap.size := by simp
  have HZ2 := Lib.hid hz2
  clear hal hz2
  by_cases hw : (fr : Int) = wo
  · subst hw
    go_wp2_with (fail)
    go_ret
    exact ⟨w1.heap.size, fun _ => false, rfl, HA2.out, fun v hv => ⟨fun h => by simp at h, fun h => absurd rfl (Rch.first h)⟩, by omega, HB2.out⟩
  · have HX := Lib.hid hw
    have hwb : ((fr : Int) == wo) = false := beq_eq_false_iff_ne.2 hw
    have hb3 := (Below.refl w1.heap.size w1).alloc (Nat.le_refl _) (.cells ((hdr (fun _ => .bool false) l.length).setIfInBounds fr (.bool true)) 4)
    have HS3 := Lib.hid (show FBx _ w.heap.size A c l ∧ BArr _ w1.heap.size l.length (setS (fun _ => false) fr) ∧ Below w.heap.size w _ from ⟨HFB.out.later hb3, barr_one w1 l.length fr, HB1.out.trans (hb3.mono HB1.out.size)⟩)
    have hz3 : (w1.alloc (.cells ((hdr (fun _ => .bool false) l.length).setIfInBounds fr (.bool true)) 4)).heap.size = w1.heap.size + 1 := by simp
    have k0 := HA2.out.cell hf
    have z0 := HA2.out.frz fr
    have HZ3 := Lib.hid hz3
    clear hb3 hz3
    go_upto_region 5 with (fail)
    generalize (w1.alloc (.cells ((hdr (fun _ => .bool false) l.length).setIfInBounds fr (.bool true)) 4)) = w3 at *
    clear k0 z0 c0 hmk
    have HOB := Lib.hid (show w.heap.size < w1.heap.size from hsz)
    generalize w1.heap.size = ob at *
    have HS4 := Lib.hid (show ReS w A c l w.heap.size ob (setS (fun _ => false) fr) (.slice (some ⟨w3.heap.size, 0, none⟩) 1 1) [fr] _ from by
      have hal := (Below.refl w3.heap.size w3).alloc (Nat.le_refl _) (.cells #[.int .i64 (fr : Int)] 3)
      have hq := Qu.one w3 (fr : Int) (B := ob + 1) (by rw [HZ3.out]; exact Nat.le_refl _)
      exact ⟨HS3.out.1.later hal, HS3.out.2.1.later hal, hq, HS3.out.2.2.trans (hal.mono HS3.out.2.2.size), Nat.le_refl _, hsz⟩)
    have HR4 := Lib.hid (RI.start (E := edg l) (X := fun x : Nat => (x : Int) ≠ wo) HX.out hf)
    go_wp2_with (fail)
    go_loopg [8] (2 * uns l.length (setS (fun _ => false) fr) + 1) (fun gg v wr => ∃ (q : List Nat) (f : Nat → Bool), Hid (ReS w A c l w.heap.size ob f v q wr) ∧ Hid (RI (edg l) (edg l) (fun x : Nat => (x : Int) ≠ wo) fr l.length f q) ∧ 2 * uns l.length f + q.length ≤ gg)
    case atStart => exact ⟨[fr], _, HS4, HR4, by simp⟩
    case round =>
      obtain ⟨q, f, hs, hr, hgg⟩ := hrel
      cases q with
      | nil =>
        obtain ⟨g, off, cap, cur, rfl, _⟩ := hs.out.qu
        have HFIN := Lib.hid (show ReRes l fr wo w (.returned (.slice (some ⟨ob, 0, none⟩) l.length l.length)) wr from ⟨ob, f, rfl, hs.out.oa, fun v _ => hr.out.fin v, by omega, hs.out.below⟩)
        have hz : (zl []).length = 0 := rfl
        rw [hz]
        clear hs hr hgg
        go_wp2_with (fail)
        go_ret
        exact HFIN.out
      | cons x q =>
        have hfx := hr.out.inq x (by simp)
        have hxn := (hr.out.snd x hfx).1
        obtain ⟨g, off, cap, rfl, hcap, k0, hqu, hqo⟩ := Qu.head (l := zl q) (x := (x : Int)) hs.out.qu
        have HS0 := hs
        have HQU := Lib.hid hqu
        have HQO := Lib.hid hqo
        have HR5 := Lib.hid hr.out.pop
        have HFX := Lib.hid hfx
        obtain ⟨G, hG⟩ : ∃ G, G = 2 * uns l.length f + (x :: q).length := ⟨_, rfl⟩
        have HGG := Lib.hid (show 2 * uns l.length f + q.length + 1 ≤ G by rw [hG, List.length_cons]; omega)
        rw [← hG] at hgg
        have f0 := hs.out.bx.cell
        obtain ⟨e1, e2⟩ := edg_zl HL.out.ok hxn
        obtain ⟨pb, po, rfl, hpb, e3, e4, e5, hz, hc⟩ := (HP.out.below hs.out.below).at hxn
        have hz0 := (HP.out.2 _ (List.getElem_mem hxn)).1
        rw [e1] at hz0 hc e5
        rw [zl_len] at e5 hc
        have HZ := Lib.hid (NRow.of hz0)
        have HE2 := Lib.hid e2
        have HDG := Lib.hid (HL.out.edg x)
        generalize l[x].A = A2 at *
        generalize l[x].c = c2 at *
        rw [zl_len] at hcap HQU
        rw [zl_len]
        clear e1 e2 e3 e4 hz hz0 hqu hqo hs hr hfx hG
        by_cases hc1 : cap = 1
        · subst hc1
          obtain ⟨hq0, hq1⟩ := HQO.out rfl
          have hq00 : q = [] := by cases q with
            | nil => rfl
            | cons a t => cases hq0
          subst hq00
          simp only [List.length_nil, Nat.zero_add]
          have HS5 := Lib.hid (HS0.out.with (q' := []) hq1)
          clear hq0 hq1 HQU HQO HS0
          go_upto_region 7 with (fail)
          go_quiet (fail)
          go_wp2_with (fail)
          go_loopw [8, 10] (fun v i wr => ∃ (j : Nat) (q : List Nat) (f : Nat → Bool), i = .int .i64 (j : Int) ∧ j ≤ (edg l x).length ∧ Hid (ReS w (some ⟨pb, po, none⟩) c l w.heap.size ob f v q wr) ∧ Hid (RI (edg l) (cutE (edg l) x j) (fun x : Nat => (x : Int) ≠ wo) fr l.length f q) ∧ Hid (f x = true) ∧ Hid (2 * uns l.length f + q.length + 1 ≤ G)) (fun _ i _ => (edg l x).length - (intOf i).toNat)
          case atStart => exact ⟨0, [], f, rfl, Nat.zero_le _, Lib.hid (HS5.out.later (below_drewN (Below.refl _ _) _)), HR5, HFX, HGG⟩
          case round =>
            obtain ⟨j, q2, f2, rfl, hj, HS6, HR6, HF6, HG6⟩ := hrel
            by_cases hjt : j < (edg l x).length
            · obtain ⟨eb, eo, rfl, heb, hec⟩ := HZ.out (by omega)
              have HYN := Lib.hid (HE2.out _ (List.getElem_mem hjt)).2
              obtain ⟨y, hy⟩ : ∃ y, y = (edg l x)[j] := ⟨_, rfl⟩
              have HY := Lib.hid hy
              rw [← hy] at HYN
              have HEC := Lib.hid (show ∀ W, Below w.heap.size w W → W.cell? ⟨eb, eo + j, none⟩ = some (.int .i64 (y : Int)) from fun W hW => by
                rw [hy]
                exact (hW.cell (p := ⟨eb, eo + j, none⟩) heb).trans (hec j hjt))
              have r0 := HEC.out _ HS6.out.below
              have hdg := HDG.out
              clear hy hec
              by_cases hyo : (y : Int) = wo
              · have HN := Lib.hid (HR6.out.skip hjt HY.out.symm (fun h => absurd hyo h))
                subst hyo
                go_wp2_with (fail)
                exact ⟨⟨j + 1, q2, f2, by go_num, by omega, HS6, HN, HF6, HG6⟩, by simp [intOf]; omega⟩
              · have HYO := Lib.hid hyo
                have k0 := HS6.out.oa.cell HYN.out
                have z0 := HS6.out.oa.frz y
                have hyn := HYN.out
                cases hfy : f2 y with
                | true =>
                  have HN := Lib.hid (HR6.out.skip hjt HY.out.symm (fun _ => hfy))
                  rw [hfy] at k0
                  clear hfy
                  go_wp2_with (fail)
                  exact ⟨⟨j + 1, q2, f2, by go_num, by omega, HS6, HN, HF6, HG6⟩, by simp [intOf]; omega⟩
                | false =>
                  have HN := Lib.hid (HR6.out.push HF6.out hjt HY.out.symm HYO.out hfy HYN.out)
                  have HF7 := Lib.hid (show setS f2 y x = true from by unfold setS; split; rfl; exact HF6.out)
                  have HU := Lib.hid (uns_set HYN.out hfy)
                  have HS7 := Lib.hid (HS6.out.see HYN.out)
                  have hql := HR6.out.len'
                  rw [hfy] at k0
                  clear hfy
                  go_upto_region 14 with (fail)
                  clear k0 z0 r0
                  generalize wr.setCell ⟨ob, y, none⟩ (.bool true) = w5 at *
                  have r0 := HEC.out _ HS7.out.below
                  have hb5 := HS7.out.oa.lt
                  obtain ⟨v', w6, hrun, hq6, hg6⟩ := (HS7.out.qu.later (w' := w5.alloc (.cells #[.int .i64 (y : Int)] 3)) (fun g e => heap_alloc_old _ _ (HS7.out.qu.block e).2.1)).push (y : Int) (heap_alloc_new w5 _) (by rw [zl_len]; omega) (by simp; omega)
                  have HS8 := Lib.hid (HS7.out.push (q' := q2 ++ [y]) hg6 (by rw [zl_append]; exact hq6))
                  have HG8 := Lib.hid (show 2 * uns l.length (setS f2 y) + (q2 ++ [y]).length + 1 ≤ G by have := HG6.out; have := HU.out; rw [List.length_append, List.length_singleton]; omega)
                  clear hq6 hg6
                  go_wp2_with (at_builtin; refine wpList_append_by rfl _ _ 29 29 rfl _ _ rfl rfl v' w6 hrun ?_)
                  exact ⟨⟨j + 1, q2 ++ [y], setS f2 y, by go_num, by omega, HS8, HN, HF7, HG8⟩, by simp [intOf]; omega⟩
            · obtain rfl : j = (edg l x).length := by omega
              have HN := Lib.hid HR6.out.all
              have hg6 := HG6.out
              go_wp2_with (fail)
              go_roundg (2 * uns l.length f2 + q2.length)
              case measure => omega
              case rel => exact ⟨q2, f2, HS6, HN, Nat.le_refl _⟩
        · have HS5 := Lib.hid (HS0.out.with HQU.out)
          clear HQU HQO HS0
          go_upto_region 7 with (fail)
          go_quiet (fail)
          go_wp2_with (fail)
          go_loopw [8, 10] (fun v i wr => ∃ (j : Nat) (q : List Nat) (f : Nat → Bool), i = .int .i64 (j : Int) ∧ j ≤ (edg l x).length ∧ Hid (ReS w (some ⟨pb, po, none⟩) c l w.heap.size ob f v q wr) ∧ Hid (RI (edg l) (cutE (edg l) x j) (fun x : Nat => (x : Int) ≠ wo) fr l.length f q) ∧ Hid (f x = true) ∧ Hid (2 * uns l.length f + q.length + 1 ≤ G)) (fun _ i _ => (edg l x).length - (intOf i).toNat)
          case atStart => exact ⟨0, q, f, rfl, Nat.zero_le _, Lib.hid (HS5.out.later (below_drewN (Below.refl _ _) _)), HR5, HFX, HGG⟩
          case round =>
            obtain ⟨j, q2, f2, rfl, hj, HS6, HR6, HF6, HG6⟩ := hrel
            by_cases hjt : j < (edg l x).length
            · obtain ⟨eb, eo, rfl, heb, hec⟩ := HZ.out (by omega)
              have HYN := Lib.hid (HE2.out _ (List.getElem_mem hjt)).2
              obtain ⟨y, hy⟩ : ∃ y, y = (edg l x)[j] := ⟨_, rfl⟩
              have HY := Lib.hid hy
              rw [← hy] at HYN
              have HEC := Lib.hid (show ∀ W, Below w.heap.size w W → W.cell? ⟨eb, eo + j, none⟩ = some (.int .i64 (y : Int)) from fun W hW => by
                rw [hy]
                exact (hW.cell (p := ⟨eb, eo + j, none⟩) heb).trans (hec j hjt))
              have r0 := HEC.out _ HS6.out.below
              have hdg := HDG.out
              clear hy hec
              by_cases hyo : (y : Int) = wo
              · have HN := Lib.hid (HR6.out.skip hjt HY.out.symm (fun h => absurd hyo h))
                subst hyo
                go_wp2_with (fail)
                exact ⟨⟨j + 1, q2, f2, by go_num, by omega, HS6, HN, HF6, HG6⟩, by simp [intOf]; omega⟩
              · have HYO := Lib.hid hyo
                have k0 := HS6.out.oa.cell HYN.out
                have z0 := HS6.out.oa.frz y
                have hyn := HYN.out
                cases hfy : f2 y with
                | true =>
                  have HN := Lib.hid (HR6.out.skip hjt HY.out.symm (fun _ => hfy))
                  rw [hfy] at k0
                  clear hfy
                  go_wp2_with (fail)
                  exact ⟨⟨j + 1, q2, f2, by go_num, by omega, HS6, HN, HF6, HG6⟩, by simp [intOf]; omega⟩
                | false =>
                  have HN := Lib.hid (HR6.out.push HF6.out hjt HY.out.symm HYO.out hfy HYN.out)
                  have HF7 := Lib.hid (show setS f2 y x = true from by unfold setS; split; rfl; exact HF6.out)
                  have HU := Lib.hid (uns_set HYN.out hfy)
                  have HS7 := Lib.hid (HS6.out.see HYN.out)
                  have hql := HR6.out.len'
                  rw [hfy] at k0
                  clear hfy
                  go_upto_region 14 with (fail)
                  clear k0 z0 r0
                  generalize wr.setCell ⟨ob, y, none⟩ (.bool true) = w5 at *
                  have r0 := HEC.out _ HS7.out.below
                  have hb5 := HS7.out.oa.lt
                  obtain ⟨v', w6, hrun, hq6, hg6⟩ := (HS7.out.qu.later (w' := w5.alloc (.cells #[.int .i64 (y : Int)] 3)) (fun g e => heap_alloc_old _ _ (HS7.out.qu.block e).2.1)).push (y : Int) (heap_alloc_new w5 _) (by rw [zl_len]; omega) (by simp; omega)
                  have HS8 := Lib.hid (HS7.out.push (q' := q2 ++ [y]) hg6 (by rw [zl_append]; exact hq6))
                  have HG8 := Lib.hid (show 2 * uns l.length (setS f2 y) + (q2 ++ [y]).length + 1 ≤ G by have := HG6.out; have := HU.out; rw [List.length_append, List.length_singleton]; omega)
                  clear hq6 hg6
                  go_wp2_with (at_builtin; refine wpList_append_by rfl _ _ 29 29 rfl _ _ rfl rfl v' w6 hrun ?_)
                  exact ⟨⟨j + 1, q2 ++ [y], setS f2 y, by go_num, by omega, HS8, HN, HF7, HG8⟩, by simp [intOf]; omega⟩
            · obtain rfl : j = (edg l x).length := by omega
              have HN := Lib.hid HR6.out.all
              have hg6 := HG6.out
              go_wp2_with (fail)
              go_roundg (2 * uns l.length f2 + q2.length)
              case measure => omega
              case rel => exact ⟨q2, f2, HS6, HN, Nat.le_refl _⟩
end Go.Proofs.Ytbdpdbeekbbehaa
