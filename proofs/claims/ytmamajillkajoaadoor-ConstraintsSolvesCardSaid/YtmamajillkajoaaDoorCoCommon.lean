/- What is proved: common: the type of a class, and whether it is without a conflict. -/
import Derived.Test.YtmamajillkajoaaDoorCoMarks
set_option linter.unusedVariables false
namespace Go.Proofs.YtmamajillkajoaaDoor
open Go.RowKit

theorem mrk_mem {l : List Con} {v k e : Nat} (h : e ∈ mrk l v k) : e < k ∧ ∃ c, l[e]? = some c ∧ (c.kind == 0) = true ∧ c.a = (v : Int) := by
  induction k with
  | zero => simp [mrk] at h
  | succ k ih =>
    rw [mrk_succ, List.mem_append] at h
    rcases h with h | h
    · have := ih h
      exact ⟨by omega, this.2⟩
    · unfold mst at h
      split at h
      · rename_i c hc
        split at h
        · simp at h
        · split at h
          · rename_i hk
            have e1 : e = k := by simpa using h
            simp only [Bool.and_eq_true] at hk
            exact ⟨by omega, c, by rw [e1]; exact hc, hk.1, by simpa using hk.2⟩
          · simp at h
      · simp at h
theorem mks_mem {l : List Con} {cl : List Nat} {e : Nat} (h : e ∈ mks l cl) : ∃ v ∈ cl, e ∈ mrk l v l.length := by
  unfold mks at h
  have h2 := (srt_perm _).mem_iff.1 h
  rw [List.mem_flatMap] at h2
  exact h2
theorem mks_lt {l : List Con} {cl : List Nat} {e : Nat} (h : e ∈ mks l cl) : e < l.length := by
  obtain ⟨v, _, h2⟩ := mks_mem h
  exact (mrk_mem h2).1
theorem mks_len {g : Gp} (ho : GpOk g) {cl : List Nat} (h : cl.length ≤ 1000000) : (mks g.l cl).length ≤ 1000000 * 2000000 := by
  unfold mks
  rw [(srt_perm _).length_eq]
  refine Nat.le_trans (flat_len _ _ _) (Nat.mul_le_mul h ?_)
  have := ho.len
  omega

/-- a type is stored -/
def st3 (w : World) (b : Nat) (x : TyV) : World := ((w.setCell ⟨b, 0, none⟩ (.int .i64 x.kind)).setCell ⟨b, 1, none⟩ (.int .i64 x.len)).setCell ⟨b, 2, none⟩ (.string x.nm)
theorem st3_box {w : World} {b : Nat} {o : TyV} (h : w.heap[b]? = some (.cells #[.int .i64 o.kind, .int .i64 o.len, .string o.nm] 39 (0, 0))) (x : TyV) : (st3 w b x).heap[b]? = some (.cells #[.int .i64 x.kind, .int .i64 x.len, .string x.nm] 39 (0, 0)) := by
  have h1 := hset (i := 0) h (.int .i64 x.kind)
  have h2 := hset (i := 1) h1 (.int .i64 x.len)
  have h3 := hset (i := 2) h2 (.string x.nm)
  exact h3
theorem st3_other {w : World} {b k : Nat} (x : TyV) (h : k ≠ b) : (st3 w b x).heap[k]? = w.heap[k]? :=
  (Below.heap_setCell _ _ _ _ h).trans ((Below.heap_setCell _ _ _ _ h).trans (Below.heap_setCell _ _ _ _ h))
theorem st3_size (w : World) (b : Nat) (x : TyV) : (st3 w b x).heap.size = w.heap.size := by simp [st3]
theorem st3_below {B : Nat} {w w' : World} {b : Nat} (h : Below B w w') (hb : B ≤ b) (x : TyV) : Below B w (st3 w' b x) :=
  ((h.setCell (p := ⟨b, 0, none⟩) hb _).setCell (p := ⟨b, 1, none⟩) hb _).setCell (p := ⟨b, 2, none⟩) hb _

set_option maxRecDepth 100000 in
set_option maxHeartbeats 8000000 in
theorem common_any (g : Gp) (ho : GpOk g) (w : World) (s : Int) (Q : Nat → Int) (Y : Option Addr) (cY : Nat) (vs : List Vis) (hg : GD g s Q Y cY vs w) (Xc : Option Addr) (cc : Nat) (cl : List Nat) (hcl : ISl g w Xc cl) (hlt : ∀ v ∈ cl, v < g.n) (hlen : cl.length ≤ 1000000) (r : TyV) (ok : Bool) (hr : typ g.l cl = (r, ok)) :
    Calls Tryd.prog 19 #[.pointer (some ⟨g.gb, 0, none⟩), .slice Xc cl.length cc] w fun e w' => e = .returned (.tuple #[.agg #[.int .i64 r.kind, .int .i64 r.len, .string r.nm], .bool ok]) ∧ Below w.heap.size w w' := by
  have HG := Lib.hid hg
  have HO := Lib.hid ho
  have HCL := Lib.hid hcl
  have HLT := Lib.hid hlt
  have HR := Lib.hid hr
  have hl6 := ho.len
  clear hg ho hcl hlt hr
  go_enter Tryd.func19, Tryd.ntmps19
  go_wp2_with (fail)
  obtain ⟨hb2, hn4, hn6, hs2⟩ := two_new w (.cells #[.int .i64 0, .int .i64 0, .string ⟨#[]⟩] 39) (.cells #[.int .i64 0, .int .i64 0, .string ⟨#[]⟩] 39)
  generalize ((w.alloc (.cells #[.int .i64 0, .int .i64 0, .string ⟨#[]⟩] 39)).alloc (.cells #[.int .i64 0, .int .i64 0, .string ⟨#[]⟩] 39)) = w2 at *
  have HG2 := Lib.hid (HG.out.below HO.out hb2)
  refine (marksOf_any g HO.out w2 s Q Y cY vs HG2.out Xc cc cl (HCL.out.later hb2) HLT.out hlen).mono ?_
  rintro e w3 ⟨Xm, cm, rfl, hom, hb3⟩
  obtain ⟨ms, HMS⟩ : ∃ ms, Hid (mks g.l cl = ms) := ⟨_, Lib.hid rfl⟩
  have hml : ms.length ≤ 1000000 * 2000000 := by rw [← HMS.out]; exact mks_len HO.out hlen
  have HML := Lib.hid (show ∀ e ∈ ms, e < g.l.length from fun e he => mks_lt (HMS.out ▸ he))
  rw [HMS.out] at hom
  rw [HMS.out]
  have HOM := Lib.hid hom
  have HG3 := Lib.hid (HG2.out.below HO.out hb3)
  have HN4 := Lib.hid ((hb3.block w.heap.size (by omega)).trans hn4)
  have HN6 := Lib.hid ((hb3.block (w.heap.size + 1) (by omega)).trans hn6)
  have HB3 := Lib.hid (hb2.trans (hb3.mono (by omega)))
  have hz3 : w.heap.size + 2 ≤ w3.heap.size := by have := hb3.size; omega
  have hz2 : w2.heap.size = w.heap.size + 2 := hs2
  have HZ2 := Lib.hid hz2
  clear hb2 hn4 hn6 hs2 hb3 hom hz2
  go_wp2_with (fail)
  go_loopw [14] (fun i wr => ∃ (j : Nat) (t : TyV), j ≤ ms.length ∧ i = .int .i64 (j : Int) ∧ Hid (cmn g.l (ms.drop j) t = cmn g.l ms noT) ∧ Hid (wr.heap[w.heap.size + 1]? = some (.cells #[.int .i64 t.kind, .int .i64 t.len, .string t.nm] 39 (0, 0))) ∧ Hid (wr.heap[w.heap.size]? = some (.cells #[.int .i64 0, .int .i64 0, .string ⟨#[]⟩] 39 (0, 0))) ∧ Hid (∀ b, b < w3.heap.size → b ≠ w.heap.size + 1 → wr.heap[b]? = w3.heap[b]?) ∧ w3.heap.size ≤ wr.heap.size ∧ Hid (Below w.heap.size w wr)) (fun i _ => ms.length - (intOf i).toNat)
  case atStart => exact ⟨0, noT, Nat.zero_le _, rfl, Lib.hid rfl, HN6, HN4, Lib.hid (fun b _ _ => rfl), Nat.le_refl _, HB3⟩
  case round =>
    obtain ⟨j, t, hj, rfl, hcm, h6, h4, hsm, hzr, hbr⟩ := hrel
    by_cases hjt : j < ms.length
    · obtain ⟨X2, c2, hX, hMr⟩ := int_own HOM.out
      cases hX
      obtain ⟨bm, rfl, hbl, hbz, hmc⟩ := hMr (by omega)
      have hbn : bm ≠ w.heap.size + 1 := by have := HZ2.out; omega
      have r0 : wr.cell? ⟨bm, j, none⟩ = some (.int .i64 ((ms[j] : Nat) : Int)) := (World.cell?_of_block (a := ⟨bm, j, none⟩) (hsm.out bm hbz hbn)).trans (hmc j hjt)
      obtain ⟨e, HE⟩ : ∃ e, Hid (ms[j] = e) := ⟨_, Lib.hid rfl⟩
      have hel : e < g.l.length := by rw [← HE.out]; exact HML.out _ (List.getElem_mem hjt)
      rw [HE.out] at r0
      clear hmc hMr
      have hgz := HG3.out.size
      have hgb := HO.out.b
      have hgbl : g.gb < w.heap.size := by have := HO.out.hi; have := HG.out.size; omega
      have hbx : GBox wr g.gb g.A g.l.length g.c g.mb g.eb g.n s g.rb (.slice Y vs.length cY) := (hsm.out g.gb (by omega) (by omega)).trans HG3.out.box
      have c0 := hbx.cells.1
      clear hbx
      obtain ⟨ab, off, hA, hab, hcs⟩ := HG3.out.con (by omega)
      obtain ⟨cn, HCN⟩ : ∃ cn, Hid (g.l[e] = cn) := ⟨_, Lib.hid rfl⟩
      have hcell : ∀ o, wr.cell? ⟨ab, o, none⟩ = w3.cell? ⟨ab, o, none⟩ := fun o => World.cell?_of_block (a := ⟨ab, o, none⟩) (hsm.out ab (by have := HG.out.size; omega) (by have := HG.out.size; omega))
      obtain ⟨q0, q1, q2, q3, q4, q5, q6, q7⟩ := hcs e hel
      rw [HCN.out] at q3 q4 q5
      have p3 := (hcell _).trans q3
      have p4 := (hcell _).trans q4
      have p5 := (hcell _).trans q5
      rw [hA] at c0
      clear q0 q1 q2 q3 q4 q5 q6 q7 hcs hcell
      have HCS := Lib.hid (show cmn g.l (ms.drop j) t = if exclB t cn.mark then none else cmn g.l (ms.drop (j + 1)) (if t.kind == 0 || covB t cn.mark then cn.mark else t) by
        rw [List.drop_eq_getElem_cons hjt, HE.out]
        simp only [cmn, List.getElem?_eq_getElem hel, HCN.out])
      have t0 := Lib.cell_of_heap h6.out 0
      have t1 := Lib.cell_of_heap h6.out 1
      have t2 := Lib.cell_of_heap h6.out 2
      obtain ⟨x, HX⟩ : ∃ x, Hid (exclB t cn.mark = x) := ⟨_, Lib.hid rfl⟩
      have HEX := Lib.hid (fun W => excl_f t cn.mark x HX.out W)
      rw [HX.out] at HCS
      go_upto_region 6 with fail
      have hba := (Below.refl wr.heap.size wr).alloc (Nat.le_refl _) (.cells #[.int .i64 (cn.mark).kind, .int .i64 (cn.mark).len, .string (cn.mark).nm] 39)
      have hn9 := heap_alloc_new wr (.cells #[.int .i64 (cn.mark).kind, .int .i64 (cn.mark).len, .string (cn.mark).nm] 39)
      have hs9 : (wr.alloc (.cells #[.int .i64 (cn.mark).kind, .int .i64 (cn.mark).len, .string (cn.mark).nm] 39)).heap.size = wr.heap.size + 1 := by simp
      obtain ⟨n9, hn9e⟩ : ∃ n9, n9 = wr.heap.size := ⟨_, rfl⟩
      rw [← hn9e] at hn9 hs9
      rw [← hn9e]
      have h6' := (hba.block (w.heap.size + 1) (by omega)).trans h6.out
      have h4' := (hba.block w.heap.size (by omega)).trans h4.out
      have hsm' : ∀ b, b < w3.heap.size → b ≠ w.heap.size + 1 → (wr.alloc (.cells #[.int .i64 (cn.mark).kind, .int .i64 (cn.mark).len, .string (cn.mark).nm] 39)).heap[b]? = w3.heap[b]? := fun b h1 h2 => (hba.block b (by omega)).trans (hsm.out b h1 h2)
      have hbr' := hbr.out.trans (hba.mono (by have := hbr.out.size; omega))
      generalize (wr.alloc (.cells #[.int .i64 (cn.mark).kind, .int .i64 (cn.mark).len, .string (cn.mark).nm] 39)) = w6 at *
      have hn9a : w3.heap.size ≤ n9 := by omega
      have hn9b : n9 < w6.heap.size := by omega
      have hn9c : wr.heap.size ≤ w6.heap.size := by omega
      clear hba t0 t1 t2 c0 p3 p4 p5 r0 hn9e hs9
      have t0 := Lib.cell_of_heap h6' 0
      have t1 := Lib.cell_of_heap h6' 1
      have t2 := Lib.cell_of_heap h6' 2
      have u0 := Lib.cell_of_heap hn9 0
      have u1 := Lib.cell_of_heap hn9 1
      have u2 := Lib.cell_of_heap hn9 2
      have H6 := Lib.hid h6'
      have H4 := Lib.hid h4'
      have H9 := Lib.hid hn9
      have HSM := Lib.hid hsm'
      have HBR := Lib.hid hbr'
      clear h6' h4' hn9 hsm' hbr'
      go_wp2_with (fail)
      refine (HEX.out w6).mono ?_
      rintro e' w7 ⟨rfl, hb7⟩
      have h6' := (hb7.block (w.heap.size + 1) (by omega)).trans H6.out
      have h4' := (hb7.block w.heap.size (by omega)).trans H4.out
      have h9' := (hb7.block n9 (by omega)).trans H9.out
      have HSM7 := Lib.hid (show ∀ b, b < w3.heap.size → b ≠ w.heap.size + 1 → w7.heap[b]? = w3.heap[b]? from fun b h1 h2 => (hb7.block b (by omega)).trans (HSM.out b h1 h2))
      have HBR7 := Lib.hid (HBR.out.trans (hb7.mono (by have := HBR.out.size; omega)))
      have hz7 := hb7.size
      clear hb7 t0 t1 t2 u0 u1 u2
      have t0 := Lib.cell_of_heap h6' 0
      have t1 := Lib.cell_of_heap h6' 1
      have t2 := Lib.cell_of_heap h6' 2
      have u0 := Lib.cell_of_heap h9' 0
      have u1 := Lib.cell_of_heap h9' 1
      have u2 := Lib.cell_of_heap h9' 2
      have v0 := Lib.cell_of_heap h4' 0
      have v1 := Lib.cell_of_heap h4' 1
      have v2 := Lib.cell_of_heap h4' 2
      have f0 := hfrz h4' 0
      have f1 := hfrz h4' 1
      have f2 := hfrz h4' 2
      have g0 := hfrz h6' 0
      have g1 := hfrz h6' 1
      have g2 := hfrz h6' 2
      have H6 := Lib.hid h6'
      have H4 := Lib.hid h4'
      have H9 := Lib.hid h9'
      clear h6' h4' h9'
      cases x with
      | true =>
        have HRR := Lib.hid (show r = noT ∧ ok = false by
          have h := HR.out
          unfold typ at h
          rw [HMS.out, ← hcm.out, HCS.out, if_pos rfl] at h
          simp only [Prod.mk.injEq] at h
          exact ⟨h.1.symm, h.2.symm⟩)
        obtain ⟨rfl, rfl⟩ := HRR.out
        go_wp2_with (fail)
        have HST := Lib.hid (st3_box (o := noT) H4.out noT)
        have HB8 := Lib.hid (st3_below HBR7.out (Nat.le_refl _) noT)
        generalize hw8 : (((w7.setCell ⟨w.heap.size, 0, none⟩ (.int .i64 0)).setCell ⟨w.heap.size, 1, none⟩ (.int .i64 0)).setCell ⟨w.heap.size, 2, none⟩ (.string ⟨#[]⟩)) = w8
        have hst8 : st3 w7 w.heap.size noT = w8 := hw8
        rw [hst8] at HST HB8
        clear hw8 hst8 v0 v1 v2
        have v0 := Lib.cell_of_heap HST.out 0
        have v1 := Lib.cell_of_heap HST.out 1
        have v2 := Lib.cell_of_heap HST.out 2
        refine bodyPost_ret (v := .tuple #[.agg #[.int .i64 0, .int .i64 0, .string ⟨#[]⟩], .bool false]) (by simp [results, Tryd.results19, go_sem, v0, v1, v2, noT]) rfl ⟨rfl, HB8.out⟩
      | false =>
        rw [if_neg (by simp)] at HCS
        obtain ⟨z, HZ⟩ : ∃ z, Hid ((t.kind == 0) = z) := ⟨_, Lib.hid rfl⟩
        have hz := HZ.out
        obtain ⟨y, HY⟩ : ∃ y, Hid (covB t cn.mark = y) := ⟨_, Lib.hid rfl⟩
        have HCV := Lib.hid (fun W => covers_any t cn.mark W)
        rw [HY.out] at HCV
        rw [HZ.out, HY.out] at HCS
        cases z with
        | true =>
          have HCM := Lib.hid (show cmn g.l (ms.drop (j + 1)) cn.mark = cmn g.l ms noT by rw [← hcm.out, HCS.out]; rfl)
          go_wp2_with (fail)
          exact ⟨⟨j + 1, cn.mark, by omega, by go_num, HCM, Lib.hid (st3_box H6.out cn.mark), Lib.hid ((st3_other cn.mark (by omega)).trans H4.out), Lib.hid (fun b h1 h2 => (st3_other cn.mark h2).trans (HSM7.out b h1 h2)), (st3_size w7 (w.heap.size + 1) cn.mark).symm ▸ (by omega), Lib.hid (st3_below HBR7.out (by omega) cn.mark)⟩, by simp [intOf]; omega⟩
        | false =>
          go_wp2_with (fail)
          refine (HCV.out w7).mono ?_
          rintro e'' w8 ⟨rfl, hb8⟩
          have h6' := (hb8.block (w.heap.size + 1) (by omega)).trans H6.out
          have h4' := (hb8.block w.heap.size (by omega)).trans H4.out
          have h9' := (hb8.block n9 (by omega)).trans H9.out
          have HSM8 := Lib.hid (show ∀ b, b < w3.heap.size → b ≠ w.heap.size + 1 → w8.heap[b]? = w3.heap[b]? from fun b h1 h2 => (hb8.block b (by omega)).trans (HSM7.out b h1 h2))
          have HBR8 := Lib.hid (HBR7.out.trans (hb8.mono (by have := HBR7.out.size; omega)))
          have hz8 := hb8.size
          clear hb8 t0 t1 t2 u0 u1 u2 v0 v1 v2 f0 f1 f2 g0 g1 g2
          have t0 := Lib.cell_of_heap h6' 0
          have t1 := Lib.cell_of_heap h6' 1
          have t2 := Lib.cell_of_heap h6' 2
          have u0 := Lib.cell_of_heap h9' 0
          have u1 := Lib.cell_of_heap h9' 1
          have u2 := Lib.cell_of_heap h9' 2
          have g0 := hfrz h6' 0
          have g1 := hfrz h6' 1
          have g2 := hfrz h6' 2
          have H6 := Lib.hid h6'
          have H4 := Lib.hid h4'
          clear h6' h4' h9'
          cases y with
          | true =>
            have HCM := Lib.hid (show cmn g.l (ms.drop (j + 1)) cn.mark = cmn g.l ms noT by rw [← hcm.out, HCS.out]; rfl)
            go_wp2_with (fail)
            exact ⟨⟨j + 1, cn.mark, by omega, by go_num, HCM, Lib.hid (st3_box H6.out cn.mark), Lib.hid ((st3_other cn.mark (by omega)).trans H4.out), Lib.hid (fun b h1 h2 => (st3_other cn.mark h2).trans (HSM8.out b h1 h2)), (st3_size w8 (w.heap.size + 1) cn.mark).symm ▸ (by omega), Lib.hid (st3_below HBR8.out (by omega) cn.mark)⟩, by simp [intOf]; omega⟩
          | false =>
            have HCM := Lib.hid (show cmn g.l (ms.drop (j + 1)) t = cmn g.l ms noT by rw [← hcm.out, HCS.out]; rfl)
            go_wp2_with (fail)
            exact ⟨⟨j + 1, t, by omega, by go_num, HCM, H6, H4, HSM8, by omega, HBR8⟩, by simp [intOf]; omega⟩
    · obtain rfl : j = ms.length := by omega
      have HRR := Lib.hid (show r = (if t.kind == 5 || t.kind == 6 then noT else t) ∧ ok = true by
        have h := HR.out
        have hc := hcm.out
        rw [List.drop_length] at hc
        unfold typ at h
        rw [HMS.out, ← hc] at h
        simp only [cmn, Prod.mk.injEq] at h
        exact ⟨h.1.symm, h.2.symm⟩)
      obtain ⟨hr1, rfl⟩ := HRR.out
      have t0 := Lib.cell_of_heap h6.out 0
      have t1 := Lib.cell_of_heap h6.out 1
      have t2 := Lib.cell_of_heap h6.out 2
      have v0 := Lib.cell_of_heap h4.out 0
      have v1 := Lib.cell_of_heap h4.out 1
      have v2 := Lib.cell_of_heap h4.out 2
      have f0 := hfrz h4.out 0
      have f1 := hfrz h4.out 1
      have f2 := hfrz h4.out 2
      have g0 := hfrz h6.out 0
      have g1 := hfrz h6.out 1
      have g2 := hfrz h6.out 2
      have hk : (t.kind == 5) = true ∨ (t.kind == 5) = false ∧ ((t.kind == 6) = true ∨ (t.kind == 6) = false) := by cases (t.kind == 5) <;> cases (t.kind == 6) <;> simp
      have hne : w.heap.size ≠ w.heap.size + 1 := by omega
      rcases hk with k5 | ⟨k5, k6 | k6⟩
      · have hr2 : r = noT := by rw [hr1, k5]; rfl
        subst hr2
        clear hr1
        go_upto_region 13 with fail
        have h6' := st3_box (o := t) h6.out noT
        have h4' := (st3_other (w := wr) (b := w.heap.size + 1) noT hne).trans h4.out
        have hb' := st3_below hbr.out (Nat.le_succ w.heap.size) noT
        generalize hw8 : (((wr.setCell ⟨w.heap.size + 1, 0, none⟩ (.int .i64 0)).setCell ⟨w.heap.size + 1, 1, none⟩ (.int .i64 0)).setCell ⟨w.heap.size + 1, 2, none⟩ (.string ⟨#[]⟩)) = w8
        have hst8 : st3 wr (w.heap.size + 1) noT = w8 := hw8
        rw [hst8] at h6' h4' hb'
        clear hw8 hst8 t0 t1 t2 v0 v1 v2 f0 f1 f2 g0 g1 g2
        have t0 := Lib.cell_of_heap h6' 0
        have t1 := Lib.cell_of_heap h6' 1
        have t2 := Lib.cell_of_heap h6' 2
        have v0 := Lib.cell_of_heap h4' 0
        have v1 := Lib.cell_of_heap h4' 1
        have v2 := Lib.cell_of_heap h4' 2
        have f0 := hfrz h4' 0
        have f1 := hfrz h4' 1
        have f2 := hfrz h4' 2
        have H4' := Lib.hid h4'
        have HB' := Lib.hid hb'
        clear h6' h4' hb'
        go_wp2_with (fail)
        have h4' := st3_box (o := noT) H4'.out noT
        have hb' := st3_below HB'.out (Nat.le_refl w.heap.size) noT
        generalize hw9 : (((w8.setCell ⟨w.heap.size, 0, none⟩ (.int .i64 noT.kind)).setCell ⟨w.heap.size, 1, none⟩ (.int .i64 noT.len)).setCell ⟨w.heap.size, 2, none⟩ (.string noT.nm)) = w9
        have hst9 : st3 w8 w.heap.size noT = w9 := hw9
        rw [hst9] at h4' hb'
        clear hw9 hst9 v0 v1 v2
        have v0 := Lib.cell_of_heap h4' 0
        have v1 := Lib.cell_of_heap h4' 1
        have v2 := Lib.cell_of_heap h4' 2
        refine bodyPost_ret (v := .tuple #[.agg #[.int .i64 0, .int .i64 0, .string ⟨#[]⟩], .bool true]) (by simp [results, Tryd.results19, go_sem, v0, v1, v2, noT]) rfl ⟨rfl, hb'⟩
      · have hr2 : r = noT := by rw [hr1, k5, k6]; rfl
        subst hr2
        clear hr1
        go_upto_region 13 with fail
        have h6' := st3_box (o := t) h6.out noT
        have h4' := (st3_other (w := wr) (b := w.heap.size + 1) noT hne).trans h4.out
        have hb' := st3_below hbr.out (Nat.le_succ w.heap.size) noT
        generalize hw8 : (((wr.setCell ⟨w.heap.size + 1, 0, none⟩ (.int .i64 0)).setCell ⟨w.heap.size + 1, 1, none⟩ (.int .i64 0)).setCell ⟨w.heap.size + 1, 2, none⟩ (.string ⟨#[]⟩)) = w8
        have hst8 : st3 wr (w.heap.size + 1) noT = w8 := hw8
        rw [hst8] at h6' h4' hb'
        clear hw8 hst8 t0 t1 t2 v0 v1 v2 f0 f1 f2 g0 g1 g2
        have t0 := Lib.cell_of_heap h6' 0
        have t1 := Lib.cell_of_heap h6' 1
        have t2 := Lib.cell_of_heap h6' 2
        have v0 := Lib.cell_of_heap h4' 0
        have v1 := Lib.cell_of_heap h4' 1
        have v2 := Lib.cell_of_heap h4' 2
        have f0 := hfrz h4' 0
        have f1 := hfrz h4' 1
        have f2 := hfrz h4' 2
        have H4' := Lib.hid h4'
        have HB' := Lib.hid hb'
        clear h6' h4' hb'
        go_wp2_with (fail)
        have h4' := st3_box (o := noT) H4'.out noT
        have hb' := st3_below HB'.out (Nat.le_refl w.heap.size) noT
        generalize hw9 : (((w8.setCell ⟨w.heap.size, 0, none⟩ (.int .i64 noT.kind)).setCell ⟨w.heap.size, 1, none⟩ (.int .i64 noT.len)).setCell ⟨w.heap.size, 2, none⟩ (.string noT.nm)) = w9
        have hst9 : st3 w8 w.heap.size noT = w9 := hw9
        rw [hst9] at h4' hb'
        clear hw9 hst9 v0 v1 v2
        have v0 := Lib.cell_of_heap h4' 0
        have v1 := Lib.cell_of_heap h4' 1
        have v2 := Lib.cell_of_heap h4' 2
        refine bodyPost_ret (v := .tuple #[.agg #[.int .i64 0, .int .i64 0, .string ⟨#[]⟩], .bool true]) (by simp [results, Tryd.results19, go_sem, v0, v1, v2, noT]) rfl ⟨rfl, hb'⟩
      · have hr2 : r = t := by rw [hr1, k5, k6]; rfl
        subst hr2
        clear hr1
        go_wp2_with (fail)
        have h4' := st3_box (o := noT) h4.out r
        have hb' := st3_below hbr.out (Nat.le_refl w.heap.size) r
        generalize hw8 : (((wr.setCell ⟨w.heap.size, 0, none⟩ (.int .i64 r.kind)).setCell ⟨w.heap.size, 1, none⟩ (.int .i64 r.len)).setCell ⟨w.heap.size, 2, none⟩ (.string r.nm)) = w8
        have hst8 : st3 wr w.heap.size r = w8 := hw8
        rw [hst8] at h4' hb'
        clear hw8 hst8 v0 v1 v2
        have v0 := Lib.cell_of_heap h4' 0
        have v1 := Lib.cell_of_heap h4' 1
        have v2 := Lib.cell_of_heap h4' 2
        refine bodyPost_ret (v := .tuple #[.agg #[.int .i64 r.kind, .int .i64 r.len, .string r.nm], .bool true]) (by simp [results, Tryd.results19, go_sem, v0, v1, v2]) rfl ⟨rfl, hb'⟩
end Go.Proofs.YtmamajillkajoaaDoor
