/- What is proved: copied of the reference returns the tree in new memory, its rows in blocks of their own. -/
import Derived.Test.YtjikfdifcpdhhaaSep
set_option linter.unusedVariables false
namespace Go.Proofs.Ytjikfdifcpdhhaa
open Go.RowKit

theorem Made.empty {B : Nat} {W : World} (hB : B ≤ W.heap.size) : Made B (.slice (some ⟨W.heap.size, 0, none⟩) 0 0) [] (W.alloc (.cells #[] 24)) :=
  ⟨⟨by simp [ncells], .inr ⟨W.heap.size, 0, #[], rfl, hB, heap_alloc_new W _, Nat.le_refl _, by unfold maxLen; omega, rfl, rfl⟩⟩, by simp⟩

theorem nbox_alloc' {W : World} {b : Nat} {x : NT} (h : NBox W b x) (o : Obj) : NBox (W.alloc o) b x := (heap_alloc_old _ _ (Array.getElem?_eq_some_iff.1 h).1).trans h
theorem nbox_grown' {W W' : World} {b : Nat} {x : NT} {row : Option Nat} (h : NBox W b x) (hg : W.grownBy W' row) (hne : row ≠ some b) : NBox W' b x := (hg.block b (Array.getElem?_eq_some_iff.1 h).1 (fun e => hne e.symm)).trans h

set_option maxHeartbeats 4000000 in
set_option maxRecDepth 100000 in
theorem copied_sep : ∀ n : NT, CopiesS 58 n := NT.ind fun n ih w hin hcn => by
  obtain ⟨i0, hi0, hz0, hz1, hz2⟩ := info_parts infoNode
  have hce := NT.cnt_eq n
  have hll := NT.cnts_len n.kids
  have HCP := Lib.hid ih
  have HI := Lib.hid hin
  clear ih hin
  go_enter Try.func58, Try.ntmps58
  go_wp2_with (fail)
  have hb0 : Below w.heap.size w ((w.alloc (.cells #[.int .i64 n.kind, .string n.text, .int .i64 n.lo, .int .i64 n.hi, .slice n.A n.kids.length n.c] 24)).alloc (.cells #[.int .i64 0, .string ⟨#[]⟩, .int .i64 0, .int .i64 0, .slice none 0 0] 24)) := ((Below.refl _ _).alloc (Nat.le_refl _) _).alloc (by simp) _
  have hn : NBox ((w.alloc (.cells #[.int .i64 n.kind, .string n.text, .int .i64 n.lo, .int .i64 n.hi, .slice n.A n.kids.length n.c] 24)).alloc (.cells #[.int .i64 0, .string ⟨#[]⟩, .int .i64 0, .int .i64 0, .slice none 0 0] 24)) w.heap.size n := (heap_alloc_old _ _ (by simp)).trans (NBox.new w n)
  have hr : NBox ((w.alloc (.cells #[.int .i64 n.kind, .string n.text, .int .i64 n.lo, .int .i64 n.hi, .slice n.A n.kids.length n.c] 24)).alloc (.cells #[.int .i64 0, .string ⟨#[]⟩, .int .i64 0, .int .i64 0, .slice none 0 0] 24)) (w.heap.size + 1) (.mk 0 ⟨#[]⟩ 0 0 none 0 []) := by
    have h := heap_alloc_new (w.alloc (.cells #[.int .i64 n.kind, .string n.text, .int .i64 n.lo, .int .i64 n.hi, .slice n.A n.kids.length n.c] 24)) (.cells #[.int .i64 0, .string ⟨#[]⟩, .int .i64 0, .int .i64 0, .slice none 0 0] 24)
    rw [World.size_alloc] at h
    exact h
  have hz : ((w.alloc (.cells #[.int .i64 n.kind, .string n.text, .int .i64 n.lo, .int .i64 n.hi, .slice n.A n.kids.length n.c] 24)).alloc (.cells #[.int .i64 0, .string ⟨#[]⟩, .int .i64 0, .int .i64 0, .slice none 0 0] 24)).heap.size = w.heap.size + 2 := by simp
  generalize ((w.alloc (.cells #[.int .i64 n.kind, .string n.text, .int .i64 n.lo, .int .i64 n.hi, .slice n.A n.kids.length n.c] 24)).alloc (.cells #[.int .i64 0, .string ⟨#[]⟩, .int .i64 0, .int .i64 0, .slice none 0 0] 24)) = W at *
  have HM0 := Lib.hid (Made.empty (B := W.heap.size) (W := W) (Nat.le_refl _))
  rw [hz] at HM0
  have hba := (Below.refl W.heap.size W).alloc (Nat.le_refl _) (.cells #[] 24)
  have HB0 := Lib.hid (hb0.trans (hba.mono hb0.size))
  have HN0 := Lib.hid (hn.below hba (by omega))
  have HR0 := Lib.hid (hr.below hba (by omega))
  have HZ := Lib.hid hz
  have HZ1 := Lib.hid (show w.heap.size + 2 ≤ (W.alloc (.cells #[] 24)).heap.size by rw [World.size_alloc]; omega)
  clear hb0 hn hr hba
  go_loopw [3, 4] (fun v i wr => ∃ (k : Nat) (l' : List NT), k ≤ n.kids.length ∧ i = .int .i64 (k : Int) ∧ l'.length = k ∧ Hid (w.heap.size + 2 ≤ wr.heap.size) ∧ Hid (l'.map NT.strip = (n.kids.take k).map NT.strip) ∧ Hid (Made (w.heap.size + 2) v l' wr) ∧ Hid ((NT.blkss l').Nodup) ∧ Hid (∀ b ∈ NT.blkss l', Thaw wr b) ∧ Hid (NBox wr w.heap.size n) ∧ Hid (NBox wr (w.heap.size + 1) (.mk 0 ⟨#[]⟩ 0 0 none 0 [])) ∧ Hid (Below w.heap.size w wr)) (fun _ i _ => n.kids.length - (intOf i).toNat)
  case atStart => exact ⟨0, [], Nat.zero_le _, rfl, rfl, HZ1, rfl, HM0, Lib.hid (by simp [NT.blkss]), Lib.hid (by simp [NT.blkss]), HN0, HR0, HB0⟩
  case round =>
    obtain ⟨k, l', hk, rfl, hlk, hzr, hst, hmd, hnd, hth, hnb, hrb, hbw⟩ := hrel
    have HLK := Lib.hid hlk
    have hzw := hbw.out.size
    have hzr2 := hzr.out
    clear hlk
    obtain ⟨b0, b1, b2, b3, b4⟩ := hnb.out.cells
    by_cases hlt : k < n.kids.length
    · obtain ⟨b, off, hA, hb, hcw⟩ := HI.out.cells k hlt
      obtain ⟨c0, c1, c2, c3, c4⟩ := hcw.below hbw.out hb
      clear hcw
      rw [hA] at b4
      clear hA
      have HIx := Lib.hid (InT.later (InT.kidAt HI.out hlt) hbw.out)
      have HC := Lib.hid (HCP.out _ (List.getElem_mem hlt))
      have hcx := NT.cnts_mem (List.getElem_mem hlt)
      have HT := Lib.hid (show (n.kids.take (k + 1)).map NT.strip = (n.kids.take k).map NT.strip ++ [NT.strip n.kids[k]] by rw [List.take_succ_eq_append_getElem hlt, List.map_append]; rfl)
      have g1 : (0 : Int) ≤ (k : Int) := by omega
      have g2 : (k : Int) < (n.kids.length : Int) := by omega
      generalize n.kids[k] = x at *
      go_wp2_with (fail)
      refine (HC.out _ HIx.out (by omega)).mono ?_
      rintro e w1 ⟨m, rfl, hms, hmi, hmn, hmt, hb1⟩
      have HND : Hid ((NT.blkss (l' ++ [m])).Nodup) := nodup_more hnd.out (fun b hb => (made_lt hmd.out b hb).2.1) hmn (fun b hb => (NT.blks_in m hmi b hb).1)
      have HMT := Lib.hid hmt
      have HFR := Lib.hid (show ∀ b ∈ NT.blks m, wr.heap.size ≤ b ∧ b < w1.heap.size from fun b hb => NT.blks_in m hmi b hb)
      have hzb := hb1.size
      have HM := Lib.hid (hmd.out.below hb1)
      have HBB := Lib.hid hb1
      have HVL := Lib.hid (fun b e => (hmd.out.own.lt b e))
      have HMI := Lib.hid hmi
      have HMS := Lib.hid hms
      have HB2 := Lib.hid (hbw.out.trans (hb1.mono hzw))
      have HN1 := Lib.hid (hnb.out.below hb1 (by omega))
      have HR1 := Lib.hid (hrb.out.below hb1 (by omega))
      clear hb1 hmi hms hmn hmt b0 b1 b2 b3 b4 c0 c1 c2 c3 c4
      go_wp2_with (at_builtin; refine wpList_append_lies _ rfl _ _ 22 rfl (w.heap.size + 2) 24 i0 _ 5 64 Try.underlying22 hi0 hz0 hz1 hz2 rfl (by decide) _ _ _ rfl (HM.out.own.alloc _) ⟨w1.heap.size, 0, none⟩ 1 1 (ncells [m]) rfl rfl ?c1 (ncells_one _) (by decide) ?c3 ?c4 ?c5 _ rfl ?_)
      case c1 => exact World.news_of_block (cs := #[.int .i64 m.kind, .string m.text, .int .i64 m.lo, .int .i64 m.hi, .slice m.A m.kids.length m.c]) (heap_alloc_new w1 _)
      case c3 => have := HLK.out; unfold maxLen; omega
      case c4 => have := HLK.out; omega
      case c5 => simp; omega
      intro g cap w3 hown hgr hsel hgl
      have HM3 := Lib.hid (HM.out.more HMI.out (by omega) (fun b e => (HVL.out b e).2) _ hown hgr (by rw [World.size_alloc]; exact hsel))
      have HS3 := Lib.hid (show (l' ++ [m]).map NT.strip = (n.kids.take (k + 1)).map NT.strip from by rw [HT.out, List.map_append, hst.out, List.map_cons, List.map_nil, HMS.out])
      have HB3 := Lib.hid ((HB2.out.alloc (by omega) (.cells #[.int .i64 m.kind, .string m.text, .int .i64 m.lo, .int .i64 m.hi, .slice m.A m.kids.length m.c] 24)).grown hgr (by simp; omega) (fun b e => by have := (HM.out.own.lt b e).1; omega))
      have HTH := Lib.hid (thaw_more hth.out (fun b hb => (made_lt hmd.out b hb).2) HBB.out HMT.out HFR.out (fun b e => (HVL.out b e).2) _ hgr)
      have HN3 := Lib.hid (nbox_grown' (nbox_alloc' HN1.out (.cells #[.int .i64 m.kind, .string m.text, .int .i64 m.lo, .int .i64 m.hi, .slice m.A m.kids.length m.c] 24)) hgr (fun e => by have := (HVL.out _ e).1; omega))
      have HR3 := Lib.hid (nbox_grown' (nbox_alloc' HR1.out (.cells #[.int .i64 m.kind, .string m.text, .int .i64 m.lo, .int .i64 m.hi, .slice m.A m.kids.length m.c] 24)) hgr (fun e => by have := (HVL.out _ e).1; omega))
      have HZ3 := Lib.hid (show w.heap.size + 2 ≤ w3.heap.size by have := hgr.size; rw [World.size_alloc] at this; omega)
      clear hown hgr hsel
      go_wp2_with (fail)
      exact ⟨⟨k + 1, l' ++ [m], by omega, by go_num, by have := HLK.out; simp; omega, HZ3, HS3, HM3, HND, HTH, HN3, HR3, HB3⟩, by simp [intOf]; omega⟩
    · have e : n.kids.take k = n.kids := List.take_of_length_le (by omega)
      rw [e] at hst
      clear e
      obtain ⟨A', c', hv, hcap, hrow⟩ := nodes_ownS hmd.out.own
      have hMd := hmd.out
      rw [hv] at hMd
      subst hv
      have HNN := Lib.hid (made_nodup hMd hnd.out)
      have HNT := Lib.hid (made_thaw hMd hth.out)
      have HW := Lib.hid (show RowS (Fresh W wr) wr A' l' from hrow.mono (fun b hb => by have h := hMd.own.lt b hb; have h2 := HZ.out; unfold Fresh; omega))
      have HK := Lib.hid (show ∀ x ∈ l', InS (Fresh W wr) wr x from fun x hx => InS.mono (fun b hb => by have h2 := HZ.out; unfold Fresh; omega) x (hMd.kids x hx))
      have HN := Lib.hid hnb.out
      have HR := Lib.hid hrb.out
      have HB := Lib.hid hbw.out
      have HS := Lib.hid hst.out
      have n1 := hnb.out
      have r1 := hrb.out
      clear hMd hrow hmd hnd hth b0 b1 b2 b3 b4
      obtain ⟨a0, a1, a2, a3, a4⟩ := n1.cells
      have f4 := n1.frozen 4
      have g0 := r1.frozen 0
      have g1 := r1.frozen 1
      have g2 := r1.frozen 2
      have g3 := r1.frozen 3
      have g4 := r1.frozen 4
      obtain ⟨q0, q1, q2, q3, q4⟩ := r1.cells
      clear n1 r1
      go_wp2_with (fail)
      have hb2 := putv_below (HB.out.setCell (p := ⟨w.heap.size, 4, none⟩) (Nat.le_refl _) (.slice A' l'.length c')) (b := w.heap.size + 1) (by omega) (.int .i64 n.kind) (.string n.text) (.int .i64 n.lo) (.int .i64 n.hi) (.slice A' l'.length c')
      have hn2 := NBox.putv (show NBox (wr.setCell ⟨w.heap.size, 4, none⟩ (.slice A' l'.length c')) (w.heap.size + 1) (.mk 0 ⟨#[]⟩ 0 0 none 0 []) from (Below.heap_setCell wr ⟨w.heap.size, 4, none⟩ _ _ (by show w.heap.size + 1 ≠ w.heap.size; omega)).trans HR.out) n.kind n.text n.lo n.hi A' c' l'
      have hks : KeepS (Fresh W wr) wr (putv (wr.setCell ⟨w.heap.size, 4, none⟩ (.slice A' l'.length c')) (w.heap.size + 1) (.int .i64 n.kind) (.string n.text) (.int .i64 n.lo) (.int .i64 n.hi) (.slice A' l'.length c')) := fun b hb => by
        have hb' : w.heap.size + 2 ≤ b := by have := hb.1; omega
        have e : ∀ (X : World) (k o : Nat) (v : Value), k < w.heap.size + 2 → (X.setCell ⟨k, o, none⟩ v).heap[b]? = X.heap[b]? := fun X k o v hk => Below.heap_setCell X ⟨k, o, none⟩ v b (by show b ≠ k; omega)
        unfold putv
        rw [e _ _ _ _ (by omega), e _ _ _ _ (by omega), e _ _ _ _ (by omega), e _ _ _ _ (by omega), e _ _ _ _ (by omega), e _ _ _ _ (by omega)]
      have hsz : wr.heap.size = (putv (wr.setCell ⟨w.heap.size, 4, none⟩ (.slice A' l'.length c')) (w.heap.size + 1) (.int .i64 n.kind) (.string n.text) (.int .i64 n.lo) (.int .i64 n.hi) (.slice A' l'.length c')).heap.size := by simp
      have hin2 : InS (Fresh w (putv (wr.setCell ⟨w.heap.size, 4, none⟩ (.slice A' l'.length c')) (w.heap.size + 1) (.int .i64 n.kind) (.string n.text) (.int .i64 n.lo) (.int .i64 n.hi) (.slice A' l'.length c'))) (putv (wr.setCell ⟨w.heap.size, 4, none⟩ (.slice A' l'.length c')) (w.heap.size + 1) (.int .i64 n.kind) (.string n.text) (.int .i64 n.lo) (.int .i64 n.hi) (.slice A' l'.length c')) (.mk n.kind n.text n.lo n.hi A' c' l') := by
        have hf : ∀ b, Fresh W wr b → Fresh w (putv (wr.setCell ⟨w.heap.size, 4, none⟩ (.slice A' l'.length c')) (w.heap.size + 1) (.int .i64 n.kind) (.string n.text) (.int .i64 n.lo) (.int .i64 n.hi) (.slice A' l'.length c')) b := fun b hb => ⟨by have := hb.1; omega, by rw [← hsz]; exact hb.2⟩
        exact (inS_iff _).2 ⟨(HW.out.keep hks).mono hf, hcap, fun k hk => InS.mono hf k (InS.keep hks k (HK.out k hk))⟩
      have hth2 : ∀ b ∈ NT.blks (.mk n.kind n.text n.lo n.hi A' c' l'), Thaw (putv (wr.setCell ⟨w.heap.size, 4, none⟩ (.slice A' l'.length c')) (w.heap.size + 1) (.int .i64 n.kind) (.string n.text) (.int .i64 n.lo) (.int .i64 n.hi) (.slice A' l'.length c')) b := fun b hb => by
        have hf := NT.blks_in _ ((inS_iff (S := Fresh W wr) (w := wr) (.mk n.kind n.text n.lo n.hi A' c' l')).2 ⟨HW.out, hcap, HK.out⟩) b hb
        rw [NT.blks_eq] at hb
        exact (HNT.out b hb).keep (hks b hf)
      have HTH2 := Lib.hid hth2
      clear hth2
      obtain ⟨z0, z1, z2, z3, z4⟩ := hn2.cells
      have he : NT.strip (.mk n.kind n.text n.lo n.hi A' c' l') = NT.strip n := (NT.strip_iff _ _).2 ⟨rfl, rfl, rfl, rfl, HS.out⟩
      clear q0 q1 q2 q3 q4 g0 g1 g2 g3 g4 a0 a1 a2 a3 a4 f4 hks hn2
      dsimp only [putv] at hsz hin2 z0 z1 z2 z3 z4 hb2 HTH2
      generalize (((((wr.setCell ⟨w.heap.size, 4, none⟩ (.slice A' l'.length c')).setCell ⟨w.heap.size + 1, 0, none⟩ (.int .i64 n.kind)).setCell ⟨w.heap.size + 1, 1, none⟩ (.string n.text)).setCell ⟨w.heap.size + 1, 2, none⟩ (.int .i64 n.lo)).setCell ⟨w.heap.size + 1, 3, none⟩ (.int .i64 n.hi)).setCell ⟨w.heap.size + 1, 4, none⟩ (.slice A' l'.length c') = V at *
      exact bodyPost_ret (v := .agg #[.int .i64 n.kind, .string n.text, .int .i64 n.lo, .int .i64 n.hi, .slice A' l'.length c']) (by simp [results, Try.results58, go_sem, z0, z1, z2, z3, z4, NT.kind, NT.text, NT.lo, NT.hi, NT.A, NT.c, NT.kids]) rfl ⟨.mk n.kind n.text n.lo n.hi A' c' l', rfl, he, hin2, by rw [NT.blks_eq]; exact HNN.out, HTH2.out, hb2⟩
end Go.Proofs.Ytjikfdifcpdhhaa
