/- What is proved: clone returns the tree in new memory whose rows are all in blocks of their own. -/
import Derived.Test.YtjikfdifcpdhhaaClone
import Derived.Test.YtjikfdifcpdhhaaGet
set_option linter.unusedVariables false
namespace Go.Proofs.Ytjikfdifcpdhhaa
open Go.RowKit

namespace NT
mutual
/-- the blocks in which the kids of a tree's nodes lie -/
def blks : NT → List Nat
  | mk _ _ _ _ A _ ks => (match A, ks with | some a, _ :: _ => [a.block] | _, _ => []) ++ blkss ks
def blkss : List NT → List Nat
  | [] => []
  | k :: ks => blks k ++ blkss ks
end
def blk0 (A : Option Addr) (ks : List NT) : List Nat := match A, ks with | some a, _ :: _ => [a.block] | _, _ => []
theorem blks_eq (n : NT) : blks n = blk0 n.A n.kids ++ blkss n.kids := by cases n; simp [blks, blk0, A, kids]
theorem blkss_append (l m : List NT) : blkss (l ++ m) = blkss l ++ blkss m := by
  induction l with
  | nil => rfl
  | cons x xs ih => simp [blkss, ih]
theorem mem_blkss {b : Nat} (l : List NT) : b ∈ blkss l ↔ ∃ k ∈ l, b ∈ blks k := by
  induction l with
  | nil => simp [blkss]
  | cons x xs ih => simp [blkss, ih]
theorem blks_in {S : Nat → Prop} {w : World} : ∀ n : NT, InS S w n → ∀ b ∈ blks n, S b := ind fun n ih h b hb => by
  obtain ⟨h1, _, h3⟩ := (inS_iff n).1 h
  rw [blks_eq] at hb
  rcases List.mem_append.1 hb with hb | hb
  · cases hk : n.kids with
    | nil => rw [hk] at hb; unfold blk0 at hb; split at hb <;> simp_all
    | cons x xs =>
      obtain ⟨b', off, hA, hS, _⟩ := h1 (by rw [hk]; simp)
      rw [hk, hA] at hb
      simp [blk0] at hb
      subst hb; exact hS
  · obtain ⟨k, hk, hbk⟩ := (mem_blkss _).1 hb
    exact ih k hk (h3 k hk) b hbk
end NT

/-- the cells of a block may be written -/
def Thaw (w : World) (b : Nat) : Prop := ∀ j, w.frozen? ⟨b, j, none⟩ = false
theorem Thaw.keep {w w' : World} {b : Nat} (h : Thaw w b) (hb : w'.heap[b]? = w.heap[b]?) : Thaw w' b := fun j => by
  have := h j
  unfold World.frozen? at *
  simp only [hb]
  exact this
/-- a call that returns a copy of a tree in new memory, its rows in blocks of their own -/
def CopiesS (f : Nat) (n : NT) : Prop := ∀ w : World, InT w.heap.size w n → NT.cnt n ≤ 1000000000 →
  Calls Try.prog f #[.agg #[.int .i64 n.kind, .string n.text, .int .i64 n.lo, .int .i64 n.hi, .slice n.A n.kids.length n.c]] w fun e w' => ∃ m : NT, e = .returned (.agg #[.int .i64 m.kind, .string m.text, .int .i64 m.lo, .int .i64 m.hi, .slice m.A m.kids.length m.c]) ∧ NT.strip m = NT.strip n ∧ InS (Fresh w w') w' m ∧ (NT.blks m).Nodup ∧ (∀ b ∈ NT.blks m, Thaw w' b) ∧ Below w.heap.size w w'
theorem nodup_more {l : List NT} {x : NT} {M : Nat} (h : (NT.blkss l).Nodup) (hl : ∀ b ∈ NT.blkss l, b < M) (hx : (NT.blks x).Nodup) (hxl : ∀ b ∈ NT.blks x, M ≤ b) : (NT.blkss (l ++ [x])).Nodup := by
  rw [NT.blkss_append]
  have e : NT.blkss [x] = NT.blks x := by simp [NT.blkss]
  rw [e, List.nodup_append]
  refine ⟨h, hx, fun a ha b hb => ?_⟩
  have h1 := hl a ha
  have h2 := hxl b hb
  omega
theorem made_lt {B : Nat} {v : Value} {l : List NT} {W : World} (h : Made B v l W) : ∀ b ∈ NT.blkss l, B ≤ b ∧ b < W.heap.size ∧ v.ownBlock ≠ some b := fun b hb => by
  obtain ⟨k, hk, hbk⟩ := (NT.mem_blkss _).1 hb
  exact NT.blks_in k (h.kids k hk) b hbk
theorem thaw_more {l : List NT} {m : NT} {wr w1 w3 : World} {v : Value} (h1 : ∀ b ∈ NT.blkss l, Thaw wr b) (hl : ∀ b ∈ NT.blkss l, b < wr.heap.size ∧ v.ownBlock ≠ some b) (hb : Below wr.heap.size wr w1) (h2 : ∀ b ∈ NT.blks m, Thaw w1 b) (hm : ∀ b ∈ NT.blks m, wr.heap.size ≤ b ∧ b < w1.heap.size) (hv : ∀ b, v.ownBlock = some b → b < wr.heap.size) (o : Obj) (hg : (w1.alloc o).grownBy w3 v.ownBlock) : ∀ b ∈ NT.blkss (l ++ [m]), Thaw w3 b := fun b hb' => by
  have hz := hb.size
  have keep : ∀ b, b < w1.heap.size → v.ownBlock ≠ some b → w3.heap[b]? = w1.heap[b]? := fun b hlt hne => (hg.block b (by rw [World.size_alloc]; omega) (fun e => hne e.symm)).trans (heap_alloc_old _ _ hlt)
  rw [NT.blkss_append, List.mem_append] at hb'
  rcases hb' with hb' | hb'
  · have := hl b hb'
    exact (h1 b hb').keep ((keep b (by omega) this.2).trans (hb.block b this.1))
  · have hb2 : b ∈ NT.blks m := by simpa [NT.blkss] using hb'
    have := hm b hb2
    exact (h2 b hb2).keep (keep b this.2 (fun e => by have := hv b e; omega))
theorem made_thaw {B : Nat} {A : Option Addr} {c : Nat} {l : List NT} {W : World} (h : Made B (.slice A l.length c) l W) (ht : ∀ b ∈ NT.blkss l, Thaw W b) : ∀ b ∈ NT.blk0 A l ++ NT.blkss l, Thaw W b := fun b hb => by
  rcases List.mem_append.1 hb with hb | hb
  · cases l with
    | nil => unfold NT.blk0 at hb; split at hb <;> simp_all
    | cons x xs =>
      have ho := h.own
      obtain ⟨g, cap, hv, _, _⟩ := h.own.form (by simp)
      rw [hv] at ho
      simp only [Value.slice.injEq] at hv
      obtain ⟨rfl, _, rfl⟩ := hv
      simp only [NT.blk0, List.mem_singleton] at hb
      subst hb
      exact fun j => own_frozen ho j
  · exact ht b hb
theorem made_nodup {B : Nat} {A : Option Addr} {c : Nat} {l : List NT} {W : World} (h : Made B (.slice A l.length c) l W) (hn : (NT.blkss l).Nodup) : (NT.blk0 A l ++ NT.blkss l).Nodup := by
  cases l with
  | nil => unfold NT.blk0; split <;> simp_all [NT.blkss]
  | cons x xs =>
    obtain ⟨g, cap, hv, _, _⟩ := h.own.form (by simp)
    simp only [Value.slice.injEq] at hv
    obtain ⟨rfl, _, rfl⟩ := hv
    have hf := made_lt h
    simp only [NT.blk0, List.cons_append, List.nil_append, List.nodup_cons]
    exact ⟨fun hm => (hf g hm).2.2 rfl, hn⟩
set_option maxHeartbeats 1000000 in
theorem clones_sep (A : Option Addr) (c : Nat) (l : List NT) (hcp : ∀ k ∈ l, CopiesS 49 k) (w : World) (hrow : Row w.heap.size w A l) (hin : ∀ k ∈ l, InT w.heap.size w k) (hcn : NT.cnts l ≤ 1000000000) :
    Calls Try.prog 55 #[.slice A l.length c] w fun e w' => ∃ (A' : Option Addr) (c' : Nat) (l' : List NT), e = .returned (.slice A' l'.length c') ∧ l'.map NT.strip = l.map NT.strip ∧ l'.length ≤ c' ∧ RowS (Fresh w w') w' A' l' ∧ (∀ x ∈ l', InS (Fresh w w') w' x) ∧ (NT.blk0 A' l' ++ NT.blkss l').Nodup ∧ (∀ b ∈ NT.blk0 A' l' ++ NT.blkss l', Thaw w' b) ∧ Below w.heap.size w w' := by
  obtain ⟨i0, hi0, hz0, hz1, hz2⟩ := info_parts infoNode
  have HCP := Lib.hid hcp
  have HW := Lib.hid hrow
  have HI := Lib.hid hin
  have hll := NT.cnts_len l
  clear hcp hrow hin
  go_enter Try.func55, Try.ntmps55
  go_wp2_with (fail)
  go_loopw [3, 8] (fun v i wr => ∃ (k : Nat) (l' : List NT), k ≤ l.length ∧ i = .int .i64 (k : Int) ∧ l'.length = k ∧ Hid (l'.map NT.strip = (l.take k).map NT.strip) ∧ Hid (Made w.heap.size v l' wr) ∧ Hid ((NT.blkss l').Nodup) ∧ Hid (∀ b ∈ NT.blkss l', Thaw wr b) ∧ Hid (Below w.heap.size w wr)) (fun _ i _ => l.length - (intOf i).toNat)
  case atStart => exact ⟨0, [], Nat.zero_le _, rfl, rfl, rfl, Made.nil _ _, Lib.hid (by simp [NT.blkss]), Lib.hid (by simp [NT.blkss]), Below.refl _ _⟩
  case round =>
    obtain ⟨k, l', hk, rfl, hlk, hst, hmd, hnd, hth, hbw⟩ := hrel
    have HLK := Lib.hid hlk
    have hzw := hbw.out.size
    clear hlk
    by_cases hlt : k < l.length
    · obtain ⟨b, off, rfl, hb, hcs⟩ := (HW.out.below hbw.out) (by omega)
      obtain ⟨c0, c1, c2, c3, c4⟩ := hcs k hlt
      clear hcs
      have HIx := Lib.hid (InT.later (HI.out _ (List.getElem_mem hlt)) hbw.out)
      have HC := Lib.hid (HCP.out _ (List.getElem_mem hlt))
      have hcx := NT.cnts_mem (List.getElem_mem hlt)
      have HT := Lib.hid (show (l.take (k + 1)).map NT.strip = (l.take k).map NT.strip ++ [NT.strip l[k]] by rw [List.take_succ_eq_append_getElem hlt, List.map_append]; rfl)
      generalize l[k] = x at *
      go_wp2_with (fail)
      have hba := (Below.refl wr.heap.size wr).alloc (Nat.le_refl _) (.cells #[.int .i64 x.kind, .string x.text, .int .i64 x.lo, .int .i64 x.hi, .slice x.A x.kids.length x.c] 24)
      refine (HC.out _ (InT.later HIx.out hba) (by omega)).mono ?_
      rintro e w1 ⟨m, rfl, hms, hmi, hmn, hmt, hb1⟩
      have HMT := Lib.hid hmt
      have HFR := Lib.hid (show ∀ b ∈ NT.blks m, wr.heap.size ≤ b ∧ b < w1.heap.size from fun b hb => by have := NT.blks_in m hmi b hb; unfold Fresh at this; simp at this; omega)
      clear hmt
      have HND : Hid ((NT.blkss (l' ++ [m])).Nodup) := nodup_more hnd.out (fun b hb => (made_lt hmd.out b hb).2.1) hmn (fun b hb => by have := (NT.blks_in m hmi b hb).1; simp at this; omega)
      clear hmn
      have hzb := hb1.size
      simp at hzb
      have hb2 := hba.trans (hb1.mono (by simp))
      have HM := Lib.hid (hmd.out.below hb2)
      have HBB := Lib.hid hb2
      have hvl := hmd.out.own.lt
      have HVL := Lib.hid (fun b e => (hvl b e).2)
      have HMI := Lib.hid hmi
      have HMS := Lib.hid hms
      have HB2 := Lib.hid (hbw.out.trans (hb2.mono hzw))
      clear hba hb1 hb2 hmi hms hvl
      go_wp2_with (at_builtin; refine wpList_append_lies _ rfl _ _ 22 rfl w.heap.size 24 i0 _ 5 64 Try.underlying22 hi0 hz0 hz1 hz2 rfl (by decide) _ _ _ rfl (HM.out.own.alloc _) ⟨w1.heap.size, 0, none⟩ 1 1 (ncells [m]) rfl rfl ?c1 (ncells_one _) (by decide) ?c3 ?c4 ?c5 _ rfl ?_)
      case c1 => exact World.news_of_block (cs := #[.int .i64 m.kind, .string m.text, .int .i64 m.lo, .int .i64 m.hi, .slice m.A m.kids.length m.c]) (heap_alloc_new w1 _)
      case c3 => have := HLK.out; unfold maxLen; omega
      case c4 => have := HLK.out; omega
      case c5 => simp; omega
      intro g cap w3 hown hgr hsel hgl
      have HM3 := Lib.hid (HM.out.more HMI.out (by simp; omega) (fun b e => by have := HVL.out b e; simp; omega) _ hown hgr (by rw [World.size_alloc]; exact hsel))
      have HS3 := Lib.hid (show (l' ++ [m]).map NT.strip = (l.take (k + 1)).map NT.strip from by rw [HT.out, List.map_append, hst.out, List.map_cons, List.map_nil, HMS.out])
      have HB3 := Lib.hid ((HB2.out.alloc (by omega) _).grown hgr (by simp; omega) (fun b e => (HM.out.own.lt b e).1))
      have HTH := Lib.hid (thaw_more hth.out (fun b hb => (made_lt hmd.out b hb).2) HBB.out HMT.out HFR.out (fun b e => HVL.out b e) _ hgr)
      clear hown hgr hsel
      go_wp2_with (fail)
      exact ⟨⟨k + 1, l' ++ [m], by omega, by go_num, by have := HLK.out; simp; omega, HS3, HM3, HND, HTH, HB3⟩, by simp [intOf]; omega⟩
    · have e : l.take k = l := List.take_of_length_le (by omega)
      rw [e] at hst
      clear e
      obtain ⟨A', c', rfl, h1, h2, h3⟩ := hmd.out.out
      have HNN := Lib.hid (made_nodup hmd.out hnd.out)
      have HNT := Lib.hid (made_thaw hmd.out hth.out)
      have H2 := Lib.hid h2
      have H3 := Lib.hid h3
      have hkl : k = l.length := by omega
      subst hkl
      clear h2 h3
      go_wp2_with (fail)
      go_ret
      exact ⟨A', c', l', rfl, hst.out, h1, H2.out, H3.out, HNN.out, HNT.out, hbw.out⟩

set_option maxHeartbeats 1000000 in
theorem clone_sep : ∀ n : NT, CopiesS 49 n := NT.ind fun n ih w hin hcn => by
  have hce := NT.cnt_eq n
  have HC := Lib.hid (fun w1 hb => clones_sep n.A n.c n.kids ih w1 ((InT.later hin hb).row) (fun k hk => (InT.later hin hb).kid hk) (by omega))
  clear ih hce
  go_enter Try.func49, Try.ntmps49
  go_wp2_with (fail)
  have hb0 : Below w.heap.size w ((w.alloc (.cells #[.int .i64 n.kind, .string n.text, .int .i64 n.lo, .int .i64 n.hi, .slice n.A n.kids.length n.c] 24)).alloc (.cells #[.int .i64 0, .string ⟨#[]⟩, .int .i64 0, .int .i64 0, .slice none 0 0] 24)) := ((Below.refl _ _).alloc (Nat.le_refl _) _).alloc (by simp) _
  refine (HC.out _ hb0).mono ?_
  have hn : NBox ((w.alloc (.cells #[.int .i64 n.kind, .string n.text, .int .i64 n.lo, .int .i64 n.hi, .slice n.A n.kids.length n.c] 24)).alloc (.cells #[.int .i64 0, .string ⟨#[]⟩, .int .i64 0, .int .i64 0, .slice none 0 0] 24)) w.heap.size n := (heap_alloc_old _ _ (by simp)).trans (NBox.new w n)
  have hr : NBox ((w.alloc (.cells #[.int .i64 n.kind, .string n.text, .int .i64 n.lo, .int .i64 n.hi, .slice n.A n.kids.length n.c] 24)).alloc (.cells #[.int .i64 0, .string ⟨#[]⟩, .int .i64 0, .int .i64 0, .slice none 0 0] 24)) (w.heap.size + 1) (.mk 0 ⟨#[]⟩ 0 0 none 0 []) := by
    have h := heap_alloc_new (w.alloc (.cells #[.int .i64 n.kind, .string n.text, .int .i64 n.lo, .int .i64 n.hi, .slice n.A n.kids.length n.c] 24)) (.cells #[.int .i64 0, .string ⟨#[]⟩, .int .i64 0, .int .i64 0, .slice none 0 0] 24)
    rw [World.size_alloc] at h
    exact h
  have hz : ((w.alloc (.cells #[.int .i64 n.kind, .string n.text, .int .i64 n.lo, .int .i64 n.hi, .slice n.A n.kids.length n.c] 24)).alloc (.cells #[.int .i64 0, .string ⟨#[]⟩, .int .i64 0, .int .i64 0, .slice none 0 0] 24)).heap.size = w.heap.size + 2 := by simp
  generalize ((w.alloc (.cells #[.int .i64 n.kind, .string n.text, .int .i64 n.lo, .int .i64 n.hi, .slice n.A n.kids.length n.c] 24)).alloc (.cells #[.int .i64 0, .string ⟨#[]⟩, .int .i64 0, .int .i64 0, .slice none 0 0] 24)) = W at *
  rintro e w1 ⟨A', c', l', rfl, hst, hcap, hrow, hkids, hnn, hnt, hb1⟩
  have HNN := Lib.hid hnn
  have HNT := Lib.hid hnt
  clear hnn hnt
  have n1 := hn.below hb1 (by omega)
  have r1 := hr.below hb1 (by omega)
  obtain ⟨a0, a1, a2, a3, a4⟩ := n1.cells
  have f4 := n1.frozen 4
  have g0 := r1.frozen 0
  have g1 := r1.frozen 1
  have g2 := r1.frozen 2
  have g3 := r1.frozen 3
  have g4 := r1.frozen 4
  obtain ⟨q0, q1, q2, q3, q4⟩ := r1.cells
  have HN := Lib.hid n1
  have HR := Lib.hid r1
  have HB := Lib.hid (hb0.trans (hb1.mono (by omega)))
  have HS := Lib.hid hst
  have HW := Lib.hid hrow
  have HK := Lib.hid hkids
  clear hn hr n1 r1 hb0 hb1 hst hrow hkids
  go_wp2_with (fail)
  have hb2 := putv_below (HB.out.setCell (p := ⟨w.heap.size, 4, none⟩) (Nat.le_refl _) (.slice A' l'.length c')) (b := w.heap.size + 1) (by omega) (.int .i64 n.kind) (.string n.text) (.int .i64 n.lo) (.int .i64 n.hi) (.slice A' l'.length c')
  have hn2 := NBox.putv (show NBox (w1.setCell ⟨w.heap.size, 4, none⟩ (.slice A' l'.length c')) (w.heap.size + 1) (.mk 0 ⟨#[]⟩ 0 0 none 0 []) from (Below.heap_setCell w1 ⟨w.heap.size, 4, none⟩ _ _ (by show w.heap.size + 1 ≠ w.heap.size; omega)).trans HR.out) n.kind n.text n.lo n.hi A' c' l'
  have hks : KeepS (Fresh W w1) w1 (putv (w1.setCell ⟨w.heap.size, 4, none⟩ (.slice A' l'.length c')) (w.heap.size + 1) (.int .i64 n.kind) (.string n.text) (.int .i64 n.lo) (.int .i64 n.hi) (.slice A' l'.length c')) := fun b hb => by
    have hb' : w.heap.size + 2 ≤ b := by have := hb.1; omega
    have e : ∀ (X : World) (k o : Nat) (v : Value), k < w.heap.size + 2 → (X.setCell ⟨k, o, none⟩ v).heap[b]? = X.heap[b]? := fun X k o v hk => Below.heap_setCell X ⟨k, o, none⟩ v b (by show b ≠ k; omega)
    unfold putv
    rw [e _ _ _ _ (by omega), e _ _ _ _ (by omega), e _ _ _ _ (by omega), e _ _ _ _ (by omega), e _ _ _ _ (by omega), e _ _ _ _ (by omega)]
  have hsz : w1.heap.size = (putv (w1.setCell ⟨w.heap.size, 4, none⟩ (.slice A' l'.length c')) (w.heap.size + 1) (.int .i64 n.kind) (.string n.text) (.int .i64 n.lo) (.int .i64 n.hi) (.slice A' l'.length c')).heap.size := by simp
  have hin2 : InS (Fresh w (putv (w1.setCell ⟨w.heap.size, 4, none⟩ (.slice A' l'.length c')) (w.heap.size + 1) (.int .i64 n.kind) (.string n.text) (.int .i64 n.lo) (.int .i64 n.hi) (.slice A' l'.length c'))) (putv (w1.setCell ⟨w.heap.size, 4, none⟩ (.slice A' l'.length c')) (w.heap.size + 1) (.int .i64 n.kind) (.string n.text) (.int .i64 n.lo) (.int .i64 n.hi) (.slice A' l'.length c')) (.mk n.kind n.text n.lo n.hi A' c' l') := by
    have hf : ∀ b, Fresh W w1 b → Fresh w (putv (w1.setCell ⟨w.heap.size, 4, none⟩ (.slice A' l'.length c')) (w.heap.size + 1) (.int .i64 n.kind) (.string n.text) (.int .i64 n.lo) (.int .i64 n.hi) (.slice A' l'.length c')) b := fun b hb => ⟨by have := hb.1; omega, by rw [← hsz]; exact hb.2⟩
    exact (inS_iff _).2 ⟨(HW.out.keep hks).mono hf, hcap, fun k hk => InS.mono hf k (InS.keep hks k (HK.out k hk))⟩
  have hth2 : ∀ b ∈ NT.blks (.mk n.kind n.text n.lo n.hi A' c' l'), Thaw (putv (w1.setCell ⟨w.heap.size, 4, none⟩ (.slice A' l'.length c')) (w.heap.size + 1) (.int .i64 n.kind) (.string n.text) (.int .i64 n.lo) (.int .i64 n.hi) (.slice A' l'.length c')) b := fun b hb => by
    have hf := NT.blks_in _ ((inS_iff (S := Fresh W w1) (w := w1) (.mk n.kind n.text n.lo n.hi A' c' l')).2 ⟨HW.out, hcap, HK.out⟩) b hb
    rw [NT.blks_eq] at hb
    exact (HNT.out b hb).keep (hks b hf)
  have HTH2 := Lib.hid hth2
  clear hth2
  obtain ⟨z0, z1, z2, z3, z4⟩ := hn2.cells
  have he : NT.strip (.mk n.kind n.text n.lo n.hi A' c' l') = NT.strip n := (NT.strip_iff _ _).2 ⟨rfl, rfl, rfl, rfl, HS.out⟩
  clear q0 q1 q2 q3 q4 g0 g1 g2 g3 g4 a0 a1 a2 a3 a4 f4 hks hn2
  dsimp only [putv] at hsz hin2 z0 z1 z2 z3 z4 hb2 HTH2
  generalize (((((w1.setCell ⟨w.heap.size, 4, none⟩ (.slice A' l'.length c')).setCell ⟨w.heap.size + 1, 0, none⟩ (.int .i64 n.kind)).setCell ⟨w.heap.size + 1, 1, none⟩ (.string n.text)).setCell ⟨w.heap.size + 1, 2, none⟩ (.int .i64 n.lo)).setCell ⟨w.heap.size + 1, 3, none⟩ (.int .i64 n.hi)).setCell ⟨w.heap.size + 1, 4, none⟩ (.slice A' l'.length c') = V at *
  exact bodyPost_ret (v := .agg #[.int .i64 n.kind, .string n.text, .int .i64 n.lo, .int .i64 n.hi, .slice A' l'.length c']) (by simp [results, Try.results49, go_sem, z0, z1, z2, z3, z4, NT.kind, NT.text, NT.lo, NT.hi, NT.A, NT.c, NT.kids]) rfl ⟨.mk n.kind n.text n.lo n.hi A' c' l', rfl, he, hin2, by rw [NT.blks_eq]; exact HNN.out, HTH2.out, hb2⟩
end Go.Proofs.Ytjikfdifcpdhhaa
