/- What is proved: clone returns the tree in new memory. -/
import Derived.Test.YtjikfdifcpdhhaaInS
import Derived.Test.YtjikfdifcpdhhaaTreeNum
set_option linter.unusedVariables false
namespace Go.Proofs.Ytjikfdifcpdhhaa
open Go.RowKit

/-- a call that returns a copy of a tree in new memory -/
def Copies (f : Nat) (n : NT) : Prop := ∀ w : World, InT w.heap.size w n → NT.cnt n ≤ 1000000000 →
  Calls Try.prog f #[.agg #[.int .i64 n.kind, .string n.text, .int .i64 n.lo, .int .i64 n.hi, .slice n.A n.kids.length n.c]] w fun e w' => ∃ m : NT, e = .returned (.agg #[.int .i64 m.kind, .string m.text, .int .i64 m.lo, .int .i64 m.hi, .slice m.A m.kids.length m.c]) ∧ NT.strip m = NT.strip n ∧ InS (Fresh w w') w' m ∧ Below w.heap.size w w'

/-- the copies made so far: a row of its own, and what lies below each beside it -/
structure Made (B : Nat) (v : Value) (l : List NT) (W : World) : Prop where
  own : W.ownsRow B 24 5 v l.length (ncells l)
  kids : ∀ x ∈ l, InS (fun b => B ≤ b ∧ b < W.heap.size ∧ v.ownBlock ≠ some b) W x
theorem Made.nil (B : Nat) (W : World) : Made B (.slice none 0 0) [] W := ⟨World.ownsRow_nil _ _ _ _, by simp⟩
theorem Made.below {B : Nat} {v : Value} {l : List NT} {W W' : World} (h : Made B v l W) (hb : Below W.heap.size W W') : Made B v l W' :=
  ⟨own_below h.own hb, fun x hx => InS.mono (fun b hb' => ⟨hb'.1, by have := hb.size; omega, hb'.2.2⟩) x (InS.keep (KeepS.of_below hb (fun b hb' => hb'.2.1)) x (h.kids x hx))⟩
/-- one more -/
theorem Made.more {B g cap : Nat} {v : Value} {l : List NT} {x : NT} {W W' w' : World} (h : Made B v l W') (hx : InS (Fresh W W') W' x) (hW : B ≤ W.heap.size) (hlt : ∀ b, v.ownBlock = some b → b < W.heap.size) (o : Obj)
    (hown : w'.ownsRow B 24 5 (.slice (some ⟨g, 0, none⟩) (l.length + 1) cap) (l.length + 1) (ncells l ++ ncells [x])) (hg : (W'.alloc o).grownBy w' v.ownBlock) (hsel : v.ownBlock = some g ∨ g = (W'.alloc o).heap.size) : Made B (.slice (some ⟨g, 0, none⟩) (l.length + 1) cap) (l ++ [x]) w' := by
  have hz := hg.size
  rw [World.size_alloc] at hz hsel
  have hk : KeepS (fun b => b < W'.heap.size ∧ v.ownBlock ≠ some b) W' w' := fun b hb => (hg.block b (by rw [World.size_alloc]; omega) (fun e => hb.2 e.symm)).trans (heap_alloc_old _ _ hb.1)
  have hs : ∀ b, b < W'.heap.size → v.ownBlock ≠ some b → Value.ownBlock (.slice (some ⟨g, 0, none⟩) (l.length + 1) cap) ≠ some b := fun b h1 h2 e => by
    simp [Value.ownBlock] at e
    rcases hsel with hs | hs
    · exact h2 (by rw [hs, e])
    · omega
  refine ⟨by rw [ncells_append, List.length_append]; exact hown, fun y hy => ?_⟩
  rcases List.mem_append.1 hy with hy | hy
  · refine InS.mono (fun b hb => ⟨hb.1, by omega, hs b hb.2.1 hb.2.2⟩) y (InS.keep (fun b hb => hk b ⟨hb.2.1, hb.2.2⟩) y (h.kids y hy))
  · simp at hy
    subst hy
    have h1 : InS (fun b => B ≤ b ∧ b < W'.heap.size ∧ v.ownBlock ≠ some b) W' y := InS.mono (fun b hb => ⟨by have := hb.1; omega, hb.2, fun e => by have := hlt b e; have := hb.1; omega⟩) y hx
    exact InS.mono (fun b hb => ⟨hb.1, by omega, hs b hb.2.1 hb.2.2⟩) y (InS.keep (fun b hb => hk b ⟨hb.2.1, hb.2.2⟩) y h1)
/-- what was made, as a list in new memory -/
theorem Made.out {w W : World} {v : Value} {l : List NT} (h : Made w.heap.size v l W) : ∃ A c, v = .slice A l.length c ∧ l.length ≤ c ∧ RowS (Fresh w W) W A l ∧ ∀ x ∈ l, InS (Fresh w W) W x := by
  obtain ⟨A, c, hv, hc, hr⟩ := nodes_ownS h.own
  exact ⟨A, c, hv, hc, hr.mono (fun b hb => h.own.lt b hb), fun x hx => InS.mono (fun b hb => ⟨hb.1, hb.2.1⟩) x (h.kids x hx)⟩

set_option maxHeartbeats 1000000 in
theorem clones_of (A : Option Addr) (c : Nat) (l : List NT) (hcp : ∀ k ∈ l, Copies 49 k) (w : World) (hrow : Row w.heap.size w A l) (hin : ∀ k ∈ l, InT w.heap.size w k) (hcn : NT.cnts l ≤ 1000000000) :
    Calls Try.prog 55 #[.slice A l.length c] w fun e w' => ∃ (A' : Option Addr) (c' : Nat) (l' : List NT), e = .returned (.slice A' l'.length c') ∧ l'.map NT.strip = l.map NT.strip ∧ l'.length ≤ c' ∧ RowS (Fresh w w') w' A' l' ∧ (∀ x ∈ l', InS (Fresh w w') w' x) ∧ Below w.heap.size w w' := by
  obtain ⟨i0, hi0, hz0, hz1, hz2⟩ := info_parts infoNode
  have HCP := Lib.hid hcp
  have HW := Lib.hid hrow
  have HI := Lib.hid hin
  have hll := NT.cnts_len l
  clear hcp hrow hin
  go_enter Try.func55, Try.ntmps55
  go_wp2_with (fail)
  go_loopw [3, 8] (fun v i wr => ∃ (k : Nat) (l' : List NT), k ≤ l.length ∧ i = .int .i64 (k : Int) ∧ l'.length = k ∧ Hid (l'.map NT.strip = (l.take k).map NT.strip) ∧ Hid (Made w.heap.size v l' wr) ∧ Hid (Below w.heap.size w wr)) (fun _ i _ => l.length - (intOf i).toNat)
  case atStart => exact ⟨0, [], Nat.zero_le _, rfl, rfl, rfl, Made.nil _ _, Below.refl _ _⟩
  case round =>
    obtain ⟨k, l', hk, rfl, hlk, hst, hmd, hbw⟩ := hrel
    have HLK := Lib.hid hlk
    have hzw := hbw.out.size
    clear hlk
    by_cases hlt : k < l.length
    · obtain ⟨b, off, rfl, hb, hcs⟩ := (HW.out.below hbw.out) (by omega)
      obtain ⟨c0, c1, c2, c3, c4⟩ := hcs k hlt
      clear hcs
      have HIx := Lib.hid (InT.later (HI.out _ (List.getElem_mem hlt)) hbw.out)
      have HC := Lib.hid (HCP.out _ (List.getElem_mem hlt))
      have hcx := NT.cnts_mem (List.getElem_mem hlt)
      have HT := Lib.hid (show (l.take (k + 1)).map NT.strip = (l.take k).map NT.strip ++ [NT.strip l[k]] by rw [List.take_succ_eq_append_getElem hlt, List.map_append]; rfl)
      generalize l[k] = x at *
      go_wp2_with (fail)
      have hba := (Below.refl wr.heap.size wr).alloc (Nat.le_refl _) (.cells #[.int .i64 x.kind, .string x.text, .int .i64 x.lo, .int .i64 x.hi, .slice x.A x.kids.length x.c] 24)
      refine (HC.out _ (InT.later HIx.out hba) (by omega)).mono ?_
      rintro e w1 ⟨m, rfl, hms, hmi, hb1⟩
      have hzb := hb1.size
      simp at hzb
      have hb2 := hba.trans (hb1.mono (by simp))
      have HM := Lib.hid (hmd.out.below hb2)
      have hvl := hmd.out.own.lt
      have HVL := Lib.hid (fun b e => (hvl b e).2)
      have HMI := Lib.hid hmi
      have HMS := Lib.hid hms
      have HB2 := Lib.hid (hbw.out.trans (hb2.mono hzw))
      clear hba hb1 hb2 hmi hms hvl
      go_wp2_with (at_builtin; refine wpList_append_lies _ rfl _ _ 22 rfl w.heap.size 24 i0 _ 5 64 Try.underlying22 hi0 hz0 hz1 hz2 rfl (by decide) _ _ _ rfl (HM.out.own.alloc _) ⟨w1.heap.size, 0, none⟩ 1 1 (ncells [m]) rfl rfl ?c1 (ncells_one _) (by decide) ?c3 ?c4 ?c5 _ rfl ?_)
      case c1 => exact World.news_of_block (cs := #[.int .i64 m.kind, .string m.text, .int .i64 m.lo, .int .i64 m.hi, .slice m.A m.kids.length m.c]) (heap_alloc_new w1 _)
      case c3 => have := HLK.out; unfold maxLen; omega
      case c4 => have := HLK.out; omega
      case c5 => simp; omega
      intro g cap w3 hown hgr hsel hgl
      have HM3 := Lib.hid (HM.out.more HMI.out (by simp; omega) (fun b e => by have := HVL.out b e; simp; omega) _ hown hgr (by rw [World.size_alloc]; exact hsel))
      have HS3 := Lib.hid (show (l' ++ [m]).map NT.strip = (l.take (k + 1)).map NT.strip from by rw [HT.out, List.map_append, hst.out, List.map_cons, List.map_nil, HMS.out])
      have HB3 := Lib.hid ((HB2.out.alloc (by omega) _).grown hgr (by simp; omega) (fun b e => (HM.out.own.lt b e).1))
      clear hown hgr hsel
      go_wp2_with (fail)
      exact ⟨⟨k + 1, l' ++ [m], by omega, by go_num, by have := HLK.out; simp; omega, HS3, HM3, HB3⟩, by simp [intOf]; omega⟩
    · have e : l.take k = l := List.take_of_length_le (by omega)
      rw [e] at hst
      clear e
      obtain ⟨A', c', rfl, h1, h2, h3⟩ := hmd.out.out
      have H2 := Lib.hid h2
      have H3 := Lib.hid h3
      have hkl : k = l.length := by omega
      subst hkl
      clear h2 h3
      go_wp2_with (fail)
      go_ret
      exact ⟨A', c', l', rfl, hst.out, h1, H2.out, H3.out, hbw.out⟩

set_option maxHeartbeats 1000000 in
theorem clone_any : ∀ n : NT, Copies 49 n := NT.ind fun n ih w hin hcn => by
  have hce := NT.cnt_eq n
  have HC := Lib.hid (fun w1 hb => clones_of n.A n.c n.kids ih w1 ((InT.later hin hb).row) (fun k hk => (InT.later hin hb).kid hk) (by omega))
  clear ih hce
  go_enter Try.func49, Try.ntmps49
  go_wp2_with (fail)
  have hb0 : Below w.heap.size w ((w.alloc (.cells #[.int .i64 n.kind, .string n.text, .int .i64 n.lo, .int .i64 n.hi, .slice n.A n.kids.length n.c] 24)).alloc (.cells #[.int .i64 0, .string ⟨#[]⟩, .int .i64 0, .int .i64 0, .slice none 0 0] 24)) := ((Below.refl _ _).alloc (Nat.le_refl _) _).alloc (by simp) _
  refine (HC.out _ hb0).mono ?_
  have hn : NBox ((w.alloc (.cells #[.int .i64 n.kind, .string n.text, .int .i64 n.lo, .int .i64 n.hi, .slice n.A n.kids.length n.c] 24)).alloc (.cells #[.int .i64 0, .string ⟨#[]⟩, .int .i64 0, .int .i64 0, .slice none 0 0] 24)) w.heap.size n := (heap_alloc_old _ _ (by simp)).trans (NBox.new w n)
  have hr : NBox ((w.alloc (.cells #[.int .i64 n.kind, .string n.text, .int .i64 n.lo, .int .i64 n.hi, .slice n.A n.kids.length n.c] 24)).alloc (.cells #[.int .i64 0, .string ⟨#[]⟩, .int .i64 0, .int .i64 0, .slice none 0 0] 24)) (w.heap.size + 1) (.mk 0 ⟨#[]⟩ 0 0 none 0 []) := by
    have h := heap_alloc_new (w.alloc (.cells #[.int .i64 n.kind, .string n.text, .int .i64 n.lo, .int .i64 n.hi, .slice n.A n.kids.length n.c] 24)) (.cells #[.int .i64 0, .string ⟨#[]⟩, .int .i64 0, .int .i64 0, .slice none 0 0] 24)
    rw [World.size_alloc] at h
    exact h
  have hz : ((w.alloc (.cells #[.int .i64 n.kind, .string n.text, .int .i64 n.lo, .int .i64 n.hi, .slice n.A n.kids.length n.c] 24)).alloc (.cells #[.int .i64 0, .string ⟨#[]⟩, .int .i64 0, .int .i64 0, .slice none 0 0] 24)).heap.size = w.heap.size + 2 := by simp
  generalize ((w.alloc (.cells #[.int .i64 n.kind, .string n.text, .int .i64 n.lo, .int .i64 n.hi, .slice n.A n.kids.length n.c] 24)).alloc (.cells #[.int .i64 0, .string ⟨#[]⟩, .int .i64 0, .int .i64 0, .slice none 0 0] 24)) = W at *
  rintro e w1 ⟨A', c', l', rfl, hst, hcap, hrow, hkids, hb1⟩
  have n1 := hn.below hb1 (by omega)
  have r1 := hr.below hb1 (by omega)
  obtain ⟨a0, a1, a2, a3, a4⟩ := n1.cells
  have f4 := n1.frozen 4
  have g0 := r1.frozen 0
  have g1 := r1.frozen 1
  have g2 := r1.frozen 2
  have g3 := r1.frozen 3
  have g4 := r1.frozen 4
  obtain ⟨q0, q1, q2, q3, q4⟩ := r1.cells
  have HN := Lib.hid n1
  have HR := Lib.hid r1
  have HB := Lib.hid (hb0.trans (hb1.mono (by omega)))
  have HS := Lib.hid hst
  have HW := Lib.hid hrow
  have HK := Lib.hid hkids
  clear hn hr n1 r1 hb0 hb1 hst hrow hkids
  go_wp2_with (fail)
  have hb2 := putv_below (HB.out.setCell (p := ⟨w.heap.size, 4, none⟩) (Nat.le_refl _) (.slice A' l'.length c')) (b := w.heap.size + 1) (by omega) (.int .i64 n.kind) (.string n.text) (.int .i64 n.lo) (.int .i64 n.hi) (.slice A' l'.length c')
  have hn2 := NBox.putv (show NBox (w1.setCell ⟨w.heap.size, 4, none⟩ (.slice A' l'.length c')) (w.heap.size + 1) (.mk 0 ⟨#[]⟩ 0 0 none 0 []) from (Below.heap_setCell w1 ⟨w.heap.size, 4, none⟩ _ _ (by show w.heap.size + 1 ≠ w.heap.size; omega)).trans HR.out) n.kind n.text n.lo n.hi A' c' l'
  have hks : KeepS (Fresh W w1) w1 (putv (w1.setCell ⟨w.heap.size, 4, none⟩ (.slice A' l'.length c')) (w.heap.size + 1) (.int .i64 n.kind) (.string n.text) (.int .i64 n.lo) (.int .i64 n.hi) (.slice A' l'.length c')) := fun b hb => by
    have hb' : w.heap.size + 2 ≤ b := by have := hb.1; omega
    have e : ∀ (X : World) (k o : Nat) (v : Value), k < w.heap.size + 2 → (X.setCell ⟨k, o, none⟩ v).heap[b]? = X.heap[b]? := fun X k o v hk => Below.heap_setCell X ⟨k, o, none⟩ v b (by show b ≠ k; omega)
    unfold putv
    rw [e _ _ _ _ (by omega), e _ _ _ _ (by omega), e _ _ _ _ (by omega), e _ _ _ _ (by omega), e _ _ _ _ (by omega), e _ _ _ _ (by omega)]
  have hsz : w1.heap.size = (putv (w1.setCell ⟨w.heap.size, 4, none⟩ (.slice A' l'.length c')) (w.heap.size + 1) (.int .i64 n.kind) (.string n.text) (.int .i64 n.lo) (.int .i64 n.hi) (.slice A' l'.length c')).heap.size := by simp
  have hin2 : InS (Fresh w (putv (w1.setCell ⟨w.heap.size, 4, none⟩ (.slice A' l'.length c')) (w.heap.size + 1) (.int .i64 n.kind) (.string n.text) (.int .i64 n.lo) (.int .i64 n.hi) (.slice A' l'.length c'))) (putv (w1.setCell ⟨w.heap.size, 4, none⟩ (.slice A' l'.length c')) (w.heap.size + 1) (.int .i64 n.kind) (.string n.text) (.int .i64 n.lo) (.int .i64 n.hi) (.slice A' l'.length c')) (.mk n.kind n.text n.lo n.hi A' c' l') := by
    have hf : ∀ b, Fresh W w1 b → Fresh w (putv (w1.setCell ⟨w.heap.size, 4, none⟩ (.slice A' l'.length c')) (w.heap.size + 1) (.int .i64 n.kind) (.string n.text) (.int .i64 n.lo) (.int .i64 n.hi) (.slice A' l'.length c')) b := fun b hb => ⟨by have := hb.1; omega, by rw [← hsz]; exact hb.2⟩
    exact (inS_iff _).2 ⟨(HW.out.keep hks).mono hf, hcap, fun k hk => InS.mono hf k (InS.keep hks k (HK.out k hk))⟩
  obtain ⟨z0, z1, z2, z3, z4⟩ := hn2.cells
  have he : NT.strip (.mk n.kind n.text n.lo n.hi A' c' l') = NT.strip n := (NT.strip_iff _ _).2 ⟨rfl, rfl, rfl, rfl, HS.out⟩
  clear q0 q1 q2 q3 q4 g0 g1 g2 g3 g4 a0 a1 a2 a3 a4 f4 hks hn2
  dsimp only [putv] at hsz hin2 z0 z1 z2 z3 z4 hb2
  generalize (((((w1.setCell ⟨w.heap.size, 4, none⟩ (.slice A' l'.length c')).setCell ⟨w.heap.size + 1, 0, none⟩ (.int .i64 n.kind)).setCell ⟨w.heap.size + 1, 1, none⟩ (.string n.text)).setCell ⟨w.heap.size + 1, 2, none⟩ (.int .i64 n.lo)).setCell ⟨w.heap.size + 1, 3, none⟩ (.int .i64 n.hi)).setCell ⟨w.heap.size + 1, 4, none⟩ (.slice A' l'.length c') = V at *
  exact bodyPost_ret (v := .agg #[.int .i64 n.kind, .string n.text, .int .i64 n.lo, .int .i64 n.hi, .slice A' l'.length c']) (by simp [results, Try.results49, go_sem, z0, z1, z2, z3, z4, NT.kind, NT.text, NT.lo, NT.hi, NT.A, NT.c, NT.kids]) rfl ⟨.mk n.kind n.text n.lo n.hi A' c' l', rfl, he, hin2, hb2⟩
end Go.Proofs.Ytjikfdifcpdhhaa
