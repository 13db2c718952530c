/- What is proved: Bare returns the tree without places, in new memory. -/
import Derived.Test.YtjikfdifcpdhhaaGet
import Derived.Deep.RegionHeld3
import Derived.Deep.RegionLaw
import Derived.Deep.AppendLies
set_option linter.unusedVariables false
namespace Go.Proofs.Ytjikfdifcpdhhaa
open Go.RowKit

namespace NT
mutual
def bare : NT → NT
  | mk k t _ _ _ _ ks => mk k t 0 0 none 0 (bares ks)
def bares : List NT → List NT
  | [] => []
  | k :: ks => bare k :: bares ks
end
theorem bares_map (l : List NT) : bares l = l.map bare := by
  induction l with
  | nil => rfl
  | cons x xs ih => simp [bares, ih]
theorem bare_eq (n : NT) : bare n = mk n.kind n.text 0 0 none 0 (n.kids.map bare) := by cases n; simp [bare, bares_map, kind, text, kids]
end NT

/-- a call that returns the tree without places -/
def Bares (f : Nat) (n : NT) : Prop := ∀ w : World, InT w.heap.size w n → NT.cnt n ≤ 1000000000 →
  Calls Try.prog f #[.agg #[.int .i64 n.kind, .string n.text, .int .i64 n.lo, .int .i64 n.hi, .slice n.A n.kids.length n.c]] w fun e w' => ∃ m : NT, e = .returned (.agg #[.int .i64 m.kind, .string m.text, .int .i64 m.lo, .int .i64 m.hi, .slice m.A m.kids.length m.c]) ∧ NT.strip m = NT.bare n ∧ InS (Fresh w w') w' m ∧ Below w.heap.size w w'
/-- a variable that holds a node whose kids are being made -/
def BBox (w : World) (b : Nat) (kd : Int) (t : ByteArray) (v : Value) : Prop := w.heap[b]? = some (.cells #[.int .i64 kd, .string t, .int .i64 0, .int .i64 0, v] 24 (0, 0))
theorem BBox.cells {w : World} {b : Nat} {kd : Int} {t : ByteArray} {v : Value} (h : BBox w b kd t v) : w.cell? ⟨b, 0, none⟩ = some (.int .i64 kd) ∧ w.cell? ⟨b, 1, none⟩ = some (.string t) ∧ w.cell? ⟨b, 2, none⟩ = some (.int .i64 0) ∧ w.cell? ⟨b, 3, none⟩ = some (.int .i64 0) ∧ w.cell? ⟨b, 4, none⟩ = some v :=
  ⟨Lib.cell_of_heap h 0, Lib.cell_of_heap h 1, Lib.cell_of_heap h 2, Lib.cell_of_heap h 3, Lib.cell_of_heap h 4⟩
theorem BBox.frozen {w : World} {b : Nat} {kd : Int} {t : ByteArray} {v : Value} (h : BBox w b kd t v) (i : Nat) : w.frozen? ⟨b, i, none⟩ = false := by
  have h' : w.heap[b]? = some (.cells #[.int .i64 kd, .string t, .int .i64 0, .int .i64 0, v] 24 (0, 0)) := h
  simp [World.frozen?, h']
theorem BBox.later {W W' : World} {b B : Nat} {kd : Int} {t : ByteArray} {v : Value} (h : BBox W b kd t v) (hb : Below B W W') (hlt : b < B) : BBox W' b kd t v := (hb.block b hlt).trans h
theorem BBox.alloc {W : World} {b : Nat} {kd : Int} {t : ByteArray} {v : Value} (h : BBox W b kd t v) (o : Obj) : BBox (W.alloc o) b kd t v := (heap_alloc_old _ _ (Array.getElem?_eq_some_iff.1 h).1).trans h
theorem nbox_alloc {W : World} {b : Nat} {x : NT} (h : NBox W b x) (o : Obj) : NBox (W.alloc o) b x := (heap_alloc_old _ _ (Array.getElem?_eq_some_iff.1 h).1).trans h
theorem BBox.grown {W W' : World} {b : Nat} {kd : Int} {t : ByteArray} {v : Value} {row : Option Nat} (h : BBox W b kd t v) (hg : W.grownBy W' row) (hne : row ≠ some b) : BBox W' b kd t v := (hg.block b (Array.getElem?_eq_some_iff.1 h).1 (fun e => hne e.symm)).trans h
theorem nbox_grown {W W' : World} {b : Nat} {x : NT} {row : Option Nat} (h : NBox W b x) (hg : W.grownBy W' row) (hne : row ≠ some b) : NBox W' b x := (hg.block b (Array.getElem?_eq_some_iff.1 h).1 (fun e => hne e.symm)).trans h
theorem Made.base {B B' : Nat} {v : Value} {l : List NT} {W : World} (hB : B' ≤ B) (h : Made B v l W) : Made B' v l W :=
  ⟨own_base hB h.own, fun x hx => InS.mono (fun b hb => ⟨by have := hb.1; omega, hb.2⟩) x (h.kids x hx)⟩
theorem Made.far {B a o : Nat} {v : Value} {l : List NT} {W : World} (h : Made B v l W) (ha : a < B) (u : Value) : Made B v l (W.setCell ⟨a, o, none⟩ u) := by
  have hg : W.grownBy (W.setCell ⟨a, o, none⟩ u) (some a) := ⟨rfl, rfl, rfl, by simp [World.setCell], fun i _ hi => Below.heap_setCell _ _ _ _ (fun e => hi (by simp [e]))⟩
  refine ⟨h.own.kept hg (.inr (fun e => by have := (h.own.lt a e).1; omega)), fun x hx => ?_⟩
  refine InS.mono (fun b hb => ⟨hb.1, by simpa using hb.2.1, hb.2.2⟩) x (InS.keep (fun b hb => Below.heap_setCell W ⟨a, o, none⟩ u b (by show b ≠ a; have := hb.1; omega)) x (h.kids x hx))
theorem bare_sz {wr w1 : World} {o : Obj} {n : Nat} (h : Below n (wr.alloc o).drew w1) : wr.heap.size + 1 ≤ w1.heap.size := by
  have := h.size
  simp at this
  omega
theorem bare_b2 {wr w1 : World} {o : Obj} (ha : Below wr.heap.size wr (wr.alloc o).drew) (h : Below (wr.alloc o).drew.heap.size (wr.alloc o).drew w1) : Below wr.heap.size wr w1 := ha.trans (h.mono ha.size)
theorem bare_far {W : World} {a b : Nat} {x : NT} (hn : NBox W b x) (hne : b ≠ a) (v : Value) : NBox (W.setCell ⟨a, 4, none⟩ v) b x := (Below.heap_setCell W ⟨a, 4, none⟩ v b (by show b ≠ a; exact hne)).trans hn

set_option maxHeartbeats 1000000 in
set_option maxRecDepth 100000 in
theorem bare_of (kd : Int) (t : ByteArray) (lo hi : Int) (A : Option Addr) (c : Nat) (l : List NT) (hcp : ∀ k ∈ l, Bares 38 k) (w : World) (hrow : Row w.heap.size w A l) (hin : ∀ k ∈ l, InT w.heap.size w k) (hcn : NT.cnts l ≤ 1000000000) :
    Calls Try.prog 38 #[.agg #[.int .i64 kd, .string t, .int .i64 lo, .int .i64 hi, .slice A l.length c]] w fun e w' => ∃ (A' : Option Addr) (c' : Nat) (l' : List NT), e = .returned (.agg #[.int .i64 kd, .string t, .int .i64 0, .int .i64 0, .slice A' l'.length c']) ∧ l'.map NT.strip = l.map NT.bare ∧ InS (Fresh w w') w' (.mk kd t 0 0 A' c' l') ∧ Below w.heap.size w w' := by
  obtain ⟨i0, hi0, hz0, hz1, hz2⟩ := info_parts infoNode
  have HCP := Lib.hid hcp
  have HW := Lib.hid hrow
  have HI := Lib.hid hin
  have hll := NT.cnts_len l
  clear hcp hrow hin
  go_enter Try.func38, Try.ntmps38
  go_wp2_with (fail)
  have HB := Lib.hid ((((Below.refl w.heap.size w).alloc (Nat.le_refl _) (.cells #[.int .i64 kd, .string t, .int .i64 lo, .int .i64 hi, .slice A l.length c] 24)).alloc (by simp) (.cells #[.int .i64 0, .string ⟨#[]⟩, .int .i64 0, .int .i64 0, .slice none 0 0] 24)).alloc (by simp; omega) (.cells #[.int .i64 kd, .string t, .int .i64 0, .int .i64 0, .slice none 0 0] 24))
  have HZ : Hid (NBox (((w.alloc (.cells #[.int .i64 kd, .string t, .int .i64 lo, .int .i64 hi, .slice A l.length c] 24)).alloc (.cells #[.int .i64 0, .string ⟨#[]⟩, .int .i64 0, .int .i64 0, .slice none 0 0] 24)).alloc (.cells #[.int .i64 kd, .string t, .int .i64 0, .int .i64 0, .slice none 0 0] 24)) (w.heap.size + 1) zeroN) := by
    have h := zero_box (w.alloc (.cells #[.int .i64 kd, .string t, .int .i64 lo, .int .i64 hi, .slice A l.length c] 24))
    rw [World.size_alloc] at h
    exact (heap_alloc_old _ _ (by simp)).trans h
  have HBB : Hid (BBox (((w.alloc (.cells #[.int .i64 kd, .string t, .int .i64 lo, .int .i64 hi, .slice A l.length c] 24)).alloc (.cells #[.int .i64 0, .string ⟨#[]⟩, .int .i64 0, .int .i64 0, .slice none 0 0] 24)).alloc (.cells #[.int .i64 kd, .string t, .int .i64 0, .int .i64 0, .slice none 0 0] 24)) (w.heap.size + 1 + 1) kd t (.slice none 0 0)) := by
    have h := heap_alloc_new ((w.alloc (.cells #[.int .i64 kd, .string t, .int .i64 lo, .int .i64 hi, .slice A l.length c] 24)).alloc (.cells #[.int .i64 0, .string ⟨#[]⟩, .int .i64 0, .int .i64 0, .slice none 0 0] 24)) (.cells #[.int .i64 kd, .string t, .int .i64 0, .int .i64 0, .slice none 0 0] 24)
    rw [World.size_alloc, World.size_alloc] at h
    exact h
  have hz : (((w.alloc (.cells #[.int .i64 kd, .string t, .int .i64 lo, .int .i64 hi, .slice A l.length c] 24)).alloc (.cells #[.int .i64 0, .string ⟨#[]⟩, .int .i64 0, .int .i64 0, .slice none 0 0] 24)).alloc (.cells #[.int .i64 kd, .string t, .int .i64 0, .int .i64 0, .slice none 0 0] 24)).heap.size = w.heap.size + 3 := by simp
  generalize (((w.alloc (.cells #[.int .i64 kd, .string t, .int .i64 lo, .int .i64 hi, .slice A l.length c] 24)).alloc (.cells #[.int .i64 0, .string ⟨#[]⟩, .int .i64 0, .int .i64 0, .slice none 0 0] 24)).alloc (.cells #[.int .i64 kd, .string t, .int .i64 0, .int .i64 0, .slice none 0 0] 24)) = W at *
  go_loopw [14] (fun i wr => ∃ (k : Nat) (A' : Option Addr) (c' : Nat) (l' : List NT), k ≤ l.length ∧ i = .int .i64 (k : Int) ∧ l'.length = k ∧ Hid (w.heap.size + 3 ≤ wr.heap.size) ∧ Hid (l'.map NT.strip = (l.take k).map NT.bare) ∧ Hid (Made (w.heap.size + 3) (.slice A' l'.length c') l' wr) ∧ Hid (BBox wr (w.heap.size + 1 + 1) kd t (.slice A' l'.length c')) ∧ Hid (NBox wr (w.heap.size + 1) zeroN) ∧ Hid (Below w.heap.size w wr)) (fun i _ => l.length - (intOf i).toNat)
  case atStart => exact ⟨0, none, 0, [], Nat.zero_le _, rfl, rfl, Lib.hid (by omega), rfl, Made.nil _ _, HBB, HZ, HB⟩
  case round =>
    obtain ⟨k, A', c', l', hk, rfl, hlk, hzz, hst, hmd, hbb, hzb, hbw⟩ := hrel
    have HLK := Lib.hid hlk
    have hzw := hzz.out
    clear hlk
    by_cases hlt : k < l.length
    · obtain ⟨b, off, rfl, hb, hcs⟩ := (HW.out.below hbw.out) (by omega)
      obtain ⟨c0, c1, c2, c3, c4⟩ := hcs k hlt
      clear hcs
      have HIx := Lib.hid (InT.later (HI.out _ (List.getElem_mem hlt)) hbw.out)
      have HC := Lib.hid (HCP.out _ (List.getElem_mem hlt))
      have hcx := NT.cnts_mem (List.getElem_mem hlt)
      have HT := Lib.hid (show (l.take (k + 1)).map NT.bare = (l.take k).map NT.bare ++ [NT.bare l[k]] by rw [List.take_succ_eq_append_getElem hlt, List.map_append]; rfl)
      generalize l[k] = x at *
      obtain ⟨b0, b1, b2, b3, b4⟩ := hbb.out.cells
      clear b0 b1 b2 b3 b4
      go_wp2_with (fail)
      have hba : Below wr.heap.size wr (wr.alloc (.cells #[.int .i64 x.kind, .string x.text, .int .i64 x.lo, .int .i64 x.hi, .slice x.A x.kids.length x.c] 24)).drew := ((Below.refl wr.heap.size wr).alloc (Nat.le_refl _) (.cells #[.int .i64 x.kind, .string x.text, .int .i64 x.lo, .int .i64 x.hi, .slice x.A x.kids.length x.c] 24)).drew
      have hnx : NBox (wr.alloc (.cells #[.int .i64 x.kind, .string x.text, .int .i64 x.lo, .int .i64 x.hi, .slice x.A x.kids.length x.c] 24)) wr.heap.size x := NBox.new wr x
      have hbx : BBox (wr.alloc (.cells #[.int .i64 x.kind, .string x.text, .int .i64 x.lo, .int .i64 x.hi, .slice x.A x.kids.length x.c] 24)) (w.heap.size + 1 + 1) kd t (.slice A' l'.length c') := (heap_alloc_old _ _ (by omega)).trans hbb.out
      have hzs : (wr.alloc (.cells #[.int .i64 x.kind, .string x.text, .int .i64 x.lo, .int .i64 x.hi, .slice x.A x.kids.length x.c] 24)).heap.size = wr.heap.size + 1 := by simp
      have HBA := Lib.hid hba
      have HNX := Lib.hid (show NBox (wr.alloc (.cells #[.int .i64 x.kind, .string x.text, .int .i64 x.lo, .int .i64 x.hi, .slice x.A x.kids.length x.c] 24)).drew wr.heap.size x from hnx)
      have HBX := Lib.hid (show BBox (wr.alloc (.cells #[.int .i64 x.kind, .string x.text, .int .i64 x.lo, .int .i64 x.hi, .slice x.A x.kids.length x.c] 24)).drew (w.heap.size + 1 + 1) kd t (.slice A' l'.length c') from hbx)
      obtain ⟨s1, s2, s3, s4, s5⟩ := hnx.cells
      have s0 := hbx.cells.2.2.2.2
      have s6 := hbx.frozen 4
      have HVL := Lib.hid (fun b e => hmd.out.own.lt b e)
      have HCX := Lib.hid (HC.out _ (InT.later HIx.out hba) (by omega))
      have hcap1 : l'.length + 1 ≤ maxLen := by have := HLK.out; unfold maxLen; omega
      have hcap2 : (l'.length + 1) * 64 ≤ 140737488355328 := by have := HLK.out; omega
      clear hba hnx hbx hzs
      go_region_law (first | (go_simp; go_at_call 38; refine HCX.out.mono ?_; rintro e w1 ⟨m, rfl, hms, hmi, hb1⟩; have HMS := Lib.hid hms; have HMI := Lib.hid hmi; have HB1 := Lib.hid hb1; clear hms hmi hb1; have hzw1 : wr.heap.size + 1 ≤ w1.heap.size := bare_sz HB1.out; have HBW1 := Lib.hid (HBX.out.later HB1.out (by simp; omega)); have HNW1 := Lib.hid (HNX.out.below HB1.out (by simp)); have HSA := Lib.hid HNW1.out.cells; have ca := HBW1.out.cells.2.2.2.2; have cb := (HBW1.out.alloc (.cells #[.int .i64 m.kind, .string m.text, .int .i64 m.lo, .int .i64 m.hi, .slice m.A m.kids.length m.c] 24)).cells.2.2.2.2; have HM := Lib.hid (hmd.out.below (bare_b2 HBA.out HB1.out)); have HSB := Lib.hid (nbox_alloc HNW1.out (.cells #[.int .i64 m.kind, .string m.text, .int .i64 m.lo, .int .i64 m.hi, .slice m.A m.kids.length m.c] 24)).cells) | (refine step_append_lies _ (by rfl) _ _ _ (by rfl) (w.heap.size + 3) 24 i0 _ 5 64 Try.underlying22 hi0 hz0 hz1 hz2 rfl (by decide) (.slice A' l'.length c') l'.length (ncells l') (by rfl) (HM.out.own.alloc _) ⟨w1.heap.size, 0, none⟩ 1 1 (ncells [m]) (by rfl) (by rfl) (World.news_of_block (cs := #[.int .i64 m.kind, .string m.text, .int .i64 m.lo, .int .i64 m.hi, .slice m.A m.kids.length m.c]) (heap_alloc_new w1 _)) (ncells_one _) (by decide) hcap1 hcap2 (by simp; omega) (w1.heap.size + 1) (by simp) ?_; intro g cap w3 hown hgr hsel hgl; have HOWN := Lib.hid hown; have HGR := Lib.hid hgr; have HSEL := Lib.hid hsel; clear hown hgr hsel; have HBW3 := Lib.hid (BBox.grown (HBW1.out.alloc (.cells #[.int .i64 m.kind, .string m.text, .int .i64 m.lo, .int .i64 m.hi, .slice m.A m.kids.length m.c] 24)) HGR.out (fun e => by have := (HVL.out _ e).1; omega)); have HNW3 := Lib.hid (nbox_grown (nbox_alloc HNW1.out (.cells #[.int .i64 m.kind, .string m.text, .int .i64 m.lo, .int .i64 m.hi, .slice m.A m.kids.length m.c] 24)) HGR.out (fun e => by have := (HVL.out _ e).2; omega)); have HSC := Lib.hid HNW3.out.cells; have HSD := Lib.hid (bare_far HNW3.out (a := w.heap.size + 1 + 1) (by omega) (.slice (some ⟨g, 0, none⟩) (l'.length + 1) cap)).cells; have fz := HBW3.out.frozen 4; have cz := HBW3.out.cells.2.2.2.2))
      all_goals
        have HM3 := Lib.hid (HM.out.more HMI.out (by simp; omega) (fun b e => by have := HVL.out b e; simp; omega) _ HOWN.out HGR.out (by rw [World.size_alloc]; exact HSEL.out))
        have HS3 := Lib.hid (show (l' ++ [m]).map NT.strip = (l.take (k + 1)).map NT.bare from by rw [HT.out, List.map_append, hst.out, List.map_cons, List.map_nil, HMS.out])
        have HB2 := Lib.hid (bare_b2 HBA.out HB1.out)
        have HB3 := Lib.hid (((hbw.out.trans (HB2.out.mono hbw.out.size)).alloc (by omega) (.cells #[.int .i64 m.kind, .string m.text, .int .i64 m.lo, .int .i64 m.hi, .slice m.A m.kids.length m.c] 24)).grown HGR.out (by simp; omega) (fun b e => by have := (HM.out.own.lt b e).1; omega))
        have HZ1 := nbox_alloc (hzb.out.below HB2.out (by omega)) (.cells #[.int .i64 m.kind, .string m.text, .int .i64 m.lo, .int .i64 m.hi, .slice m.A m.kids.length m.c] 24)
        have HZ3 := nbox_grown HZ1 HGR.out (fun e => by have := (HM.out.own.lt _ e).1; omega)
        have hz4 : w3.heap.size = (w3.setCell ⟨w.heap.size + 1 + 1, 4, none⟩ (.slice (some ⟨g, 0, none⟩) (l'.length + 1) cap)).heap.size := by simp
        have HQ := Lib.hid (show (l' ++ [m]).length = l'.length + 1 by simp)
        have hz3 := HB3.out.size
        have hz5 := HGR.out.size
        simp at hz5
        go_wp2_with (fail)
        refine ⟨⟨k + 1, some ⟨g, 0, none⟩, cap, l' ++ [m], by omega, by go_num, by have := HLK.out; simp; omega, Lib.hid (by rw [← hz4]; omega), HS3, ?_, ?_, ?_, ?_⟩, by simp [intOf]; omega⟩
        · rw [HQ.out]; exact Lib.hid (HM3.out.far (by omega) _)
        · rw [HQ.out]; exact Lib.hid (set_same HBW3.out _)
        · exact Lib.hid (bare_far HZ3 (by omega) _)
        · exact Lib.hid (HB3.out.setCell (p := ⟨w.heap.size + 1 + 1, 4, none⟩) (by simp; omega) _)
    · have e : l.take k = l := List.take_of_length_le (by omega)
      rw [e] at hst
      clear e
      have hkl : k = l.length := by omega
      subst hkl
      obtain ⟨b0, b1, b2, b3, b4⟩ := hbb.out.cells
      obtain ⟨z0, z1, z2, z3, z4⟩ := zero_cells hzb.out
      have y0 := hzb.out.frozen 0
      have y1 := hzb.out.frozen 1
      have y2 := hzb.out.frozen 2
      have y3 := hzb.out.frozen 3
      have y4 := hzb.out.frozen 4
      have HBW := Lib.hid hbw.out
      have HMD := Lib.hid hmd.out
      have HST := Lib.hid hst.out
      go_wp2_with (fail)
      have hq : NBox (putv wr (w.heap.size + 1) (.int .i64 kd) (.string t) (.int .i64 0) (.int .i64 0) (.slice A' l'.length c')) (w.heap.size + 1) (.mk kd t 0 0 A' c' l') := hzb.out.putv kd t 0 0 A' c' l'
      have hbq := putv_below HBW.out (b := w.heap.size + 1) (by omega) (.int .i64 kd) (.string t) (.int .i64 0) (.int .i64 0) (.slice A' l'.length c')
      have hmq : Made (w.heap.size + 3) (.slice A' l'.length c') l' (putv wr (w.heap.size + 1) (.int .i64 kd) (.string t) (.int .i64 0) (.int .i64 0) (.slice A' l'.length c')) := ((((HMD.out.far (by omega) _).far (by omega) _).far (by omega) _).far (by omega) _).far (by omega) _
      obtain ⟨A2, c2, hv, h1, h2, h3⟩ := (Made.base (B' := w.heap.size) (by omega) hmq).out
      simp only [Value.slice.injEq] at hv
      obtain ⟨rfl, _, rfl⟩ := hv
      have hin2 : InS (Fresh w (putv wr (w.heap.size + 1) (.int .i64 kd) (.string t) (.int .i64 0) (.int .i64 0) (.slice A' l'.length c'))) (putv wr (w.heap.size + 1) (.int .i64 kd) (.string t) (.int .i64 0) (.int .i64 0) (.slice A' l'.length c')) (.mk kd t 0 0 A' c' l') := (inS_iff _).2 ⟨h2, h1, h3⟩
      obtain ⟨v0, v1, v2, v3, v4⟩ := hq.cells
      clear hq hmq h1 h2 h3 z0 z1 z2 z3 z4 y0 y1 y2 y3 y4 b0 b1 b2 b3 b4
      dsimp only [putv, NT.kind, NT.text, NT.lo, NT.hi, NT.A, NT.c, NT.kids] at hbq v0 v1 v2 v3 v4 hin2
      generalize ((((wr.setCell ⟨w.heap.size + 1, 0, none⟩ (.int .i64 kd)).setCell ⟨w.heap.size + 1, 1, none⟩ (.string t)).setCell ⟨w.heap.size + 1, 2, none⟩ (.int .i64 0)).setCell ⟨w.heap.size + 1, 3, none⟩ (.int .i64 0)).setCell ⟨w.heap.size + 1, 4, none⟩ (.slice A' l'.length c') = V at *
      exact bodyPost_ret (v := .agg #[.int .i64 kd, .string t, .int .i64 0, .int .i64 0, .slice A' l'.length c']) (by simp [results, Try.results38, go_sem, v0, v1, v2, v3, v4]) rfl ⟨A', c', l', rfl, HST.out, hin2, hbq⟩

theorem bare_any : ∀ n : NT, Bares 38 n := NT.ind fun n ih w hin hcn => by
  have hce := NT.cnt_eq n
  refine (bare_of n.kind n.text n.lo n.hi n.A n.c n.kids ih w hin.row (fun k hk => hin.kid hk) (by omega)).mono ?_
  rintro e w' ⟨A', c', l', rfl, hst, hin', hb⟩
  refine ⟨.mk n.kind n.text 0 0 A' c' l', rfl, ?_, hin', hb⟩
  exact (NT.strip_eq _).trans ((by simp only [NT.kind, NT.text, NT.lo, NT.hi, NT.kids]; rw [hst]; rfl : NT.mk (NT.mk n.kind n.text 0 0 A' c' l').kind (NT.mk n.kind n.text 0 0 A' c' l').text (NT.mk n.kind n.text 0 0 A' c' l').lo (NT.mk n.kind n.text 0 0 A' c' l').hi none 0 ((NT.mk n.kind n.text 0 0 A' c' l').kids.map NT.strip) = NT.mk n.kind n.text 0 0 none 0 (n.kids.map NT.bare)).trans (NT.bare_eq n).symm)
end Go.Proofs.Ytjikfdifcpdhhaa
