/- What is proved: the first of the shortest chains that begin with a mark. -/
import Derived.Test.YtmamajillkajoaaDoorCoStop
import Derived.Test.YtmamajillkajoaaDoorCoSort
import Derived.Laws.EntriesVeiled
set_option linter.unusedVariables false
namespace Go.Proofs.YtmamajillkajoaaDoor
open Go.RowKit Go.Shelf

def FrRes (g : Gp) (m lim : Nat) (s : Int) (w : World) (e : Ending) (w' : World) : Prop :=
  (match frm g.l g.n m lim with
    | none => e = .returned (.tuple #[.slice none 0 0, .bool false])
    | some k => ∃ X c, e = .returned (.tuple #[.slice X k.length c, .bool true]) ∧ ISl g w' X k ∧ k.length ≤ 1000002 ∧ k.length ≤ c) ∧
  FrZ g (fun _ => False) w w' ∧ Below g.N w w' ∧ ∃ Q' X' cX' vs', GD g (s + 1) Q' X' cX' vs' w' ∧ ∀ v, v < g.n → Q' v ≤ s + 1

/-- the way back is finite -/
def WOk (k : List Vis) : Prop := ∀ (i : Nat) (h : i < k.length), k[i].fr < i ∧ (0 ≤ k[i].fr → 0 ≤ k[i].by_)
theorem WOk.expand {l : List Con} {i : Nat} {x : Vis} : ∀ {es : List Nat} {vs : List Vis}, WOk vs → i < vs.length → WOk (expand l i x es vs)
  | [], vs, h, _ => by simpa [Proofs.YtmamajillkajoaaDoor.expand] using h
  | e :: es, vs, h, hi => by
    rw [Proofs.YtmamajillkajoaaDoor.expand]
    split
    · exact WOk.expand h hi
    · refine WOk.expand (fun j hj => ?_) (by simp; omega)
      by_cases hl : j < vs.length
      · rw [List.getElem_append_left hl]; exact h j hl
      · have : j = vs.length := by simp at hj; omega
        subst this
        simp; omega
theorem WOk.bfs {l : List Con} {p : Vis → Bool} : ∀ {f i : Nat} {vs : List Vis}, WOk vs → WOk (bfs l p f i vs).1
  | 0, _, _, h => by simpa [Proofs.YtmamajillkajoaaDoor.bfs] using h
  | f + 1, i, vs, h => by
    rw [Proofs.YtmamajillkajoaaDoor.bfs]
    cases hx : vs[i]? with
    | none => exact h
    | some x =>
      dsimp only
      split
      · intro j hj
        simp only [List.length_take] at hj
        rw [List.getElem_take]
        exact h j (by omega)
      · exact WOk.bfs (h.expand (List.getElem?_eq_some_iff.1 hx).1)
theorem WOk.one (v : Nat) : WOk [⟨v, -1, -1, 0⟩] := fun i hi => by
  have : i = 0 := by simpa using hi
  subst this
  simp
theorem bfs_len (l : List Con) (p : Vis → Bool) : ∀ (f i : Nat) (vs : List Vis), (bfs l p f i vs).1.length ≤ (bfs l p f i vs).2.length
  | 0, _, _ => by simp [bfs]
  | f + 1, i, vs => by
    rw [bfs]
    cases hx : vs[i]? with
    | none => exact Nat.le_refl _
    | some x =>
      dsimp only
      split
      · simp only [List.length_take]; omega
      · exact bfs_len l p f _ _
theorem way_fuel {k : List Vis} (hw : WOk k) (j : Nat) : ∀ f, j < f → j < k.length → way k f j = way k (j + 1) j := by
  induction j using Nat.strongRecOn with
  | ind j ih =>
    intro f hf hj
    obtain ⟨f', rfl⟩ : ∃ f', f = f' + 1 := ⟨f - 1, by omega⟩
    have h1 := (hw j hj).1
    simp only [way, List.getElem?_eq_getElem hj]
    split
    · rfl
    · have h2 : k[j].fr.toNat < j := by omega
      rw [ih _ h2 f' (by omega) (by omega), ih _ h2 j h2 (by omega)]
theorem frm_eq {l : List Con} {n m lim : Nat} {k : List Vis} (h : srch l n (vertAt l m) (stp l m lim) = k) : frm l n m lim = match k.getLast? with
    | none => none
    | some x => if lmB lim x then none else match hit l m x.v with
      | none => none
      | some q => some ((q :: way k k.length (k.length - 1)) ++ [m]).reverse := by
  subst h
  rfl
theorem frm_none {l : List Con} {n m lim : Nat} {k : List Vis} (h : srch l n (vertAt l m) (stp l m lim) = k) (hp : ∀ y ∈ k, stp l m lim y = false) : frm l n m lim = none := by
  rw [frm_eq h]
  cases hl : k.getLast? with
  | none => rfl
  | some x =>
    have := hp x (List.mem_of_getLast? hl)
    rw [stp_eq] at this
    simp only [Bool.or_eq_false_iff] at this
    simp only [this.1]
    cases hh : hit l m x.v with
    | none => rfl
    | some q => rw [hh] at this; cases this.2

set_option maxRecDepth 100000 in
set_option maxHeartbeats 8000000 in
theorem from_any (g : Gp) (ho : GpOk g) (m lim : Nat) (hm : m < g.l.length) (hv : vertAt g.l m < g.n) (hlim : lim ≤ 1000000000) (s : Int) (Q : Nat → Int) (X : Option Addr) (cX : Nat) (vs0 : List Vis) (w : World)
    (hs : 0 ≤ s ∧ s < 1000000000) (hQ : ∀ v, v < g.n → Q v ≤ s) (hg : GD g s Q X cX vs0 w) :
    Calls Tryd.prog 37 #[.pointer (some ⟨g.gb, 0, none⟩), .int .i64 (m : Int), .int .i64 (lim : Int)] w (FrRes g m lim s w) := by
  have HG := Lib.hid hg
  have HO := Lib.hid ho
  have HQ := Lib.hid hQ
  have hgs := hg.size
  have hob := ho.b
  clear hg ho hQ
  go_enter Tryd.func37, Tryd.ntmps37
  go_wp2_with (fail)
  have hjx : Jx g w.heap.size (w.heap.size + 1) (w.heap.size + 1 + 1) (w.heap.size + 1 + 1 + 1) (w.heap.size + 1 + 1 + 1 + 1) m lim (-1) (((((w.alloc (.cells #[.pointer (some ⟨g.gb, 0, none⟩)] 45)).alloc (.cells #[.int .i64 (m : Int)] 3)).alloc (.cells #[.int .i64 (lim : Int)] 3)).alloc (.cells #[.func (.func 44) #[] #[.pointer (some ⟨w.heap.size, 0, none⟩), .pointer (some ⟨w.heap.size + 1, 0, none⟩)]] 60)).alloc (.cells #[.int .i64 (-1)] 3)) := by
    have K : ∀ (W : World) (b : Nat) (o o' : Obj), W.heap[b]? = some o → (W.alloc o').heap[b]? = some o := fun W b o o' h => (((Below.refl W.heap.size W).alloc (Nat.le_refl _) o').block b (Array.getElem?_eq_some_iff.1 h).1).trans h
    have N : ∀ (W : World) (n : Nat) (o : Obj), W.heap.size = n → (W.alloc o).heap[n]? = some o := fun W n o h => h ▸ heap_alloc_new W o
    exact ⟨⟨K _ _ _ _ (K _ _ _ _ (K _ _ _ _ (K _ _ _ _ (N _ _ _ rfl)))), K _ _ _ _ (K _ _ _ _ (K _ _ _ _ (N _ _ _ (by simp))))⟩, K _ _ _ _ (K _ _ _ _ (N _ _ _ (by simp))), K _ _ _ _ (N _ _ _ (by simp)), N _ _ _ (by simp)⟩
  have hb1 : Below w.heap.size w (((((w.alloc (.cells #[.pointer (some ⟨g.gb, 0, none⟩)] 45)).alloc (.cells #[.int .i64 (m : Int)] 3)).alloc (.cells #[.int .i64 (lim : Int)] 3)).alloc (.cells #[.func (.func 44) #[] #[.pointer (some ⟨w.heap.size, 0, none⟩), .pointer (some ⟨w.heap.size + 1, 0, none⟩)]] 60)).alloc (.cells #[.int .i64 (-1)] 3)) := by
    have e0 := Below.refl w.heap.size w
    have e1 := e0.alloc (by omega) (.cells #[.pointer (some ⟨g.gb, 0, none⟩)] 45)
    have e2 := e1.alloc (by simp) (.cells #[.int .i64 (m : Int)] 3)
    have e3 := e2.alloc (by simp; omega) (.cells #[.int .i64 (lim : Int)] 3)
    have e4 := e3.alloc (by simp; omega) (.cells #[.func (.func 44) #[] #[.pointer (some ⟨w.heap.size, 0, none⟩), .pointer (some ⟨w.heap.size + 1, 0, none⟩)]] 60)
    exact e4.alloc (by simp; omega) (.cells #[.int .i64 (-1)] 3)
  generalize (((((w.alloc (.cells #[.pointer (some ⟨g.gb, 0, none⟩)] 45)).alloc (.cells #[.int .i64 (m : Int)] 3)).alloc (.cells #[.int .i64 (lim : Int)] 3)).alloc (.cells #[.func (.func 44) #[] #[.pointer (some ⟨w.heap.size, 0, none⟩), .pointer (some ⟨w.heap.size + 1, 0, none⟩)]] 60)).alloc (.cells #[.int .i64 (-1)] 3)) = w1 at *
  have HP := Lib.hid (show Jp g w.heap.size (w.heap.size + 1) (w.heap.size + 1 + 1) (w.heap.size + 1 + 1 + 1) (w.heap.size + 1 + 1 + 1 + 1) from ⟨⟨by omega, by omega, by omega, by omega, by omega⟩, by omega, by omega, by omega, by omega⟩)
  have HW9 := Lib.hid (show w.heap.size ≤ w.heap.size + 1 + 1 + 1 + 1 by omega)
  have HB1 := Lib.hid hb1
  have HG1 := Lib.hid (HG.out.below HO.out hb1)
  generalize w.heap.size + 1 + 1 + 1 + 1 = b9 at *
  generalize w.heap.size + 1 + 1 + 1 = b8 at *
  generalize w.heap.size + 1 + 1 = b5 at *
  generalize w.heap.size + 1 = b4 at *
  obtain ⟨b3, HB3⟩ : ∃ b3, Hid (w.heap.size = b3) := ⟨_, Lib.hid rfl⟩
  rw [HB3.out] at hjx HP HW9
  rw [HB3.out]
  have HJ1 := Lib.hid hjx
  clear hjx hb1
  have hfz : ∀ W', FrZ g (fun b => b = b9) w1 W' → FrZ g (fun _ => False) w W' := fun W' h => ⟨Nat.le_trans HB1.out.size h.1, fun b cs t _ h2 h3 h4 h5 => h.2 b cs t (by have := (Array.getElem?_eq_some_iff.1 h5).1; have := HW9.out; have := HB3.out; omega) h2 h3 h4 ((HB1.out.block b (Array.getElem?_eq_some_iff.1 h5).1).trans h5)⟩
  have HFZ := Lib.hid hfz
  clear hfz
  have HCL := Lib.hid (search_any g HO.out (vertAt g.l m) hv 45 #[.pointer (some ⟨b5, 0, none⟩), .pointer (some ⟨b3, 0, none⟩), .pointer (some ⟨b8, 0, none⟩), .pointer (some ⟨b9, 0, none⟩)] (stp g.l m lim) (fun b => b = b9) (Jx g b3 b4 b5 b8 b9 m lim (-1)) (fun x W => Jx g b3 b4 b5 b8 b9 m lim (fndQ g.l m lim x) W) s Q X cX vs0 w1.drew hs HQ.out (HG1.out.below HO.out (Below.refl _ _).drew) (HJ1.out.below (Below.refl _ _).drew)
    (fun W hJ b hb => by subst hb; exact ⟨HP.out.lo.2.2.2.2, fun cs h => by rw [hJ.h9] at h; simp only [Option.some.injEq, Obj.cells.injEq] at h; exact absurd h.2.1 (by decide)⟩)
    (fun W W' hJ hf => hJ.fr HO.out HP.out hf) (stop_lst g HO.out b3 b4 b5 b8 b9 m lim HP.out hm hlim) stop_eK)
  obtain ⟨ab, off, hA, hab, hcs⟩ := HG1.out.con (by omega)
  have q1 := (hcs m hm).2.1
  have hva : (vertAt g.l m : Int) = (g.l[m]'hm).a := by
    have := (pos_cases (HO.out.pos _ (List.getElem_mem hm))).1.1
    unfold vertAt
    rw [List.getElem?_eq_getElem hm]
    simp only
    omega
  rw [← hva] at q1
  clear hcs hva
  obtain ⟨c0, c1, c2, c3, c4, c5⟩ := HG1.out.box.cells
  rw [hA] at c0
  have e3 := Lib.cell_of_heap HJ1.out.bx.h3 0
  have e4 := Lib.cell_of_heap HJ1.out.bx.h4 0
  have HS1 := Lib.hid (show w1.cell? ⟨b3, 0, none⟩ = some (.pointer (some ⟨g.gb, 0, none⟩)) ∧ w1.cell? ⟨b4, 0, none⟩ = some (.int .i64 (m : Int)) ∧ w1.cell? ⟨g.gb, 0, none⟩ = some (.slice (some ⟨ab, off, none⟩) g.l.length g.c) ∧ w1.cell? ⟨ab, off + m * 8 + 1, none⟩ = some (.int .i64 (vertAt g.l m : Int)) from ⟨e3, e4, c0, q1⟩)
  clear c0 c1 c2 c3 c4 c5 e3 e4 q1
  go_region_held3 (fun w' => w'.cell? ⟨b3, 0, none⟩ = some (.pointer (some ⟨g.gb, 0, none⟩)) ∧ w'.cell? ⟨b4, 0, none⟩ = some (.int .i64 (m : Int)) ∧ w'.cell? ⟨g.gb, 0, none⟩ = some (.slice (some ⟨ab, off, none⟩) g.l.length g.c) ∧ w'.cell? ⟨ab, off + m * 8 + 1, none⟩ = some (.int .i64 (vertAt g.l m : Int))) (first | exact HS1.out | exact HS2.out | go_keep) ((first | (go_at_call 33; refine HCL.out.mono ?_; rintro e w2 ⟨Xk, k, ck, rfl, hsr⟩; have HSR := Lib.hid hsr; have HS2 := Lib.hid (show w2.cell? ⟨b3, 0, none⟩ = some (.pointer (some ⟨g.gb, 0, none⟩)) ∧ w2.cell? ⟨b4, 0, none⟩ = some (.int .i64 (m : Int)) ∧ w2.cell? ⟨g.gb, 0, none⟩ = some (.slice (some ⟨ab, off, none⟩) g.l.length g.c) ∧ w2.cell? ⟨ab, off + m * 8 + 1, none⟩ = some (.int .i64 (vertAt g.l m : Int)) from ⟨Lib.cell_of_heap (HSR.out.fr.2 _ _ _ HP.out.ne.2.2.1 (by have := HP.out.lo; have := HO.out.hi; omega) (by have := HP.out.lo; have := HO.out.hi; omega) (by decide) (show w1.drew.heap[b3]? = _ from HJ1.out.bx.h3)) 0, Lib.cell_of_heap (HSR.out.fr.2 _ _ _ HP.out.ne.1 (by have := HP.out.lo; have := HO.out.hi; omega) (by have := HP.out.lo; have := HO.out.hi; omega) (by decide) (show w1.drew.heap[b4]? = _ from HJ1.out.bx.h4)) 0, by obtain ⟨cX, vs, Q', h1, h2⟩ := HSR.out.gd; rw [← hA]; exact h1.box.cells.1, (HSR.out.below.cell (p := ⟨ab, off + m * 8 + 1, none⟩) hab).trans HS1.out.2.2.2⟩); clear hsr)))
  all_goals
    obtain ⟨cX2, vs2, Q2, hg2, hbf, hq2⟩ := HSR.out.gd
    have HSE := Lib.hid (show srch g.l g.n (vertAt g.l m) (stp g.l m lim) = k by unfold srch; rw [hbf])
    have hwk := WOk.bfs (l := g.l) (p := stp g.l m lim) (f := g.n + 1) (i := 0) (WOk.one (vertAt g.l m))
    rw [hbf] at hwk
    have HWK := Lib.hid hwk
    clear hwk
    have HF2 := Lib.hid (HFZ.out w2 HSR.out.fr)
    have HB2 := Lib.hid (show Below g.N w w2 from ((HB1.out.mono (by omega)).trans (Below.refl _ _).drew).trans HSR.out.below)
    have HQ3 := Lib.hid (show ∀ v, v < g.n → Q2 v ≤ s + 1 from fun u hu => by rw [hq2.q u hu]; split; exact Int.le_refl _; have := HQ.out u hu; omega)
    have hkl : k.length ≤ 1000000 := by
      have h1 := hq2.len
      have h2 := bfs_len g.l (stp g.l m lim) (g.n + 1) 0 [⟨vertAt g.l m, -1, -1, 0⟩]
      rw [hbf] at h2
      have h3 := HO.out.n
      simp only at h2
      omega
    have HG2 := Lib.hid hg2
    have HV2 := Lib.hid HSR.out.row
    have hfin := HSR.out.fin
    clear hg2 hbf hq2 HS1 HS2 HCL HFZ HSR
    rcases hfin with ⟨x, hxl, hxp, hjt⟩ | ⟨hj, hpf⟩
    · obtain ⟨ll, HLL⟩ : ∃ ll, Hid (lmB lim x = ll) := ⟨_, Lib.hid rfl⟩
      obtain ⟨hh, HHH⟩ : ∃ hh, Hid (hit g.l m x.v = hh) := ⟨_, Lib.hid rfl⟩
      have HFM := Lib.hid (show frm g.l g.n m lim = if ll then none else match hh with | none => none | some q => some ((q :: way k k.length (k.length - 1)) ++ [m]).reverse by rw [frm_eq HSE.out, hxl]; simp only [HLL.out, HHH.out])
      unfold fndQ at hjt
      rw [HLL.out, HHH.out] at hjt
      have HJT := Lib.hid hjt
      have hk0 : 0 < k.length := by cases k with | nil => cases hxl | cons a b => simp
      clear hjt hxp hxl
      cases ll with
      | true =>
        have d9 : w2.cell? ⟨b9, 0, none⟩ = some (.int .i64 (-1)) := Lib.cell_of_heap HJT.out.h9 0
        go_wp2_with (fail)
        go_ret2
        refine ⟨?_, HF2.out, HB2.out, ⟨_, _, _, _, HG2.out, HQ3.out⟩⟩
        rw [HFM.out]; rfl
      | false =>
        cases hh with
        | none =>
          have d9 : w2.cell? ⟨b9, 0, none⟩ = some (.int .i64 (-1)) := Lib.cell_of_heap HJT.out.h9 0
          go_wp2_with (fail)
          go_ret2
          refine ⟨?_, HF2.out, HB2.out, ⟨_, _, _, _, HG2.out, HQ3.out⟩⟩
          rw [HFM.out]; rfl
        | some q =>
          have d9 : w2.cell? ⟨b9, 0, none⟩ = some (.int .i64 (q : Int)) := Lib.cell_of_heap HJT.out.h9 0
          have HML := Lib.hid (show w2.cell? ⟨b4, 0, none⟩ = some (.int .i64 (m : Int)) from Lib.cell_of_heap HJT.out.bx.h4 0)
          obtain ⟨vb, rfl, hvb, hvc⟩ := HV2.out hk0
          have HVC := Lib.hid hvc
          clear hvc
          have HOQ := Lib.hid (show IOwn (w2.alloc (.cells #[.int .i64 (q : Int)] 3)) w2.heap.size (.slice (some ⟨w2.heap.size, 0, none⟩) 1 1) [q] from World.ownsRow_lit w2 #[.int .i64 (q : Int)] 1 (Nat.le_refl _) (by decide) (by simp))
          have HBQ := Lib.hid ((Below.refl w2.heap.size w2).alloc (Nat.le_refl _) (.cells #[.int .i64 (q : Int)] 3))
          have hb42 := (Array.getElem?_eq_some_iff.1 HJT.out.bx.h4).1
          have hgz := HG2.out.size
          obtain ⟨i0, hi0, hz0, hz1, hz2⟩ := info_parts infoIn2
          go_wp2_with (fail)
          go_loopw [12, 11] (fun i v wr => ∃ (j : Nat) (Y : Option Addr) (c : Nat) (L : List Nat), j < k.length ∧ i = .int .i64 (j : Int) ∧ v = .slice Y L.length c ∧ L.length + j ≤ k.length ∧ Hid (IOwn wr w2.heap.size (.slice Y L.length c) L) ∧ Hid (L ++ way k (j + 1) j = q :: way k k.length (k.length - 1)) ∧ Hid (Below w2.heap.size w2 wr)) (fun i _ _ => (intOf i).toNat)
          case atStart => exact ⟨k.length - 1, _, _, [q], by omega, by go_num, rfl, by simp; omega, HOQ, Lib.hid (by rw [show k.length - 1 + 1 = k.length by omega]; rfl), HBQ⟩
          case round =>
            obtain ⟨j, Y, c, L, hj, rfl, rfl, hLj, hown, hway, hbr⟩ := hrel
            have hzr := hbr.out.size
            obtain ⟨y0, y1, y2, y3⟩ := HVC.out j hj
            have x0 := (hbr.out.cell (p := ⟨vb, j * 4, none⟩) hvb).trans y0
            have x1 := (hbr.out.cell (p := ⟨vb, j * 4 + 1, none⟩) hvb).trans y1
            have x2 := (hbr.out.cell (p := ⟨vb, j * 4 + 2, none⟩) hvb).trans y2
            have x4 := (hbr.out.cell (p := ⟨b4, 0, none⟩) hb42).trans HML.out
            have hwo := HWK.out j hj
            have HWS := Lib.hid (show way k (j + 1) j = if k[j].fr < 0 then [] else k[j].by_.toNat :: way k j k[j].fr.toNat by simp only [way, List.getElem?_eq_getElem hj])
            obtain ⟨y, HY⟩ : ∃ y, Hid (k[j] = y) := ⟨_, Lib.hid rfl⟩
            rw [HY.out] at x0 x1 x2 hwo HWS
            obtain ⟨hw1, hw2⟩ := hwo
            clear y0 y1 y2 y3
            have HLT := Lib.hid (fun b e => World.ownsRow.lt hown.out b e)
            by_cases hf : y.fr < 0
            · have HFL := Lib.hid (show L = q :: way k k.length (k.length - 1) by have h := hway.out; rw [HWS.out, if_pos hf, List.append_nil] at h; exact h)
              have HOW := Lib.hid (hown.out.alloc (.cells #[.int .i64 (m : Int)] 3))
              go_wp2_with (at_builtin; refine wpList_append_lies _ rfl _ _ 23 rfl w2.heap.size 3 i0 _ 1 8 Tryd.underlying23 hi0 hz0 hz1 hz2 rfl (by decide) _ _ _ rfl HOW.out ⟨wr.heap.size, 0, none⟩ 1 1 [.int .i64 (m : Int)] rfl rfl (World.news_of_block (cs := #[.int .i64 (m : Int)]) (heap_alloc_new wr _)) (by simp [Value.oneCell']) (by decide) ?c3 ?c4 ?c5 (wr.heap.size + 1) (by simp) ?_)
              case c3 => unfold maxLen; omega
              case c4 => omega
              case c5 => first | omega | (simp; omega)
              intro gq cap w4 hown4 hgr hsel hgl
              have HB4 := Lib.hid ((hbr.out.alloc hzr (.cells #[.int .i64 (m : Int)] 3)).grown hgr (by simp; omega) (fun b e => (HLT.out b e).1))
              have hle : (L ++ [m]).length = L.length + 1 := by simp
              have HO4 := Lib.hid (show IOwn w4 w2.heap.size (.slice (some ⟨gq, 0, none⟩) (L.length + 1) cap) (L ++ [m]) by unfold IOwn; rw [hle, ints_append]; exact hown4)
              clear hown4 hgr hsel hgl x0 x1 x2 x4
              go_wp2_with (fail)
              refine (rev_own hle.symm HO4.out (by omega)).mono ?_
              rintro e w5 ⟨rfl, ho5, hs5, _, hb5⟩
              have HO5 := Lib.hid ho5
              have HB5 := Lib.hid (HB4.out.trans hb5)
              clear ho5 hs5 hb5
              go_wp2_with (fail)
              go_ret2
              have HFI := Lib.hid (show frm g.l g.n m lim = some (L ++ [m]).reverse by rw [HFM.out, ← HFL.out]; rfl)
              have hrl : (L ++ [m]).reverse.length = L.length + 1 := by simp
              refine ⟨?_, HF2.out.trans (FrZ.below HB5.out), HB2.out.trans (HB5.out.mono (by omega)), ⟨_, _, _, _, HG2.out.below HO.out HB5.out, HQ3.out⟩⟩
              rw [HFI.out]
              exact ⟨some ⟨gq, 0, none⟩, cap, by rw [hrl]; rfl, ISl.of_own HO.out HO5.out hgz hrl, by rw [hrl]; omega, by rw [hrl]; exact HO5.out.cap⟩
            · have hf0 : 0 ≤ y.fr := by omega
              have hbn : ((y.by_.toNat : Nat) : Int) = y.by_ := by have := hw2 hf0; omega
              obtain ⟨f, hfe⟩ : ∃ f : Nat, y.fr = (f : Int) := ⟨y.fr.toNat, by omega⟩
              have hfj : f < j := by omega
              have HWY := Lib.hid (show (L ++ [y.by_.toNat]) ++ way k (f + 1) f = q :: way k k.length (k.length - 1) by
                have h := hway.out
                rw [HWS.out, if_neg hf, show y.fr.toNat = f by omega, way_fuel HWK.out f j hfj (by omega)] at h
                rw [List.append_assoc]
                exact h)
              rw [hfe] at x1 hf hf0
              have HOW := Lib.hid (hown.out.alloc (.cells #[.int .i64 y.by_] 3))
              clear x4
              go_wp2_with (at_builtin; refine wpList_append_lies _ rfl _ _ 23 rfl w2.heap.size 3 i0 _ 1 8 Tryd.underlying23 hi0 hz0 hz1 hz2 rfl (by decide) _ _ _ rfl HOW.out ⟨wr.heap.size, 0, none⟩ 1 1 [.int .i64 y.by_] rfl rfl (World.news_of_block (cs := #[.int .i64 y.by_]) (heap_alloc_new wr _)) (by simp [Value.oneCell']) (by decide) ?c3 ?c4 ?c5 (wr.heap.size + 1) (by simp) ?_)
              case c3 => unfold maxLen; omega
              case c4 => omega
              case c5 => first | omega | (simp; omega)
              intro gq cap w4 hown4 hgr hsel hgl
              have HB4 := Lib.hid ((hbr.out.alloc hzr (.cells #[.int .i64 y.by_] 3)).grown hgr (by simp; omega) (fun b e => (HLT.out b e).1))
              have hle : (L ++ [y.by_.toNat]).length = L.length + 1 := by simp
              have HO4 := Lib.hid (show IOwn w4 w2.heap.size (.slice (some ⟨gq, 0, none⟩) (L ++ [y.by_.toNat]).length cap) (L ++ [y.by_.toNat]) by unfold IOwn; rw [hle, ints_append, show ints [y.by_.toNat] = [.int .i64 y.by_] by simp [ints, hbn]]; exact hown4)
              have z1 := (HB4.out.cell (p := ⟨vb, j * 4 + 1, none⟩) hvb).trans (((hbr.out.cell (p := ⟨vb, j * 4 + 1, none⟩) hvb).symm).trans x1)
              clear hown4 hgr hsel hgl x0 x1 x2
              go_wp2_with (fail)
              exact ⟨⟨f, some ⟨gq, 0, none⟩, cap, L ++ [y.by_.toNat], by omega, rfl, by rw [hle], by rw [hle]; omega, HO4, HWY, HB4⟩, by simp [intOf]; omega⟩
    · have HFM := Lib.hid (frm_none HSE.out hpf)
      have d9 : w2.cell? ⟨b9, 0, none⟩ = some (.int .i64 (-1)) := Lib.cell_of_heap hj.h9 0
      clear hj hpf
      go_wp2_with (fail)
      go_ret2
      refine ⟨?_, HF2.out, HB2.out, ⟨_, _, _, _, HG2.out, HQ3.out⟩⟩
      rw [HFM.out]; rfl
end Go.Proofs.YtmamajillkajoaaDoor
