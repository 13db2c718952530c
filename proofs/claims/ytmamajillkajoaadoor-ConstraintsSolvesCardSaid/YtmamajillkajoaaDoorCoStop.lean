/- What is proved: the function that stops a search for a chain. -/
import Derived.Test.YtmamajillkajoaaDoorCoIdx
set_option linter.unusedVariables false
namespace Go.Proofs.YtmamajillkajoaaDoor
open Go.RowKit Go.Shelf

/-- the boxes of chainFrom -/
structure Jx (g : Gp) (b3 b4 b5 b8 b9 m lim : Nat) (q : Int) (W : World) : Prop where
  bx : Bx g b3 b4 m W
  h5 : W.heap[b5]? = some (.cells #[.int .i64 (lim : Int)] 3 (0, 0))
  h8 : W.heap[b8]? = some (.cells #[.func (.func 44) #[] #[.pointer (some ⟨b3, 0, none⟩), .pointer (some ⟨b4, 0, none⟩)]] 60 (0, 0))
  h9 : W.heap[b9]? = some (.cells #[.int .i64 q] 3 (0, 0))
/-- their places -/
structure Jp (g : Gp) (b3 b4 b5 b8 b9 : Nat) : Prop where
  lo : g.B ≤ b3 ∧ g.B ≤ b4 ∧ g.B ≤ b5 ∧ g.B ≤ b8 ∧ g.B ≤ b9
  ne : b4 ≠ b9 ∧ b5 ≠ b9 ∧ b3 ≠ b9 ∧ b8 ≠ b9
theorem Jx.fr {g : Gp} (ho : GpOk g) {b3 b4 b5 b8 b9 m lim : Nat} {q : Int} (hp : Jp g b3 b4 b5 b8 b9) {W W' : World} (h : Jx g b3 b4 b5 b8 b9 m lim q W) (hf : FrZ g (fun _ => False) W W') : Jx g b3 b4 b5 b8 b9 m lim q W' := by
  have hb := ho.b
  have hu := ho.hi
  have hl := hp.lo
  exact ⟨⟨hf.2 _ _ _ (fun h => h) (by omega) (by omega) (by decide) h.bx.h3, hf.2 _ _ _ (fun h => h) (by omega) (by omega) (by decide) h.bx.h4⟩, hf.2 _ _ _ (fun h => h) (by omega) (by omega) (by decide) h.h5, hf.2 _ _ _ (fun h => h) (by omega) (by omega) (by decide) h.h8, hf.2 _ _ _ (fun h => h) (by omega) (by omega) (by decide) h.h9⟩
theorem Jx.below {g : Gp} {b3 b4 b5 b8 b9 m lim : Nat} {q : Int} {W W' : World} (h : Jx g b3 b4 b5 b8 b9 m lim q W) (hb : Below W.heap.size W W') : Jx g b3 b4 b5 b8 b9 m lim q W' :=
  ⟨h.bx.below hb, (hb.block _ (Array.getElem?_eq_some_iff.1 h.h5).1).trans h.h5, (hb.block _ (Array.getElem?_eq_some_iff.1 h.h8).1).trans h.h8, (hb.block _ (Array.getElem?_eq_some_iff.1 h.h9).1).trans h.h9⟩
theorem Jx.set {g : Gp} {b3 b4 b5 b8 b9 m lim : Nat} {q : Int} (hp : Jp g b3 b4 b5 b8 b9) {W : World} (h : Jx g b3 b4 b5 b8 b9 m lim q W) (q' : Int) : Jx g b3 b4 b5 b8 b9 m lim q' (W.setCell ⟨b9, 0, none⟩ (.int .i64 q')) :=
  ⟨⟨(Below.heap_setCell _ _ _ _ hp.ne.2.2.1).trans h.bx.h3, (Below.heap_setCell _ _ _ _ hp.ne.1).trans h.bx.h4⟩, (Below.heap_setCell _ _ _ _ hp.ne.2.1).trans h.h5, (Below.heap_setCell _ _ _ _ hp.ne.2.2.2).trans h.h8, hset h.h9 _⟩
/-- the limit stops it -/
def lmB (lim : Nat) (x : Vis) : Bool := decide (0 < lim) && decide (lim ≤ x.st + 2)
/-- what is found -/
def fq (ll : Bool) (hh : Option Nat) : Int := if ll then -1 else match hh with | some q => (q : Int) | none => -1
def fndQ (l : List Con) (m lim : Nat) (x : Vis) : Int := fq (lmB lim x) (hit l m x.v)
theorem stp_eq (l : List Con) (m lim : Nat) (x : Vis) : stp l m lim x = (lmB lim x || (hit l m x.v).isSome) := rfl
theorem stop_eK : ∀ args w, (callFunc 45 args).run Tryd.prog w = .ok (.enter 45 args) w := enters_of Tryd.func45 (by kernel_rfl) rfl

set_option maxRecDepth 100000 in
set_option maxHeartbeats 8000000 in
theorem stop_lst (g : Gp) (ho : GpOk g) (b3 b4 b5 b8 b9 m lim : Nat) (hp : Jp g b3 b4 b5 b8 b9) (hm : m < g.l.length) (hlim : lim ≤ 1000000000) : Lst g 45 #[.pointer (some ⟨b5, 0, none⟩), .pointer (some ⟨b3, 0, none⟩), .pointer (some ⟨b8, 0, none⟩), .pointer (some ⟨b9, 0, none⟩)] (stp g.l m lim) (fun b => b = b9) (Jx g b3 b4 b5 b8 b9 m lim (-1)) (fun x W => Jx g b3 b4 b5 b8 b9 m lim (fndQ g.l m lim x) W) := by
  intro W x s Q X cX vs hg hj hxn hxs
  have HG := Lib.hid hg
  have HJ := Lib.hid hj
  have HO := Lib.hid ho
  have HP := Lib.hid hp
  have hba := (Below.refl W.heap.size W).alloc (Nat.le_refl _) (.cells #[.int .i64 (x.v : Int), .int .i64 x.fr, .int .i64 x.by_, .int .i64 (x.st : Int)] 70)
  have HBA := Lib.hid hba
  have hgs := hg.size
  have hob := ho.b
  clear hg hj ho hp hba
  obtain ⟨ll, HLL⟩ : ∃ ll, Hid (lmB lim x = ll) := ⟨_, Lib.hid rfl⟩
  obtain ⟨hh, HHH⟩ : ∃ hh, Hid (hit g.l m x.v = hh) := ⟨_, Lib.hid rfl⟩
  have HST := Lib.hid (show stp g.l m lim x = (ll || hh.isSome) by rw [stp_eq, HLL.out, HHH.out])
  have HFQ := Lib.hid (show fndQ g.l m lim x = fq ll hh by unfold fndQ; rw [HLL.out, HHH.out])
  have hl : ¬ 0 < lim ∧ ll = false ∨ 0 < lim ∧ (¬ (lim : Int) ≤ (x.st : Int) + 2 ∧ ll = false ∨ (lim : Int) ≤ (x.st : Int) + 2 ∧ ll = true) := by
    rw [← HLL.out]
    unfold lmB
    by_cases h1 : 0 < lim
    · right
      have e2 : decide (0 < lim) = true := by simpa using h1
      by_cases h2 : lim ≤ x.st + 2
      · exact ⟨h1, .inr ⟨by omega, by rw [e2]; simpa using h2⟩⟩
      · exact ⟨h1, .inl ⟨by omega, by rw [e2]; simpa using h2⟩⟩
    · left
      exact ⟨h1, by simp [h1]⟩
  obtain ⟨ms, HMS⟩ : ∃ ms, Hid (mrk g.l x.v g.l.length = ms) := ⟨_, Lib.hid rfl⟩
  have hml : ms.length ≤ 1000000000 := by rw [← HMS.out]; have := mrk_len g.l x.v g.l.length; have := HO.out.len; omega
  have HML := Lib.hid (show ∀ e ∈ ms, e < g.l.length from fun e he => (mrk_mem (HMS.out ▸ he)).1)
  have HG1 := Lib.hid (HG.out.below HO.out HBA.out)
  have HJ1 := Lib.hid (HJ.out.below HBA.out)
  have hrow : IOwn (W.alloc (.cells #[.int .i64 (x.v : Int), .int .i64 x.fr, .int .i64 x.by_, .int .i64 (x.st : Int)] 70)) (g.N + 5) (g.R x.v) ms := by
    have h := HG1.out.rows.own x.v (by omega)
    rw [show rowsL g.l g.n g.l.length x.v = ms by rw [← HMS.out]; unfold rowsL; rw [if_pos hxn]] at h
    exact h
  obtain ⟨Xm, cm, hRm, hMr⟩ := int_own hrow
  have hme := Lib.cell_of_heap HG1.out.mh x.v
  rw [hdr_get _ hxn, hRm] at hme
  have HME := Lib.hid hme
  have HMR := Lib.hid hMr
  have HRB := Lib.hid hRm
  have HHT := Lib.hid (show ms.find? (fun i => exclB (markAt g.l m) (markAt g.l i)) = hh by rw [← HHH.out]; unfold hit; rw [HMS.out])
  have HVB := Lib.hid (heap_alloc_new W (.cells #[.int .i64 (x.v : Int), .int .i64 x.fr, .int .i64 x.by_, .int .i64 (x.st : Int)] 70))
  have hz1 : (W.alloc (.cells #[.int .i64 (x.v : Int), .int .i64 x.fr, .int .i64 x.by_, .int .i64 (x.st : Int)] 70)).heap.size = W.heap.size + 1 := by simp
  have HZ1 := Lib.hid hz1
  clear hrow hRm hMr hme hz1
  have z5 := Lib.cell_of_heap HJ1.out.h5 0
  obtain ⟨vb, HVN⟩ : ∃ vb, Hid (vb = W.heap.size) := ⟨_, Lib.hid rfl⟩
  rcases hl with ⟨h1, rfl⟩ | ⟨h1, ⟨h2, rfl⟩ | ⟨h2, rfl⟩⟩
  · go_enter Tryd.func45, Tryd.ntmps45
    go_wp2_with (fail)
    rw [← HVN.out]
    rw [← HVN.out] at HVB HZ1
    have HW1 := HBA.out
    generalize (W.alloc (.cells #[.int .i64 (x.v : Int), .int .i64 x.fr, .int .i64 x.by_, .int .i64 (x.st : Int)] 70)) = w1 at *
    clear z5 h1
    have HB1 := Lib.hid HW1
    clear HW1
    have e3 := Lib.cell_of_heap HJ1.out.bx.h3 0
    have e8 := Lib.cell_of_heap HJ1.out.h8 0
    obtain ⟨c0, c1, c2, c3, c4, c5⟩ := HG1.out.box.cells
    have v0 := Lib.cell_of_heap HVB.out 0
    have em := HME.out
    have HIX := Lib.hid (fun W' (h : Below w1.heap.size w1 W') => idxF_any g HO.out W' s Q X cX vs (HG1.out.below HO.out h) b3 b4 m (HJ1.out.bx.below h) hm Xm cm ms HML.out hml (fun h0 => by obtain ⟨b, q1, q2, q3, q4⟩ := HMR.out h0; exact ⟨b, q1, Nat.lt_of_lt_of_le q3 h.size, fun i hi => (h.cell (p := ⟨b, i, none⟩) q3).trans (q4 i hi)⟩))
    have HD1 := Lib.hid (Below.refl w1.heap.size w1).drew
    go_region_held3 (fun w' => w'.cell? ⟨b3, 0, none⟩ = some (.pointer (some ⟨g.gb, 0, none⟩)) ∧ w'.cell? ⟨g.gb, 1, none⟩ = some (.slice (some ⟨g.mb, 0, none⟩) g.n g.n) ∧ w'.cell? ⟨vb, 0, none⟩ = some (.int .i64 (x.v : Int)) ∧ w'.cell? ⟨g.mb, x.v, none⟩ = some (.slice Xm ms.length cm) ∧ w'.cell? ⟨b8, 0, none⟩ = some (.func (.func 44) #[] #[.pointer (some ⟨b3, 0, none⟩), .pointer (some ⟨b4, 0, none⟩)])) (first | exact HS.out | go_keep) ((first | (go_at_call 46; refine (HIX.out w1.drew HD1.out).mono ?_; rintro e w3 ⟨r, rfl, hfst, hb3⟩; have HB3 := Lib.hid (HD1.out.trans hb3); have HFS := Lib.hid hfst; have HS := Lib.hid (show w3.cell? ⟨b3, 0, none⟩ = some (.pointer (some ⟨g.gb, 0, none⟩)) ∧ w3.cell? ⟨g.gb, 1, none⟩ = some (.slice (some ⟨g.mb, 0, none⟩) g.n g.n) ∧ w3.cell? ⟨vb, 0, none⟩ = some (.int .i64 (x.v : Int)) ∧ w3.cell? ⟨g.mb, x.v, none⟩ = some (.slice Xm ms.length cm) ∧ w3.cell? ⟨b8, 0, none⟩ = some (.func (.func 44) #[] #[.pointer (some ⟨b3, 0, none⟩), .pointer (some ⟨b4, 0, none⟩)]) from (by have q := HB3.out; have z := HZ1.out; exact ⟨Lib.cell_of_heap (HJ1.out.below q).bx.h3 0, (HG1.out.below HO.out q).box.cells.2.1, (q.cell (p := ⟨vb, 0, none⟩) (by simp; omega)).trans v0, (q.cell (p := ⟨g.mb, x.v, none⟩) (Array.getElem?_eq_some_iff.1 HG1.out.mh).1).trans em, Lib.cell_of_heap (HJ1.out.below q).h8 0⟩)); clear hb3 hfst)))
    all_goals
      have HG3 := Lib.hid (HG1.out.below HO.out HB3.out)
      have HJ3 := Lib.hid (HJ1.out.below HB3.out)
      have HFR := Lib.hid (show ∀ b, b < W.heap.size → w3.heap[b]? = W.heap[b]? from fun b hb => (HB3.out.block b (by have := HZ1.out; have := HVN.out; omega)).trans (HB1.out.block b hb))
      have HSZ := Lib.hid (show W.heap.size ≤ w3.heap.size from Nat.le_trans HB1.out.size HB3.out.size)
      have HBN := Lib.hid (show Below g.N W w3 from (HB1.out.trans (HB3.out.mono HB1.out.size)).mono (by omega))
      rcases HFS.out with ⟨rfl, hf⟩ | ⟨k, hk, rfl, hf⟩
      · have HHN := Lib.hid (show hh = none from HHT.out.symm.trans hf)
        clear hf
        go_wp2_with (fail)
        go_ret
        refine ⟨by rw [HST.out, HHN.out]; rfl, HSZ.out, fun b hb _ => HFR.out b hb, HBN.out, fun _ => HJ3.out, fun h => by rw [HST.out, HHN.out] at h; cases h⟩
      · obtain ⟨qv, HQV⟩ : ∃ qv, Hid (ms[k] = qv) := ⟨_, Lib.hid rfl⟩
        have HHN := Lib.hid (show hh = some qv from HHT.out.symm.trans (by rw [← HQV.out]; exact hf))
        obtain ⟨rb', rfl, q2, q3, q4⟩ := HMR.out (by omega)
        have rk := (HB3.out.cell (p := ⟨rb', k, none⟩) q3).trans (q4 k hk)
        rw [HQV.out] at rk
        obtain ⟨d1, d2, d3, d4, d5⟩ := HS.out
        have d9 := Lib.cell_of_heap HJ3.out.h9 0
        have f9 := hfrz HJ3.out.h9 0
        clear hf q4 e3 e8 c0 c1 c2 c3 c4 c5 v0 em
        have hlo := HP.out.lo
        have hne := HP.out.ne
        have hgl := HO.out.hi
        have n1 : b9 ≠ g.gb := by omega
        have n2 : b9 ≠ g.mb := by omega
        have n3 : b9 ≠ vb := by intro h; have h1 := HVB.out; rw [← h, HJ1.out.h9] at h1; simp only [Option.some.injEq, Obj.cells.injEq] at h1; exact absurd h1.2.1 (by decide)
        have hrb : rb' < g.B := HG3.out.hi x.v (by omega) rb' (by rw [HRB.out]; rfl)
        have n4 : b9 ≠ rb' := by omega
        have HKK := Lib.hid (show (w3.setCell ⟨b9, 0, none⟩ (.int .i64 (qv : Int))).drew.cell? ⟨b3, 0, none⟩ = some (.pointer (some ⟨g.gb, 0, none⟩)) ∧ (w3.setCell ⟨b9, 0, none⟩ (.int .i64 (qv : Int))).drew.cell? ⟨g.gb, 1, none⟩ = some (.slice (some ⟨g.mb, 0, none⟩) g.n g.n) ∧ (w3.setCell ⟨b9, 0, none⟩ (.int .i64 (qv : Int))).drew.cell? ⟨vb, 0, none⟩ = some (.int .i64 (x.v : Int)) ∧ (w3.setCell ⟨b9, 0, none⟩ (.int .i64 (qv : Int))).drew.cell? ⟨g.mb, x.v, none⟩ = some (.slice (some ⟨rb', 0, none⟩) ms.length cm) ∧ (w3.setCell ⟨b9, 0, none⟩ (.int .i64 (qv : Int))).drew.cell? ⟨rb', k, none⟩ = some (.int .i64 (qv : Int)) from ⟨(World.cell?_setCell_far _ _ _ _ hne.2.2.1.symm).trans d1, (World.cell?_setCell_far _ _ _ _ n1).trans d2, (World.cell?_setCell_far _ _ _ _ n3).trans d3, (World.cell?_setCell_far _ _ _ _ n2).trans d4, (World.cell?_setCell_far _ _ _ _ n4).trans rk⟩)
        go_wp2_with (fail)
        go_region_held3 (fun w' => w'.cell? ⟨b3, 0, none⟩ = some (.pointer (some ⟨g.gb, 0, none⟩)) ∧ w'.cell? ⟨g.gb, 1, none⟩ = some (.slice (some ⟨g.mb, 0, none⟩) g.n g.n) ∧ w'.cell? ⟨vb, 0, none⟩ = some (.int .i64 (x.v : Int)) ∧ w'.cell? ⟨g.mb, x.v, none⟩ = some (.slice (some ⟨rb', 0, none⟩) ms.length cm) ∧ w'.cell? ⟨rb', k, none⟩ = some (.int .i64 (qv : Int))) (first | exact HKK.out | go_keep) (fail)
        all_goals
          have HJ5 : Hid (Jx g b3 b4 b5 b8 b9 m lim (qv : Int) (w3.setCell ⟨b9, 0, none⟩ (.int .i64 (qv : Int))).drew) := Lib.hid ((HJ3.out.set HP.out (qv : Int)).below (Below.refl _ _).drew)
          have HFR5 := Lib.hid (show ∀ b, b < W.heap.size → ¬ b = b9 → (w3.setCell ⟨b9, 0, none⟩ (.int .i64 (qv : Int))).drew.heap[b]? = W.heap[b]? from fun b hb hn => (Below.heap_setCell _ _ _ _ hn).trans (HFR.out b hb))
          have HBN5 := Lib.hid (show Below g.N W (w3.setCell ⟨b9, 0, none⟩ (.int .i64 (qv : Int))).drew from (HBN.out.setCell (p := ⟨b9, 0, none⟩) (by simp; omega) _).drew)
          have HSZ5 := Lib.hid (show W.heap.size ≤ (w3.setCell ⟨b9, 0, none⟩ (.int .i64 (qv : Int))).drew.heap.size from (show W.heap.size ≤ (w3.setCell ⟨b9, 0, none⟩ (.int .i64 (qv : Int))).heap.size by have := HSZ.out; simpa using this))
          generalize (w3.setCell ⟨b9, 0, none⟩ (.int .i64 (qv : Int))).drew = w5 at *
          go_wp2_with (fail)
          go_ret
          refine ⟨by rw [HST.out, HHN.out]; rfl, HSZ5.out, HFR5.out, HBN5.out, fun h => (by rw [HST.out, HHN.out] at h; cases h), fun _ => ?_⟩
          rw [HFQ.out, HHN.out]
          exact HJ5.out
  · go_enter Tryd.func45, Tryd.ntmps45
    go_wp2_with (fail)
    rw [← HVN.out]
    rw [← HVN.out] at HVB HZ1
    have HW1 := HBA.out
    generalize (W.alloc (.cells #[.int .i64 (x.v : Int), .int .i64 x.fr, .int .i64 x.by_, .int .i64 (x.st : Int)] 70)) = w1 at *
    clear z5 h1
    have HB1 := Lib.hid HW1
    clear HW1
    have e3 := Lib.cell_of_heap HJ1.out.bx.h3 0
    have e8 := Lib.cell_of_heap HJ1.out.h8 0
    obtain ⟨c0, c1, c2, c3, c4, c5⟩ := HG1.out.box.cells
    have v0 := Lib.cell_of_heap HVB.out 0
    have em := HME.out
    have HIX := Lib.hid (fun W' (h : Below w1.heap.size w1 W') => idxF_any g HO.out W' s Q X cX vs (HG1.out.below HO.out h) b3 b4 m (HJ1.out.bx.below h) hm Xm cm ms HML.out hml (fun h0 => by obtain ⟨b, q1, q2, q3, q4⟩ := HMR.out h0; exact ⟨b, q1, Nat.lt_of_lt_of_le q3 h.size, fun i hi => (h.cell (p := ⟨b, i, none⟩) q3).trans (q4 i hi)⟩))
    have HD1 := Lib.hid (Below.refl w1.heap.size w1).drew
    go_region_held3 (fun w' => w'.cell? ⟨b3, 0, none⟩ = some (.pointer (some ⟨g.gb, 0, none⟩)) ∧ w'.cell? ⟨g.gb, 1, none⟩ = some (.slice (some ⟨g.mb, 0, none⟩) g.n g.n) ∧ w'.cell? ⟨vb, 0, none⟩ = some (.int .i64 (x.v : Int)) ∧ w'.cell? ⟨g.mb, x.v, none⟩ = some (.slice Xm ms.length cm) ∧ w'.cell? ⟨b8, 0, none⟩ = some (.func (.func 44) #[] #[.pointer (some ⟨b3, 0, none⟩), .pointer (some ⟨b4, 0, none⟩)])) (first | exact HS.out | go_keep) ((first | (go_at_call 46; refine (HIX.out w1.drew HD1.out).mono ?_; rintro e w3 ⟨r, rfl, hfst, hb3⟩; have HB3 := Lib.hid (HD1.out.trans hb3); have HFS := Lib.hid hfst; have HS := Lib.hid (show w3.cell? ⟨b3, 0, none⟩ = some (.pointer (some ⟨g.gb, 0, none⟩)) ∧ w3.cell? ⟨g.gb, 1, none⟩ = some (.slice (some ⟨g.mb, 0, none⟩) g.n g.n) ∧ w3.cell? ⟨vb, 0, none⟩ = some (.int .i64 (x.v : Int)) ∧ w3.cell? ⟨g.mb, x.v, none⟩ = some (.slice Xm ms.length cm) ∧ w3.cell? ⟨b8, 0, none⟩ = some (.func (.func 44) #[] #[.pointer (some ⟨b3, 0, none⟩), .pointer (some ⟨b4, 0, none⟩)]) from (by have q := HB3.out; have z := HZ1.out; exact ⟨Lib.cell_of_heap (HJ1.out.below q).bx.h3 0, (HG1.out.below HO.out q).box.cells.2.1, (q.cell (p := ⟨vb, 0, none⟩) (by simp; omega)).trans v0, (q.cell (p := ⟨g.mb, x.v, none⟩) (Array.getElem?_eq_some_iff.1 HG1.out.mh).1).trans em, Lib.cell_of_heap (HJ1.out.below q).h8 0⟩)); clear hb3 hfst)))
    all_goals
      have HG3 := Lib.hid (HG1.out.below HO.out HB3.out)
      have HJ3 := Lib.hid (HJ1.out.below HB3.out)
      have HFR := Lib.hid (show ∀ b, b < W.heap.size → w3.heap[b]? = W.heap[b]? from fun b hb => (HB3.out.block b (by have := HZ1.out; have := HVN.out; omega)).trans (HB1.out.block b hb))
      have HSZ := Lib.hid (show W.heap.size ≤ w3.heap.size from Nat.le_trans HB1.out.size HB3.out.size)
      have HBN := Lib.hid (show Below g.N W w3 from (HB1.out.trans (HB3.out.mono HB1.out.size)).mono (by omega))
      rcases HFS.out with ⟨rfl, hf⟩ | ⟨k, hk, rfl, hf⟩
      · have HHN := Lib.hid (show hh = none from HHT.out.symm.trans hf)
        clear hf
        go_wp2_with (fail)
        go_ret
        refine ⟨by rw [HST.out, HHN.out]; rfl, HSZ.out, fun b hb _ => HFR.out b hb, HBN.out, fun _ => HJ3.out, fun h => by rw [HST.out, HHN.out] at h; cases h⟩
      · obtain ⟨qv, HQV⟩ : ∃ qv, Hid (ms[k] = qv) := ⟨_, Lib.hid rfl⟩
        have HHN := Lib.hid (show hh = some qv from HHT.out.symm.trans (by rw [← HQV.out]; exact hf))
        obtain ⟨rb', rfl, q2, q3, q4⟩ := HMR.out (by omega)
        have rk := (HB3.out.cell (p := ⟨rb', k, none⟩) q3).trans (q4 k hk)
        rw [HQV.out] at rk
        obtain ⟨d1, d2, d3, d4, d5⟩ := HS.out
        have d9 := Lib.cell_of_heap HJ3.out.h9 0
        have f9 := hfrz HJ3.out.h9 0
        clear hf q4 e3 e8 c0 c1 c2 c3 c4 c5 v0 em
        have hlo := HP.out.lo
        have hne := HP.out.ne
        have hgl := HO.out.hi
        have n1 : b9 ≠ g.gb := by omega
        have n2 : b9 ≠ g.mb := by omega
        have n3 : b9 ≠ vb := by intro h; have h1 := HVB.out; rw [← h, HJ1.out.h9] at h1; simp only [Option.some.injEq, Obj.cells.injEq] at h1; exact absurd h1.2.1 (by decide)
        have hrb : rb' < g.B := HG3.out.hi x.v (by omega) rb' (by rw [HRB.out]; rfl)
        have n4 : b9 ≠ rb' := by omega
        have HKK := Lib.hid (show (w3.setCell ⟨b9, 0, none⟩ (.int .i64 (qv : Int))).drew.cell? ⟨b3, 0, none⟩ = some (.pointer (some ⟨g.gb, 0, none⟩)) ∧ (w3.setCell ⟨b9, 0, none⟩ (.int .i64 (qv : Int))).drew.cell? ⟨g.gb, 1, none⟩ = some (.slice (some ⟨g.mb, 0, none⟩) g.n g.n) ∧ (w3.setCell ⟨b9, 0, none⟩ (.int .i64 (qv : Int))).drew.cell? ⟨vb, 0, none⟩ = some (.int .i64 (x.v : Int)) ∧ (w3.setCell ⟨b9, 0, none⟩ (.int .i64 (qv : Int))).drew.cell? ⟨g.mb, x.v, none⟩ = some (.slice (some ⟨rb', 0, none⟩) ms.length cm) ∧ (w3.setCell ⟨b9, 0, none⟩ (.int .i64 (qv : Int))).drew.cell? ⟨rb', k, none⟩ = some (.int .i64 (qv : Int)) from ⟨(World.cell?_setCell_far _ _ _ _ hne.2.2.1.symm).trans d1, (World.cell?_setCell_far _ _ _ _ n1).trans d2, (World.cell?_setCell_far _ _ _ _ n3).trans d3, (World.cell?_setCell_far _ _ _ _ n2).trans d4, (World.cell?_setCell_far _ _ _ _ n4).trans rk⟩)
        go_wp2_with (fail)
        go_region_held3 (fun w' => w'.cell? ⟨b3, 0, none⟩ = some (.pointer (some ⟨g.gb, 0, none⟩)) ∧ w'.cell? ⟨g.gb, 1, none⟩ = some (.slice (some ⟨g.mb, 0, none⟩) g.n g.n) ∧ w'.cell? ⟨vb, 0, none⟩ = some (.int .i64 (x.v : Int)) ∧ w'.cell? ⟨g.mb, x.v, none⟩ = some (.slice (some ⟨rb', 0, none⟩) ms.length cm) ∧ w'.cell? ⟨rb', k, none⟩ = some (.int .i64 (qv : Int))) (first | exact HKK.out | go_keep) (fail)
        all_goals
          have HJ5 : Hid (Jx g b3 b4 b5 b8 b9 m lim (qv : Int) (w3.setCell ⟨b9, 0, none⟩ (.int .i64 (qv : Int))).drew) := Lib.hid ((HJ3.out.set HP.out (qv : Int)).below (Below.refl _ _).drew)
          have HFR5 := Lib.hid (show ∀ b, b < W.heap.size → ¬ b = b9 → (w3.setCell ⟨b9, 0, none⟩ (.int .i64 (qv : Int))).drew.heap[b]? = W.heap[b]? from fun b hb hn => (Below.heap_setCell _ _ _ _ hn).trans (HFR.out b hb))
          have HBN5 := Lib.hid (show Below g.N W (w3.setCell ⟨b9, 0, none⟩ (.int .i64 (qv : Int))).drew from (HBN.out.setCell (p := ⟨b9, 0, none⟩) (by simp; omega) _).drew)
          have HSZ5 := Lib.hid (show W.heap.size ≤ (w3.setCell ⟨b9, 0, none⟩ (.int .i64 (qv : Int))).drew.heap.size from (show W.heap.size ≤ (w3.setCell ⟨b9, 0, none⟩ (.int .i64 (qv : Int))).heap.size by have := HSZ.out; simpa using this))
          generalize (w3.setCell ⟨b9, 0, none⟩ (.int .i64 (qv : Int))).drew = w5 at *
          go_wp2_with (fail)
          go_ret
          refine ⟨by rw [HST.out, HHN.out]; rfl, HSZ5.out, HFR5.out, HBN5.out, fun h => (by rw [HST.out, HHN.out] at h; cases h), fun _ => ?_⟩
          rw [HFQ.out, HHN.out]
          exact HJ5.out
  · go_enter Tryd.func45, Tryd.ntmps45
    go_wp2_with (fail)
    go_ret
    refine ⟨by rw [HST.out]; rfl, by simp, fun b hb _ => HBA.out.block b hb, HBA.out.mono (by omega), fun h => (by rw [HST.out] at h; cases h), fun _ => ?_⟩
    rw [HFQ.out]
    exact HJ1.out
end Go.Proofs.YtmamajillkajoaaDoor
