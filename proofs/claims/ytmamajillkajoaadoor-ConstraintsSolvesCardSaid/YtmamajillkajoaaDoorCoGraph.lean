/- What is proved: the graph of constraints as it stands in memory while it is searched: what stays, what changes. -/
import Derived.Test.YtmamajillkajoaaDoorCoNew
set_option linter.unusedVariables false
namespace Go.Proofs.YtmamajillkajoaaDoor
open Go.RowKit

/-- a graph: where its parts lie -/
structure Gp where
  N : Nat
  B : Nat
  n : Nat
  mb : Nat
  eb : Nat
  rb : Nat
  gb : Nat
  A : Option Addr
  c : Nat
  l : List Con
  R : Nat → Value
/-- the cells of visits -/
def vcs : List Vis → List Value
  | [] => []
  | x :: xs => .int .i64 (x.v : Int) :: .int .i64 x.fr :: .int .i64 x.by_ :: .int .i64 (x.st : Int) :: vcs xs
theorem vcs_append (l m : List Vis) : vcs (l ++ m) = vcs l ++ vcs m := by
  induction l with
  | nil => rfl
  | cons r rs ih => simp [vcs, ih]
theorem vcs_len (l : List Vis) : (vcs l).length = l.length * 4 := by
  induction l with
  | nil => rfl
  | cons r rs ih => simp [vcs, ih]; omega
theorem vcs_one (l : List Vis) : ∀ u ∈ vcs l, u.oneCell' = true := by
  induction l with
  | nil => simp [vcs]
  | cons r rs ih =>
    intro u hu
    simp only [vcs, List.mem_cons] at hu
    rcases hu with rfl | rfl | rfl | rfl | hu
    · rfl
    · rfl
    · rfl
    · rfl
    · exact ih u hu
theorem vcs_get (l : List Vis) : ∀ (i : Nat) (h : i < l.length), (vcs l)[i * 4]? = some (.int .i64 ((l[i].v : Nat) : Int)) ∧ (vcs l)[i * 4 + 1]? = some (.int .i64 l[i].fr) ∧ (vcs l)[i * 4 + 2]? = some (.int .i64 l[i].by_) ∧ (vcs l)[i * 4 + 3]? = some (.int .i64 ((l[i].st : Nat) : Int)) := by
  induction l with
  | nil => intro i h; simp at h
  | cons r rs ih =>
    intro i h
    cases i with
    | zero => simp [vcs]
    | succ i =>
      have h' := ih i (by simpa using h)
      rw [show (i + 1) * 4 = i * 4 + 4 from by omega]
      simpa [vcs] using h'
/-- a visit's cells -/
def VCells (w : World) (b o : Nat) (x : Vis) : Prop :=
  w.cell? ⟨b, o, none⟩ = some (.int .i64 (x.v : Int)) ∧ w.cell? ⟨b, o + 1, none⟩ = some (.int .i64 x.fr) ∧ w.cell? ⟨b, o + 2, none⟩ = some (.int .i64 x.by_) ∧ w.cell? ⟨b, o + 3, none⟩ = some (.int .i64 (x.st : Int))
/-- a slice of visits -/
def VRow (n₀ : Nat) (w : World) (A : Option Addr) (l : List Vis) : Prop :=
  0 < l.length → ∃ b, A = some ⟨b, 0, none⟩ ∧ b < n₀ ∧ ∀ (i : Nat) (h : i < l.length), VCells w b (i * 4) l[i]
theorem co_add (g i : Nat) : (⟨g, 0, none⟩ : Addr).add i = ⟨g, i, none⟩ := by unfold Addr.add; split <;> simp_all
theorem vis_own {w : World} {B : Nat} {X : Option Addr} {n c : Nat} {l : List Vis} (h : w.ownsRow B 70 4 (.slice X n c) n (vcs l)) (hn : l.length = n) : VRow w.heap.size w X l := fun h0 => by
  obtain ⟨g, cap, hv, _, hlt⟩ := h.form (by omega)
  cases hv
  have hc := h.cells (g := g) rfl
  refine ⟨g, rfl, hlt, fun i hi => ?_⟩
  obtain ⟨e1, e2, e3, e4⟩ := vcs_get l i hi
  have a1 := hc _ _ e1
  have a2 := hc _ _ e2
  have a3 := hc _ _ e3
  have a4 := hc _ _ e4
  rw [co_add] at a1 a2 a3 a4
  exact ⟨a1, a2, a3, a4⟩
/-- integers that the call owns, read -/
theorem int_own {w : World} {B : Nat} {v : Value} {l : List Nat} (h : IOwn w B v l) : ∃ X c, v = .slice X l.length c ∧ (0 < l.length → ∃ b, X = some ⟨b, 0, none⟩ ∧ B ≤ b ∧ b < w.heap.size ∧ ∀ (i : Nat) (h : i < l.length), w.cell? ⟨b, i, none⟩ = some (.int .i64 ((l[i] : Nat) : Int))) := by
  rcases Nat.eq_zero_or_pos l.length with h0 | h0
  · rcases h.2 with ⟨rfl, _⟩ | ⟨g, cap, cur, rfl, _⟩
    · exact ⟨none, 0, by rw [h0], fun hh => by omega⟩
    · exact ⟨_, _, rfl, fun hh => by omega⟩
  · obtain ⟨g, cap, hv, hlo, hlt⟩ := World.ownsRow.form h h0
    refine ⟨some ⟨g, 0, none⟩, cap, hv, fun _ => ⟨g, rfl, hlo, hlt, fun i hi => ?_⟩⟩
    have hc := World.ownsRow.cells h (g := g) (by rw [hv]; rfl)
    have e : (ints l)[i]? = some (.int .i64 ((l[i] : Nat) : Int)) := by simp [ints, hi]
    have a := hc _ _ e
    rw [co_add] at a
    exact a

/-- the graph as it stands -/
structure GD (g : Gp) (s : Int) (Q : Nat → Int) (X : Option Addr) (cX : Nat) (vs : List Vis) (W : World) : Prop where
  box : GBox W g.gb g.A g.l.length g.c g.mb g.eb g.n s g.rb (.slice X vs.length cX)
  rh : W.heap[g.rb]? = some (.cells (hdr (fun v => .int .i64 (Q v)) g.n) 3 (0, 0))
  mh : W.heap[g.mb]? = some (.cells (hdr g.R g.n) 23 (0, 0))
  eh : W.heap[g.eb]? = some (.cells (hdr (fun v => g.R (g.n + v)) g.n) 23 (0, 0))
  rows : Rows2 W (g.N + 5) (2 * g.n) g.R (rowsL g.l g.n g.l.length)
  hi : ∀ i, i < 2 * g.n → ∀ b, (g.R i).ownBlock = some b → b < g.B
  con : CRow g.N W g.A g.l
  vis : W.ownsRow (g.N + 5) 70 4 (.slice X vs.length cX) vs.length (vcs vs)
  size : g.B ≤ W.heap.size
/-- the numbers of the parts -/
structure GpOk (g : Gp) : Prop where
  lo : g.N ≤ g.mb ∧ g.N ≤ g.eb ∧ g.N ≤ g.rb ∧ g.N ≤ g.gb
  hi : g.mb < g.N + 5 ∧ g.eb < g.N + 5 ∧ g.rb < g.N + 5 ∧ g.gb < g.N + 5
  ne : g.mb ≠ g.eb ∧ g.mb ≠ g.rb ∧ g.mb ≠ g.gb ∧ g.eb ≠ g.rb ∧ g.eb ≠ g.gb ∧ g.rb ≠ g.gb
  b : g.N + 5 ≤ g.B
  n : g.n ≤ 1000000
  len : g.l.length ≤ 1000000
  pos : ∀ x ∈ g.l, posB g.n x = true
/-- nothing but cells of one's own changes -/
theorem GD.stays {g : Gp} {s : Int} {Q : Nat → Int} {X : Option Addr} {cX : Nat} {vs : List Vis} {W W' : World} (h : GD g s Q X cX vs W) (ho : GpOk g) {Z : Nat → Prop} (hz : ∀ b, Z b → g.B ≤ b ∧ ∀ cs, W.heap[b]? ≠ some (.cells cs 70 (0, 0)))
    (hb : ∀ b, b < W.heap.size → ¬ Z b → W'.heap[b]? = W.heap[b]?) (hs : W.heap.size ≤ W'.heap.size) : GD g s Q X cX vs W' := by
  have h5 := ho.b
  have hu := ho.hi
  have hsz := h.size
  have low : ∀ b, b < g.B → W'.heap[b]? = W.heap[b]? := fun b hlt => hb b (by omega) fun hZ => by have := (hz b hZ).1; omega
  refine ⟨(low _ (by omega)).trans h.box, (low _ (by omega)).trans h.rh, (low _ (by omega)).trans h.mh, (low _ (by omega)).trans h.eh, ⟨fun i hi => own_stays (h.rows.own i hi) fun b e => low b (h.hi i hi b e), h.rows.dis⟩, h.hi, fun h0 => ?_, ?_, Nat.le_trans hsz hs⟩
  · obtain ⟨b, off, hA, hlt, hc⟩ := h.con h0
    refine ⟨b, off, hA, hlt, fun i hi => ?_⟩
    have hcell : ∀ o, W'.cell? ⟨b, o, none⟩ = W.cell? ⟨b, o, none⟩ := fun o => World.cell?_of_block (a := ⟨b, o, none⟩) (low b (by omega))
    obtain ⟨q0, q1, q2, q3, q4, q5, q6, q7⟩ := hc i hi
    exact ⟨(hcell _).trans q0, (hcell _).trans q1, (hcell _).trans q2, (hcell _).trans q3, (hcell _).trans q4, (hcell _).trans q5, (hcell _).trans q6, (hcell _).trans q7⟩
  · refine own_stays h.vis fun b e => ?_
    obtain ⟨_, h2, cs, h3⟩ := own_block' h.vis e
    exact hb b h2 fun hZ => (hz b hZ).2 cs h3
theorem GD.below {g : Gp} {s : Int} {Q : Nat → Int} {X : Option Addr} {cX : Nat} {vs : List Vis} {W W' : World} (h : GD g s Q X cX vs W) (ho : GpOk g) (hb : Below W.heap.size W W') : GD g s Q X cX vs W' :=
  h.stays ho (Z := fun _ => False) (fun _ h => h.elim) (fun b hlt _ => hb.block b hlt) hb.size
/-- what a search may change: the graph's box, what is reached, visits, and some blocks -/
def FrZ (g : Gp) (Z : Nat → Prop) (W W' : World) : Prop := W.heap.size ≤ W'.heap.size ∧ ∀ b cs t, ¬ Z b → b ≠ g.gb → b ≠ g.rb → t ≠ 70 → W.heap[b]? = some (.cells cs t (0, 0)) → W'.heap[b]? = some (.cells cs t (0, 0))
theorem FrZ.refl (g : Gp) (Z : Nat → Prop) (W : World) : FrZ g Z W W := ⟨Nat.le_refl _, fun _ _ _ _ _ _ _ h => h⟩
theorem FrZ.trans {g : Gp} {Z : Nat → Prop} {a b c : World} (h : FrZ g Z a b) (k : FrZ g Z b c) : FrZ g Z a c := ⟨Nat.le_trans h.1 k.1, fun x cs t h1 h2 h3 h4 h5 => k.2 x cs t h1 h2 h3 h4 (h.2 x cs t h1 h2 h3 h4 h5)⟩
theorem FrZ.below {g : Gp} {Z : Nat → Prop} {a b : World} (hb : Below a.heap.size a b) : FrZ g Z a b := ⟨hb.size, fun x cs t _ _ _ _ h5 => (hb.block x (Array.getElem?_eq_some_iff.1 h5).1).trans h5⟩
theorem FrZ.mono {g : Gp} {Z Z' : Nat → Prop} {a b : World} (h : FrZ g Z a b) (hz : ∀ x, Z x → Z' x) : FrZ g Z' a b := ⟨h.1, fun x cs t h1 h2 h3 h4 h5 => h.2 x cs t (fun k => h1 (hz x k)) h2 h3 h4 h5⟩
/-- the graph with another count, other visits, another row of what is reached -/
theorem GD.remake {g : Gp} {s s' : Int} {Q Q' : Nat → Int} {X X' : Option Addr} {cX cX' : Nat} {vs vs' : List Vis} {W W' : World} (h : GD g s Q X cX vs W) (ho : GpOk g)
    (hb : ∀ b, b < W.heap.size → b ≠ g.gb → b ≠ g.rb → (∀ cs, W.heap[b]? ≠ some (.cells cs 70 (0, 0))) → W'.heap[b]? = W.heap[b]?) (hs : W.heap.size ≤ W'.heap.size)
    (box : GBox W' g.gb g.A g.l.length g.c g.mb g.eb g.n s' g.rb (.slice X' vs'.length cX')) (rh : W'.heap[g.rb]? = some (.cells (hdr (fun v => .int .i64 (Q' v)) g.n) 3 (0, 0)))
    (vis : W'.ownsRow (g.N + 5) 70 4 (.slice X' vs'.length cX') vs'.length (vcs vs')) (hlow : ∀ b, b < g.N → W'.heap[b]? = W.heap[b]?) : GD g s' Q' X' cX' vs' W' := by
  have h5 := ho.b
  have hu := ho.hi
  have hl := ho.lo
  obtain ⟨n1, n2, n3, n4, n5, n6⟩ := ho.ne
  have hsz := h.size
  have nov : ∀ (b : Nat) (cs : Array Value) (t : TypeId), W.heap[b]? = some (.cells cs t (0, 0)) → t ≠ 70 → ∀ (ds : Array Value), W.heap[b]? ≠ some (.cells ds 70 (0, 0)) := fun b cs t e1 e2 ds e3 => by
    rw [e1] at e3
    simp only [Option.some.injEq, Obj.cells.injEq] at e3
    exact e2 e3.2.1
  refine ⟨box, rh, (hb _ (by omega) n3 n2 (nov _ _ _ h.mh (by decide))).trans h.mh, (hb _ (by omega) n5 n4 (nov _ _ _ h.eh (by decide))).trans h.eh, ⟨fun i hi => own_stays (h.rows.own i hi) fun b e => ?_, h.rows.dis⟩, h.hi, fun h0 => ?_, vis, Nat.le_trans hsz hs⟩
  · obtain ⟨q1, q2, cs, q3⟩ := own_block' (h.rows.own i hi) e
    exact hb b q2 (by omega) (by omega) (nov _ _ _ q3 (by decide))
  · obtain ⟨b, off, hA, hlt, hc⟩ := h.con h0
    refine ⟨b, off, hA, hlt, fun i hi => ?_⟩
    have hcell : ∀ o, (∃ u, W.cell? ⟨b, o, none⟩ = some u) → W'.cell? ⟨b, o, none⟩ = W.cell? ⟨b, o, none⟩ := fun o _ => World.cell?_of_block (a := ⟨b, o, none⟩) (hlow b hlt)
    obtain ⟨q0, q1, q2, q3, q4, q5, q6, q7⟩ := hc i hi
    exact ⟨(hcell _ ⟨_, q0⟩).trans q0, (hcell _ ⟨_, q1⟩).trans q1, (hcell _ ⟨_, q2⟩).trans q2, (hcell _ ⟨_, q3⟩).trans q3, (hcell _ ⟨_, q4⟩).trans q4, (hcell _ ⟨_, q5⟩).trans q5, (hcell _ ⟨_, q6⟩).trans q6, (hcell _ ⟨_, q7⟩).trans q7⟩
/-- a count is stored -/
theorem GD.setS {g : Gp} {s : Int} {Q : Nat → Int} {X : Option Addr} {cX : Nat} {vs : List Vis} {W : World} (h : GD g s Q X cX vs W) (ho : GpOk g) (s' : Int) : GD g s' Q X cX vs (W.setCell ⟨g.gb, 3, none⟩ (.int .i64 s')) := by
  have hl := ho.lo
  have hu := ho.hi
  obtain ⟨n1, n2, n3, n4, n5, n6⟩ := ho.ne
  refine h.remake ho (fun b _ h2 _ _ => Below.heap_setCell _ _ _ _ h2) (by simp) (hset h.box _) ((Below.heap_setCell _ _ _ _ n6).trans h.rh) (own_stays h.vis fun b e => Below.heap_setCell _ _ _ _ (by have := (own_block' h.vis e).1; simp; omega)) (fun b hlt => Below.heap_setCell _ _ _ _ (by simp; omega))
/-- a vertex is reached -/
theorem GD.setQ {g : Gp} {s : Int} {Q : Nat → Int} {X : Option Addr} {cX : Nat} {vs : List Vis} {W : World} (h : GD g s Q X cX vs W) (ho : GpOk g) (v : Nat) (q : Int) : GD g s (fun u => if u = v then q else Q u) X cX vs (W.setCell ⟨g.rb, v, none⟩ (.int .i64 q)) := by
  have hl := ho.lo
  have hu := ho.hi
  obtain ⟨n1, n2, n3, n4, n5, n6⟩ := ho.ne
  refine h.remake ho (fun b _ _ h3 _ => Below.heap_setCell _ _ _ _ h3) (by simp) ((Below.heap_setCell _ _ _ _ (Ne.symm n6)).trans h.box) ?_ (own_stays h.vis fun b e => Below.heap_setCell _ _ _ _ (by have := (own_block' h.vis e).1; simp; omega)) (fun b hlt => Below.heap_setCell _ _ _ _ (by simp; omega))
  rw [hset h.rh, hdr_set]
  congr 2
  apply hdr_congr
  intro u _
  by_cases e : u = v <;> simp [e]
/-- visits are stored -/
theorem GD.setV {g : Gp} {s : Int} {Q : Nat → Int} {X X' : Option Addr} {cX cX' : Nat} {vs vs' : List Vis} {W w2 w4 : World} (h : GD g s Q X cX vs W) (ho : GpOk g) (hz : W.heap.size ≤ w2.heap.size) (h2 : ∀ b, b < W.heap.size → w2.heap[b]? = W.heap[b]?) {m : Nat} (hgr : w2.grownBy w4 (Value.slice X m cX).ownBlock)
    (hown : w4.ownsRow (g.N + 5) 70 4 (.slice X' vs'.length cX') vs'.length (vcs vs')) : GD g s Q X' cX' vs' (w4.setCell ⟨g.gb, 5, none⟩ (.slice X' vs'.length cX')) := by
  have hl := ho.lo
  have hu := ho.hi
  have h5 := ho.b
  have hsz := h.size
  obtain ⟨n1, n2, n3, n4, n5, n6⟩ := ho.ne
  have hX : ∀ b, (Value.slice X m cX).ownBlock = some b → g.N + 5 ≤ b ∧ ∃ cs, W.heap[b]? = some (.cells cs 70 (0, 0)) := fun b e => by
    have e' : (Value.slice X vs.length cX).ownBlock = some b := by cases X with | none => cases e | some a => exact e
    obtain ⟨q1, q2, q3⟩ := own_block' h.vis e'
    exact ⟨q1, q3⟩
  have old : ∀ b, b < W.heap.size → (∀ cs, W.heap[b]? ≠ some (.cells cs 70 (0, 0))) → w4.heap[b]? = W.heap[b]? := fun b h1 h3 => (hgr.block b (by omega) (fun e => by obtain ⟨_, cs, q⟩ := hX b e.symm; exact h3 cs q)).trans (h2 b h1)
  have low : ∀ b, b < g.N + 5 → w4.heap[b]? = W.heap[b]? := fun b h1 => (hgr.block b (by omega) (fun e => by have := (hX b e.symm).1; omega)).trans (h2 b (by omega))
  have hz4 := hgr.size
  refine h.remake ho (fun b h1 h3 _ h6 => (Below.heap_setCell _ _ _ _ h3).trans (old b h1 h6)) (by simp; omega) (hset ((low _ hu.2.2.2).trans h.box) _) ((Below.heap_setCell _ _ _ _ n6).trans ((low _ hu.2.2.1).trans h.rh)) (own_stays hown fun b e => Below.heap_setCell _ _ _ _ (by have := (own_block' hown e).1; simp; omega)) (fun b hlt => (Below.heap_setCell _ _ _ _ (by simp; omega)).trans (low b (by omega)))
theorem FrZ.setG {g : Gp} {Z : Nat → Prop} {a b : World} (h : FrZ g Z a b) (i : Nat) (u : Value) : FrZ g Z a (b.setCell ⟨g.gb, i, none⟩ u) :=
  ⟨by simpa using h.1, fun x cs t h1 h2 h3 h4 h5 => (Below.heap_setCell _ _ _ _ h2).trans (h.2 x cs t h1 h2 h3 h4 h5)⟩
theorem FrZ.setR {g : Gp} {Z : Nat → Prop} {a b : World} (h : FrZ g Z a b) (i : Nat) (u : Value) : FrZ g Z a (b.setCell ⟨g.rb, i, none⟩ u) :=
  ⟨by simpa using h.1, fun x cs t h1 h2 h3 h4 h5 => (Below.heap_setCell _ _ _ _ h3).trans (h.2 x cs t h1 h2 h3 h4 h5)⟩
theorem FrZ.drew {g : Gp} {Z : Nat → Prop} {a b : World} (h : FrZ g Z a b) : FrZ g Z a b.drew := h
/-- a row of visits has grown -/
theorem FrZ.grown {g : Gp} {Z : Nat → Prop} {a b c d : World} (h : FrZ g Z a b) (hz : b.heap.size ≤ c.heap.size) (h2 : ∀ x, x < b.heap.size → c.heap[x]? = b.heap[x]?) {v : Value} (hv : ∀ x, v.ownBlock = some x → ∃ cs, b.heap[x]? = some (.cells cs 70 (0, 0))) (hgr : c.grownBy d v.ownBlock) : FrZ g Z a d :=
  ⟨Nat.le_trans h.1 (Nat.le_trans hz hgr.size), fun x cs t h1 h3 h4 h5 h6 => by
    have e := h.2 x cs t h1 h3 h4 h5 h6
    have hlt := (Array.getElem?_eq_some_iff.1 e).1
    refine (hgr.block x (by omega) (fun q => ?_)).trans ((h2 x hlt).trans e)
    obtain ⟨ds, hd⟩ := hv x q.symm
    rw [e] at hd
    simp only [Option.some.injEq, Obj.cells.injEq] at hd
    exact h5 hd.2.1⟩
theorem own_vis {w : World} {B n m c : Nat} {X : Option Addr} {xs : List Value} (h : w.ownsRow B 70 4 (.slice X n c) n xs) : ∀ x, (Value.slice X m c).ownBlock = some x → B ≤ x ∧ ∃ cs, w.heap[x]? = some (.cells cs 70 (0, 0)) := fun x e => by
  have e' : (Value.slice X n c).ownBlock = some x := by cases X with | none => cases e | some a => exact e
  obtain ⟨q1, q2, q3⟩ := own_block' h e'
  exact ⟨q1, q3⟩
end Go.Proofs.YtmamajillkajoaaDoor
