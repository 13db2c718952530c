/- What is proved: a row of types that is filled, and the graph as newGraph makes it. -/
import Derived.Test.YtmamajillkajoaaDoorCoPoss
set_option linter.unusedVariables false
namespace Go.Proofs.YtmamajillkajoaaDoor
open Go.RowKit Go.Shelf

/-- types in a block -/
def TArr (w : World) (tb n : Nat) (f : Nat → TyV) : Prop :=
  ∃ cs, w.heap[tb]? = some (.cells cs 39 (0, 0)) ∧ cs.size = n * 3 ∧ ∀ v, v < n → cs[v * 3]? = some (.int .i64 (f v).kind) ∧ cs[v * 3 + 1]? = some (.int .i64 (f v).len) ∧ cs[v * 3 + 2]? = some (.string (f v).nm)
theorem TArr.below {w w' : World} {tb n : Nat} {f : Nat → TyV} (h : TArr w tb n f) (hb : Below w.heap.size w w') : TArr w' tb n f := by
  obtain ⟨cs, h1, h2, h3⟩ := h
  exact ⟨cs, (hb.block _ (Array.getElem?_eq_some_iff.1 h1).1).trans h1, h2, h3⟩
theorem TArr.fr {g : Gp} {w w' : World} {tb n : Nat} {f : Nat → TyV} (h : TArr w tb n f) (hf : FrZ g (fun _ => False) w w') (h1 : tb ≠ g.gb) (h2 : tb ≠ g.rb) : TArr w' tb n f := by
  obtain ⟨cs, q1, q2, q3⟩ := h
  exact ⟨cs, hf.2 _ _ _ (fun h => h) h1 h2 (by decide) q1, q2, q3⟩
theorem TArr.ext {w : World} {tb n : Nat} {f f' : Nat → TyV} (h : TArr w tb n f) (he : ∀ v, v < n → f v = f' v) : TArr w tb n f' := by
  obtain ⟨cs, q1, q2, q3⟩ := h
  exact ⟨cs, q1, q2, fun v hv => by rw [← he v hv]; exact q3 v hv⟩
theorem TArr.frz {w : World} {tb n : Nat} {f : Nat → TyV} (h : TArr w tb n f) (i : Nat) : w.frozen? ⟨tb, i, none⟩ = false := by
  obtain ⟨cs, q1, _, _⟩ := h
  exact hfrz q1 i
theorem TArr.cells {w : World} {tb n : Nat} {f : Nat → TyV} (h : TArr w tb n f) (v : Nat) (hv : v < n) : w.cell? ⟨tb, v * 3, none⟩ = some (.int .i64 (f v).kind) ∧ w.cell? ⟨tb, v * 3 + 1, none⟩ = some (.int .i64 (f v).len) ∧ w.cell? ⟨tb, v * 3 + 2, none⟩ = some (.string (f v).nm) := by
  obtain ⟨cs, q1, _, q3⟩ := h
  obtain ⟨e1, e2, e3⟩ := q3 v hv
  exact ⟨(Lib.cell_of_heap q1 _).trans e1, (Lib.cell_of_heap q1 _).trans e2, (Lib.cell_of_heap q1 _).trans e3⟩
theorem TArr.set {w : World} {tb n : Nat} {f : Nat → TyV} (h : TArr w tb n f) (v : Nat) (hv : v < n) (t : TyV) : TArr (((w.setCell ⟨tb, v * 3, none⟩ (.int .i64 t.kind)).setCell ⟨tb, v * 3 + 1, none⟩ (.int .i64 t.len)).setCell ⟨tb, v * 3 + 2, none⟩ (.string t.nm)) tb n (fun u => if u = v then t else f u) := by
  obtain ⟨cs, q1, q2, q3⟩ := h
  refine ⟨_, hset (hset (hset q1 _) _) _, by simpa using q2, fun u hu => ?_⟩
  obtain ⟨e1, e2, e3⟩ := q3 u hu
  dsimp only
  by_cases e : u = v
  · subst e
    rw [if_pos rfl]
    refine ⟨?_, ?_, ?_⟩ <;> simp [Array.getElem?_setIfInBounds, q2] <;> omega
  · rw [if_neg e]
    refine ⟨?_, ?_, ?_⟩
    · rw [Array.getElem?_setIfInBounds_ne (by omega), Array.getElem?_setIfInBounds_ne (by omega), Array.getElem?_setIfInBounds_ne (by omega)]; exact e1
    · rw [Array.getElem?_setIfInBounds_ne (by omega), Array.getElem?_setIfInBounds_ne (by omega), Array.getElem?_setIfInBounds_ne (by omega)]; exact e2
    · rw [Array.getElem?_setIfInBounds_ne (by omega), Array.getElem?_setIfInBounds_ne (by omega), Array.getElem?_setIfInBounds_ne (by omega)]; exact e3
theorem TArr.new (w : World) (n : Nat) : TArr (w.alloc (.cells (madeCells #[.int .i64 0, .int .i64 0, .string ⟨#[]⟩] (n * 3)) 39)) w.heap.size n (fun _ => noT) := by
  have e : ∀ i, i < n * 3 → (madeCells #[.int .i64 0, .int .i64 0, .string ⟨#[]⟩] (n * 3))[i]? = some (#[Value.int .i64 0, .int .i64 0, .string ⟨#[]⟩][i % 3]!) := fun i hi => by simp [madeCells, hi]
  refine ⟨_, heap_alloc_new w _, by simp [madeCells], fun v hv => ⟨(e _ (by omega)).trans ?_, (e _ (by omega)).trans ?_, (e _ (by omega)).trans ?_⟩⟩
  · rw [show v * 3 % 3 = 0 by omega]; rfl
  · rw [show (v * 3 + 1) % 3 = 1 by omega]; rfl
  · rw [show (v * 3 + 2) % 3 = 2 by omega]; rfl
theorem infoTyp : (Tryd.prog.info? 39).map (fun i => (i.zero, i.size, i.bytes)) = some (some (.agg #[.int .i64 0, .int .i64 0, .string ⟨#[]⟩]), 3, 32) := by kernel_rfl
theorem co_make_ty (n : Nat) (hn : n ≤ 1000000) (W : World) : (Instr.makeSlice 26 (.int .i64 (n : Int)) (.int .i64 (n : Int))).run Tryd.prog W = .ok (.slice (some ⟨W.heap.size, 0, none⟩) n n) (W.alloc (.cells (madeCells #[.int .i64 0, .int .i64 0, .string ⟨#[]⟩] (n * 3)) 39)) := by
  obtain ⟨i0, hi, hz0, hz1, hz2⟩ := info_parts infoTyp
  have h := run_make (P := Tryd.prog) W 26 39 i0 _ Tryd.underlying26 hi hz0 .i64 .i64 (n : Int) (n : Int) (by omega) (Int.le_refl _) (by rw [hz2]; omega) (by omega)
  rw [hz1] at h
  simp only [Int.toNat_natCast] at h
  exact h

/-- the types behind some classes: the last class that holds a vertex says -/
def tyL (l : List Con) (cs : List (List Nat)) (v : Nat) : TyV := match cs.reverse.find? (fun c => c.contains v) with | some c => (typ l c).1 | none => noT
theorem tyL_snoc (l : List Con) (cs : List (List Nat)) (c : List Nat) (v : Nat) : tyL l (cs ++ [c]) v = if c.contains v then (typ l c).1 else tyL l cs v := by
  unfold tyL
  rw [List.reverse_append, List.reverse_singleton, List.singleton_append, List.find?_cons]
  cases h : c.contains v with
  | true => rfl
  | false => rfl

/-- the graph as newGraph makes it -/
theorem gd_new {w w' : World} {A : Option Addr} {c n mb eb rb gb pb : Nat} {l : List Con} {R : Nat → Value} (hp : Pl w.heap.size mb eb rb gb pb) (h : NH w.heap.size A l.length c n mb eb rb gb R (rowsL l n l.length) w') (hb : Below w.heap.size w w') (hr : CRow w.heap.size w A l) (hn : n ≤ 1000000) (hl : l.length ≤ 1000000) (hps : ∀ x ∈ l, posB n x = true) :
    GpOk ⟨w.heap.size, w'.heap.size, n, mb, eb, rb, gb, A, c, l, R⟩ ∧ GD ⟨w.heap.size, w'.heap.size, n, mb, eb, rb, gb, A, c, l, R⟩ 0 (fun _ => 0) none 0 [] w' := by
  obtain ⟨⟨l1, l2, l3, l4, l5⟩, ⟨u1, u2, u3, u4, u5⟩, h3, h4⟩ := hp
  refine ⟨⟨⟨l1, l2, l3, l4⟩, ⟨u1, u2, u3, u4⟩, h3, h.size, hn, hl, hps⟩, ?_⟩
  exact ⟨h.box, h.rh, h.mh, h.eh, h.rows, fun i hi b e => (World.ownsRow.lt (h.rows.own i hi) b e).2, hr.below hb, World.ownsRow_nil _ _ _ _, Nat.le_refl _⟩
end Go.Proofs.YtmamajillkajoaaDoor
