/- What is proved: the second list of the laws' example: append of a constraint onto a part of a list that has no room. -/
import Derived.Test.YtmamajillkajoaaDoorCoEx2
import Derived.Deep.AppendSrc
set_option linter.unusedVariables false
namespace Go.Proofs.YtmamajillkajoaaDoor
open Go.RowKit Go.Shelf

theorem infoCon : (Tryd.prog.info? 41).map (fun i => (i.zero, i.size, i.bytes)) = some (some (.agg #[.int .i64 0, .int .i64 0, .int .i64 0, .int .i64 0, .int .i64 0, .string ⟨#[]⟩, .int .i64 0, .int .i64 0]), 8, 72) := by kernel_rfl

/-- append in a region that draws, by what its run is -/
theorem step_append_by {P : Program} {w : World} {ops : Array Oper} {o : Oper} {a : Act} {K : Act → World → Prop} {Q : Exit → Act → World → Prop} {E : Prop} (hgd : o.guard = none) (s x : Operand) (t u : TypeId)
    (ho : o.op = .call { callee := .builtin .append, args := #[s, x], argTypes := #[t, u] }) (sv xv : Value) (hs : a.eval s = sv) (hx : a.eval x = xv) (v : Value) (w' : World)
    (hr : (Builtin.append_ #[t, u] o.type #[sv, xv]).run P w = .ok v w') (h : K (a.put o.dst v) w') :
    if Region.wanted o (yielded ops a.tmps) = true then Oper.wp P o a w K Q else E := by
  have hw : Region.wanted o (yielded ops a.tmps) = true := by simp [Region.wanted, hgd]
  rw [if_pos hw]
  unfold Oper.wp execOp
  simp only [ho, resolve, invoke, builtin, Sem.run_bind, Sem.run_pure, Result.andThen_ok, List.map_toArray, List.map_cons, List.map_nil, hs, hx, hr]
  exact h

/-- the example's last constraint, in memory -/
theorem ex_last {W : World} {b : Nat} {cs : Array Value} (hb : W.heap[b]? = some (.cells cs 41 (0, 0))) (hl : cs.toList = ccs exL) :
    W.cell? ⟨b, 32, none⟩ = some (.int .i64 1) ∧ W.cell? ⟨b, 33, none⟩ = some (.int .i64 0) ∧ W.cell? ⟨b, 34, none⟩ = some (.int .i64 2) ∧ W.cell? ⟨b, 35, none⟩ = some (.int .i64 0) ∧ W.cell? ⟨b, 36, none⟩ = some (.int .i64 0) ∧ W.cell? ⟨b, 37, none⟩ = some (.string ⟨#[]⟩) ∧ W.cell? ⟨b, 38, none⟩ = some (.int .i64 0) ∧ W.cell? ⟨b, 39, none⟩ = some (.int .i64 0) := by
  have q : ∀ i, W.cell? ⟨b, i, none⟩ = (ccs exL)[i]? := fun i => by rw [← hl, Array.getElem?_toList]; exact Lib.cell_of_heap hb i
  exact ⟨q 32, q 33, q 34, q 35, q 36, q 37, q 38, q 39⟩
abbrev exC4 : Obj := .cells #[.int .i64 1, .int .i64 0, .int .i64 2, .int .i64 0, .int .i64 0, .string ⟨#[]⟩, .int .i64 0, .int .i64 0] 41

set_option maxHeartbeats 1000000 in
theorem rest_append (W : World) (b N : Nat) (cs : Array Value) (hb : W.heap[b]? = some (.cells cs 41 (0, 0))) (hl : cs.toList = ccs exL) (hN : W.heap[N]? = some (.cells #[.int .i64 1, .int .i64 0, .int .i64 2, .int .i64 0, .int .i64 0, .string ⟨#[]⟩, .int .i64 0, .int .i64 0] 41 (0, 0))) :
    ∃ cap w', (Builtin.append_ #[22, 22] 22 #[.slice (some ⟨b, 0, none⟩) 3 3, .slice (some ⟨N, 0, none⟩) 1 1]).run Tryd.prog W = .ok (.slice (some ⟨W.heap.size, 0, none⟩) 4 cap) w' ∧ CRow w'.heap.size w' (some ⟨W.heap.size, 0, none⟩) exM ∧ Below W.heap.size W w' := by
  obtain ⟨i0, hi0, hz0, hz1, hz2⟩ := info_parts infoCon
  have hsrc := Src.ofSlice (P := Tryd.prog) (w := W) (size := 8) (tx := 22) (e' := 41) Tryd.underlying22 ⟨N, 0, none⟩ 1 1 [.int .i64 1, .int .i64 0, .int .i64 2, .int .i64 0, .int .i64 0, .string ⟨#[]⟩, .int .i64 0, .int .i64 0] rfl (World.news_of_block (cs := #[.int .i64 1, .int .i64 0, .int .i64 2, .int .i64 0, .int .i64 0, .string ⟨#[]⟩, .int .i64 0, .int .i64 0]) hN) (by
    intro u hu
    simp at hu
    rcases hu with h | h | h | h | h | h <;> (try rw [h]) <;> rfl)
  have q : ∀ i, W.cell? ⟨b, i, none⟩ = (ccs exL)[i]? := fun i => by rw [← hl, Array.getElem?_toList]; exact Lib.cell_of_heap hb i
  have hold := run_firstCells_some (P := Tryd.prog) W.drew 8 3 ⟨b, 0, none⟩ 3 3 ((ccs exL).take 24) (by decide) (fun j u hj => by
    rw [List.getElem?_take] at hj
    split at hj
    · rw [Go.WideShapes.add_plain]
      show W.cell? _ = _
      rw [Nat.zero_add, q j]
      exact hj
    · cases hj)
  rw [← hz1] at hsrc hold
  have hrun := run_append_grow_src (P := Tryd.prog) W 22 22 22 41 i0 _ Tryd.underlying22 hi0 hz0 (some ⟨b, 0, none⟩) 3 3 ((ccs exL).take 24) hold _ 1 _ hsrc (by decide) (by decide) (by rw [hz2]; decide)
  refine ⟨_, _, hrun, ?_, (Below.refl W.heap.size W).drew.alloc (Nat.le_refl _) _⟩
  generalize hco : ((ccs exL).take 24 ++ _ : List Value).toArray ++ _ = co
  have hnew := heap_alloc_new W.drew (.cells co 41)
  have c : ∀ k, k < 32 → (W.drew.alloc (.cells co 41)).cell? ⟨W.heap.size, k, none⟩ = ((ccs exL).take 24 ++ [.int .i64 1, .int .i64 0, .int .i64 2, .int .i64 0, .int .i64 0, .string ⟨#[]⟩, .int .i64 0, .int .i64 0])[k]? := fun k hk => by
    refine (Lib.cell_of_heap hnew k).trans ?_
    rw [← hco, Array.getElem?_append_left (by simp [ccs, exL]; omega)]
    simp
  intro _
  refine ⟨W.heap.size, 0, rfl, by simp, fun i hi => ?_⟩
  match i, hi with
  | 0, _ => exact ⟨c 0 (by decide), c 1 (by decide), c 2 (by decide), c 3 (by decide), c 4 (by decide), c 5 (by decide), c 6 (by decide), c 7 (by decide)⟩
  | 1, _ => exact ⟨c 8 (by decide), c 9 (by decide), c 10 (by decide), c 11 (by decide), c 12 (by decide), c 13 (by decide), c 14 (by decide), c 15 (by decide)⟩
  | 2, _ => exact ⟨c 16 (by decide), c 17 (by decide), c 18 (by decide), c 19 (by decide), c 20 (by decide), c 21 (by decide), c 22 (by decide), c 23 (by decide)⟩
  | 3, _ => exact ⟨c 24 (by decide), c 25 (by decide), c 26 (by decide), c 27 (by decide), c 28 (by decide), c 29 (by decide), c 30 (by decide), c 31 (by decide)⟩

/-- the same behind the second call of the example -/
theorem rest_run {w2 w3 w4 : World} {cs3 : Array Value} (h3 : w3.heap[w2.heap.size]? = some (.cells cs3 41 (0, 0))) (hl : cs3.toList = ccs exL) (hb3 : Below w2.heap.size w2 w3) (hb4 : Below w3.heap.size w3 w4) :
    ∃ R cap w5, (Builtin.append_ #[22, 22] 22 #[.slice (some ⟨w2.heap.size, 0, none⟩) 3 3, .slice (some ⟨w4.heap.size, 0, none⟩) 1 1]).run Tryd.prog (w4.alloc exC4) = .ok (.slice (some ⟨R, 0, none⟩) 4 cap) w5 ∧ CRow w5.heap.size w5 (some ⟨R, 0, none⟩) exM ∧ Below w2.heap.size w2 w5 := by
  have hlt : w2.heap.size < w3.heap.size := (Array.getElem?_eq_some_iff.1 h3).1
  have hba := (Below.refl w4.heap.size w4).alloc (Nat.le_refl _) exC4
  have hz4 := hb4.size
  obtain ⟨cap, w5, h1, h2, h5⟩ := rest_append (w4.alloc exC4) w2.heap.size w4.heap.size cs3 ((hba.block _ (by omega)).trans ((hb4.block _ hlt).trans h3)) hl (heap_alloc_new w4 exC4)
  exact ⟨_, cap, w5, h1, h2, (hb3.trans (hb4.mono hb3.size)).trans ((hba.trans (h5.mono hba.size)).mono (by have := hb3.size; omega))⟩

theorem lrow_later {w w' : World} {A : Option Addr} {L : List (List Nat)} (h : LRow w A L) (hb : Below w.heap.size w w') : LRow w' A L := fun h0 => by
  obtain ⟨b, off, h1, h2, h3⟩ := h h0
  refine ⟨b, off, h1, Nat.lt_of_lt_of_le h2 hb.size, fun i hi => ?_⟩
  obtain ⟨X, c, k1, k2, k3⟩ := h3 i hi
  exact ⟨X, c, (hb.cell (p := ⟨b, off + i, none⟩) h2).trans k1, co_irow k2 hb, k3⟩
def tInt : TyV := ⟨1, 0, ⟨#[]⟩⟩
theorem exL_row {w : World} {tb : Nat} (h : TArr w tb 3 (tyL exL (clss exL 3 3))) : TRow w.heap.size w (some ⟨tb, 0, none⟩) [noT, noT, noT] := h.row _ rfl (fun i hi => by
  match i, hi with
  | 0, _ => exact exL_ty.1.symm
  | 1, _ => exact exL_ty.2.1.symm
  | 2, _ => exact exL_ty.2.2.symm)
theorem exM_row {w : World} {tb : Nat} (h : TArr w tb 3 (tyL exM (clss exM 3 3))) : TRow w.heap.size w (some ⟨tb, 0, none⟩) [tInt, tInt, tInt] := h.row _ rfl (fun i hi => by
  match i, hi with
  | 0, _ => exact exM_ty.1.symm
  | 1, _ => exact exM_ty.2.1.symm
  | 2, _ => exact exM_ty.2.2.symm)

abbrev tBox : Obj := .cells #[.int .i64 1, .int .i64 0, .string ⟨#[]⟩] 39
/-- a row of three types, made -/
theorem trow3 {w : World} {b : Nat} {cs : Array Value} {x y z : TyV} (h : w.heap[b]? = some (.cells cs 39 (0, 0))) (hc : cs = #[.int .i64 x.kind, .int .i64 x.len, .string x.nm, .int .i64 y.kind, .int .i64 y.len, .string y.nm, .int .i64 z.kind, .int .i64 z.len, .string z.nm]) : TRow w.heap.size w (some ⟨b, 0, none⟩) [x, y, z] := fun _ => by
  subst hc
  refine ⟨b, 0, rfl, (Array.getElem?_eq_some_iff.1 h).1, fun i hi => ?_⟩
  have q := fun k => Lib.cell_of_heap h k
  match i, hi with
  | 0, _ => exact ⟨q 0, q 1, q 2⟩
  | 1, _ => exact ⟨q 3, q 4, q 5⟩
  | 2, _ => exact ⟨q 6, q 7, q 8⟩
theorem made9 : madeCells #[.int .i64 0, .int .i64 0, .string ⟨#[]⟩] (3 * 3) = #[.int .i64 noT.kind, .int .i64 noT.len, .string noT.nm, .int .i64 noT.kind, .int .i64 noT.len, .string noT.nm, .int .i64 noT.kind, .int .i64 noT.len, .string noT.nm] := by kernel_rfl
/-- the expected chain in memory -/
theorem lrow_lit (w : World) (w' : World) (h1 : w'.heap[w.heap.size]? = some (.cells #[.int .i64 0, .int .i64 4, .int .i64 3] 3 (0, 0))) (h2 : w'.heap[w.heap.size + 1]? = some (.cells #[.slice (some ⟨w.heap.size, 0, none⟩) 3 3] 23 (0, 0))) : LRow w' (some ⟨w.heap.size + 1, 0, none⟩) [[0, 4, 3]] := fun _ => by
  refine ⟨w.heap.size + 1, 0, rfl, (Array.getElem?_eq_some_iff.1 h2).1, fun i hi => ?_⟩
  obtain rfl : i = 0 := by simpa using hi
  refine ⟨_, 3, Lib.cell_of_heap h2 0, fun _ => ⟨w.heap.size, 0, rfl, (Array.getElem?_eq_some_iff.1 h1).1, fun j hj => ?_⟩, Nat.le_refl 3⟩
  have q := fun k => Lib.cell_of_heap h1 k
  rw [Nat.zero_add]
  match j, hj with
  | 0, _ => exact q 0
  | 1, _ => exact q 1
  | 2, _ => exact q 2
end Go.Proofs.YtmamajillkajoaaDoor
