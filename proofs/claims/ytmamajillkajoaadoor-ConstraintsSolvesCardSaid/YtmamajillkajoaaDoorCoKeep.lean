/- What is proved: what stays while types are stored and chains are appended; sums of marks. -/
import Derived.Test.YtmamajillkajoaaDoorCoTys
set_option linter.unusedVariables false
namespace Go.Proofs.YtmamajillkajoaaDoor
open Go.RowKit Go.Shelf

/-- a type is stored: the three cells -/
def setT (w : World) (tb v : Nat) (t : TyV) : World := ((w.setCell ⟨tb, v * 3, none⟩ (.int .i64 t.kind)).setCell ⟨tb, v * 3 + 1, none⟩ (.int .i64 t.len)).setCell ⟨tb, v * 3 + 2, none⟩ (.string t.nm)
theorem setT_heap (w : World) (tb v : Nat) (t : TyV) (b : Nat) (h : b ≠ tb) : (setT w tb v t).heap[b]? = w.heap[b]? :=
  (Below.heap_setCell _ _ _ _ h).trans ((Below.heap_setCell _ _ _ _ h).trans (Below.heap_setCell _ _ _ _ h))
theorem setT_size (w : World) (tb v : Nat) (t : TyV) : (setT w tb v t).heap.size = w.heap.size := by simp [setT]
theorem TArr.ne {w : World} {tb n : Nat} {f : Nat → TyV} (h : TArr w tb n f) {b : Nat} {cs : Array Value} {t : TypeId} (hb : w.heap[b]? = some (.cells cs t (0, 0))) (ht : t ≠ 39) : b ≠ tb := by
  rintro rfl
  obtain ⟨ds, q1, _⟩ := h
  rw [q1] at hb
  simp only [Option.some.injEq, Obj.cells.injEq] at hb
  exact ht hb.2.1.symm
theorem ISl.setT {g : Gp} {w : World} {X : Option Addr} {l : List Nat} (h : ISl g w X l) {tb n : Nat} {f : Nat → TyV} (ht : TArr w tb n f) (v : Nat) (t : TyV) : ISl g (setT w tb v t) X l := fun h0 => by
  obtain ⟨b, cs, h1, h2, h3, h4, h5, h6⟩ := h h0
  exact ⟨b, cs, h1, h2, h3, h4, (setT_heap w tb v t b (ht.ne h5 (by decide))).trans h5, h6⟩
theorem LOwn.setT {g : Gp} {w : World} {B : Nat} {u : Value} {L : List (List Nat)} (h : LOwn g w B u L) {tb n : Nat} {f : Nat → TyV} (ht : TArr w tb n f) (v : Nat) (t : TyV) : LOwn g (setT w tb v t) B u L := by
  obtain ⟨vals, h1, h2, h3, h4⟩ := h
  refine ⟨vals, h1, own_stays h2 fun b e => ?_, h3, fun i hi => by obtain ⟨X, c, e1, e2, e3⟩ := h4 i hi; exact ⟨X, c, e1, e2.setT ht v t, e3⟩⟩
  obtain ⟨q1, q2, cs, q3⟩ := own_block' h2 e
  exact setT_heap w tb v t b (ht.ne q3 (by decide))
theorem GD.setT {g : Gp} (ho : GpOk g) {s : Int} {Q : Nat → Int} {X : Option Addr} {cX : Nat} {vs : List Vis} {w : World} (h : GD g s Q X cX vs w) {tb n : Nat} {f : Nat → TyV} (ht : TArr w tb n f) (hB : g.B ≤ tb) (v : Nat) (t : TyV) : GD g s Q X cX vs (setT w tb v t) :=
  h.stays ho (Z := fun b => b = tb) (fun b hb => ⟨by omega, fun cs hc => by subst hb; exact ht.ne hc (by decide) rfl⟩) (fun b _ hn => setT_heap w tb v t b hn) (by rw [setT_size]; exact Nat.le_refl _)
/-- a slice of a row, read -/
theorem LOwn.get {g : Gp} {w : World} {B c : Nat} {X : Option Addr} {L : List (List Nat)} (h : LOwn g w B (.slice X L.length c) L) (j : Nat) (hj : j < L.length) : ∃ rb cs Xc cc, X = some ⟨rb, 0, none⟩ ∧ B ≤ rb ∧ w.heap[rb]? = some (.cells cs 23 (0, 0)) ∧ cs[j]? = some (.slice Xc L[j].length cc) ∧ ISl g w Xc L[j] ∧ L[j].length ≤ cc := by
  obtain ⟨vals, h1, h2, h3, h4⟩ := h
  obtain ⟨Xc, cc, e1, e2, e3⟩ := h4 j hj
  rcases h2.2 with ⟨q1, q2⟩ | ⟨rb, cap, cur, q1, q2, q3, q4, q5, q6, q7⟩
  · omega
  · cases q1
    refine ⟨rb, cur, Xc, cc, rfl, q2, q3, ?_, e2, e3⟩
    rw [← q7, List.getElem?_take] at e1
    split at e1
    · rw [← e1]; simp
    · cases e1
/-- all of the marks of some classes -/
def mkSum (l : List Con) (cs : List (List Nat)) : Nat := (cs.map (fun c => (mks l c).length)).sum
theorem mkSum_take (l : List Con) (cs : List (List Nat)) (j : Nat) (h : j < cs.length) : mkSum l (cs.take (j + 1)) = mkSum l (cs.take j) + (mks l cs[j]).length := by
  unfold mkSum
  rw [List.take_succ_eq_append_getElem h, List.map_append, List.sum_append]
  simp only [List.map_cons, List.map_nil, List.sum_cons, List.sum_nil, Nat.add_zero]
theorem mkSum_le (l : List Con) (cs : List (List Nat)) (j : Nat) : mkSum l (cs.take j) ≤ mkSum l cs := by
  have e : mkSum l cs = mkSum l (cs.take j) + mkSum l (cs.drop j) := by
    conv => lhs; rw [← List.take_append_drop j cs]
    unfold mkSum
    rw [List.map_append, List.sum_append]
  omega
/-- the chains of some classes -/
def chF (l : List Con) (n : Nat) (cs : List (List Nat)) : List (List Nat) := (cs.filter (fun c => !(typ l c).2)).map (chain l n)
theorem chF_snoc (l : List Con) (n : Nat) (cs : List (List Nat)) (c : List Nat) : chF l n (cs ++ [c]) = if (typ l c).2 then chF l n cs else chF l n cs ++ [chain l n c] := by
  unfold chF
  rw [List.filter_append, List.map_append]
  cases h : (typ l c).2 <;> simp [h]
theorem chF_len (l : List Con) (n : Nat) (cs : List (List Nat)) : (chF l n cs).length ≤ cs.length := by
  unfold chF
  rw [List.length_map]
  exact List.length_filter_le _ _
theorem chF_all (l : List Con) (n : Nat) : chF l n (clss l n n) = slvC l n := rfl
end Go.Proofs.YtmamajillkajoaaDoor
