/- What is proved: append of a slice of numbers onto a literal that is empty. -/
import Derived.Test.YtlndlipicbkhiaaDoorVaNext
set_option linter.unusedVariables false
namespace Go.Proofs.YtlndlipicbkhiaaDoor
open Go.RowKit

def ZOwn (w : World) (B : Nat) (v : Value) (l : List Int) : Prop := w.ownsRow B 3 1 v l.length (zcells l)
theorem z_append_row (w : World) (B : Nat) (v : Value) (l : List Int) (hown : ZOwn w B v l) (A : Option Addr) (c n2 : Nat) (l2 : List Int) (hn : l2.length = n2) (hrow : ZRow w.heap.size w A l2) (hb : l.length + n2 ≤ 1000000000) (hB : B ≤ w.heap.size) :
    ∃ v' w', (Builtin.append_ #[31, 31] 31 #[v, .slice A n2 c]).run Tryd.prog w = .ok v' w' ∧ ZOwn w' B v' (l ++ l2) ∧ w.grownBy w' v.ownBlock := by
  subst hn
  obtain ⟨i0, hi0, hz0, hz1, hz2⟩ := info_parts infoInt
  cases A with
  | none =>
    have hl : l2 = [] := by
      rcases Nat.eq_zero_or_pos l2.length with h0 | h0
      · exact List.eq_nil_of_length_eq_zero h0
      · obtain ⟨b, off, h1, _⟩ := hrow h0; cases h1
    subst hl
    obtain ⟨A', m', c', rfl, hm⟩ := own_formZ hown
    exact ⟨_, w, run_append_none0 w _ _ 3 i0 Tryd.underlying31 hi0 _ _ _ _ hm, by rw [List.append_nil]; exact hown, ⟨rfl, rfl, rfl, Nat.le_refl _, fun _ _ _ => rfl⟩⟩
  | some ad =>
    obtain ⟨v', w', h1, h2, h3, _⟩ := run_append_own (P := Tryd.prog) w B 31 31 3 i0 _ 1 8 Tryd.underlying31 hi0 hz0 hz1 hz2 rfl (by decide) v l.length (zcells l) hown ad l2.length c (zcells l2) (by rw [zcells_len, Nat.mul_one]) (fun j u hj => by
      have h0 : 0 < l2.length := by
        cases hs : l2 with
        | nil => rw [hs] at hj; simp [zcells] at hj
        | cons x xs => simp
      obtain ⟨b, off, h1, _, h2⟩ := hrow h0
      cases h1
      exact zrow_news h2 j u hj) (zcells_one _) (by unfold maxLen; omega) (by omega) hB
    refine ⟨v', w', h1, ?_, h3⟩
    unfold ZOwn
    rw [List.length_append, zcells_append]
    exact h2
/-- an empty slice that a literal makes -/
def emptyZ (w : World) : Value := .slice (some ⟨w.heap.size, 0, none⟩) 0 0
theorem run_emptyZ (W : World) : (Instr.buildSlice 31 0 #[]).run Tryd.prog W = .ok (emptyZ W) (W.alloc (.cells #[] 3)) := by
  obtain ⟨i0, hi0, hz0, hz1, hz2⟩ := info_parts infoInt
  simp [Instr.buildSlice, Instr.fill, run_underlying Tryd.underlying31, sizeOf, typeInfo, hi0, newRow, emptyZ]
  rw [show (Array.map (fun _ => (default : Value)) (Array.range 0)) = #[] from by simp [Array.range]]
/-- an empty slice that a literal makes: one step of the walk, its value a letter -/
theorem wpList_emptyZ {ops : Array Oper} {rest : List Oper} {o : Oper} {a : Act} {w : World} {Q : Exit → Act → World → Prop} (hg : o.guard = none) (ho : o.op = .buildSlice 31 0 #[])
    (h : ∀ v, v = emptyZ w → wpList Tryd.prog ops Q rest (a.put o.dst v) (w.alloc (.cells #[] 3))) : wpList Tryd.prog ops Q (o :: rest) a w :=
  wpList_plain hg fun _ hK => by
    have h1 := h _ rfl
    have hr := run_emptyZ w
    unfold Oper.wp execOp
    simp only [ho, Sem.run_bind]
    simp only [Array.map_empty, hr, Result.andThen_ok]
    exact hK _ _ h1
theorem zown_empty (w : World) : ZOwn (w.alloc (.cells #[] 3)) w.heap.size (emptyZ w) [] :=
  ⟨rfl, .inr ⟨w.heap.size, 0, #[], rfl, Nat.le_refl _, heap_alloc_new w _, Nat.le_refl _, by unfold maxLen; omega, rfl, rfl⟩⟩
/-- a copy: append([]int{}, l...) -/
theorem z_copy (w : World) (A : Option Addr) (c : Nat) (l : List Int) (hrow : ZRow w.heap.size w A l) (hb : l.length ≤ 1000000) :
    ∃ v' w', (Builtin.append_ #[31, 31] 31 #[emptyZ w, .slice A l.length c]).run Tryd.prog (w.alloc (.cells #[] 3)) = .ok v' w' ∧ ZOwn w' w.heap.size v' l ∧ Below w.heap.size w w' := by
  have hba := (Below.refl w.heap.size w).alloc (Nat.le_refl _) (.cells #[] 3)
  obtain ⟨v', w', h1, h2, h3⟩ := z_append_row (w.alloc (.cells #[] 3)) w.heap.size _ [] (zown_empty w) A c l.length l rfl (hrow.later hba) (by simp; omega) (by simp)
  exact ⟨v', w', h1, h2, hba.grown h3 (by simp) (fun b e => by
    have : b = w.heap.size := by simpa [emptyZ, Value.ownBlock] using e.symm
    omega)⟩
theorem below_drewN2 (w : World) (n m : Nat) : Below w.heap.size w ((w.drewN n).drewN m) := (drewN_below w n).trans (drewN_below (w.drewN n) m)

/-- the place m gets its least number back -/
theorem back_done {w : World} {B m c g n : Nat} {lo l r : List Int} (hm : m < l.length) (hlo : lo.length = l.length) (hr : r = l.take (m + 1) ++ lo.drop (m + 1)) (h : w.ownsRow B 3 1 (.slice (some ⟨g, 0, none⟩) n c) n (zcells r)) :
    (w.setCell ⟨g, m, none⟩ (.int .i64 (lo.getD m 0))).ownsRow B 3 1 (.slice (some ⟨g, 0, none⟩) n c) n (zcells (l.take m ++ lo.drop m)) := by
  have h2 := (h.stored m (.int .i64 (lo.getD m 0))).1
  have e : l.take m ++ lo.drop m = r.set m (lo.getD m 0) := by
    rw [hr, List.take_succ_eq_append_getElem hm, List.append_assoc, List.set_append_right _ _ (by rw [List.length_take]; omega), List.length_take, show m - min m l.length = 0 by omega]
    rw [List.drop_eq_getElem_cons (show m < lo.length by omega), getD_of (show m < lo.length by omega)]
    rfl
  have e2 : (zcells r).set m (.int .i64 (lo.getD m 0)) = zcells (l.take m ++ lo.drop m) := by
    rw [e]
    unfold zcells
    rw [List.map_set]
  rw [e2] at h2
  exact h2
end Go.Proofs.YtlndlipicbkhiaaDoor
