/- What is proved: append onto an owned row of numbers, of any row, as an equation of what it runs to. -/
import Derived.Test.YtjgkcicgjnjepaaDoorBvBase
import Derived.ArgAppend
set_option linter.unusedVariables false
namespace Go.Proofs.YtjgkcicgjnjepaaDoor
open Go.RowKit

section
variable {P : Program} {w : World}
theorem ga_append_empty (t ty e : TypeId) (i : TypeInfo) (ht : P.underlying t = some (.slice e)) (hi : P.info? e = some i) (b a : Option Addr) (n cap c : Nat) (hn : n ≤ cap) :
    (Builtin.append_ #[t, t] ty #[.slice b n cap, .slice a 0 c]).run P w = .ok (.slice b n cap) w := by
  cases b <;> cases a <;> simp [Builtin.append_, run_underlying ht, sizeOf, typeInfo, hi, Builtin.lenOf, Builtin.firstCells, hn, storeCells, loadCells, loadCellsFrom]
theorem app_by {ops : Array Oper} {rest : List Oper} {o : Oper} {a : Act} {Q : Exit → Act → World → Prop} (hgd : o.guard = none) (s x : Operand) (t u : TypeId)
    (ho : o.op = .call { callee := .builtin .append, args := #[s, x], argTypes := #[t, u] }) (sv xv : Value) (hs : a.eval s = sv) (hx : a.eval x = xv) (v : Value) (w' : World)
    (hr : (Builtin.append_ #[t, u] o.type #[sv, xv]).run P w = .ok v w') (h : ∀ w2, Hid (w2 = w') → wpList P ops Q rest (a.put o.dst v) w2) : wpList P ops Q (o :: rest) a w := by
  refine wpList_plain hgd fun K hK => ?_
  unfold Oper.wp execOp
  simp only [ho, resolve, invoke, builtin, Sem.run_bind, Sem.run_pure, Result.andThen_ok, List.map_toArray, List.map_cons, List.map_nil, hs, hx, hr]
  exact hK _ _ (h _ (Lib.hid rfl))
theorem step_app_by {ops : Array Oper} {o : Oper} {a : Act} {K : Act → World → Prop} {Q : Exit → Act → World → Prop} {E : Prop} (hgd : o.guard = none) (s x : Operand) (t u : TypeId)
    (ho : o.op = .call { callee := .builtin .append, args := #[s, x], argTypes := #[t, u] }) (sv xv : Value) (hs : a.eval s = sv) (hx : a.eval x = xv) (v : Value) (w' : World)
    (hr : (Builtin.append_ #[t, u] o.type #[sv, xv]).run P w = .ok v w') (h : ∀ w2, Hid (w2 = w') → K (a.put o.dst v) w2) : if Region.wanted o (yielded ops a.tmps) = true then Oper.wp P o a w K Q else E := by
  have hw : Region.wanted o (yielded ops a.tmps) = true := by simp [Region.wanted, hgd]
  rw [if_pos hw]
  unfold Oper.wp execOp
  simp only [ho, resolve, invoke, builtin, Sem.run_bind, Sem.run_pure, Result.andThen_ok, List.map_toArray, List.map_cons, List.map_nil, hs, hx, hr]
  exact h _ (Lib.hid rfl)
theorem own_slice {B E s n : Nat} {v : Value} {xs : List Value} (h : w.ownsRow B E s v n xs) : ∃ X cap, v = .slice X n cap ∧ n ≤ cap := by
  rcases h.2 with ⟨h1, h2⟩ | ⟨g, cap, cur, h1, h2, h3, h4, _⟩
  · exact ⟨none, 0, by rw [h1, h2], by omega⟩
  · exact ⟨_, cap, h1, h4⟩
theorem own_append (T E : TypeId) {z : Value} {size bytes : Nat} (hT : P.underlying T = some (.slice E)) (hinfo : (P.info? E).map (fun i => (i.zero, i.size, i.bytes)) = some (some z, size, bytes)) (hzs : z.cells.size = size) (hsz : 0 < size) (hby : bytes ≤ 40)
    (B n : Nat) (v : Value) (xs : List Value) (hown : w.ownsRow B E size v n xs) (A : Option Addr) (m c : Nat) (news : List Value) (hl : news.length = m * size)
    (hnews : 0 < m → ∃ ad, A = some ad ∧ ∀ j u, news[j]? = some u → w.cell? (ad.add j) = some u) (h1 : ∀ u ∈ news, u.oneCell' = true) (hb : n + m ≤ 1000000000) (hB : B ≤ w.heap.size) :
    ∃ X cap w', (Builtin.append_ #[T, T] T #[v, .slice A m c]).run P w = .ok (.slice X (n + m) cap) w' ∧ w'.ownsRow B E size (.slice X (n + m) cap) (n + m) (xs ++ news) ∧ w.grownBy w' v.ownBlock := by
  obtain ⟨i0, hi0, hz0, hz1, hz2⟩ := info_parts hinfo
  obtain ⟨X, cap, rfl, hcap⟩ := own_slice hown
  rcases Nat.eq_zero_or_pos m with h0 | h0
  · subst h0
    have hn : news = [] := List.eq_nil_of_length_eq_zero (by omega)
    subst hn
    exact ⟨X, cap, w, ga_append_empty T T E i0 hT hi0 _ _ _ _ _ hcap, by rw [List.append_nil]; exact hown, ⟨rfl, rfl, rfl, Nat.le_refl _, fun _ _ _ => rfl⟩⟩
  · obtain ⟨ad, rfl, h3⟩ := hnews h0
    have hbb : (n + m) * bytes ≤ 140737488355328 := Nat.le_trans (Nat.mul_le_mul hb hby) (by decide)
    obtain ⟨v', w', g1, g2, g3⟩ := run_append_own (P := P) w B T T E i0 _ size bytes hT hi0 hz0 hz1 hz2 hzs hsz _ n xs hown ad m c news hl h3 h1 (by unfold maxLen; omega) hbb hB
    obtain ⟨X', cap', rfl, _⟩ := own_slice g2
    exact ⟨X', cap', w', g1, g2, g3.1⟩
end
section
variable {w : World}
theorem z_append (B n : Nat) (v : Value) (l : List Int) (hown : ZOwn w B v l) (hn : n = l.length) (A : Option Addr) (c m : Nat) (l2 : List Int) (hm : m = l2.length) (hrow : ZRow w.heap.size w A l2) (hb : n + m ≤ 1000000000) (hB : B ≤ w.heap.size) :
    ∃ X cap w', (Builtin.append_ #[23, 23] 23 #[v, .slice A m c]).run Tryd.prog w = .ok (.slice X (n + m) cap) w' ∧ ZOwn w' B (.slice X (n + m) cap) (l ++ l2) ∧ w.grownBy w' v.ownBlock := by
  subst hn
  subst hm
  obtain ⟨X, cap, w', g1, g2, g3⟩ := own_append (P := Tryd.prog) 23 3 Tryd.underlying23 infoInt rfl (by decide) (by decide) B l.length v (zcells l) hown A l2.length c (zcells l2) (by rw [zcells_len, Nat.mul_one]) (fun h0 => by
    obtain ⟨b, off, h1, h2, h3⟩ := hrow h0
    refine ⟨_, h1, fun j u hj => ?_⟩
    have hjl : j < l2.length := by rw [← zcells_len]; exact (List.getElem?_eq_some_iff.1 hj).1
    rw [zcells_get l2 j hjl] at hj
    rw [Go.WideShapes.add_plain, h3 j hjl, hj]) (zcells_one _) hb hB
  refine ⟨X, cap, w', g1, ?_, g3⟩
  unfold ZOwn
  rw [List.length_append, zcells_append]
  exact g2
theorem ZRow.one (w : World) (x : Int) : ZRow (w.alloc (.cells #[.int .i64 x] 3)).heap.size (w.alloc (.cells #[.int .i64 x] 3)) (some ⟨w.heap.size, 0, none⟩) [x] := fun _ => by
  refine ⟨w.heap.size, 0, rfl, by simp, fun i hi => ?_⟩
  have : i = 0 := by simp at hi; omega
  subst this
  exact Lib.cell_of_heap (heap_alloc_new w _) 0
/-- what grows by an append stays above a number -/
theorem ap_below {n : Nat} {w' : World} {row : Option Nat} (h : w.grownBy w' row) (hr : ∀ b, row = some b → n ≤ b) (hn : n ≤ w.heap.size) : Below n w w' := ⟨h.os, h.tape, h.output, h.size, fun k hk => h.block k (by omega) (fun e => by have := hr k e.symm; omega)⟩
theorem own_lo {B E s n : Nat} {v : Value} {xs : List Value} (h : w.ownsRow B E s v n xs) : ∀ b, v.ownBlock = some b → B ≤ b := fun b e => (own_block' h e).1

end
theorem z_fresh (w : World) (l : List Int) (B c : Nat) (hB : B ≤ w.heap.size) (hc : c = l.length) (hl : l.length ≤ 1000000) : ZOwn (w.alloc (.cells (zcells l).toArray 3)) B (.slice (some ⟨w.heap.size, 0, none⟩) l.length c) l :=
  ⟨(zcells_len l).trans (Nat.mul_one _).symm, .inr ⟨w.heap.size, c, (zcells l).toArray, rfl, hB, heap_alloc_new w _, by omega, by unfold maxLen; omega, by rw [Nat.mul_one, hc]; simpa using zcells_len l, by rw [← zcells_len l]; simp⟩⟩
end Go.Proofs.YtjgkcicgjnjepaaDoor
