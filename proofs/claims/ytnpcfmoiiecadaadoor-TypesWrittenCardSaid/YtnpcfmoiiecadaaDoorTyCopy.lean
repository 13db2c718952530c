/- What is proved: copy between slices whose elements have several cells. -/
import Derived.Test.YtnpcfmoiiecadaaDoorTyWr
import Derived.Laws.CopyRow
import Derived.Laws.IdiomCopy
import Derived.Laws.CopyOwn
import Derived.Laws.MakeOwn
import Derived.Laws.OwnMore
set_option linter.unusedVariables false
namespace Go.Proofs.YtnpcfmoiiecadaaDoor
open Go.RowKit

section
variable {P : Program} (w : World)
theorem run_copy_rowN (dT sT ty elem : TypeId) (g o dLen dCap : Nat) (a : Addr) (sLen sCap q : Nat) (cur : Array Value) (t : TypeId) (cs : List Value)
    (hu : P.underlying dT = some (.slice elem)) (hs : (P.info? elem).map (·.size) = some q)
    (hg : w.heap[g]? = some (.cells cur t (0, 0))) (hn : cs.length = Nat.min sLen dLen * q)
    (hsrc : ∀ j v, cs[j]? = some v → w.cell? (a.add j) = some v) (hfit : o + cs.length ≤ cur.size) (h1 : ∀ v ∈ cs, v.oneCell' = true) :
    (Builtin.copy_ #[dT, sT] ty #[.slice (some ⟨g, o, none⟩) dLen dCap, .slice (some a) sLen sCap]).run P w =
      .ok (goInt (Nat.min sLen dLen)) (w.setRow g (cur.toList.take o ++ cs ++ cur.toList.drop (o + cs.length)).toArray) := by
  have hl := run_loadCells_list (P := P) w a cs hsrc
  have hst := run_storeCells_at P g o t cs 0 cur w hg (by simpa using hfit) h1
  cases hq : P.info? elem with
  | none => simp [hq] at hs
  | some i =>
    have hi : i.size = q := by simpa [hq] using hs
    rw [hn] at hl
    simp [Builtin.copy_, run_underlying hu, Builtin.lenOf, Builtin.firstCells, sizeOf, typeInfo, hq, hi, hl, hst]
theorem wpList_copy_by {ops : Array Oper} {rest : List Oper} {o : Oper} {a : Act} {Q : Exit → Act → World → Prop} (hgd : o.guard = none) (s x : Operand) (t u : TypeId)
    (ho : o.op = .call { callee := .builtin .copy, args := #[s, x], argTypes := #[t, u] }) (sv xv : Value) (hs : a.eval s = sv) (hx : a.eval x = xv) (v : Value) (w' : World)
    (hr : (Builtin.copy_ #[t, u] o.type #[sv, xv]).run P w = .ok v w') (h : wpList P ops Q rest (a.put o.dst v) w') : wpList P ops Q (o :: rest) a w :=
  wpList_plain hgd fun _ hK => by
    unfold Oper.wp execOp
    simp only [ho, resolve, invoke, builtin, Sem.run_bind, Sem.run_pure, Result.andThen_ok, List.map_toArray, List.map_cons, List.map_nil, hs, hx, hr]
    exact hK _ _ h
theorem step_copy_by {ops : Array Oper} {o : Oper} {a : Act} {K : Act → World → Prop} {Q : Exit → Act → World → Prop} {E : Prop} (hgd : o.guard = none) (s x : Operand) (t u : TypeId)
    (ho : o.op = .call { callee := .builtin .copy, args := #[s, x], argTypes := #[t, u] }) (sv xv : Value) (hs : a.eval s = sv) (hx : a.eval x = xv) (v : Value) (w' : World)
    (hr : (Builtin.copy_ #[t, u] o.type #[sv, xv]).run P w = .ok v w') (h : K (a.put o.dst v) w') :
    if Region.wanted o (yielded ops a.tmps) = true then Oper.wp P o a w K Q else E := by
  have hw : Region.wanted o (yielded ops a.tmps) = true := by simp [Region.wanted, hgd]
  rw [if_pos hw]
  unfold Oper.wp execOp
  simp only [ho, resolve, invoke, builtin, Sem.run_bind, Sem.run_pure, Result.andThen_ok, List.map_toArray, List.map_cons, List.map_nil, hs, hx, hr]
  exact h
end

/-- an int's cells, the zero type's -/
def pat : List Value := [.int .i64 1, .int .i64 0, .string ⟨#[]⟩]
def zer : List Value := [.int .i64 0, .int .i64 0, .string ⟨#[]⟩]
def pats (n : Nat) : List Value := (List.replicate n pat).flatten
def zers (n : Nat) : List Value := (List.replicate n zer).flatten
theorem pats_len (n : Nat) : (pats n).length = n * 3 := by unfold pats; simp [List.length_flatten, List.map_replicate, pat]
theorem zers_len (n : Nat) : (zers n).length = n * 3 := by unfold zers; simp [List.length_flatten, List.map_replicate, zer]
theorem pats_add (a b : Nat) : pats (a + b) = pats a ++ pats b := by unfold pats; rw [← List.replicate_append_replicate, List.flatten_append]
theorem zers_add (a b : Nat) : zers (a + b) = zers a ++ zers b := by unfold zers; rw [← List.replicate_append_replicate, List.flatten_append]
theorem pats_one (n : Nat) : ∀ v ∈ pats n, v.oneCell' = true := by
  intro v hv
  unfold pats at hv
  rw [List.mem_flatten] at hv
  obtain ⟨l, hl, hv⟩ := hv
  rw [(List.mem_replicate.1 hl).2] at hv
  unfold pat at hv
  simp at hv
  rcases hv with rfl | rfl | rfl <;> rfl
/-- the row with k of n elements written -/
def rowK (k n : Nat) : List Value := pats k ++ zers (n - k)
theorem rowK_len (k n : Nat) (h : k ≤ n) : (rowK k n).length = n * 3 := by unfold rowK; rw [List.length_append, pats_len, zers_len]; omega
theorem rowK_splice (k m n : Nat) (h : k + m ≤ n) : (rowK k n).take (k * 3) ++ pats m ++ (rowK k n).drop (k * 3 + (pats m).length) = rowK (k + m) n := by
  have hk := pats_len k
  have hm := pats_len m
  have e1 : (rowK k n).take (k * 3) = pats k := by
    unfold rowK
    rw [List.take_append_of_le_length (by omega), List.take_of_length_le (by omega)]
  have e2 : (rowK k n).drop (k * 3 + (pats m).length) = zers (n - (k + m)) := by
    unfold rowK
    rw [List.drop_append, List.drop_of_length_le (by omega), List.nil_append, show n - k = m + (n - (k + m)) from by omega, zers_add, show k * 3 + (pats m).length - (pats k).length = (zers m).length from by rw [hk, hm, zers_len]; omega, List.drop_left]
  rw [e1, e2]
  unfold rowK
  rw [pats_add]
theorem rowK_src (k m n : Nat) (h : m ≤ k) (j : Nat) (v : Value) (hj : (pats m)[j]? = some v) : (rowK k n)[j]? = some v := by
  have hm := pats_len m
  have hjl : j < (pats m).length := (List.getElem?_eq_some_iff.1 hj).1
  unfold rowK
  obtain ⟨d, rfl⟩ := Nat.exists_eq_add_of_le h
  rw [pats_add, List.append_assoc, List.getElem?_append_left hjl, hj]
end Go.Proofs.YtnpcfmoiiecadaaDoor
