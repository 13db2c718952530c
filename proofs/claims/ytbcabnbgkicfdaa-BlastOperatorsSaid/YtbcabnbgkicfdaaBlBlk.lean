/- What is proved: words that lie alone in a block and are written to; parts of slices of numbers. -/
import Derived.Test.YtbcabnbgkicfdaaBlOps
import Derived.Laws.IdiomCopy
set_option linter.unusedVariables false
set_option linter.unusedSimpArgs false
namespace Go.Proofs.Ytbcabnbgkicfdaa
open Go.RowKit Go.Maps

/-- a block of numbers -/
def ZBlk (w : World) (b : Nat) (l : List Int) : Prop := w.heap[b]? = some (.cells (zcells l).toArray 3 (0, 0))
section
variable {w w' : World} {b : Nat} {l : List Int}
theorem ZBlk.later (h : ZBlk w b l) (hb : Below w.heap.size w w') : ZBlk w' b l := (hb.block b (hlt h)).trans h
theorem ZBlk.lt (h : ZBlk w b l) : b < w.heap.size := hlt h
theorem ZBlk.cell (h : ZBlk w b l) {i : Nat} (hi : i < l.length) : w.cell? ⟨b, i, none⟩ = some (.int .i64 l[i]) := by
  rw [Lib.cell_of_heap h i]
  simpa using zcells_get l i hi
theorem ZBlk.frz (h : ZBlk w b l) (i : Nat) : w.frozen? ⟨b, i, none⟩ = false := hfrz h i
theorem ZBlk.set (h : ZBlk w b l) (i : Nat) (x : Int) : ZBlk (w.setCell ⟨b, i, none⟩ (.int .i64 x)) b (l.set i x) := by
  unfold ZBlk
  rw [hset h]
  simp [zcells, List.map_set]
theorem ZBlk.sets : ∀ (m : List Int) (o : Nat) (w : World) (l : List Int), o + m.length = l.length → ZBlk w b l → ZBlk (w.setCells b o (zcells m)) b (l.take o ++ m)
  | [], o, w, l, ho, h => by
    rw [List.append_nil, List.take_of_length_le (by simp at ho; omega)]
    exact h
  | x :: m, o, w, l, ho, h => by
    have h2 := ZBlk.sets m (o + 1) _ (l.set o x) (by simp at ho ⊢; omega) (h.set o x)
    have e : (l.set o x).take (o + 1) ++ m = l.take o ++ x :: m := by
      rw [List.take_succ_eq_append_getElem (by simp at ho ⊢; omega), List.take_set_of_le (Nat.le_refl _)]
      simp
    rw [e] at h2
    exact h2
theorem ZBlk.new (w : World) (n : Nat) : ZBlk (w.alloc (.cells (hdr (fun _ => .int .i64 0) n) 3)) w.heap.size (List.replicate n 0) := by
  unfold ZBlk
  rw [heap_alloc_new]
  congr 2
  apply Array.ext
  · simp [hdr, zcells]
  · intro i h1 h2
    simp [hdr, zcells]
theorem ZBlk.wrow (h : ZBlk w b l) (i : Nat) : WRow w.heap.size w (some ⟨b, i, none⟩) (l.drop i) := fun _ =>
  ⟨b, i, _, rfl, hlt h, h, fun j hj => by
    have hj' : i + j < l.length := by rw [List.length_drop] at hj; omega
    have := zcells_get l (i + j) hj'
    simpa using this⟩
theorem ZBlk.own {B n : Nat} (h : ZBlk w b l) (hB : B ≤ b) (hn : n = l.length) (hl : l.length ≤ 1000000) : ZOwn w B (.slice (some ⟨b, 0, none⟩) n n) l := by
  subst hn
  exact ⟨(zcells_len l).trans (Nat.mul_one _).symm, .inr ⟨b, l.length, _, rfl, hB, h, Nat.le_refl _, by unfold maxLen; omega, by rw [Nat.mul_one]; simpa using zcells_len l, by rw [← zcells_len l]; simp⟩⟩
theorem infoZ : ∃ i0, Try.prog.info? 3 = some i0 ∧ i0.size = 1 := by
  obtain ⟨i0, hi0, hz0, hz1, hz2⟩ := info_parts infoInt
  exact ⟨i0, hi0, hz1⟩
theorem sl_to (b o n c m : Nat) (h : m ≤ n) (hc : n ≤ c) (W : World) : (Instr.slice 47 (.slice (some ⟨b, o, none⟩) n c) none (some (.int .i64 (m : Int))) none).run Try.prog W = .ok (.slice (some ⟨b, o, none⟩) m c) W := by
  obtain ⟨i0, hi0, hz1⟩ := infoZ
  have h1 : ¬ ((m : Int) < 0) := by omega
  have h3 : (c : Int) < (m : Int) ↔ False := by simp; omega
  have h5 : m ≤ c := by omega
  simp [Instr.slice, run_underlying Try.underlying47, Instr.sliceBounds, Instr.sliceBound, asIntOf, h, h1, h3, h5, sizeOf, typeInfo, hi0, hz1, Addr.add]
theorem sl_from (b o n c k : Nat) (h : k < n) (hc : n ≤ c) (W : World) : (Instr.slice 47 (.slice (some ⟨b, o, none⟩) n c) (some (.int .i64 (k : Int))) none none).run Try.prog W = .ok (.slice (some ⟨b, o + k, none⟩) (n - k) (c - k)) W := by
  obtain ⟨i0, hi0, hz1⟩ := infoZ
  have h1 : ¬ ((k : Int) < 0) := by omega
  have h3 : (n : Int) < (k : Int) ↔ False := by simp; omega
  have h4 : ¬ (c = k) := by omega
  have h5 : k ≤ n := by omega
  have h6 : ¬ (c - k = 0) := by omega
  have h7 : k < c := by omega
  have h8 : k ≤ c := by omega
  have h9 : (n : Int) ≤ (c : Int) := by omega
  simp [Instr.slice, run_underlying Try.underlying47, Instr.sliceBounds, Instr.sliceBound, asIntOf, h, h1, h3, h4, h5, h6, h7, h8, h9, hc, sizeOf, typeInfo, hi0, hz1, Addr.add]
end
section
variable {n₀ bb mb : Nat} {rv rv1 rv2 : Value} {I : Int} {gs gs1 gs2 : List Gt} {n m : Nat} {w w1 w2 : World}
theorem ZBlk.stp {b : Nat} {l : List Int} (h : ZBlk w b l) (ht : Bld w n₀ bb mb rv I gs 0) (hs : Stp n₀ bb mb rv I gs n w w1 rv1 gs1) : ZBlk w1 b l := (hs.res.fr.block b (hlt h) (int_own ht h)).trans h
theorem Stp.put {b : Nat} {cs : Array Value} (h : Stp n₀ bb mb rv I gs n w w1 rv1 gs1) (hb : w1.heap[b]? = some (.cells cs 3 (0, 0))) (hB : w.heap.size ≤ b) (i : Nat) (v : Value) : Stp n₀ bb mb rv I gs n w (w1.setCell ⟨b, i, none⟩ v) rv1 gs1 :=
  ⟨⟨h.tab.stays fun k hk => hfar (fun e => int_own h.tab hb (by rw [← show k = b from e]; exact hk)) v, ⟨h.res.fr.os, h.res.fr.tape, h.res.fr.output, by have := h.size; simp [World.setCell]; omega, fun k hk hno => (hfar (by show k ≠ b; omega) v).trans (h.res.fr.block k hk hno)⟩, h.res.new⟩, h.pre, h.len⟩
theorem Stp.puts {b : Nat} : ∀ (vs : List Value) (o : Nat) (w1 : World) (cs : Array Value), Stp n₀ bb mb rv I gs n w w1 rv1 gs1 → w1.heap[b]? = some (.cells cs 3 (0, 0)) → w.heap.size ≤ b → Stp n₀ bb mb rv I gs n w (w1.setCells b o vs) rv1 gs1
  | [], o, w1, cs, h, hb, hB => h
  | v :: vs, o, w1, cs, h, hb, hB => Stp.puts vs (o + 1) _ _ (h.put hb hB o v) (hset hb v) hB
theorem WRow.put {k b : Nat} {A : Option Addr} {l : List Int} (h : WRow k w A l) (hB : k ≤ b) (i : Nat) (v : Value) : WRow k (w.setCell ⟨b, i, none⟩ v) A l := h.stays fun c cs h1 h2 => hfar (by show c ≠ b; omega) v
end
theorem step_copy_by {P : Program} {w : World} {ops : Array Oper} {o : Oper} {a : Act} {K : Act → World → Prop} {Q : Exit → Act → World → Prop} {E : Prop} (hgd : o.guard = none) (s x : Operand) (t u : TypeId)
    (ho : o.op = .call { callee := .builtin .copy, args := #[s, x], argTypes := #[t, u] }) (sv xv : Value) (hs : a.eval s = sv) (hx : a.eval x = xv) (v : Value) (w' : World)
    (hr : (Builtin.copy_ #[t, u] o.type #[sv, xv]).run P w = .ok v w') (h : ∀ w2, Hid (w2 = w') → K (a.put o.dst v) w2) :
    if Region.wanted o (yielded ops a.tmps) = true then Oper.wp P o a w K Q else E := by
  have hw : Region.wanted o (yielded ops a.tmps) = true := by simp [Region.wanted, hgd]
  rw [if_pos hw]
  unfold Oper.wp execOp
  simp only [ho, resolve, invoke, builtin, Sem.run_bind, Sem.run_pure, Result.andThen_ok, List.map_toArray, List.map_cons, List.map_nil, hs, hx, hr]
  exact h _ (Lib.hid rfl)
/-- numbers copied into a block -/
theorem run_copy_blk {w : World} {b : Nat} {l m : List Int} (h : ZBlk w b l) (o : Nat) (A : Option Addr) (c cd k : Nat) (hr : WRow k w A m) (hm : 0 < m.length) (ho : o + m.length = l.length) (ty : TypeId) :
    (Builtin.copy_ #[47, 47] ty #[.slice (some ⟨b, o, none⟩) m.length cd, .slice A m.length c]).run Try.prog w = .ok (goInt m.length) (w.setCells b o (zcells m)) := by
  obtain ⟨sb, off, cs, rfl, h2, h3, h4⟩ := hr hm
  have := run_copy_cells (P := Try.prog) w 47 47 ty 3 b o m.length cd ⟨sb, off, none⟩ m.length c (zcells m) Try.underlying47 (by obtain ⟨i0, hi, hz⟩ := infoZ; rw [hi]; simp [hz]) (by rw [zcells_len]; exact (Nat.min_self _).symm)
    (fun j v hj => by
      have hjl : j < m.length := by rw [← zcells_len]; exact (List.getElem?_eq_some_iff.1 hj).1
      rw [zcells_get m j hjl] at hj
      rw [Go.WideShapes.add_plain, ← hj]
      exact (Lib.cell_of_heap h3 (off + j)).trans (h4 j hjl))
    (fun j hj => by rw [zcells_len] at hj; rw [h.cell (show o + j < l.length by omega)]; rfl)
    (fun j hj => h.frz _) (zcells_one m)
  rw [zcells_len] at this
  exact this
end Go.Proofs.Ytbcabnbgkicfdaa
