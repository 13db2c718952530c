/- What is proved: the short functions of the law BitvecAlgebra: a node is made, two values are compared. -/
import Derived.Test.YtlnpgcdgpahdmaaDoorBvBuild
import Derived.Test.YtlnpgcdgpahdmaaDoorBvAlP
import Derived.Test.YtlnpgcdgpahdmaaDoorBvWrLaw
import Derived.Laws.IdiomCopy
set_option linter.unusedVariables false
namespace Go.Proofs.YtlnpgcdgpahdmaaDoor
open Go.RowKit Go.Maps

/-- the law's memory: the table and its box, the inputs and their box -/
structure AlgSt (w0 : World) (W : Int) (tb tbb ib ab : Nat) (x y z p q : Int) (l : List Tm) (w : World) : Prop where
  tab : ∃ n₀ mb rv, Tab w n₀ tb mb rv W l ∧ w0.heap.size ≤ n₀
  tbx : Bx w tbb 24 (.pointer (some ⟨tb, 0, none⟩))
  ibx : Bx w ib 45 (.slice (some ⟨ab, 0, none⟩) 5 5)
  row : w.heap[ab]? = some (.cells #[.int .i64 x, .int .i64 y, .int .i64 z, .int .i64 p, .int .i64 q] 3 (0, 0))
  bel : Below w0.heap.size w0 w
  ts0 : TabS w0
section
variable {w0 : World} {W : Int} {tb tbb ib ab : Nat} {x y z p q : Int} {l : List Tm} {w : World}
theorem AlgSt.later {w' : World} (h : AlgSt w0 W tb tbb ib ab x y z p q l w) (hb : Below w.heap.size w w') : AlgSt w0 W tb tbb ib ab x y z p q l w' := by
  obtain ⟨⟨n₀, mb, rv, ht, hn⟩, h1, h2, h3, h4, h5⟩ := h
  exact ⟨⟨n₀, mb, rv, ht.later hb, hn⟩, h1.later hb, h2.later hb, (hb.block ab (hlt h3)).trans h3, h4.trans (hb.mono h4.size), h5⟩
theorem AlgSt.zrow (h : AlgSt w0 W tb tbb ib ab x y z p q l w) : ZRow w.heap.size w (some ⟨ab, 0, none⟩) [x, y, z, p, q] := fun _ => by
  refine ⟨ab, 0, rfl, hlt h.row, fun i hi => ?_⟩
  have k := fun j => Lib.cell_of_heap h.row j
  have : i = 0 ∨ i = 1 ∨ i = 2 ∨ i = 3 ∨ i = 4 := by simp at hi; omega
  rcases this with rfl | rfl | rfl | rfl | rfl
  · exact k 0
  · exact k 1
  · exact k 2
  · exact k 3
  · exact k 4
/-- a block of another kind is none of the table's -/
theorem own_kind {n₀ mb : Nat} {rv : Value} {k : Nat} {cs : Array Value} {T : TypeId} {fr : Nat × Nat} (ht : Tab w n₀ tb mb rv W l) (hk : w.heap[k]? = some (.cells cs T fr)) (h1 : T ≠ 68) (h2 : T ≠ 34) : ¬ Own tb mb rv k := by
  rintro (rfl | rfl | e)
  · rw [ht.box] at hk
    simp only [Option.some.injEq, Obj.cells.injEq] at hk
    exact h1 hk.2.1.symm
  · obtain ⟨es, clock, hm0, _⟩ := ht.map
    rw [hm0] at hk
    cases hk
  · obtain ⟨_, _, cs', hc⟩ := own_block' ht.row e
    rw [hc] at hk
    simp only [Option.some.injEq, Obj.cells.injEq] at hk
    exact h2 hk.2.1.symm
theorem AlgSt.made {n₀ mb : Nat} {rv rv' : Value} {nd : Tm} {w' : World} (h : AlgSt w0 W tb tbb ib ab x y z p q l w) (ht : Tab w n₀ tb mb rv W l) (hn : w0.heap.size ≤ n₀) (hm : MkRes n₀ tb mb rv W l nd w w' rv') : AlgSt w0 W tb tbb ib ab x y z p q (mkL W l nd) w' := by
  have hb := hm.later hn ht h.bel
  have hbx : ∀ {k : Nat} {cs : Array Value} {T : TypeId} {fr : Nat × Nat}, w.heap[k]? = some (Obj.cells cs T fr) → T ≠ 68 → T ≠ 34 → w'.heap[k]? = w.heap[k]? := fun hk h1 h2 => hm.fr.block _ (hlt hk) (own_kind ht hk h1 h2)
  refine ⟨⟨n₀, mb, rv', hm.tab, hn⟩, ?_, ?_, ?_, hb, h.ts0⟩
  · exact (hbx h.tbx (by decide) (by decide)).trans h.tbx
  · exact (hbx h.ibx (by decide) (by decide)).trans h.ibx
  · exact (hbx h.row (by decide) (by decide)).trans h.row
theorem AlgSt.ts (h : AlgSt w0 W tb tbb ib ab x y z p q l w) : TabS w := h.ts0.later h.bel
set_option maxRecDepth 100000 in
set_option maxHeartbeats 1000000 in
theorem is_any (i k : Nat) (v : Int) (hW : ¬ (W < 2 ∨ 8 < W)) (h : AlgSt w0 W tb tbb ib ab x y z p q l w) (hi : evP W l (i : Int) [x, y, z, p, q] = (v, 0)) (hk : evP W l (k : Int) [x, y, z, p, q] = (v, 0)) :
    Calls Tryd.prog 36 #[.int .i64 (i : Int), .int .i64 (k : Int), .pointer (some ⟨tbb, 0, none⟩), .pointer (some ⟨ib, 0, none⟩)] w fun e w' => e = .returned (.bool true) ∧ AlgSt w0 W tb tbb ib ab x y z p q l w' := by
  obtain ⟨n₀, mb, rv, ht, hn⟩ := h.tab
  have HS := Lib.hid h
  have HE1 := Lib.hid (eval_any (i : Int) _ 5 [x, y, z, p, q] ht h.ts hW h.zrow)
  rw [hi] at HE1
  have HE2 := Lib.hid (fun w' (hb : Below w.heap.size w w') => eval_any (k : Int) _ 5 [x, y, z, p, q] (ht.later hb) (h.later hb).ts hW (h.later hb).zrow)
  rw [hk] at HE2
  have c1 := h.tbx.cell
  have c2 := h.ibx.cell
  clear ht h hi hk hW
  go_enter Tryd.func36, Tryd.ntmps36
  go_wp2_with (fail)
  refine HE1.out.mono ?_
  rintro e w1 ⟨rfl, hb1⟩
  have HB1 := Lib.hid hb1
  have HS1 := Lib.hid (HS.out.later hb1)
  have d1 := HS1.out.tbx.cell
  have d2 := HS1.out.ibx.cell
  clear hb1 c1 c2 HE1
  go_wp2_with (fail)
  refine (HE2.out _ HB1.out).mono ?_
  rintro e w2 ⟨rfl, hb2⟩
  have HS2 := Lib.hid (HS1.out.later hb2)
  clear hb2 d1 d2
  go_wp2_with (fail)
  go_ret
  exact ⟨rfl, HS2.out⟩
theorem aclo_any (n : Int) (b : Nat) (hW : IntKind.i64.wrap W = W) (w : World) (hb : Bx w b 3 (.int .i64 W)) : Calls Tryd.prog 34 #[.int .i64 n, .pointer (some ⟨b, 0, none⟩)] w fun e w' => e = .returned (.int .i64 (wrpP W n)) ∧ w' = w := by
  have HW := Lib.hid (fun w => wrap_any W n hW w)
  have c0 := hb.cell
  clear hb hW
  go_enter Tryd.func34, Tryd.ntmps34
  go_wp2_with (fail)
  refine (HW.out _).mono ?_
  rintro e wx ⟨rfl, hx⟩
  obtain rfl := hx.symm
  go_wp2_with (fail)
  go_ret
  exact ⟨rfl, rfl⟩
theorem wpList_copy_by {P : Program} {w : World} {ops : Array Oper} {rest : List Oper} {o : Oper} {a : Act} {Q : Exit → Act → World → Prop} (hgd : o.guard = none) (s x : Operand) (t u : TypeId)
    (ho : o.op = .call { callee := .builtin .copy, args := #[s, x], argTypes := #[t, u] }) (sv xv : Value) (hs : a.eval s = sv) (hx : a.eval x = xv) (v : Value) (w' : World)
    (hr : (Builtin.copy_ #[t, u] o.type #[sv, xv]).run P w = .ok v w') (h : ∀ w2, Hid (w2 = w') → wpList P ops Q rest (a.put o.dst v) w2) : wpList P ops Q (o :: rest) a w := by
  refine wpList_plain hgd fun K hK => ?_
  unfold Oper.wp execOp
  simp only [ho, resolve, invoke, builtin, Sem.run_bind, Sem.run_pure, Result.andThen_ok, List.map_toArray, List.map_cons, List.map_nil, hs, hx, hr]
  exact hK _ _ (h _ (Lib.hid rfl))
set_option maxRecDepth 100000 in
theorem slice_all (b : Nat) (w : World) : (Instr.sliceAt 32 (.pointer (some ⟨b, 2, none⟩)) none none none).run Tryd.prog w = .ok (.slice (some ⟨b, 2, none⟩) 3 3) w := by
  have e : Tryd.prog.arrayLen 32 = 3 := by kernel_rfl
  have h := run_sliceAt_array_all (P := Tryd.prog) (w := w) (t := 32) (a := ⟨b, 2, none⟩) Tryd.underlying32
  have s : (sizeOf (Tryd.prog.elem 32)).run Tryd.prog w = .ok 1 w := by kernel_rfl
  rw [h, e, s]
  simp [slicedAt, Addr.add]
end
end Go.Proofs.YtlnpgcdgpahdmaaDoor
