/- What is proved: shapes makes a map that has, for each kind of a node that has a shape, the check of its kids. -/
import Derived.Test.YtlpoeflbnpbmgaaGreatDoorChecks
set_option linter.unusedVariables false
namespace Go.Proofs.YtlpoeflbnpbmgaaGreatDoor
open Go.RowKit Go.Maps

/-- row without classes -/
theorem row_nil (W : World) : Calls Tryz.prog 56 #[.slice none 0 0] W fun e w' => e = .returned (.func (.func 82) #[] #[.pointer (some ⟨W.heap.size, 0, none⟩), .pointer (some ⟨W.heap.size + 1, 0, none⟩)]) ∧ Chk w' (.func (.func 82) #[] #[.pointer (some ⟨W.heap.size, 0, none⟩), .pointer (some ⟨W.heap.size + 1, 0, none⟩)]) (rowB []) ∧ Below W.heap.size W w' := by
  go_enter Tryz.func56, Tryz.ntmps56
  go_wp2_with (fail)
  go_ret
  have hb2 := ((Below.refl W.heap.size W).alloc (Nat.le_refl _) (.cells #[.slice none 0 0] 114)).alloc (by simp) (.cells #[.func (.func 81) #[] #[]] 71)
  have q1 : ((W.alloc (.cells #[.slice none 0 0] 114)).alloc (.cells #[.func (.func 81) #[] #[]] 71)).heap[W.heap.size]? = some (.cells #[.slice none 0 0] 114 (0, 0)) := (heap_alloc_old _ _ (by simp)).trans (heap_alloc_new W _)
  have q2 : ((W.alloc (.cells #[.slice none 0 0] 114)).alloc (.cells #[.func (.func 81) #[] #[]] 71)).heap[W.heap.size + 1]? = some (.cells #[.func (.func 81) #[] #[]] 71 (0, 0)) := by
    have h := heap_alloc_new (W.alloc (.cells #[.slice none 0 0] 114)) (.cells #[.func (.func 81) #[] #[]] 71)
    rwa [World.size_alloc] at h
  exact ⟨rfl, .inl ⟨W.heap.size, W.heap.size + 1, none, 0, [], rfl, Lib.cell_of_heap q1 0, Lib.cell_of_heap q2 0, fun h => absurd h (by simp), by simp, rfl⟩, hb2⟩

/-- many of a class -/
theorem many_any (W : World) (m : Int) (g : Nat) (lb : Array Value) (p : NT → Bool) (hc : Cls W (.func (.func g) #[] lb) p) : Calls Tryz.prog 57 #[.int .i64 m, .func (.func g) #[] lb] W fun e w' => e = .returned (.func (.func 85) #[] #[.pointer (some ⟨W.heap.size, 0, none⟩), .pointer (some ⟨W.heap.size + 2, 0, none⟩)]) ∧ Chk w' (.func (.func 85) #[] #[.pointer (some ⟨W.heap.size, 0, none⟩), .pointer (some ⟨W.heap.size + 2, 0, none⟩)]) (manyB m p) ∧ Below W.heap.size W w' := by
  have HC := Lib.hid hc
  clear hc
  go_enter Tryz.func57, Tryz.ntmps57
  go_wp2_with (fail)
  go_ret
  have hb1 := (Below.refl W.heap.size W).alloc (Nat.le_refl _) (.cells #[.int .i64 m] 3)
  have q0 := heap_alloc_new W (.cells #[.int .i64 m] 3)
  have z1 := World.size_alloc W (.cells #[.int .i64 m] 3)
  generalize W.alloc (.cells #[.int .i64 m] 3) = W1 at *
  have hb2 := hb1.alloc (by omega) (.cells #[.func (.func g) #[] lb] 72)
  have q1 := heap_alloc_new W1 (.cells #[.func (.func g) #[] lb] 72)
  have q0' := (heap_alloc_old W1 (.cells #[.func (.func g) #[] lb] 72) (show W.heap.size < W1.heap.size by omega)).trans q0
  have z2 := World.size_alloc W1 (.cells #[.func (.func g) #[] lb] 72)
  rw [z1] at q1
  generalize W1.alloc (.cells #[.func (.func g) #[] lb] 72) = W2 at *
  have hb3 := hb2.alloc (by omega) (.cells #[.func (.func 84) #[] #[.pointer (some ⟨W.heap.size + 1, 0, none⟩)]] 59)
  have q2 := heap_alloc_new W2 (.cells #[.func (.func 84) #[] #[.pointer (some ⟨W.heap.size + 1, 0, none⟩)]] 59)
  have q0'' := (heap_alloc_old W2 (.cells #[.func (.func 84) #[] #[.pointer (some ⟨W.heap.size + 1, 0, none⟩)]] 59) (show W.heap.size < W2.heap.size by omega)).trans q0'
  have q1' := (heap_alloc_old W2 (.cells #[.func (.func 84) #[] #[.pointer (some ⟨W.heap.size + 1, 0, none⟩)]] 59) (show W.heap.size + 1 < W2.heap.size by omega)).trans q1
  have e2 : W2.heap.size = W.heap.size + 2 := by omega
  rw [e2] at q2
  exact ⟨rfl, .inr ⟨W.heap.size, W.heap.size + 2, W.heap.size + 1, m, _, p, rfl, Lib.cell_of_heap q0'' 0, Lib.cell_of_heap q2 0, Lib.cell_of_heap q1' 0, HC.out.keeps (Keeps.of_below hb3), rfl⟩, hb3⟩

/-- the check of the kids of a kind -/
def kidsB (k : Int) : List NT → Bool :=
  if k = 0 then rowB [] else if k = 2 then manyB 0 (kindB [3, 5]) else if k = 3 then manyB 1 (kindB [4]) else if k = 4 then rowB [basicB]
  else if k = 5 then rowB [kindB [6], kindB [9, 10, 0], kindB [11]] else if k = 6 then manyB 0 (kindB [7, 8]) else if k = 7 then rowB [kindB [9, 10, 0]] else if k = 8 then rowB [kindB [9, 10, 0]]
  else if k = 9 then rowB [] else if k = 10 then rowB [] else if k = 11 then manyB 0 stmtB else if k = 12 then rowB [kindB [9, 10, 0], exprB] else if k = 13 then rowB [kindB [20, 21, 22], exprB]
  else if k = 14 then rowB [exprB, kindB [11], kindB [11, 14, 0]] else if k = 15 then rowB [exprB, kindB [11]] else if k = 16 then rowB [exprB, exprB, kindB [11]] else if k = 17 then rowB [retOkB] else if k = 18 then rowB [exprB]
  else if k = 19 then manyB 0 exprB else if k = 20 then rowB [] else if k = 21 then rowB [kindB [20], exprB] else if k = 22 then rowB [kindB [20]] else if k = 23 then rowB [kindB [20]] else if k = 24 then rowB [] else if k = 25 then rowB []
  else if k = 26 then manyB 1 exprB else if k = 27 then manyB 0 exprB else if k = 28 then rowB [exprB] else if k = 29 then rowB [exprB, exprB] else fun _ => false

/-- how a function value reads -/
def fnR (v : Value) : Option (DataW Value × List MemPlace) := some (.held v, [])
/-- a map in block b that has checks for the kinds of S -/
def Tab (w : World) (b n : Nat) (S : Int → Bool) : Prop := ∃ D : DataW Value, IsMap D ∧ w.ownsMap Tryz.prog 3 fnR b n D ∧ ∀ k : Int, (S k = true → ∃ v, D.atKey (.int .i64 k) (.held .nilFunc) = .held v ∧ Chk w v (kidsB k) ∧ has D (.int .i64 k) = true) ∧ (S k = false → has D (.int .i64 k) = false)
theorem Tab.below {w w' : World} {b n : Nat} {S : Int → Bool} (h : Tab w b n S) (hb : Below w.heap.size w w') : Tab w' b n S := by
  obtain ⟨D, h1, h2, h3⟩ := h
  refine ⟨D, h1, h2.kept (row := none) ⟨hb.os, hb.tape, hb.output, hb.size, fun k hk _ => hb.block k hk⟩ (by simp), fun k => ⟨fun hs => ?_, (h3 k).2⟩⟩
  obtain ⟨v, g1, g2, g3⟩ := (h3 k).1 hs
  exact ⟨v, g1, g2.keeps (Keeps.of_below hb), g3⟩
theorem Tab.nil (w : World) : Tab (w.alloc (.map #[] 0)) w.heap.size 0 (fun _ => false) :=
  ⟨.map [], isMap_empty, World.ownsMap_made w Tryz.prog 3 fnR, fun k => ⟨(fun h => by cases h), (fun _ => rfl)⟩⟩
/-- one more check -/
theorem Tab.put {w w' : World} {b n : Nat} {S : Int → Bool} {k0 : Int} {v : Value} (h : Tab w b n S) (hc : Chk w v (kidsB k0)) (D' : DataW Value) (hD : ∃ D : DataW Value, D' = D.put (.int .i64 k0) (.held v) ∧ IsMap D ∧ w.ownsMap Tryz.prog 3 fnR b n D ∧ ∀ k : Int, (S k = true → ∃ v, D.atKey (.int .i64 k) (.held .nilFunc) = .held v ∧ Chk w v (kidsB k) ∧ has D (.int .i64 k) = true) ∧ (S k = false → has D (.int .i64 k) = false)) (hown : w'.ownsMap Tryz.prog 3 fnR b (n + 1) D') (hg : w.grownBy w' (some b)) : Tab w' b (n + 1) (fun k => k == k0 || S k) := by
  obtain ⟨D, rfl, h1, h2, h3⟩ := hD
  obtain ⟨es, c, hm, _⟩ := h2
  have hk := Keeps.of_map hm hg
  refine ⟨_, h1.put _ _, hown, fun k => ?_⟩
  by_cases e : k = k0
  · subst e
    refine ⟨fun _ => ⟨v, atKey_put_same h1 (by trivial) _ _, hc.keeps hk, ?_⟩, (fun hs => by simp at hs)⟩
    exact has_put_same h1 (by trivial) _
  · have e2 : (k == k0) = false := by simpa using e
    have e3 : (Lit.int .i64 k) ≠ (Lit.int .i64 k0) := fun h => e (by cases h; rfl)
    rw [atKey_put_other e3, has_put_other e3]
    simp only [e2, Bool.false_or]
    refine ⟨fun hs => ?_, fun hs => ?_⟩
    · obtain ⟨u, g1, g2, g3⟩ := (h3 k).1 hs
      exact ⟨u, g1, g2.keeps hk, g3⟩
    · exact (h3 k).2 hs

theorem wpList_insert_map {H : Type} {P : Program} (w : World) {ops : Array Oper} {rest : List Oper} {o : Oper} {a : Act} {Q : Exit → Act → World → Prop}
    (hg : o.guard = none) (m x v : Operand) (t : TypeId) (hop : o.op = Op.insert t m x v)
    (k e : TypeId) (K : Keyed P k) (ht : P.underlying t = some (.map k e)) (R : Value → Option (DataW H × List MemPlace)) (b n : Nat) (D : DataW H)
    (hm : a.eval m = .map (some b)) (hown : w.ownsMap P k R b n D) (hn : n < maxLen) (key val : Value) (kl : Lit) (hx : a.eval x = key) (hv : a.eval v = val) (hkey : keyOf P k key = some kl)
    (d : DataW H) (ps : List MemPlace) (hval : R val = some (d, ps))
    (hK : ∀ w', w'.ownsMap P k R b (n + 1) (D.put kl d) → w.grownBy w' (some b) → wpList P ops Q rest (a.put o.dst undef) w') :
    wpList P ops Q (o :: rest) a w := by
  refine wpList_plain hg fun K' hK' => ?_
  obtain ⟨w', hrun, r1, r2⟩ := hown.update K ht hn hkey hval
  unfold Oper.wp
  simp [execOp, hop, hm, hx, hv, hrun, Result.andThen]
  exact hK' _ _ (hK w' r1 r2)

theorem kindLaw : Keyed Tryz.prog 3 := int_keyed Tryz.underlying3
theorem cls_expr (w : World) : Cls w (.func (.func 60) #[] #[]) exprB := .inr (.inl ⟨rfl, rfl⟩)
theorem cls_stmt (w : World) : Cls w (.func (.func 59) #[] #[]) stmtB := .inr (.inr (.inl ⟨rfl, rfl⟩))
theorem cls_basic (w : World) : Cls w (.func (.func 58) #[] #[]) basicB := .inr (.inr (.inr (.inl ⟨rfl, rfl⟩)))
theorem cls_retOk (w : World) : Cls w (.func (.func 61) #[] #[]) retOkB := .inr (.inr (.inr (.inr ⟨rfl, rfl⟩)))

set_option maxRecDepth 100000 in
set_option maxHeartbeats 8000000 in
theorem shapes_any (w : World) : Calls Tryz.prog 46 #[] w fun e w' => ∃ b n S, e = .returned (.map (some b)) ∧ Tab w' b n S ∧ (∀ k : Int, S k = decide (k = 0 ∨ 2 ≤ k ∧ k ≤ 29)) ∧ w.heap.size ≤ b ∧ Below w.heap.size w w' := by
  have hmm := @run_makeMap Tryz.prog
  go_enter Tryz.func46, Tryz.ntmps46
  go_wp2_with (fail)
  have HB := Lib.hid (Below.refl w.heap.size w)
  refine (of_lit w [11] _ rfl (by simp)).mono ?_
  rintro e w1 ⟨rfl, hc, hb⟩
  have HBn := Lib.hid (HB.out.trans (hb.mono HB.out.size))
  clear HB
  have HB := HBn
  clear HBn
  have C1 := Lib.hid hc
  clear hc hb
  go_wp2_with (fail)
  refine (of_lit w1 [20] _ rfl (by simp)).mono ?_
  rintro e w2 ⟨rfl, hc, hb⟩
  have C1n := Lib.hid (C1.out.later hb)
  clear C1
  have C1 := C1n
  clear C1n
  have HBn := Lib.hid (HB.out.trans (hb.mono HB.out.size))
  clear HB
  have HB := HBn
  clear HBn
  have C2 := Lib.hid hc
  clear hc hb
  go_wp2_with (fail)
  refine (of_lit w2 [9, 10, 0] _ rfl (by simp)).mono ?_
  rintro e w3 ⟨rfl, hc, hb⟩
  have C1n := Lib.hid (C1.out.later hb)
  clear C1
  have C1 := C1n
  clear C1n
  have C2n := Lib.hid (C2.out.later hb)
  clear C2
  have C2 := C2n
  clear C2n
  have HBn := Lib.hid (HB.out.trans (hb.mono HB.out.size))
  clear HB
  have HB := HBn
  clear HBn
  have C3 := Lib.hid hc
  clear hc hb
  go_wp2_with (fail)
  have hbz : w.heap.size ≤ w3.heap.size := HB.out.size
  have HT := Lib.hid (Tab.nil w3)
  have hb := (Below.refl w3.heap.size w3).alloc (Nat.le_refl _) (.map #[] 0)
  have C1n := Lib.hid (C1.out.later hb)
  clear C1
  have C1 := C1n
  clear C1n
  have C2n := Lib.hid (C2.out.later hb)
  clear C2
  have C2 := C2n
  clear C2n
  have C3n := Lib.hid (C3.out.later hb)
  clear C3
  have C3 := C3n
  clear C3n
  have HBn := Lib.hid (HB.out.trans (hb.mono HB.out.size))
  clear HB
  have HB := HBn
  clear HBn
  clear hb
  obtain ⟨b, hbb⟩ : ∃ b, w3.heap.size = b := ⟨_, rfl⟩
  rw [hbb] at HT hbz ⊢
  clear hbb
  generalize w3.alloc (.map #[] 0) = wm at *
  refine (row_nil wm).mono ?_
  rintro e w4 ⟨rfl, hc, hb⟩
  have C1n := Lib.hid (C1.out.later hb)
  clear C1
  have C1 := C1n
  clear C1n
  have C2n := Lib.hid (C2.out.later hb)
  clear C2
  have C2 := C2n
  clear C2n
  have C3n := Lib.hid (C3.out.later hb)
  clear C3
  have C3 := C3n
  clear C3n
  have HTn := Lib.hid (HT.out.below hb)
  clear HT
  have HT := HTn
  clear HTn
  have HBn := Lib.hid (HB.out.trans (hb.mono HB.out.size))
  clear HB
  have HB := HBn
  clear HBn
  have HK : Hid (Chk w4 _ (kidsB 0)) := hc
  clear hc hb
  obtain ⟨D0, hD1, hD2, hD3⟩ := HT.out
  have HD := Lib.hid (And.intro hD1 (And.intro hD2 hD3))
  clear hD1 hD2 hD3
  obtain ⟨w5, hrun, hon, hgn⟩ := HD.out.2.1.update kindLaw Tryz.underlying77 (by unfold maxLen; omega) (keyOf_int_mk Tryz.underlying3 (a := 0) (by decide)) (val := .func (.func 82) #[] #[.pointer (some ⟨wm.heap.size, 0, none⟩), .pointer (some ⟨wm.heap.size + 1, 0, none⟩)]) (d := .held (.func (.func 82) #[] #[.pointer (some ⟨wm.heap.size, 0, none⟩), .pointer (some ⟨wm.heap.size + 1, 0, none⟩)])) (ps := []) rfl
  have HTn := Lib.hid (HT.out.put HK.out _ ⟨D0, rfl, HD.out.1, HD.out.2.1, HD.out.2.2⟩ hon hgn)
  have HM := Lib.hid (Keeps.of_map HD.out.2.1.choose_spec.choose_spec.1 hgn)
  have HBn := Lib.hid (HB.out.grown hgn HB.out.size (fun j hj => by injection hj with hj; omega))
  clear HT HB HK HD hon hgn
  go_wp2_with (fail)
  clear hrun
  have HT := HTn
  have HB := HBn
  clear HTn HBn
  have C1n := Lib.hid (C1.out.keeps HM.out)
  clear C1
  have C1 := C1n
  clear C1n
  have C2n := Lib.hid (C2.out.keeps HM.out)
  clear C2
  have C2 := C2n
  clear C2n
  have C3n := Lib.hid (C3.out.keeps HM.out)
  clear C3
  have C3 := C3n
  clear C3n
  clear HM
  refine (of_lit w5 [3, 5] _ rfl (by simp)).mono ?_
  rintro e w6 ⟨rfl, hc, hb⟩
  have C1n := Lib.hid (C1.out.later hb)
  clear C1
  have C1 := C1n
  clear C1n
  have C2n := Lib.hid (C2.out.later hb)
  clear C2
  have C2 := C2n
  clear C2n
  have C3n := Lib.hid (C3.out.later hb)
  clear C3
  have C3 := C3n
  clear C3n
  have HTn := Lib.hid (HT.out.below hb)
  clear HT
  have HT := HTn
  clear HTn
  have HBn := Lib.hid (HB.out.trans (hb.mono HB.out.size))
  clear HB
  have HB := HBn
  clear HBn
  have CT := Lib.hid hc
  clear hc hb
  go_wp2_with (fail)
  refine (many_any w6 0 _ _ _ (CT.out)).mono ?_
  rintro e w7 ⟨rfl, hc, hb⟩
  have C1n := Lib.hid (C1.out.later hb)
  clear C1
  have C1 := C1n
  clear C1n
  have C2n := Lib.hid (C2.out.later hb)
  clear C2
  have C2 := C2n
  clear C2n
  have C3n := Lib.hid (C3.out.later hb)
  clear C3
  have C3 := C3n
  clear C3n
  have CTn := Lib.hid (CT.out.later hb)
  clear CT
  have CT := CTn
  clear CTn
  have HTn := Lib.hid (HT.out.below hb)
  clear HT
  have HT := HTn
  clear HTn
  have HBn := Lib.hid (HB.out.trans (hb.mono HB.out.size))
  clear HB
  have HB := HBn
  clear HBn
  have HK : Hid (Chk w7 _ (kidsB 2)) := hc
  clear hc hb
  clear CT
  obtain ⟨D2, hD1, hD2, hD3⟩ := HT.out
  have HD := Lib.hid (And.intro hD1 (And.intro hD2 hD3))
  clear hD1 hD2 hD3
  obtain ⟨w8, hrun, hon, hgn⟩ := HD.out.2.1.update kindLaw Tryz.underlying77 (by unfold maxLen; omega) (keyOf_int_mk Tryz.underlying3 (a := 2) (by decide)) (val := .func (.func 85) #[] #[.pointer (some ⟨w6.heap.size, 0, none⟩), .pointer (some ⟨w6.heap.size + 2, 0, none⟩)]) (d := .held (.func (.func 85) #[] #[.pointer (some ⟨w6.heap.size, 0, none⟩), .pointer (some ⟨w6.heap.size + 2, 0, none⟩)])) (ps := []) rfl
  have HTn := Lib.hid (HT.out.put HK.out _ ⟨D2, rfl, HD.out.1, HD.out.2.1, HD.out.2.2⟩ hon hgn)
  have HM := Lib.hid (Keeps.of_map HD.out.2.1.choose_spec.choose_spec.1 hgn)
  have HBn := Lib.hid (HB.out.grown hgn HB.out.size (fun j hj => by injection hj with hj; omega))
  clear HT HB HK HD hon hgn
  go_wp2_with (fail)
  clear hrun
  have HT := HTn
  have HB := HBn
  clear HTn HBn
  have C1n := Lib.hid (C1.out.keeps HM.out)
  clear C1
  have C1 := C1n
  clear C1n
  have C2n := Lib.hid (C2.out.keeps HM.out)
  clear C2
  have C2 := C2n
  clear C2n
  have C3n := Lib.hid (C3.out.keeps HM.out)
  clear C3
  have C3 := C3n
  clear C3n
  clear HM
  refine (of_lit w8 [4] _ rfl (by simp)).mono ?_
  rintro e w9 ⟨rfl, hc, hb⟩
  have C1n := Lib.hid (C1.out.later hb)
  clear C1
  have C1 := C1n
  clear C1n
  have C2n := Lib.hid (C2.out.later hb)
  clear C2
  have C2 := C2n
  clear C2n
  have C3n := Lib.hid (C3.out.later hb)
  clear C3
  have C3 := C3n
  clear C3n
  have HTn := Lib.hid (HT.out.below hb)
  clear HT
  have HT := HTn
  clear HTn
  have HBn := Lib.hid (HB.out.trans (hb.mono HB.out.size))
  clear HB
  have HB := HBn
  clear HBn
  have CT := Lib.hid hc
  clear hc hb
  go_wp2_with (fail)
  refine (many_any w9 1 _ _ _ (CT.out)).mono ?_
  rintro e w10 ⟨rfl, hc, hb⟩
  have C1n := Lib.hid (C1.out.later hb)
  clear C1
  have C1 := C1n
  clear C1n
  have C2n := Lib.hid (C2.out.later hb)
  clear C2
  have C2 := C2n
  clear C2n
  have C3n := Lib.hid (C3.out.later hb)
  clear C3
  have C3 := C3n
  clear C3n
  have CTn := Lib.hid (CT.out.later hb)
  clear CT
  have CT := CTn
  clear CTn
  have HTn := Lib.hid (HT.out.below hb)
  clear HT
  have HT := HTn
  clear HTn
  have HBn := Lib.hid (HB.out.trans (hb.mono HB.out.size))
  clear HB
  have HB := HBn
  clear HBn
  have HK : Hid (Chk w10 _ (kidsB 3)) := hc
  clear hc hb
  clear CT
  obtain ⟨D3, hD1, hD2, hD3⟩ := HT.out
  have HD := Lib.hid (And.intro hD1 (And.intro hD2 hD3))
  clear hD1 hD2 hD3
  obtain ⟨w11, hrun, hon, hgn⟩ := HD.out.2.1.update kindLaw Tryz.underlying77 (by unfold maxLen; omega) (keyOf_int_mk Tryz.underlying3 (a := 3) (by decide)) (val := .func (.func 85) #[] #[.pointer (some ⟨w9.heap.size, 0, none⟩), .pointer (some ⟨w9.heap.size + 2, 0, none⟩)]) (d := .held (.func (.func 85) #[] #[.pointer (some ⟨w9.heap.size, 0, none⟩), .pointer (some ⟨w9.heap.size + 2, 0, none⟩)])) (ps := []) rfl
  have HTn := Lib.hid (HT.out.put HK.out _ ⟨D3, rfl, HD.out.1, HD.out.2.1, HD.out.2.2⟩ hon hgn)
  have HM := Lib.hid (Keeps.of_map HD.out.2.1.choose_spec.choose_spec.1 hgn)
  have HBn := Lib.hid (HB.out.grown hgn HB.out.size (fun j hj => by injection hj with hj; omega))
  clear HT HB HK HD hon hgn
  go_wp2_with (fail)
  clear hrun
  have HT := HTn
  have HB := HBn
  clear HTn HBn
  have C1n := Lib.hid (C1.out.keeps HM.out)
  clear C1
  have C1 := C1n
  clear C1n
  have C2n := Lib.hid (C2.out.keeps HM.out)
  clear C2
  have C2 := C2n
  clear C2n
  have C3n := Lib.hid (C3.out.keeps HM.out)
  clear C3
  have C3 := C3n
  clear C3n
  clear HM
  refine (row_lit w11 _ [basicB] (by exact ⟨(cls_basic _), trivial⟩) (by simp)).mono ?_
  rintro e w12 ⟨rfl, hc, hb⟩
  have C1n := Lib.hid (C1.out.later hb)
  clear C1
  have C1 := C1n
  clear C1n
  have C2n := Lib.hid (C2.out.later hb)
  clear C2
  have C2 := C2n
  clear C2n
  have C3n := Lib.hid (C3.out.later hb)
  clear C3
  have C3 := C3n
  clear C3n
  have HTn := Lib.hid (HT.out.below hb)
  clear HT
  have HT := HTn
  clear HTn
  have HBn := Lib.hid (HB.out.trans (hb.mono HB.out.size))
  clear HB
  have HB := HBn
  clear HBn
  have HK : Hid (Chk w12 _ (kidsB 4)) := hc
  clear hc hb
  obtain ⟨D4, hD1, hD2, hD3⟩ := HT.out
  have HD := Lib.hid (And.intro hD1 (And.intro hD2 hD3))
  clear hD1 hD2 hD3
  obtain ⟨w13, hrun, hon, hgn⟩ := HD.out.2.1.update kindLaw Tryz.underlying77 (by unfold maxLen; omega) (keyOf_int_mk Tryz.underlying3 (a := 4) (by decide)) (val := .func (.func 82) #[] #[.pointer (some ⟨w11.heap.size + 1, 0, none⟩), .pointer (some ⟨w11.heap.size + 2, 0, none⟩)]) (d := .held (.func (.func 82) #[] #[.pointer (some ⟨w11.heap.size + 1, 0, none⟩), .pointer (some ⟨w11.heap.size + 2, 0, none⟩)])) (ps := []) rfl
  have HTn := Lib.hid (HT.out.put HK.out _ ⟨D4, rfl, HD.out.1, HD.out.2.1, HD.out.2.2⟩ hon hgn)
  have HM := Lib.hid (Keeps.of_map HD.out.2.1.choose_spec.choose_spec.1 hgn)
  have HBn := Lib.hid (HB.out.grown hgn HB.out.size (fun j hj => by injection hj with hj; omega))
  clear HT HB HK HD hon hgn
  go_wp2_with (fail)
  clear hrun
  have HT := HTn
  have HB := HBn
  clear HTn HBn
  have C1n := Lib.hid (C1.out.keeps HM.out)
  clear C1
  have C1 := C1n
  clear C1n
  have C2n := Lib.hid (C2.out.keeps HM.out)
  clear C2
  have C2 := C2n
  clear C2n
  have C3n := Lib.hid (C3.out.keeps HM.out)
  clear C3
  have C3 := C3n
  clear C3n
  clear HM
  refine (of_lit w13 [6] _ rfl (by simp)).mono ?_
  rintro e w14 ⟨rfl, hc, hb⟩
  have C1n := Lib.hid (C1.out.later hb)
  clear C1
  have C1 := C1n
  clear C1n
  have C2n := Lib.hid (C2.out.later hb)
  clear C2
  have C2 := C2n
  clear C2n
  have C3n := Lib.hid (C3.out.later hb)
  clear C3
  have C3 := C3n
  clear C3n
  have HTn := Lib.hid (HT.out.below hb)
  clear HT
  have HT := HTn
  clear HTn
  have HBn := Lib.hid (HB.out.trans (hb.mono HB.out.size))
  clear HB
  have HB := HBn
  clear HBn
  have CT := Lib.hid hc
  clear hc hb
  go_wp2_with (fail)
  refine (row_lit w14 _ [kindB [6], kindB [9, 10, 0], kindB [11]] (by exact ⟨(CT.out), (C3.out), (C1.out), trivial⟩) (by simp)).mono ?_
  rintro e w15 ⟨rfl, hc, hb⟩
  have C1n := Lib.hid (C1.out.later hb)
  clear C1
  have C1 := C1n
  clear C1n
  have C2n := Lib.hid (C2.out.later hb)
  clear C2
  have C2 := C2n
  clear C2n
  have C3n := Lib.hid (C3.out.later hb)
  clear C3
  have C3 := C3n
  clear C3n
  have CTn := Lib.hid (CT.out.later hb)
  clear CT
  have CT := CTn
  clear CTn
  have HTn := Lib.hid (HT.out.below hb)
  clear HT
  have HT := HTn
  clear HTn
  have HBn := Lib.hid (HB.out.trans (hb.mono HB.out.size))
  clear HB
  have HB := HBn
  clear HBn
  have HK : Hid (Chk w15 _ (kidsB 5)) := hc
  clear hc hb
  clear CT
  obtain ⟨D5, hD1, hD2, hD3⟩ := HT.out
  have HD := Lib.hid (And.intro hD1 (And.intro hD2 hD3))
  clear hD1 hD2 hD3
  obtain ⟨w16, hrun, hon, hgn⟩ := HD.out.2.1.update kindLaw Tryz.underlying77 (by unfold maxLen; omega) (keyOf_int_mk Tryz.underlying3 (a := 5) (by decide)) (val := .func (.func 82) #[] #[.pointer (some ⟨w14.heap.size + 1, 0, none⟩), .pointer (some ⟨w14.heap.size + 2, 0, none⟩)]) (d := .held (.func (.func 82) #[] #[.pointer (some ⟨w14.heap.size + 1, 0, none⟩), .pointer (some ⟨w14.heap.size + 2, 0, none⟩)])) (ps := []) rfl
  have HTn := Lib.hid (HT.out.put HK.out _ ⟨D5, rfl, HD.out.1, HD.out.2.1, HD.out.2.2⟩ hon hgn)
  have HM := Lib.hid (Keeps.of_map HD.out.2.1.choose_spec.choose_spec.1 hgn)
  have HBn := Lib.hid (HB.out.grown hgn HB.out.size (fun j hj => by injection hj with hj; omega))
  clear HT HB HK HD hon hgn
  go_wp2_with (fail)
  clear hrun
  have HT := HTn
  have HB := HBn
  clear HTn HBn
  have C1n := Lib.hid (C1.out.keeps HM.out)
  clear C1
  have C1 := C1n
  clear C1n
  have C2n := Lib.hid (C2.out.keeps HM.out)
  clear C2
  have C2 := C2n
  clear C2n
  have C3n := Lib.hid (C3.out.keeps HM.out)
  clear C3
  have C3 := C3n
  clear C3n
  clear HM
  refine (of_lit w16 [7, 8] _ rfl (by simp)).mono ?_
  rintro e w17 ⟨rfl, hc, hb⟩
  have C1n := Lib.hid (C1.out.later hb)
  clear C1
  have C1 := C1n
  clear C1n
  have C2n := Lib.hid (C2.out.later hb)
  clear C2
  have C2 := C2n
  clear C2n
  have C3n := Lib.hid (C3.out.later hb)
  clear C3
  have C3 := C3n
  clear C3n
  have HTn := Lib.hid (HT.out.below hb)
  clear HT
  have HT := HTn
  clear HTn
  have HBn := Lib.hid (HB.out.trans (hb.mono HB.out.size))
  clear HB
  have HB := HBn
  clear HBn
  have CT := Lib.hid hc
  clear hc hb
  go_wp2_with (fail)
  refine (many_any w17 0 _ _ _ (CT.out)).mono ?_
  rintro e w18 ⟨rfl, hc, hb⟩
  have C1n := Lib.hid (C1.out.later hb)
  clear C1
  have C1 := C1n
  clear C1n
  have C2n := Lib.hid (C2.out.later hb)
  clear C2
  have C2 := C2n
  clear C2n
  have C3n := Lib.hid (C3.out.later hb)
  clear C3
  have C3 := C3n
  clear C3n
  have CTn := Lib.hid (CT.out.later hb)
  clear CT
  have CT := CTn
  clear CTn
  have HTn := Lib.hid (HT.out.below hb)
  clear HT
  have HT := HTn
  clear HTn
  have HBn := Lib.hid (HB.out.trans (hb.mono HB.out.size))
  clear HB
  have HB := HBn
  clear HBn
  have HK : Hid (Chk w18 _ (kidsB 6)) := hc
  clear hc hb
  clear CT
  obtain ⟨D6, hD1, hD2, hD3⟩ := HT.out
  have HD := Lib.hid (And.intro hD1 (And.intro hD2 hD3))
  clear hD1 hD2 hD3
  obtain ⟨w19, hrun, hon, hgn⟩ := HD.out.2.1.update kindLaw Tryz.underlying77 (by unfold maxLen; omega) (keyOf_int_mk Tryz.underlying3 (a := 6) (by decide)) (val := .func (.func 85) #[] #[.pointer (some ⟨w17.heap.size, 0, none⟩), .pointer (some ⟨w17.heap.size + 2, 0, none⟩)]) (d := .held (.func (.func 85) #[] #[.pointer (some ⟨w17.heap.size, 0, none⟩), .pointer (some ⟨w17.heap.size + 2, 0, none⟩)])) (ps := []) rfl
  have HTn := Lib.hid (HT.out.put HK.out _ ⟨D6, rfl, HD.out.1, HD.out.2.1, HD.out.2.2⟩ hon hgn)
  have HM := Lib.hid (Keeps.of_map HD.out.2.1.choose_spec.choose_spec.1 hgn)
  have HBn := Lib.hid (HB.out.grown hgn HB.out.size (fun j hj => by injection hj with hj; omega))
  clear HT HB HK HD hon hgn
  go_wp2_with (fail)
  clear hrun
  have HT := HTn
  have HB := HBn
  clear HTn HBn
  have C1n := Lib.hid (C1.out.keeps HM.out)
  clear C1
  have C1 := C1n
  clear C1n
  have C2n := Lib.hid (C2.out.keeps HM.out)
  clear C2
  have C2 := C2n
  clear C2n
  have C3n := Lib.hid (C3.out.keeps HM.out)
  clear C3
  have C3 := C3n
  clear C3n
  clear HM
  refine (row_lit w19 _ [kindB [9, 10, 0]] (by exact ⟨(C3.out), trivial⟩) (by simp)).mono ?_
  rintro e w20 ⟨rfl, hc, hb⟩
  have C1n := Lib.hid (C1.out.later hb)
  clear C1
  have C1 := C1n
  clear C1n
  have C2n := Lib.hid (C2.out.later hb)
  clear C2
  have C2 := C2n
  clear C2n
  have C3n := Lib.hid (C3.out.later hb)
  clear C3
  have C3 := C3n
  clear C3n
  have HTn := Lib.hid (HT.out.below hb)
  clear HT
  have HT := HTn
  clear HTn
  have HBn := Lib.hid (HB.out.trans (hb.mono HB.out.size))
  clear HB
  have HB := HBn
  clear HBn
  have HK : Hid (Chk w20 _ (kidsB 7)) := hc
  clear hc hb
  obtain ⟨D7, hD1, hD2, hD3⟩ := HT.out
  have HD := Lib.hid (And.intro hD1 (And.intro hD2 hD3))
  clear hD1 hD2 hD3
  obtain ⟨w21, hrun, hon, hgn⟩ := HD.out.2.1.update kindLaw Tryz.underlying77 (by unfold maxLen; omega) (keyOf_int_mk Tryz.underlying3 (a := 7) (by decide)) (val := .func (.func 82) #[] #[.pointer (some ⟨w19.heap.size + 1, 0, none⟩), .pointer (some ⟨w19.heap.size + 2, 0, none⟩)]) (d := .held (.func (.func 82) #[] #[.pointer (some ⟨w19.heap.size + 1, 0, none⟩), .pointer (some ⟨w19.heap.size + 2, 0, none⟩)])) (ps := []) rfl
  have HTn := Lib.hid (HT.out.put HK.out _ ⟨D7, rfl, HD.out.1, HD.out.2.1, HD.out.2.2⟩ hon hgn)
  have HM := Lib.hid (Keeps.of_map HD.out.2.1.choose_spec.choose_spec.1 hgn)
  have HBn := Lib.hid (HB.out.grown hgn HB.out.size (fun j hj => by injection hj with hj; omega))
  clear HT HB HK HD hon hgn
  go_wp2_with (fail)
  clear hrun
  have HT := HTn
  have HB := HBn
  clear HTn HBn
  have C1n := Lib.hid (C1.out.keeps HM.out)
  clear C1
  have C1 := C1n
  clear C1n
  have C2n := Lib.hid (C2.out.keeps HM.out)
  clear C2
  have C2 := C2n
  clear C2n
  have C3n := Lib.hid (C3.out.keeps HM.out)
  clear C3
  have C3 := C3n
  clear C3n
  clear HM
  refine (row_lit w21 _ [kindB [9, 10, 0]] (by exact ⟨(C3.out), trivial⟩) (by simp)).mono ?_
  rintro e w22 ⟨rfl, hc, hb⟩
  have C1n := Lib.hid (C1.out.later hb)
  clear C1
  have C1 := C1n
  clear C1n
  have C2n := Lib.hid (C2.out.later hb)
  clear C2
  have C2 := C2n
  clear C2n
  have C3n := Lib.hid (C3.out.later hb)
  clear C3
  have C3 := C3n
  clear C3n
  have HTn := Lib.hid (HT.out.below hb)
  clear HT
  have HT := HTn
  clear HTn
  have HBn := Lib.hid (HB.out.trans (hb.mono HB.out.size))
  clear HB
  have HB := HBn
  clear HBn
  have HK : Hid (Chk w22 _ (kidsB 8)) := hc
  clear hc hb
  obtain ⟨D8, hD1, hD2, hD3⟩ := HT.out
  have HD := Lib.hid (And.intro hD1 (And.intro hD2 hD3))
  clear hD1 hD2 hD3
  obtain ⟨w23, hrun, hon, hgn⟩ := HD.out.2.1.update kindLaw Tryz.underlying77 (by unfold maxLen; omega) (keyOf_int_mk Tryz.underlying3 (a := 8) (by decide)) (val := .func (.func 82) #[] #[.pointer (some ⟨w21.heap.size + 1, 0, none⟩), .pointer (some ⟨w21.heap.size + 2, 0, none⟩)]) (d := .held (.func (.func 82) #[] #[.pointer (some ⟨w21.heap.size + 1, 0, none⟩), .pointer (some ⟨w21.heap.size + 2, 0, none⟩)])) (ps := []) rfl
  have HTn := Lib.hid (HT.out.put HK.out _ ⟨D8, rfl, HD.out.1, HD.out.2.1, HD.out.2.2⟩ hon hgn)
  have HM := Lib.hid (Keeps.of_map HD.out.2.1.choose_spec.choose_spec.1 hgn)
  have HBn := Lib.hid (HB.out.grown hgn HB.out.size (fun j hj => by injection hj with hj; omega))
  clear HT HB HK HD hon hgn
  go_wp2_with (fail)
  clear hrun
  have HT := HTn
  have HB := HBn
  clear HTn HBn
  have C1n := Lib.hid (C1.out.keeps HM.out)
  clear C1
  have C1 := C1n
  clear C1n
  have C2n := Lib.hid (C2.out.keeps HM.out)
  clear C2
  have C2 := C2n
  clear C2n
  have C3n := Lib.hid (C3.out.keeps HM.out)
  clear C3
  have C3 := C3n
  clear C3n
  clear HM
  refine (row_nil w23).mono ?_
  rintro e w24 ⟨rfl, hc, hb⟩
  have C1n := Lib.hid (C1.out.later hb)
  clear C1
  have C1 := C1n
  clear C1n
  have C2n := Lib.hid (C2.out.later hb)
  clear C2
  have C2 := C2n
  clear C2n
  have C3n := Lib.hid (C3.out.later hb)
  clear C3
  have C3 := C3n
  clear C3n
  have HTn := Lib.hid (HT.out.below hb)
  clear HT
  have HT := HTn
  clear HTn
  have HBn := Lib.hid (HB.out.trans (hb.mono HB.out.size))
  clear HB
  have HB := HBn
  clear HBn
  have HK : Hid (Chk w24 _ (kidsB 9)) := hc
  clear hc hb
  obtain ⟨D9, hD1, hD2, hD3⟩ := HT.out
  have HD := Lib.hid (And.intro hD1 (And.intro hD2 hD3))
  clear hD1 hD2 hD3
  obtain ⟨w25, hrun, hon, hgn⟩ := HD.out.2.1.update kindLaw Tryz.underlying77 (by unfold maxLen; omega) (keyOf_int_mk Tryz.underlying3 (a := 9) (by decide)) (val := .func (.func 82) #[] #[.pointer (some ⟨w23.heap.size, 0, none⟩), .pointer (some ⟨w23.heap.size + 1, 0, none⟩)]) (d := .held (.func (.func 82) #[] #[.pointer (some ⟨w23.heap.size, 0, none⟩), .pointer (some ⟨w23.heap.size + 1, 0, none⟩)])) (ps := []) rfl
  have HTn := Lib.hid (HT.out.put HK.out _ ⟨D9, rfl, HD.out.1, HD.out.2.1, HD.out.2.2⟩ hon hgn)
  have HM := Lib.hid (Keeps.of_map HD.out.2.1.choose_spec.choose_spec.1 hgn)
  have HBn := Lib.hid (HB.out.grown hgn HB.out.size (fun j hj => by injection hj with hj; omega))
  clear HT HB HK HD hon hgn
  go_wp2_with (fail)
  clear hrun
  have HT := HTn
  have HB := HBn
  clear HTn HBn
  have C1n := Lib.hid (C1.out.keeps HM.out)
  clear C1
  have C1 := C1n
  clear C1n
  have C2n := Lib.hid (C2.out.keeps HM.out)
  clear C2
  have C2 := C2n
  clear C2n
  have C3n := Lib.hid (C3.out.keeps HM.out)
  clear C3
  have C3 := C3n
  clear C3n
  clear HM
  refine (row_nil w25).mono ?_
  rintro e w26 ⟨rfl, hc, hb⟩
  have C1n := Lib.hid (C1.out.later hb)
  clear C1
  have C1 := C1n
  clear C1n
  have C2n := Lib.hid (C2.out.later hb)
  clear C2
  have C2 := C2n
  clear C2n
  have C3n := Lib.hid (C3.out.later hb)
  clear C3
  have C3 := C3n
  clear C3n
  have HTn := Lib.hid (HT.out.below hb)
  clear HT
  have HT := HTn
  clear HTn
  have HBn := Lib.hid (HB.out.trans (hb.mono HB.out.size))
  clear HB
  have HB := HBn
  clear HBn
  have HK : Hid (Chk w26 _ (kidsB 10)) := hc
  clear hc hb
  obtain ⟨D10, hD1, hD2, hD3⟩ := HT.out
  have HD := Lib.hid (And.intro hD1 (And.intro hD2 hD3))
  clear hD1 hD2 hD3
  obtain ⟨w27, hrun, hon, hgn⟩ := HD.out.2.1.update kindLaw Tryz.underlying77 (by unfold maxLen; omega) (keyOf_int_mk Tryz.underlying3 (a := 10) (by decide)) (val := .func (.func 82) #[] #[.pointer (some ⟨w25.heap.size, 0, none⟩), .pointer (some ⟨w25.heap.size + 1, 0, none⟩)]) (d := .held (.func (.func 82) #[] #[.pointer (some ⟨w25.heap.size, 0, none⟩), .pointer (some ⟨w25.heap.size + 1, 0, none⟩)])) (ps := []) rfl
  have HTn := Lib.hid (HT.out.put HK.out _ ⟨D10, rfl, HD.out.1, HD.out.2.1, HD.out.2.2⟩ hon hgn)
  have HM := Lib.hid (Keeps.of_map HD.out.2.1.choose_spec.choose_spec.1 hgn)
  have HBn := Lib.hid (HB.out.grown hgn HB.out.size (fun j hj => by injection hj with hj; omega))
  clear HT HB HK HD hon hgn
  go_wp2_with (fail)
  clear hrun
  have HT := HTn
  have HB := HBn
  clear HTn HBn
  have C1n := Lib.hid (C1.out.keeps HM.out)
  clear C1
  have C1 := C1n
  clear C1n
  have C2n := Lib.hid (C2.out.keeps HM.out)
  clear C2
  have C2 := C2n
  clear C2n
  have C3n := Lib.hid (C3.out.keeps HM.out)
  clear C3
  have C3 := C3n
  clear C3n
  clear HM
  refine (many_any w27 0 _ _ _ (cls_stmt _)).mono ?_
  rintro e w28 ⟨rfl, hc, hb⟩
  have C1n := Lib.hid (C1.out.later hb)
  clear C1
  have C1 := C1n
  clear C1n
  have C2n := Lib.hid (C2.out.later hb)
  clear C2
  have C2 := C2n
  clear C2n
  have C3n := Lib.hid (C3.out.later hb)
  clear C3
  have C3 := C3n
  clear C3n
  have HTn := Lib.hid (HT.out.below hb)
  clear HT
  have HT := HTn
  clear HTn
  have HBn := Lib.hid (HB.out.trans (hb.mono HB.out.size))
  clear HB
  have HB := HBn
  clear HBn
  have HK : Hid (Chk w28 _ (kidsB 11)) := hc
  clear hc hb
  obtain ⟨D11, hD1, hD2, hD3⟩ := HT.out
  have HD := Lib.hid (And.intro hD1 (And.intro hD2 hD3))
  clear hD1 hD2 hD3
  obtain ⟨w29, hrun, hon, hgn⟩ := HD.out.2.1.update kindLaw Tryz.underlying77 (by unfold maxLen; omega) (keyOf_int_mk Tryz.underlying3 (a := 11) (by decide)) (val := .func (.func 85) #[] #[.pointer (some ⟨w27.heap.size, 0, none⟩), .pointer (some ⟨w27.heap.size + 2, 0, none⟩)]) (d := .held (.func (.func 85) #[] #[.pointer (some ⟨w27.heap.size, 0, none⟩), .pointer (some ⟨w27.heap.size + 2, 0, none⟩)])) (ps := []) rfl
  have HTn := Lib.hid (HT.out.put HK.out _ ⟨D11, rfl, HD.out.1, HD.out.2.1, HD.out.2.2⟩ hon hgn)
  have HM := Lib.hid (Keeps.of_map HD.out.2.1.choose_spec.choose_spec.1 hgn)
  have HBn := Lib.hid (HB.out.grown hgn HB.out.size (fun j hj => by injection hj with hj; omega))
  clear HT HB HK HD hon hgn
  go_wp2_with (fail)
  clear hrun
  have HT := HTn
  have HB := HBn
  clear HTn HBn
  have C1n := Lib.hid (C1.out.keeps HM.out)
  clear C1
  have C1 := C1n
  clear C1n
  have C2n := Lib.hid (C2.out.keeps HM.out)
  clear C2
  have C2 := C2n
  clear C2n
  have C3n := Lib.hid (C3.out.keeps HM.out)
  clear C3
  have C3 := C3n
  clear C3n
  clear HM
  refine (row_lit w29 _ [kindB [9, 10, 0], exprB] (by exact ⟨(C3.out), (cls_expr _), trivial⟩) (by simp)).mono ?_
  rintro e w30 ⟨rfl, hc, hb⟩
  have C1n := Lib.hid (C1.out.later hb)
  clear C1
  have C1 := C1n
  clear C1n
  have C2n := Lib.hid (C2.out.later hb)
  clear C2
  have C2 := C2n
  clear C2n
  have C3n := Lib.hid (C3.out.later hb)
  clear C3
  have C3 := C3n
  clear C3n
  have HTn := Lib.hid (HT.out.below hb)
  clear HT
  have HT := HTn
  clear HTn
  have HBn := Lib.hid (HB.out.trans (hb.mono HB.out.size))
  clear HB
  have HB := HBn
  clear HBn
  have HK : Hid (Chk w30 _ (kidsB 12)) := hc
  clear hc hb
  obtain ⟨D12, hD1, hD2, hD3⟩ := HT.out
  have HD := Lib.hid (And.intro hD1 (And.intro hD2 hD3))
  clear hD1 hD2 hD3
  obtain ⟨w31, hrun, hon, hgn⟩ := HD.out.2.1.update kindLaw Tryz.underlying77 (by unfold maxLen; omega) (keyOf_int_mk Tryz.underlying3 (a := 12) (by decide)) (val := .func (.func 82) #[] #[.pointer (some ⟨w29.heap.size + 1, 0, none⟩), .pointer (some ⟨w29.heap.size + 2, 0, none⟩)]) (d := .held (.func (.func 82) #[] #[.pointer (some ⟨w29.heap.size + 1, 0, none⟩), .pointer (some ⟨w29.heap.size + 2, 0, none⟩)])) (ps := []) rfl
  have HTn := Lib.hid (HT.out.put HK.out _ ⟨D12, rfl, HD.out.1, HD.out.2.1, HD.out.2.2⟩ hon hgn)
  have HM := Lib.hid (Keeps.of_map HD.out.2.1.choose_spec.choose_spec.1 hgn)
  have HBn := Lib.hid (HB.out.grown hgn HB.out.size (fun j hj => by injection hj with hj; omega))
  clear HT HB HK HD hon hgn
  go_wp2_with (fail)
  clear hrun
  have HT := HTn
  have HB := HBn
  clear HTn HBn
  have C1n := Lib.hid (C1.out.keeps HM.out)
  clear C1
  have C1 := C1n
  clear C1n
  have C2n := Lib.hid (C2.out.keeps HM.out)
  clear C2
  have C2 := C2n
  clear C2n
  have C3n := Lib.hid (C3.out.keeps HM.out)
  clear C3
  have C3 := C3n
  clear C3n
  clear HM
  refine (of_lit w31 [20, 21, 22] _ rfl (by simp)).mono ?_
  rintro e w32 ⟨rfl, hc, hb⟩
  have C1n := Lib.hid (C1.out.later hb)
  clear C1
  have C1 := C1n
  clear C1n
  have C2n := Lib.hid (C2.out.later hb)
  clear C2
  have C2 := C2n
  clear C2n
  have C3n := Lib.hid (C3.out.later hb)
  clear C3
  have C3 := C3n
  clear C3n
  have HTn := Lib.hid (HT.out.below hb)
  clear HT
  have HT := HTn
  clear HTn
  have HBn := Lib.hid (HB.out.trans (hb.mono HB.out.size))
  clear HB
  have HB := HBn
  clear HBn
  have CT := Lib.hid hc
  clear hc hb
  go_wp2_with (fail)
  refine (row_lit w32 _ [kindB [20, 21, 22], exprB] (by exact ⟨(CT.out), (cls_expr _), trivial⟩) (by simp)).mono ?_
  rintro e w33 ⟨rfl, hc, hb⟩
  have C1n := Lib.hid (C1.out.later hb)
  clear C1
  have C1 := C1n
  clear C1n
  have C2n := Lib.hid (C2.out.later hb)
  clear C2
  have C2 := C2n
  clear C2n
  have C3n := Lib.hid (C3.out.later hb)
  clear C3
  have C3 := C3n
  clear C3n
  have CTn := Lib.hid (CT.out.later hb)
  clear CT
  have CT := CTn
  clear CTn
  have HTn := Lib.hid (HT.out.below hb)
  clear HT
  have HT := HTn
  clear HTn
  have HBn := Lib.hid (HB.out.trans (hb.mono HB.out.size))
  clear HB
  have HB := HBn
  clear HBn
  have HK : Hid (Chk w33 _ (kidsB 13)) := hc
  clear hc hb
  clear CT
  obtain ⟨D13, hD1, hD2, hD3⟩ := HT.out
  have HD := Lib.hid (And.intro hD1 (And.intro hD2 hD3))
  clear hD1 hD2 hD3
  obtain ⟨w34, hrun, hon, hgn⟩ := HD.out.2.1.update kindLaw Tryz.underlying77 (by unfold maxLen; omega) (keyOf_int_mk Tryz.underlying3 (a := 13) (by decide)) (val := .func (.func 82) #[] #[.pointer (some ⟨w32.heap.size + 1, 0, none⟩), .pointer (some ⟨w32.heap.size + 2, 0, none⟩)]) (d := .held (.func (.func 82) #[] #[.pointer (some ⟨w32.heap.size + 1, 0, none⟩), .pointer (some ⟨w32.heap.size + 2, 0, none⟩)])) (ps := []) rfl
  have HTn := Lib.hid (HT.out.put HK.out _ ⟨D13, rfl, HD.out.1, HD.out.2.1, HD.out.2.2⟩ hon hgn)
  have HM := Lib.hid (Keeps.of_map HD.out.2.1.choose_spec.choose_spec.1 hgn)
  have HBn := Lib.hid (HB.out.grown hgn HB.out.size (fun j hj => by injection hj with hj; omega))
  clear HT HB HK HD hon hgn
  go_wp2_with (fail)
  clear hrun
  have HT := HTn
  have HB := HBn
  clear HTn HBn
  have C1n := Lib.hid (C1.out.keeps HM.out)
  clear C1
  have C1 := C1n
  clear C1n
  have C2n := Lib.hid (C2.out.keeps HM.out)
  clear C2
  have C2 := C2n
  clear C2n
  have C3n := Lib.hid (C3.out.keeps HM.out)
  clear C3
  have C3 := C3n
  clear C3n
  clear HM
  refine (of_lit w34 [11, 14, 0] _ rfl (by simp)).mono ?_
  rintro e w35 ⟨rfl, hc, hb⟩
  have C1n := Lib.hid (C1.out.later hb)
  clear C1
  have C1 := C1n
  clear C1n
  have C2n := Lib.hid (C2.out.later hb)
  clear C2
  have C2 := C2n
  clear C2n
  have C3n := Lib.hid (C3.out.later hb)
  clear C3
  have C3 := C3n
  clear C3n
  have HTn := Lib.hid (HT.out.below hb)
  clear HT
  have HT := HTn
  clear HTn
  have HBn := Lib.hid (HB.out.trans (hb.mono HB.out.size))
  clear HB
  have HB := HBn
  clear HBn
  have CT := Lib.hid hc
  clear hc hb
  go_wp2_with (fail)
  refine (row_lit w35 _ [exprB, kindB [11], kindB [11, 14, 0]] (by exact ⟨(cls_expr _), (C1.out), (CT.out), trivial⟩) (by simp)).mono ?_
  rintro e w36 ⟨rfl, hc, hb⟩
  have C1n := Lib.hid (C1.out.later hb)
  clear C1
  have C1 := C1n
  clear C1n
  have C2n := Lib.hid (C2.out.later hb)
  clear C2
  have C2 := C2n
  clear C2n
  have C3n := Lib.hid (C3.out.later hb)
  clear C3
  have C3 := C3n
  clear C3n
  have CTn := Lib.hid (CT.out.later hb)
  clear CT
  have CT := CTn
  clear CTn
  have HTn := Lib.hid (HT.out.below hb)
  clear HT
  have HT := HTn
  clear HTn
  have HBn := Lib.hid (HB.out.trans (hb.mono HB.out.size))
  clear HB
  have HB := HBn
  clear HBn
  have HK : Hid (Chk w36 _ (kidsB 14)) := hc
  clear hc hb
  clear CT
  obtain ⟨D14, hD1, hD2, hD3⟩ := HT.out
  have HD := Lib.hid (And.intro hD1 (And.intro hD2 hD3))
  clear hD1 hD2 hD3
  obtain ⟨w37, hrun, hon, hgn⟩ := HD.out.2.1.update kindLaw Tryz.underlying77 (by unfold maxLen; omega) (keyOf_int_mk Tryz.underlying3 (a := 14) (by decide)) (val := .func (.func 82) #[] #[.pointer (some ⟨w35.heap.size + 1, 0, none⟩), .pointer (some ⟨w35.heap.size + 2, 0, none⟩)]) (d := .held (.func (.func 82) #[] #[.pointer (some ⟨w35.heap.size + 1, 0, none⟩), .pointer (some ⟨w35.heap.size + 2, 0, none⟩)])) (ps := []) rfl
  have HTn := Lib.hid (HT.out.put HK.out _ ⟨D14, rfl, HD.out.1, HD.out.2.1, HD.out.2.2⟩ hon hgn)
  have HM := Lib.hid (Keeps.of_map HD.out.2.1.choose_spec.choose_spec.1 hgn)
  have HBn := Lib.hid (HB.out.grown hgn HB.out.size (fun j hj => by injection hj with hj; omega))
  clear HT HB HK HD hon hgn
  go_wp2_with (fail)
  clear hrun
  have HT := HTn
  have HB := HBn
  clear HTn HBn
  have C1n := Lib.hid (C1.out.keeps HM.out)
  clear C1
  have C1 := C1n
  clear C1n
  have C2n := Lib.hid (C2.out.keeps HM.out)
  clear C2
  have C2 := C2n
  clear C2n
  have C3n := Lib.hid (C3.out.keeps HM.out)
  clear C3
  have C3 := C3n
  clear C3n
  clear HM
  refine (row_lit w37 _ [exprB, kindB [11]] (by exact ⟨(cls_expr _), (C1.out), trivial⟩) (by simp)).mono ?_
  rintro e w38 ⟨rfl, hc, hb⟩
  have C1n := Lib.hid (C1.out.later hb)
  clear C1
  have C1 := C1n
  clear C1n
  have C2n := Lib.hid (C2.out.later hb)
  clear C2
  have C2 := C2n
  clear C2n
  have C3n := Lib.hid (C3.out.later hb)
  clear C3
  have C3 := C3n
  clear C3n
  have HTn := Lib.hid (HT.out.below hb)
  clear HT
  have HT := HTn
  clear HTn
  have HBn := Lib.hid (HB.out.trans (hb.mono HB.out.size))
  clear HB
  have HB := HBn
  clear HBn
  have HK : Hid (Chk w38 _ (kidsB 15)) := hc
  clear hc hb
  obtain ⟨D15, hD1, hD2, hD3⟩ := HT.out
  have HD := Lib.hid (And.intro hD1 (And.intro hD2 hD3))
  clear hD1 hD2 hD3
  obtain ⟨w39, hrun, hon, hgn⟩ := HD.out.2.1.update kindLaw Tryz.underlying77 (by unfold maxLen; omega) (keyOf_int_mk Tryz.underlying3 (a := 15) (by decide)) (val := .func (.func 82) #[] #[.pointer (some ⟨w37.heap.size + 1, 0, none⟩), .pointer (some ⟨w37.heap.size + 2, 0, none⟩)]) (d := .held (.func (.func 82) #[] #[.pointer (some ⟨w37.heap.size + 1, 0, none⟩), .pointer (some ⟨w37.heap.size + 2, 0, none⟩)])) (ps := []) rfl
  have HTn := Lib.hid (HT.out.put HK.out _ ⟨D15, rfl, HD.out.1, HD.out.2.1, HD.out.2.2⟩ hon hgn)
  have HM := Lib.hid (Keeps.of_map HD.out.2.1.choose_spec.choose_spec.1 hgn)
  have HBn := Lib.hid (HB.out.grown hgn HB.out.size (fun j hj => by injection hj with hj; omega))
  clear HT HB HK HD hon hgn
  go_wp2_with (fail)
  clear hrun
  have HT := HTn
  have HB := HBn
  clear HTn HBn
  have C1n := Lib.hid (C1.out.keeps HM.out)
  clear C1
  have C1 := C1n
  clear C1n
  have C2n := Lib.hid (C2.out.keeps HM.out)
  clear C2
  have C2 := C2n
  clear C2n
  have C3n := Lib.hid (C3.out.keeps HM.out)
  clear C3
  have C3 := C3n
  clear C3n
  clear HM
  refine (row_lit w39 _ [exprB, exprB, kindB [11]] (by exact ⟨(cls_expr _), (cls_expr _), (C1.out), trivial⟩) (by simp)).mono ?_
  rintro e w40 ⟨rfl, hc, hb⟩
  have C1n := Lib.hid (C1.out.later hb)
  clear C1
  have C1 := C1n
  clear C1n
  have C2n := Lib.hid (C2.out.later hb)
  clear C2
  have C2 := C2n
  clear C2n
  have C3n := Lib.hid (C3.out.later hb)
  clear C3
  have C3 := C3n
  clear C3n
  have HTn := Lib.hid (HT.out.below hb)
  clear HT
  have HT := HTn
  clear HTn
  have HBn := Lib.hid (HB.out.trans (hb.mono HB.out.size))
  clear HB
  have HB := HBn
  clear HBn
  have HK : Hid (Chk w40 _ (kidsB 16)) := hc
  clear hc hb
  obtain ⟨D16, hD1, hD2, hD3⟩ := HT.out
  have HD := Lib.hid (And.intro hD1 (And.intro hD2 hD3))
  clear hD1 hD2 hD3
  obtain ⟨w41, hrun, hon, hgn⟩ := HD.out.2.1.update kindLaw Tryz.underlying77 (by unfold maxLen; omega) (keyOf_int_mk Tryz.underlying3 (a := 16) (by decide)) (val := .func (.func 82) #[] #[.pointer (some ⟨w39.heap.size + 1, 0, none⟩), .pointer (some ⟨w39.heap.size + 2, 0, none⟩)]) (d := .held (.func (.func 82) #[] #[.pointer (some ⟨w39.heap.size + 1, 0, none⟩), .pointer (some ⟨w39.heap.size + 2, 0, none⟩)])) (ps := []) rfl
  have HTn := Lib.hid (HT.out.put HK.out _ ⟨D16, rfl, HD.out.1, HD.out.2.1, HD.out.2.2⟩ hon hgn)
  have HM := Lib.hid (Keeps.of_map HD.out.2.1.choose_spec.choose_spec.1 hgn)
  have HBn := Lib.hid (HB.out.grown hgn HB.out.size (fun j hj => by injection hj with hj; omega))
  clear HT HB HK HD hon hgn
  go_wp2_with (fail)
  clear hrun
  have HT := HTn
  have HB := HBn
  clear HTn HBn
  have C1n := Lib.hid (C1.out.keeps HM.out)
  clear C1
  have C1 := C1n
  clear C1n
  have C2n := Lib.hid (C2.out.keeps HM.out)
  clear C2
  have C2 := C2n
  clear C2n
  have C3n := Lib.hid (C3.out.keeps HM.out)
  clear C3
  have C3 := C3n
  clear C3n
  clear HM
  refine (row_lit w41 _ [retOkB] (by exact ⟨(cls_retOk _), trivial⟩) (by simp)).mono ?_
  rintro e w42 ⟨rfl, hc, hb⟩
  have C1n := Lib.hid (C1.out.later hb)
  clear C1
  have C1 := C1n
  clear C1n
  have C2n := Lib.hid (C2.out.later hb)
  clear C2
  have C2 := C2n
  clear C2n
  have C3n := Lib.hid (C3.out.later hb)
  clear C3
  have C3 := C3n
  clear C3n
  have HTn := Lib.hid (HT.out.below hb)
  clear HT
  have HT := HTn
  clear HTn
  have HBn := Lib.hid (HB.out.trans (hb.mono HB.out.size))
  clear HB
  have HB := HBn
  clear HBn
  have HK : Hid (Chk w42 _ (kidsB 17)) := hc
  clear hc hb
  obtain ⟨D17, hD1, hD2, hD3⟩ := HT.out
  have HD := Lib.hid (And.intro hD1 (And.intro hD2 hD3))
  clear hD1 hD2 hD3
  obtain ⟨w43, hrun, hon, hgn⟩ := HD.out.2.1.update kindLaw Tryz.underlying77 (by unfold maxLen; omega) (keyOf_int_mk Tryz.underlying3 (a := 17) (by decide)) (val := .func (.func 82) #[] #[.pointer (some ⟨w41.heap.size + 1, 0, none⟩), .pointer (some ⟨w41.heap.size + 2, 0, none⟩)]) (d := .held (.func (.func 82) #[] #[.pointer (some ⟨w41.heap.size + 1, 0, none⟩), .pointer (some ⟨w41.heap.size + 2, 0, none⟩)])) (ps := []) rfl
  have HTn := Lib.hid (HT.out.put HK.out _ ⟨D17, rfl, HD.out.1, HD.out.2.1, HD.out.2.2⟩ hon hgn)
  have HM := Lib.hid (Keeps.of_map HD.out.2.1.choose_spec.choose_spec.1 hgn)
  have HBn := Lib.hid (HB.out.grown hgn HB.out.size (fun j hj => by injection hj with hj; omega))
  clear HT HB HK HD hon hgn
  go_wp2_with (fail)
  clear hrun
  have HT := HTn
  have HB := HBn
  clear HTn HBn
  have C1n := Lib.hid (C1.out.keeps HM.out)
  clear C1
  have C1 := C1n
  clear C1n
  have C2n := Lib.hid (C2.out.keeps HM.out)
  clear C2
  have C2 := C2n
  clear C2n
  have C3n := Lib.hid (C3.out.keeps HM.out)
  clear C3
  have C3 := C3n
  clear C3n
  clear HM
  refine (row_lit w43 _ [exprB] (by exact ⟨(cls_expr _), trivial⟩) (by simp)).mono ?_
  rintro e w44 ⟨rfl, hc, hb⟩
  have C1n := Lib.hid (C1.out.later hb)
  clear C1
  have C1 := C1n
  clear C1n
  have C2n := Lib.hid (C2.out.later hb)
  clear C2
  have C2 := C2n
  clear C2n
  have C3n := Lib.hid (C3.out.later hb)
  clear C3
  have C3 := C3n
  clear C3n
  have HTn := Lib.hid (HT.out.below hb)
  clear HT
  have HT := HTn
  clear HTn
  have HBn := Lib.hid (HB.out.trans (hb.mono HB.out.size))
  clear HB
  have HB := HBn
  clear HBn
  have HK : Hid (Chk w44 _ (kidsB 18)) := hc
  clear hc hb
  obtain ⟨D18, hD1, hD2, hD3⟩ := HT.out
  have HD := Lib.hid (And.intro hD1 (And.intro hD2 hD3))
  clear hD1 hD2 hD3
  obtain ⟨w45, hrun, hon, hgn⟩ := HD.out.2.1.update kindLaw Tryz.underlying77 (by unfold maxLen; omega) (keyOf_int_mk Tryz.underlying3 (a := 18) (by decide)) (val := .func (.func 82) #[] #[.pointer (some ⟨w43.heap.size + 1, 0, none⟩), .pointer (some ⟨w43.heap.size + 2, 0, none⟩)]) (d := .held (.func (.func 82) #[] #[.pointer (some ⟨w43.heap.size + 1, 0, none⟩), .pointer (some ⟨w43.heap.size + 2, 0, none⟩)])) (ps := []) rfl
  have HTn := Lib.hid (HT.out.put HK.out _ ⟨D18, rfl, HD.out.1, HD.out.2.1, HD.out.2.2⟩ hon hgn)
  have HM := Lib.hid (Keeps.of_map HD.out.2.1.choose_spec.choose_spec.1 hgn)
  have HBn := Lib.hid (HB.out.grown hgn HB.out.size (fun j hj => by injection hj with hj; omega))
  clear HT HB HK HD hon hgn
  go_wp2_with (fail)
  clear hrun
  have HT := HTn
  have HB := HBn
  clear HTn HBn
  have C1n := Lib.hid (C1.out.keeps HM.out)
  clear C1
  have C1 := C1n
  clear C1n
  have C2n := Lib.hid (C2.out.keeps HM.out)
  clear C2
  have C2 := C2n
  clear C2n
  have C3n := Lib.hid (C3.out.keeps HM.out)
  clear C3
  have C3 := C3n
  clear C3n
  clear HM
  refine (many_any w45 0 _ _ _ (cls_expr _)).mono ?_
  rintro e w46 ⟨rfl, hc, hb⟩
  have C1n := Lib.hid (C1.out.later hb)
  clear C1
  have C1 := C1n
  clear C1n
  have C2n := Lib.hid (C2.out.later hb)
  clear C2
  have C2 := C2n
  clear C2n
  have C3n := Lib.hid (C3.out.later hb)
  clear C3
  have C3 := C3n
  clear C3n
  have HTn := Lib.hid (HT.out.below hb)
  clear HT
  have HT := HTn
  clear HTn
  have HBn := Lib.hid (HB.out.trans (hb.mono HB.out.size))
  clear HB
  have HB := HBn
  clear HBn
  have HK : Hid (Chk w46 _ (kidsB 19)) := hc
  clear hc hb
  obtain ⟨D19, hD1, hD2, hD3⟩ := HT.out
  have HD := Lib.hid (And.intro hD1 (And.intro hD2 hD3))
  clear hD1 hD2 hD3
  obtain ⟨w47, hrun, hon, hgn⟩ := HD.out.2.1.update kindLaw Tryz.underlying77 (by unfold maxLen; omega) (keyOf_int_mk Tryz.underlying3 (a := 19) (by decide)) (val := .func (.func 85) #[] #[.pointer (some ⟨w45.heap.size, 0, none⟩), .pointer (some ⟨w45.heap.size + 2, 0, none⟩)]) (d := .held (.func (.func 85) #[] #[.pointer (some ⟨w45.heap.size, 0, none⟩), .pointer (some ⟨w45.heap.size + 2, 0, none⟩)])) (ps := []) rfl
  have HTn := Lib.hid (HT.out.put HK.out _ ⟨D19, rfl, HD.out.1, HD.out.2.1, HD.out.2.2⟩ hon hgn)
  have HM := Lib.hid (Keeps.of_map HD.out.2.1.choose_spec.choose_spec.1 hgn)
  have HBn := Lib.hid (HB.out.grown hgn HB.out.size (fun j hj => by injection hj with hj; omega))
  clear HT HB HK HD hon hgn
  go_wp2_with (fail)
  clear hrun
  have HT := HTn
  have HB := HBn
  clear HTn HBn
  have C1n := Lib.hid (C1.out.keeps HM.out)
  clear C1
  have C1 := C1n
  clear C1n
  have C2n := Lib.hid (C2.out.keeps HM.out)
  clear C2
  have C2 := C2n
  clear C2n
  have C3n := Lib.hid (C3.out.keeps HM.out)
  clear C3
  have C3 := C3n
  clear C3n
  clear HM
  refine (row_nil w47).mono ?_
  rintro e w48 ⟨rfl, hc, hb⟩
  have C1n := Lib.hid (C1.out.later hb)
  clear C1
  have C1 := C1n
  clear C1n
  have C2n := Lib.hid (C2.out.later hb)
  clear C2
  have C2 := C2n
  clear C2n
  have C3n := Lib.hid (C3.out.later hb)
  clear C3
  have C3 := C3n
  clear C3n
  have HTn := Lib.hid (HT.out.below hb)
  clear HT
  have HT := HTn
  clear HTn
  have HBn := Lib.hid (HB.out.trans (hb.mono HB.out.size))
  clear HB
  have HB := HBn
  clear HBn
  have HK : Hid (Chk w48 _ (kidsB 20)) := hc
  clear hc hb
  obtain ⟨D20, hD1, hD2, hD3⟩ := HT.out
  have HD := Lib.hid (And.intro hD1 (And.intro hD2 hD3))
  clear hD1 hD2 hD3
  obtain ⟨w49, hrun, hon, hgn⟩ := HD.out.2.1.update kindLaw Tryz.underlying77 (by unfold maxLen; omega) (keyOf_int_mk Tryz.underlying3 (a := 20) (by decide)) (val := .func (.func 82) #[] #[.pointer (some ⟨w47.heap.size, 0, none⟩), .pointer (some ⟨w47.heap.size + 1, 0, none⟩)]) (d := .held (.func (.func 82) #[] #[.pointer (some ⟨w47.heap.size, 0, none⟩), .pointer (some ⟨w47.heap.size + 1, 0, none⟩)])) (ps := []) rfl
  have HTn := Lib.hid (HT.out.put HK.out _ ⟨D20, rfl, HD.out.1, HD.out.2.1, HD.out.2.2⟩ hon hgn)
  have HM := Lib.hid (Keeps.of_map HD.out.2.1.choose_spec.choose_spec.1 hgn)
  have HBn := Lib.hid (HB.out.grown hgn HB.out.size (fun j hj => by injection hj with hj; omega))
  clear HT HB HK HD hon hgn
  go_wp2_with (fail)
  clear hrun
  have HT := HTn
  have HB := HBn
  clear HTn HBn
  have C1n := Lib.hid (C1.out.keeps HM.out)
  clear C1
  have C1 := C1n
  clear C1n
  have C2n := Lib.hid (C2.out.keeps HM.out)
  clear C2
  have C2 := C2n
  clear C2n
  have C3n := Lib.hid (C3.out.keeps HM.out)
  clear C3
  have C3 := C3n
  clear C3n
  clear HM
  refine (row_lit w49 _ [kindB [20], exprB] (by exact ⟨(C2.out), (cls_expr _), trivial⟩) (by simp)).mono ?_
  rintro e w50 ⟨rfl, hc, hb⟩
  have C1n := Lib.hid (C1.out.later hb)
  clear C1
  have C1 := C1n
  clear C1n
  have C2n := Lib.hid (C2.out.later hb)
  clear C2
  have C2 := C2n
  clear C2n
  have C3n := Lib.hid (C3.out.later hb)
  clear C3
  have C3 := C3n
  clear C3n
  have HTn := Lib.hid (HT.out.below hb)
  clear HT
  have HT := HTn
  clear HTn
  have HBn := Lib.hid (HB.out.trans (hb.mono HB.out.size))
  clear HB
  have HB := HBn
  clear HBn
  have HK : Hid (Chk w50 _ (kidsB 21)) := hc
  clear hc hb
  obtain ⟨D21, hD1, hD2, hD3⟩ := HT.out
  have HD := Lib.hid (And.intro hD1 (And.intro hD2 hD3))
  clear hD1 hD2 hD3
  obtain ⟨w51, hrun, hon, hgn⟩ := HD.out.2.1.update kindLaw Tryz.underlying77 (by unfold maxLen; omega) (keyOf_int_mk Tryz.underlying3 (a := 21) (by decide)) (val := .func (.func 82) #[] #[.pointer (some ⟨w49.heap.size + 1, 0, none⟩), .pointer (some ⟨w49.heap.size + 2, 0, none⟩)]) (d := .held (.func (.func 82) #[] #[.pointer (some ⟨w49.heap.size + 1, 0, none⟩), .pointer (some ⟨w49.heap.size + 2, 0, none⟩)])) (ps := []) rfl
  have HTn := Lib.hid (HT.out.put HK.out _ ⟨D21, rfl, HD.out.1, HD.out.2.1, HD.out.2.2⟩ hon hgn)
  have HM := Lib.hid (Keeps.of_map HD.out.2.1.choose_spec.choose_spec.1 hgn)
  have HBn := Lib.hid (HB.out.grown hgn HB.out.size (fun j hj => by injection hj with hj; omega))
  clear HT HB HK HD hon hgn
  go_wp2_with (fail)
  clear hrun
  have HT := HTn
  have HB := HBn
  clear HTn HBn
  have C1n := Lib.hid (C1.out.keeps HM.out)
  clear C1
  have C1 := C1n
  clear C1n
  have C2n := Lib.hid (C2.out.keeps HM.out)
  clear C2
  have C2 := C2n
  clear C2n
  have C3n := Lib.hid (C3.out.keeps HM.out)
  clear C3
  have C3 := C3n
  clear C3n
  clear HM
  refine (row_lit w51 _ [kindB [20]] (by exact ⟨(C2.out), trivial⟩) (by simp)).mono ?_
  rintro e w52 ⟨rfl, hc, hb⟩
  have C1n := Lib.hid (C1.out.later hb)
  clear C1
  have C1 := C1n
  clear C1n
  have C2n := Lib.hid (C2.out.later hb)
  clear C2
  have C2 := C2n
  clear C2n
  have C3n := Lib.hid (C3.out.later hb)
  clear C3
  have C3 := C3n
  clear C3n
  have HTn := Lib.hid (HT.out.below hb)
  clear HT
  have HT := HTn
  clear HTn
  have HBn := Lib.hid (HB.out.trans (hb.mono HB.out.size))
  clear HB
  have HB := HBn
  clear HBn
  have HK : Hid (Chk w52 _ (kidsB 22)) := hc
  clear hc hb
  obtain ⟨D22, hD1, hD2, hD3⟩ := HT.out
  have HD := Lib.hid (And.intro hD1 (And.intro hD2 hD3))
  clear hD1 hD2 hD3
  obtain ⟨w53, hrun, hon, hgn⟩ := HD.out.2.1.update kindLaw Tryz.underlying77 (by unfold maxLen; omega) (keyOf_int_mk Tryz.underlying3 (a := 22) (by decide)) (val := .func (.func 82) #[] #[.pointer (some ⟨w51.heap.size + 1, 0, none⟩), .pointer (some ⟨w51.heap.size + 2, 0, none⟩)]) (d := .held (.func (.func 82) #[] #[.pointer (some ⟨w51.heap.size + 1, 0, none⟩), .pointer (some ⟨w51.heap.size + 2, 0, none⟩)])) (ps := []) rfl
  have HTn := Lib.hid (HT.out.put HK.out _ ⟨D22, rfl, HD.out.1, HD.out.2.1, HD.out.2.2⟩ hon hgn)
  have HM := Lib.hid (Keeps.of_map HD.out.2.1.choose_spec.choose_spec.1 hgn)
  have HBn := Lib.hid (HB.out.grown hgn HB.out.size (fun j hj => by injection hj with hj; omega))
  clear HT HB HK HD hon hgn
  go_wp2_with (fail)
  clear hrun
  have HT := HTn
  have HB := HBn
  clear HTn HBn
  have C1n := Lib.hid (C1.out.keeps HM.out)
  clear C1
  have C1 := C1n
  clear C1n
  have C2n := Lib.hid (C2.out.keeps HM.out)
  clear C2
  have C2 := C2n
  clear C2n
  have C3n := Lib.hid (C3.out.keeps HM.out)
  clear C3
  have C3 := C3n
  clear C3n
  clear HM
  refine (row_lit w53 _ [kindB [20]] (by exact ⟨(C2.out), trivial⟩) (by simp)).mono ?_
  rintro e w54 ⟨rfl, hc, hb⟩
  have C1n := Lib.hid (C1.out.later hb)
  clear C1
  have C1 := C1n
  clear C1n
  have C2n := Lib.hid (C2.out.later hb)
  clear C2
  have C2 := C2n
  clear C2n
  have C3n := Lib.hid (C3.out.later hb)
  clear C3
  have C3 := C3n
  clear C3n
  have HTn := Lib.hid (HT.out.below hb)
  clear HT
  have HT := HTn
  clear HTn
  have HBn := Lib.hid (HB.out.trans (hb.mono HB.out.size))
  clear HB
  have HB := HBn
  clear HBn
  have HK : Hid (Chk w54 _ (kidsB 23)) := hc
  clear hc hb
  obtain ⟨D23, hD1, hD2, hD3⟩ := HT.out
  have HD := Lib.hid (And.intro hD1 (And.intro hD2 hD3))
  clear hD1 hD2 hD3
  obtain ⟨w55, hrun, hon, hgn⟩ := HD.out.2.1.update kindLaw Tryz.underlying77 (by unfold maxLen; omega) (keyOf_int_mk Tryz.underlying3 (a := 23) (by decide)) (val := .func (.func 82) #[] #[.pointer (some ⟨w53.heap.size + 1, 0, none⟩), .pointer (some ⟨w53.heap.size + 2, 0, none⟩)]) (d := .held (.func (.func 82) #[] #[.pointer (some ⟨w53.heap.size + 1, 0, none⟩), .pointer (some ⟨w53.heap.size + 2, 0, none⟩)])) (ps := []) rfl
  have HTn := Lib.hid (HT.out.put HK.out _ ⟨D23, rfl, HD.out.1, HD.out.2.1, HD.out.2.2⟩ hon hgn)
  have HM := Lib.hid (Keeps.of_map HD.out.2.1.choose_spec.choose_spec.1 hgn)
  have HBn := Lib.hid (HB.out.grown hgn HB.out.size (fun j hj => by injection hj with hj; omega))
  clear HT HB HK HD hon hgn
  go_wp2_with (fail)
  clear hrun
  have HT := HTn
  have HB := HBn
  clear HTn HBn
  have C1n := Lib.hid (C1.out.keeps HM.out)
  clear C1
  have C1 := C1n
  clear C1n
  have C2n := Lib.hid (C2.out.keeps HM.out)
  clear C2
  have C2 := C2n
  clear C2n
  have C3n := Lib.hid (C3.out.keeps HM.out)
  clear C3
  have C3 := C3n
  clear C3n
  clear HM
  refine (row_nil w55).mono ?_
  rintro e w56 ⟨rfl, hc, hb⟩
  have C1n := Lib.hid (C1.out.later hb)
  clear C1
  have C1 := C1n
  clear C1n
  have C2n := Lib.hid (C2.out.later hb)
  clear C2
  have C2 := C2n
  clear C2n
  have C3n := Lib.hid (C3.out.later hb)
  clear C3
  have C3 := C3n
  clear C3n
  have HTn := Lib.hid (HT.out.below hb)
  clear HT
  have HT := HTn
  clear HTn
  have HBn := Lib.hid (HB.out.trans (hb.mono HB.out.size))
  clear HB
  have HB := HBn
  clear HBn
  have HK : Hid (Chk w56 _ (kidsB 24)) := hc
  clear hc hb
  obtain ⟨D24, hD1, hD2, hD3⟩ := HT.out
  have HD := Lib.hid (And.intro hD1 (And.intro hD2 hD3))
  clear hD1 hD2 hD3
  obtain ⟨w57, hrun, hon, hgn⟩ := HD.out.2.1.update kindLaw Tryz.underlying77 (by unfold maxLen; omega) (keyOf_int_mk Tryz.underlying3 (a := 24) (by decide)) (val := .func (.func 82) #[] #[.pointer (some ⟨w55.heap.size, 0, none⟩), .pointer (some ⟨w55.heap.size + 1, 0, none⟩)]) (d := .held (.func (.func 82) #[] #[.pointer (some ⟨w55.heap.size, 0, none⟩), .pointer (some ⟨w55.heap.size + 1, 0, none⟩)])) (ps := []) rfl
  have HTn := Lib.hid (HT.out.put HK.out _ ⟨D24, rfl, HD.out.1, HD.out.2.1, HD.out.2.2⟩ hon hgn)
  have HM := Lib.hid (Keeps.of_map HD.out.2.1.choose_spec.choose_spec.1 hgn)
  have HBn := Lib.hid (HB.out.grown hgn HB.out.size (fun j hj => by injection hj with hj; omega))
  clear HT HB HK HD hon hgn
  go_wp2_with (fail)
  clear hrun
  have HT := HTn
  have HB := HBn
  clear HTn HBn
  have C1n := Lib.hid (C1.out.keeps HM.out)
  clear C1
  have C1 := C1n
  clear C1n
  have C2n := Lib.hid (C2.out.keeps HM.out)
  clear C2
  have C2 := C2n
  clear C2n
  have C3n := Lib.hid (C3.out.keeps HM.out)
  clear C3
  have C3 := C3n
  clear C3n
  clear HM
  refine (row_nil w57).mono ?_
  rintro e w58 ⟨rfl, hc, hb⟩
  have C1n := Lib.hid (C1.out.later hb)
  clear C1
  have C1 := C1n
  clear C1n
  have C2n := Lib.hid (C2.out.later hb)
  clear C2
  have C2 := C2n
  clear C2n
  have C3n := Lib.hid (C3.out.later hb)
  clear C3
  have C3 := C3n
  clear C3n
  have HTn := Lib.hid (HT.out.below hb)
  clear HT
  have HT := HTn
  clear HTn
  have HBn := Lib.hid (HB.out.trans (hb.mono HB.out.size))
  clear HB
  have HB := HBn
  clear HBn
  have HK : Hid (Chk w58 _ (kidsB 25)) := hc
  clear hc hb
  obtain ⟨D25, hD1, hD2, hD3⟩ := HT.out
  have HD := Lib.hid (And.intro hD1 (And.intro hD2 hD3))
  clear hD1 hD2 hD3
  obtain ⟨w59, hrun, hon, hgn⟩ := HD.out.2.1.update kindLaw Tryz.underlying77 (by unfold maxLen; omega) (keyOf_int_mk Tryz.underlying3 (a := 25) (by decide)) (val := .func (.func 82) #[] #[.pointer (some ⟨w57.heap.size, 0, none⟩), .pointer (some ⟨w57.heap.size + 1, 0, none⟩)]) (d := .held (.func (.func 82) #[] #[.pointer (some ⟨w57.heap.size, 0, none⟩), .pointer (some ⟨w57.heap.size + 1, 0, none⟩)])) (ps := []) rfl
  have HTn := Lib.hid (HT.out.put HK.out _ ⟨D25, rfl, HD.out.1, HD.out.2.1, HD.out.2.2⟩ hon hgn)
  have HM := Lib.hid (Keeps.of_map HD.out.2.1.choose_spec.choose_spec.1 hgn)
  have HBn := Lib.hid (HB.out.grown hgn HB.out.size (fun j hj => by injection hj with hj; omega))
  clear HT HB HK HD hon hgn
  go_wp2_with (fail)
  clear hrun
  have HT := HTn
  have HB := HBn
  clear HTn HBn
  have C1n := Lib.hid (C1.out.keeps HM.out)
  clear C1
  have C1 := C1n
  clear C1n
  have C2n := Lib.hid (C2.out.keeps HM.out)
  clear C2
  have C2 := C2n
  clear C2n
  have C3n := Lib.hid (C3.out.keeps HM.out)
  clear C3
  have C3 := C3n
  clear C3n
  clear HM
  refine (many_any w59 1 _ _ _ (cls_expr _)).mono ?_
  rintro e w60 ⟨rfl, hc, hb⟩
  have C1n := Lib.hid (C1.out.later hb)
  clear C1
  have C1 := C1n
  clear C1n
  have C2n := Lib.hid (C2.out.later hb)
  clear C2
  have C2 := C2n
  clear C2n
  have C3n := Lib.hid (C3.out.later hb)
  clear C3
  have C3 := C3n
  clear C3n
  have HTn := Lib.hid (HT.out.below hb)
  clear HT
  have HT := HTn
  clear HTn
  have HBn := Lib.hid (HB.out.trans (hb.mono HB.out.size))
  clear HB
  have HB := HBn
  clear HBn
  have HK : Hid (Chk w60 _ (kidsB 26)) := hc
  clear hc hb
  obtain ⟨D26, hD1, hD2, hD3⟩ := HT.out
  have HD := Lib.hid (And.intro hD1 (And.intro hD2 hD3))
  clear hD1 hD2 hD3
  obtain ⟨w61, hrun, hon, hgn⟩ := HD.out.2.1.update kindLaw Tryz.underlying77 (by unfold maxLen; omega) (keyOf_int_mk Tryz.underlying3 (a := 26) (by decide)) (val := .func (.func 85) #[] #[.pointer (some ⟨w59.heap.size, 0, none⟩), .pointer (some ⟨w59.heap.size + 2, 0, none⟩)]) (d := .held (.func (.func 85) #[] #[.pointer (some ⟨w59.heap.size, 0, none⟩), .pointer (some ⟨w59.heap.size + 2, 0, none⟩)])) (ps := []) rfl
  have HTn := Lib.hid (HT.out.put HK.out _ ⟨D26, rfl, HD.out.1, HD.out.2.1, HD.out.2.2⟩ hon hgn)
  have HM := Lib.hid (Keeps.of_map HD.out.2.1.choose_spec.choose_spec.1 hgn)
  have HBn := Lib.hid (HB.out.grown hgn HB.out.size (fun j hj => by injection hj with hj; omega))
  clear HT HB HK HD hon hgn
  go_wp2_with (fail)
  clear hrun
  have HT := HTn
  have HB := HBn
  clear HTn HBn
  have C1n := Lib.hid (C1.out.keeps HM.out)
  clear C1
  have C1 := C1n
  clear C1n
  have C2n := Lib.hid (C2.out.keeps HM.out)
  clear C2
  have C2 := C2n
  clear C2n
  have C3n := Lib.hid (C3.out.keeps HM.out)
  clear C3
  have C3 := C3n
  clear C3n
  clear HM
  refine (many_any w61 0 _ _ _ (cls_expr _)).mono ?_
  rintro e w62 ⟨rfl, hc, hb⟩
  have C1n := Lib.hid (C1.out.later hb)
  clear C1
  have C1 := C1n
  clear C1n
  have C2n := Lib.hid (C2.out.later hb)
  clear C2
  have C2 := C2n
  clear C2n
  have C3n := Lib.hid (C3.out.later hb)
  clear C3
  have C3 := C3n
  clear C3n
  have HTn := Lib.hid (HT.out.below hb)
  clear HT
  have HT := HTn
  clear HTn
  have HBn := Lib.hid (HB.out.trans (hb.mono HB.out.size))
  clear HB
  have HB := HBn
  clear HBn
  have HK : Hid (Chk w62 _ (kidsB 27)) := hc
  clear hc hb
  obtain ⟨D27, hD1, hD2, hD3⟩ := HT.out
  have HD := Lib.hid (And.intro hD1 (And.intro hD2 hD3))
  clear hD1 hD2 hD3
  obtain ⟨w63, hrun, hon, hgn⟩ := HD.out.2.1.update kindLaw Tryz.underlying77 (by unfold maxLen; omega) (keyOf_int_mk Tryz.underlying3 (a := 27) (by decide)) (val := .func (.func 85) #[] #[.pointer (some ⟨w61.heap.size, 0, none⟩), .pointer (some ⟨w61.heap.size + 2, 0, none⟩)]) (d := .held (.func (.func 85) #[] #[.pointer (some ⟨w61.heap.size, 0, none⟩), .pointer (some ⟨w61.heap.size + 2, 0, none⟩)])) (ps := []) rfl
  have HTn := Lib.hid (HT.out.put HK.out _ ⟨D27, rfl, HD.out.1, HD.out.2.1, HD.out.2.2⟩ hon hgn)
  have HM := Lib.hid (Keeps.of_map HD.out.2.1.choose_spec.choose_spec.1 hgn)
  have HBn := Lib.hid (HB.out.grown hgn HB.out.size (fun j hj => by injection hj with hj; omega))
  clear HT HB HK HD hon hgn
  go_wp2_with (fail)
  clear hrun
  have HT := HTn
  have HB := HBn
  clear HTn HBn
  have C1n := Lib.hid (C1.out.keeps HM.out)
  clear C1
  have C1 := C1n
  clear C1n
  have C2n := Lib.hid (C2.out.keeps HM.out)
  clear C2
  have C2 := C2n
  clear C2n
  have C3n := Lib.hid (C3.out.keeps HM.out)
  clear C3
  have C3 := C3n
  clear C3n
  clear HM
  refine (row_lit w63 _ [exprB] (by exact ⟨(cls_expr _), trivial⟩) (by simp)).mono ?_
  rintro e w64 ⟨rfl, hc, hb⟩
  have C1n := Lib.hid (C1.out.later hb)
  clear C1
  have C1 := C1n
  clear C1n
  have C2n := Lib.hid (C2.out.later hb)
  clear C2
  have C2 := C2n
  clear C2n
  have C3n := Lib.hid (C3.out.later hb)
  clear C3
  have C3 := C3n
  clear C3n
  have HTn := Lib.hid (HT.out.below hb)
  clear HT
  have HT := HTn
  clear HTn
  have HBn := Lib.hid (HB.out.trans (hb.mono HB.out.size))
  clear HB
  have HB := HBn
  clear HBn
  have HK : Hid (Chk w64 _ (kidsB 28)) := hc
  clear hc hb
  obtain ⟨D28, hD1, hD2, hD3⟩ := HT.out
  have HD := Lib.hid (And.intro hD1 (And.intro hD2 hD3))
  clear hD1 hD2 hD3
  obtain ⟨w65, hrun, hon, hgn⟩ := HD.out.2.1.update kindLaw Tryz.underlying77 (by unfold maxLen; omega) (keyOf_int_mk Tryz.underlying3 (a := 28) (by decide)) (val := .func (.func 82) #[] #[.pointer (some ⟨w63.heap.size + 1, 0, none⟩), .pointer (some ⟨w63.heap.size + 2, 0, none⟩)]) (d := .held (.func (.func 82) #[] #[.pointer (some ⟨w63.heap.size + 1, 0, none⟩), .pointer (some ⟨w63.heap.size + 2, 0, none⟩)])) (ps := []) rfl
  have HTn := Lib.hid (HT.out.put HK.out _ ⟨D28, rfl, HD.out.1, HD.out.2.1, HD.out.2.2⟩ hon hgn)
  have HM := Lib.hid (Keeps.of_map HD.out.2.1.choose_spec.choose_spec.1 hgn)
  have HBn := Lib.hid (HB.out.grown hgn HB.out.size (fun j hj => by injection hj with hj; omega))
  clear HT HB HK HD hon hgn
  go_wp2_with (fail)
  clear hrun
  have HT := HTn
  have HB := HBn
  clear HTn HBn
  have C1n := Lib.hid (C1.out.keeps HM.out)
  clear C1
  have C1 := C1n
  clear C1n
  have C2n := Lib.hid (C2.out.keeps HM.out)
  clear C2
  have C2 := C2n
  clear C2n
  have C3n := Lib.hid (C3.out.keeps HM.out)
  clear C3
  have C3 := C3n
  clear C3n
  clear HM
  refine (row_lit w65 _ [exprB, exprB] (by exact ⟨(cls_expr _), (cls_expr _), trivial⟩) (by simp)).mono ?_
  rintro e w66 ⟨rfl, hc, hb⟩
  have C1n := Lib.hid (C1.out.later hb)
  clear C1
  have C1 := C1n
  clear C1n
  have C2n := Lib.hid (C2.out.later hb)
  clear C2
  have C2 := C2n
  clear C2n
  have C3n := Lib.hid (C3.out.later hb)
  clear C3
  have C3 := C3n
  clear C3n
  have HTn := Lib.hid (HT.out.below hb)
  clear HT
  have HT := HTn
  clear HTn
  have HBn := Lib.hid (HB.out.trans (hb.mono HB.out.size))
  clear HB
  have HB := HBn
  clear HBn
  have HK : Hid (Chk w66 _ (kidsB 29)) := hc
  clear hc hb
  obtain ⟨D29, hD1, hD2, hD3⟩ := HT.out
  have HD := Lib.hid (And.intro hD1 (And.intro hD2 hD3))
  clear hD1 hD2 hD3
  obtain ⟨w67, hrun, hon, hgn⟩ := HD.out.2.1.update kindLaw Tryz.underlying77 (by unfold maxLen; omega) (keyOf_int_mk Tryz.underlying3 (a := 29) (by decide)) (val := .func (.func 82) #[] #[.pointer (some ⟨w65.heap.size + 1, 0, none⟩), .pointer (some ⟨w65.heap.size + 2, 0, none⟩)]) (d := .held (.func (.func 82) #[] #[.pointer (some ⟨w65.heap.size + 1, 0, none⟩), .pointer (some ⟨w65.heap.size + 2, 0, none⟩)])) (ps := []) rfl
  have HTn := Lib.hid (HT.out.put HK.out _ ⟨D29, rfl, HD.out.1, HD.out.2.1, HD.out.2.2⟩ hon hgn)
  have HM := Lib.hid (Keeps.of_map HD.out.2.1.choose_spec.choose_spec.1 hgn)
  have HBn := Lib.hid (HB.out.grown hgn HB.out.size (fun j hj => by injection hj with hj; omega))
  clear HT HB HK HD hon hgn
  go_wp2_with (fail)
  clear hrun
  have HT := HTn
  have HB := HBn
  clear HTn HBn
  have C1n := Lib.hid (C1.out.keeps HM.out)
  clear C1
  have C1 := C1n
  clear C1n
  have C2n := Lib.hid (C2.out.keeps HM.out)
  clear C2
  have C2 := C2n
  clear C2n
  have C3n := Lib.hid (C3.out.keeps HM.out)
  clear C3
  have C3 := C3n
  clear C3n
  clear HM
  go_ret
  exact ⟨b, _, _, rfl, HT.out, fun k => by rw [Bool.eq_iff_iff]; simp; omega, hbz, HB.out⟩
end Go.Proofs.YtlpoeflbnpbmgaaGreatDoor
