/- What is proved: the builder of package gates: New, Len, Err, Input; what and leaves. -/
import Derived.Test.YtbcabnbgkicfdaaGaApp
import Derived.Carry
set_option linter.unusedVariables false
namespace Go.Proofs.Ytbcabnbgkicfdaa
open Go.RowKit Go.Maps

theorem new_out (I : Int) (h : ¬ (0 ≤ I ∧ I ≤ 1024)) (w : World) : Calls Try.prog 9 #[.int .i64 I] w fun e w' => e = .returned (.tuple #[.pointer none, .int .i64 1]) ∧ w' = w := by
  have HP := Lib.hid (areInputs_any I w)
  rw [decide_eq_false h] at HP
  clear h
  go_enter Try.func9, Try.ntmps9
  go_wp2_with (fail)
  refine HP.out.mono ?_
  rintro e w1 ⟨rfl, rfl⟩
  go_wp2_with (fail)
  go_ret2
  exact ⟨rfl, rfl⟩
theorem new_any (I : Int) (h : 0 ≤ I ∧ I ≤ 1024) (w : World) : Calls Try.prog 9 #[.int .i64 I] w fun e w' => ∃ bb mb, e = .returned (.tuple #[.pointer (some ⟨bb, 0, none⟩), .int .i64 0]) ∧ Bld w' w.heap.size bb mb (.slice none 0 0) I [] 0 ∧ Below w.heap.size w w' := by
  have HP := Lib.hid (areInputs_any I w)
  rw [decide_eq_true h] at HP
  have HI := Lib.hid h
  have hmm := @run_makeMap Try.prog
  clear h
  go_enter Try.func9, Try.ntmps9
  go_wp2_with (fail)
  refine HP.out.mono ?_
  rintro e w1 ⟨rfl, rfl⟩
  go_wp2_with (fail)
  go_ret2
  have h1 := heap_alloc_new (w1.alloc (.map #[] 0)) (.cells #[.int .i64 I, .slice none 0 0, .map (some w1.heap.size), .int .i64 0] 80)
  rw [show (w1.alloc (.map #[] 0)).heap.size = w1.heap.size + 1 by simp] at h1
  refine ⟨w1.heap.size + 1, w1.heap.size, rfl, ⟨h1, World.ownsRow_nil _ _ _ _, ?_, by omega, CkOk.nil HI.out.1 HI.out.2, by simp⟩, ((Below.refl w1.heap.size w1).alloc (Nat.le_refl _) _).alloc (by simp) _⟩
  exact (World.ownsMap_made w1 Try.prog 76 (plainElem (H := Unit) Try.prog 3)).alloc _
section
variable {w : World} {n₀ bb mb : Nat} {rv : Value} {I : Int} {gs : List Gt} {e0 : Int}
theorem Bld.cells (h : Bld w n₀ bb mb rv I gs e0) : w.cell? ⟨bb, 0, none⟩ = some (.int .i64 I) ∧ w.cell? ⟨bb, 1, none⟩ = some rv ∧ w.cell? ⟨bb, 2, none⟩ = some (.map (some mb)) ∧ w.cell? ⟨bb, 3, none⟩ = some (.int .i64 e0) := ⟨Lib.cell_of_heap h.box 0, Lib.cell_of_heap h.box 1, Lib.cell_of_heap h.box 2, Lib.cell_of_heap h.box 3⟩
theorem blen_any (h : Bld w n₀ bb mb rv I gs e0) : Calls Try.prog 14 #[.pointer (some ⟨bb, 0, none⟩)] w fun e w' => e = .returned (.int .i64 (nds I gs.length)) ∧ Below w.heap.size w w' := by
  obtain ⟨c0, c1, c2, c3⟩ := h.cells
  obtain ⟨A, c, rfl, _⟩ := h.form
  have HC := Lib.hid (count_any I (by have := h.ck.lo; have := h.ck.hi; omega) A gs.length c (by have := h.few; omega) w)
  clear h
  go_enter Try.func14, Try.ntmps14
  go_wp2_with (fail)
  refine HC.out.mono ?_
  rintro e w1 ⟨rfl, hb1⟩
  go_wp2_with (fail)
  go_ret
  exact ⟨rfl, hb1⟩
theorem berr_any (h : Bld w n₀ bb mb rv I gs e0) : Calls Try.prog 13 #[.pointer (some ⟨bb, 0, none⟩)] w fun e w' => e = .returned (.int .i64 e0) ∧ w' = w := by
  obtain ⟨c0, c1, c2, c3⟩ := h.cells
  clear h
  go_enter Try.func13, Try.ntmps13
  go_wp2_with (fail)
  go_ret
  exact ⟨rfl, rfl⟩
end
/-- all blocks stay but the builder's own -/
structure FrT (tb mb : Nat) (rv : Value) (w w' : World) : Prop where
  os : w'.os = w.os
  tape : w'.tape = w.tape
  output : w'.output = w.output
  size : w.heap.size ≤ w'.heap.size
  block : ∀ k, k < w.heap.size → ¬ Own tb mb rv k → w'.heap[k]? = w.heap[k]?
theorem FrT.of {tb mb : Nat} {rv : Value} {w w' : World} (h : Below w.heap.size w w') : FrT tb mb rv w w' := ⟨h.os, h.tape, h.output, h.size, fun k hk _ => h.block k hk⟩
theorem FrT.below {tb mb n : Nat} {rv : Value} {w w' : World} (h : FrT tb mb rv w w') (hn : n ≤ w.heap.size) (ho : ∀ k, Own tb mb rv k → n ≤ k) : Below n w w' := ⟨h.os, h.tape, h.output, h.size, fun k hk => h.block k (by omega) fun hk2 => by have := ho k hk2; omega⟩
theorem FrT.trans {tb mb : Nat} {rv : Value} {a b c : World} (h : FrT tb mb rv a b) (k : FrT tb mb rv b c) : FrT tb mb rv a c :=
  ⟨k.os.trans h.os, k.tape.trans h.tape, k.output.trans h.output, Nat.le_trans h.size k.size, fun i hi hno => (k.block i (Nat.lt_of_lt_of_le hi h.size) hno).trans (h.block i hi hno)⟩
/-- what a step of a builder leaves -/
structure BdRes (n₀ bb mb : Nat) (rv : Value) (I : Int) (gs' : List Gt) (e' : Int) (w w' : World) (rv' : Value) : Prop where
  tab : Bld w' n₀ bb mb rv' I gs' e'
  fr : FrT bb mb rv w w'
  new : ∀ g, rv'.ownBlock = some g → rv.ownBlock = some g ∨ w.heap.size ≤ g
theorem BdRes.same {n₀ bb mb : Nat} {rv : Value} {I : Int} {gs : List Gt} {e : Int} {w w' : World} (h : Bld w n₀ bb mb rv I gs e) (hb : Below w.heap.size w w') : BdRes n₀ bb mb rv I gs e w w' rv := ⟨h.later hb, .of hb, fun g e => .inl e⟩
theorem BdRes.trans {n₀ bb mb : Nat} {rv rv1 rv2 : Value} {I : Int} {gs1 gs2 : List Gt} {e1 e2 : Int} {w w1 w2 : World} (h : BdRes n₀ bb mb rv I gs1 e1 w w1 rv1) (k : BdRes n₀ bb mb rv1 I gs2 e2 w1 w2 rv2) (hbb : bb < w.heap.size) (hmb : mb < w.heap.size) : BdRes n₀ bb mb rv I gs2 e2 w w2 rv2 := by
  refine ⟨k.tab, ⟨k.fr.os.trans h.fr.os, k.fr.tape.trans h.fr.tape, k.fr.output.trans h.fr.output, Nat.le_trans h.fr.size k.fr.size, fun i hi hno => ?_⟩, fun g hg => ?_⟩
  · refine (k.fr.block i (Nat.lt_of_lt_of_le hi h.fr.size) fun ho => hno ?_).trans (h.fr.block i hi hno)
    rcases ho with ho | ho | ho
    · exact .inl ho
    · exact .inr (.inl ho)
    · rcases h.new i ho with h1 | h1
      · exact .inr (.inr h1)
      · omega
  · rcases k.new g hg with h1 | h1
    · exact h.new g h1
    · exact .inr (Nat.le_trans h.fr.size h1)
/-- new blocks ahead of a step -/
theorem BdRes.ahead {n₀ bb mb : Nat} {rv rv1 : Value} {I : Int} {gs1 : List Gt} {e1 : Int} {w w1 w2 : World} (hb : Below w.heap.size w w1) (k : BdRes n₀ bb mb rv I gs1 e1 w1 w2 rv1) : BdRes n₀ bb mb rv I gs1 e1 w w2 rv1 :=
  ⟨k.tab, ⟨k.fr.os.trans hb.os, k.fr.tape.trans hb.tape, k.fr.output.trans hb.output, Nat.le_trans hb.size k.fr.size, fun i hi hno => (k.fr.block i (Nat.lt_of_lt_of_le hi hb.size) hno).trans (hb.block i hi)⟩, fun g hg => (k.new g hg).imp id (Nat.le_trans hb.size)⟩
theorem BdRes.below {n₀ bb mb : Nat} {rv rv' : Value} {I : Int} {gs gs' : List Gt} {e e' : Int} {w0 w w' : World} (h : BdRes n₀ bb mb rv I gs' e' w w' rv') (ht : Bld w n₀ bb mb rv I gs e) (hn : w0.heap.size ≤ n₀) (hb : Below w0.heap.size w0 w) : Below w0.heap.size w0 w' :=
  hb.trans (h.fr.below hb.size fun k hk => Nat.le_trans hn (ht.lt hk).1)
/-- a block that is none of the builder's stays -/
theorem BdRes.far {n₀ bb mb : Nat} {rv rv' : Value} {I : Int} {gs gs' : List Gt} {e e' : Int} {w w' : World} (h : BdRes n₀ bb mb rv I gs' e' w w' rv') (k : Nat) (hk : k < w.heap.size) (hno : ¬ Own bb mb rv k) : w'.heap[k]? = w.heap[k]? ∧ ¬ Own bb mb rv' k := by
  refine ⟨h.fr.block k hk hno, fun ho => hno ?_⟩
  rcases ho with ho | ho | ho
  · exact .inl ho
  · exact .inr (.inl ho)
  · rcases h.new k ho with h1 | h1
    · exact .inr (.inr h1)
    · omega
/-- the gate is appended, the map is told -/
theorem bld_grown {n₀ bb mb : Nat} {rv : Value} {I : Int} {gs : List Gt} {x : Gt} {w2 wa w3 : World} {X : Option Addr} {cap : Nat} (hlo : n₀ ≤ bb ∧ n₀ ≤ mb) (hck : CkOk I (gs ++ [x])) (hfew : gs.length + 1 ≤ 5000)
    (hb : w2.heap[bb]? = some (.cells #[.int .i64 I, rv, .map (some mb), .int .i64 0] 80 (0, 0))) (ho : GOwn w2 n₀ rv gs) (hm : w2.ownsMap Try.prog 76 (plainElem (H := Unit) Try.prog 3) mb (gs.length + 1) (numD I (gs ++ [x])))
    (ha : Below w2.heap.size w2 wa) (hg : wa.grownBy w3 rv.ownBlock) (hown : GOwn w3 n₀ (.slice X (gs.length + 1) cap) (gs ++ [x])) (hgl : ∀ g, (Value.slice X (gs.length + 1) cap).ownBlock = some g → rv.ownBlock = some g ∨ wa.heap.size ≤ g) :
    BdRes n₀ bb mb rv I (gs ++ [x]) 0 w2 (w3.setCell ⟨bb, 1, none⟩ (.slice X (gs.length + 1) cap)) (.slice X (gs.length + 1) cap) ∧ w3.cell? ⟨bb, 1, none⟩ = some rv ∧ w3.frozen? ⟨bb, 1, none⟩ = false := by
  have hbl := hlt hb
  have hml := hm.lt
  have ntb : some bb ≠ rv.ownBlock := fun e => by
    obtain ⟨_, _, cs, hc⟩ := own_block' ho e.symm
    rw [hb] at hc
    simp only [Option.some.injEq, Obj.cells.injEq] at hc
    exact absurd hc.2.1 (by decide)
  have nmb : some mb ≠ rv.ownBlock := fun e => by
    obtain ⟨_, _, cs, hc⟩ := own_block' ho e.symm
    obtain ⟨es, clock, hm0, _⟩ := hm
    rw [hm0] at hc
    cases hc
  have nbm : bb ≠ mb := fun e => by
    obtain ⟨es, clock, hm0, _⟩ := hm
    rw [← e, hb] at hm0
    cases hm0
  have h3 : w3.heap[bb]? = some (.cells #[.int .i64 I, rv, .map (some mb), .int .i64 0] 80 (0, 0)) := ((hg.block bb (Nat.lt_of_lt_of_le hbl ha.size) ntb).trans (ha.block bb hbl)).trans hb
  have m3 : w3.heap[mb]? = w2.heap[mb]? := (hg.block mb (Nat.lt_of_lt_of_le hml ha.size) nmb).trans (ha.block mb hml)
  have gtb : ∀ g, (Value.slice X (gs.length + 1) cap).ownBlock = some g → g ≠ bb := fun g hge e => by
    obtain ⟨_, _, cs, hc⟩ := own_block' hown hge
    rw [e, h3] at hc
    simp only [Option.some.injEq, Obj.cells.injEq] at hc
    exact absurd hc.2.1 (by decide)
  refine ⟨⟨⟨by rw [hset h3]; rfl, own_stays hown fun b e => Below.heap_setCell w3 ⟨bb, 1, none⟩ _ b (gtb b e), ?_, hlo, hck, by simpa using hfew⟩, ⟨hg.os.trans ha.os, hg.tape.trans ha.tape, hg.output.trans ha.output, ?_, ?_⟩, ?_⟩, Lib.cell_of_heap h3 1, hfrz h3 1⟩
  · rw [List.length_append, List.length_singleton]
    obtain ⟨es, clock, hm0, F, hs, hD⟩ := hm
    refine ⟨es, clock, ?_, F, by simpa using hs, hD⟩
    rw [Below.heap_setCell w3 ⟨bb, 1, none⟩ _ mb (fun e => nbm e.symm), m3]
    exact hm0
  · have := ha.size
    have := hg.size
    simp [World.setCell]
    omega
  · intro k hk hno
    rw [Below.heap_setCell w3 ⟨bb, 1, none⟩ _ k (fun e => hno (.inl e))]
    exact (hg.block k (Nat.lt_of_lt_of_le hk ha.size) (fun e => hno (.inr (.inr e.symm)))).trans (ha.block k hk)
  · intro g hg2
    exact (hgl g hg2).imp id (Nat.le_trans ha.size)
/-- an error is noted -/
theorem bld_err {n₀ bb mb : Nat} {rv : Value} {I : Int} {gs : List Gt} {w : World} (h : Bld w n₀ bb mb rv I gs 0) (e : Int) : BdRes n₀ bb mb rv I gs e w (w.setCell ⟨bb, 3, none⟩ (.int .i64 e)) rv ∧ w.frozen? ⟨bb, 3, none⟩ = false := by
  have hb := h.box
  have nmb : bb ≠ mb := fun q => by
    obtain ⟨es, clock, hm0, _⟩ := h.map
    rw [← q, hb] at hm0
    cases hm0
  have nrb : ∀ b, rv.ownBlock = some b → b ≠ bb := fun b q hbb => by
    obtain ⟨_, _, cs, hc⟩ := own_block' h.row q
    rw [hbb, hb] at hc
    simp only [Option.some.injEq, Obj.cells.injEq] at hc
    exact absurd hc.2.1 (by decide)
  refine ⟨⟨⟨by rw [hset hb]; rfl, own_stays h.row fun b q => Below.heap_setCell w ⟨bb, 3, none⟩ _ b (nrb b q), ?_, h.lo, h.ck, h.few⟩, ⟨rfl, rfl, rfl, by simp [World.setCell], fun k hk hno => Below.heap_setCell w ⟨bb, 3, none⟩ _ k (fun q => hno (.inl q))⟩, fun g q => .inl q⟩, hfrz hb 3⟩
  obtain ⟨es, clock, hm0, F, hs, hD⟩ := h.map
  exact ⟨es, clock, (Below.heap_setCell w ⟨bb, 3, none⟩ _ mb (fun q => nmb q.symm)).trans hm0, F, hs, hD⟩
section
variable {w : World} {n₀ bb mb : Nat} {rv : Value} {I : Int} {gs : List Gt}
/-- what Input answers -/
def inN (I i : Int) : Int := if i < 0 ∨ I ≤ i then 0 else 2 * (i + 1)
def inE (I i : Int) : Int := if i < 0 ∨ I ≤ i then 1 else 0
set_option maxHeartbeats 1000000 in
theorem binput_err (i e0 : Int) (he : e0 ≠ 0) (h : Bld w n₀ bb mb rv I gs e0) : Calls Try.prog 45 #[.pointer (some ⟨bb, 0, none⟩), .int .i64 i] w fun e w' => e = .returned (.int .i64 0) ∧ w' = w := by
  obtain ⟨c0, c1, c2, c3⟩ := h.cells
  have q : (e0 == 0) = false := by simpa using he
  clear h he
  go_enter Try.func45, Try.ntmps45
  go_wp2_with (fail)
  go_ret
  exact ⟨rfl, rfl⟩
set_option maxHeartbeats 1000000 in
theorem binput_any (i : Int) (h : Bld w n₀ bb mb rv I gs 0) : Calls Try.prog 45 #[.pointer (some ⟨bb, 0, none⟩), .int .i64 i] w fun e w' => e = .returned (.int .i64 (inN I i)) ∧ BdRes n₀ bb mb rv I gs (inE I i) w w' rv := by
  obtain ⟨c0, c1, c2, c3⟩ := h.cells
  obtain ⟨he, hf⟩ := bld_err h 1
  have HE := Lib.hid he
  have HS := Lib.hid (BdRes.same h (Below.refl _ _))
  have h1 := h.ck.lo
  have h2 := h.ck.hi
  unfold inN inE
  clear h he
  by_cases h0 : i < 0
  · rw [if_pos (.inl h0), if_pos (.inl h0)]
    have d : decide (i < 0) = true := by simpa using h0
    clear h0
    go_enter Try.func45, Try.ntmps45
    go_wp2_with (fail)
    go_ret
    exact ⟨rfl, HE.out⟩
  · have d : decide (i < 0) = false := by simpa using h0
    by_cases h3 : I ≤ i
    · rw [if_pos (.inr h3), if_pos (.inr h3)]
      have d2 : decide (I ≤ i) = true := by simpa using h3
      clear h0 h3
      go_enter Try.func45, Try.ntmps45
      go_wp2_with (fail)
      go_ret
      exact ⟨rfl, HE.out⟩
    · rw [if_neg (by omega), if_neg (by omega)]
      have d2 : decide (I ≤ i) = false := by simpa using h3
      go_enter Try.func45, Try.ntmps45
      go_wp2_with (fail)
      go_ret
      exact ⟨rfl, HS.out⟩
end
end Go.Proofs.Ytbcabnbgkicfdaa
