/- What is proved: Make of bitvec's tables. -/
import Derived.Test.YtjgkcicgjnjepaaDoorBvPoss
set_option linter.unusedVariables false
namespace Go.Proofs.YtjgkcicgjnjepaaDoor
open Go.RowKit Go.Maps

/-- all blocks stay but the table's own -/
structure FrT (tb mb : Nat) (rv : Value) (w w' : World) : Prop where
  os : w'.os = w.os
  tape : w'.tape = w.tape
  output : w'.output = w.output
  size : w.heap.size ≤ w'.heap.size
  block : ∀ k, k < w.heap.size → ¬ Own tb mb rv k → w'.heap[k]? = w.heap[k]?
theorem FrT.of {tb mb : Nat} {rv : Value} {w w' : World} (h : Below w.heap.size w w') : FrT tb mb rv w w' := ⟨h.os, h.tape, h.output, h.size, fun k hk _ => h.block k hk⟩
theorem FrT.below {tb mb n : Nat} {rv : Value} {w w' : World} (h : FrT tb mb rv w w') (hn : n ≤ w.heap.size) (ho : ∀ k, Own tb mb rv k → n ≤ k) : Below n w w' := ⟨h.os, h.tape, h.output, h.size, fun k hk => h.block k (by omega) fun hk2 => by have := ho k hk2; omega⟩
theorem FrT.trans {tb mb : Nat} {rv : Value} {a b c : World} (h : FrT tb mb rv a b) (k : FrT tb mb rv b c) : FrT tb mb rv a c :=
  ⟨k.os.trans h.os, k.tape.trans h.tape, k.output.trans h.output, Nat.le_trans h.size k.size, fun i hi hno => (k.block i (Nat.lt_of_lt_of_le hi h.size) hno).trans (h.block i hi hno)⟩
/-- what Make leaves -/
structure MkRes (n₀ tb mb : Nat) (rv : Value) (W : Int) (l : List Tm) (x : Tm) (w w' : World) (rv' : Value) : Prop where
  tab : Tab w' n₀ tb mb rv' W (mkL W l x)
  fr : FrT tb mb rv w w'
  new : ∀ g, rv'.ownBlock = some g → rv.ownBlock = some g ∨ w.heap.size ≤ g
/-- the node is appended, the map is told -/
theorem tab_grown {n₀ tb mb g cap : Nat} {rv : Value} {W : Int} {l : List Tm} {x : Tm} {w2 wa w3 : World} (hlo : n₀ ≤ tb ∧ n₀ ≤ mb) (htb : TbOk W (l ++ [x])) (hfew : l.length + 1 ≤ 1000) (htm : ∀ y ∈ l ++ [x], TmOk y)
    (hb : w2.heap[tb]? = some (.cells #[.int .i64 W, rv, .map (some mb)] 57 (0, 0))) (ho : TOwn w2 n₀ rv l) (hm : w2.ownsMap Tryd.prog 46 (plainElem (H := Unit) Tryd.prog 3) mb (l.length + 1) (numD (l ++ [x])))
    (ha : Below w2.heap.size w2 wa) (hg : wa.grownBy w3 rv.ownBlock) (hown : w3.ownsRow n₀ 46 5 (.slice (some ⟨g, 0, none⟩) (l.length + 1) cap) (l.length + 1) (tcl l ++ tcl [x])) (hgl : rv.ownBlock = some g ∨ wa.heap.size ≤ g) :
    (Tab (w3.setCell ⟨tb, 1, none⟩ (.slice (some ⟨g, 0, none⟩) (l.length + 1) cap)) n₀ tb mb (.slice (some ⟨g, 0, none⟩) (l.length + 1) cap) W (l ++ [x]) ∧ FrT tb mb rv w2 (w3.setCell ⟨tb, 1, none⟩ (.slice (some ⟨g, 0, none⟩) (l.length + 1) cap))) ∧ w3.cell? ⟨tb, 1, none⟩ = some rv ∧ w3.frozen? ⟨tb, 1, none⟩ = false ∧ (w3.setCell ⟨tb, 1, none⟩ (.slice (some ⟨g, 0, none⟩) (l.length + 1) cap)).cell? ⟨tb, 1, none⟩ = some (.slice (some ⟨g, 0, none⟩) (l.length + 1) cap) := by
  have hbl := hlt hb
  have hml := hm.lt
  have ntb : some tb ≠ rv.ownBlock := fun e => by
    obtain ⟨_, _, cs, hc⟩ := own_block' ho e.symm
    rw [hb] at hc
    simp only [Option.some.injEq, Obj.cells.injEq] at hc
    exact absurd hc.2.1 (by decide)
  have nmb : some mb ≠ rv.ownBlock := fun e => by
    obtain ⟨_, _, cs, hc⟩ := own_block' ho e.symm
    obtain ⟨es, clock, hm0, _⟩ := hm
    rw [hm0] at hc
    cases hc
  have nbm : tb ≠ mb := fun e => by
    obtain ⟨es, clock, hm0, _⟩ := hm
    rw [← e, hb] at hm0
    cases hm0
  have h3 : w3.heap[tb]? = some (.cells #[.int .i64 W, rv, .map (some mb)] 57 (0, 0)) := ((hg.block tb (Nat.lt_of_lt_of_le hbl ha.size) ntb).trans (ha.block tb hbl)).trans hb
  have m3 : w3.heap[mb]? = w2.heap[mb]? := (hg.block mb (Nat.lt_of_lt_of_le hml ha.size) nmb).trans (ha.block mb hml)
  have gtb : g ≠ tb := fun e => by
    obtain ⟨_, _, cs, hc⟩ := own_block' hown rfl
    rw [e, h3] at hc
    simp only [Option.some.injEq, Obj.cells.injEq] at hc
    exact absurd hc.2.1 (by decide)
  refine ⟨⟨⟨by rw [hset h3]; rfl, ?_, ?_, hlo, htb, by simpa using hfew, htm⟩, ⟨?_, ?_, ?_, ?_, ?_⟩⟩, Lib.cell_of_heap h3 1, hfrz h3 1, by rw [Lib.cell_of_heap (hset h3 _) 1]; rfl⟩
  · show World.ownsRow _ _ _ _ _ _ _
    rw [List.length_append, List.length_singleton, tcl_append]
    refine own_stays hown fun b e => Below.heap_setCell w3 ⟨tb, 1, none⟩ _ b ?_
    cases e
    exact gtb
  · obtain ⟨es, clock, hm0, F, hs, hD⟩ := hm
    refine ⟨es, clock, ?_, F, by simpa using hs, hD⟩
    rw [Below.heap_setCell w3 ⟨tb, 1, none⟩ _ mb (fun e => nbm e.symm), m3]
    exact hm0
  · exact hg.os.trans ha.os
  · exact hg.tape.trans ha.tape
  · exact hg.output.trans ha.output
  · have := ha.size
    have := hg.size
    simp [World.setCell]
    omega
  · intro k hk hno
    rw [Below.heap_setCell w3 ⟨tb, 1, none⟩ _ k (fun e => hno (.inl e))]
    exact (hg.block k (Nat.lt_of_lt_of_le hk ha.size) (fun e => hno (.inr (.inr e.symm)))).trans (ha.block k hk)
end Go.Proofs.YtjgkcicgjnjepaaDoor
