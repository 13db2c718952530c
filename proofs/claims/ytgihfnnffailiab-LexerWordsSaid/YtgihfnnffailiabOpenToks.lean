/- What is proved: an argument that is a list of tokens, opened to its cells. -/
import Derived.Test.YtgihfnnffailiabToks
import Derived.Deep.Slices
import Derived.Deep.Fields
import Derived.ChangeSame
set_option linter.unusedVariables false
namespace Go.Proofs.Ytgihfnnffailiab
open Go.RowKit Go.ChangeShapes Go.WideShapes Go.Deep

section
variable {H : Type} {enc : TypeId × Value → H} {P : Program} {w : World} {base : Nat} {spare : Nat → Bool} {held : Bool}
theorem open_slice_fields {t e : TypeId} {fs : Array Field} {fuel : Nat} {cs : List Value} {x : DataW H × List MemPlace} (ht : P.underlying t = some (.slice e)) (he : P.underlying e = some (.struct fs))
    (hone : oneCellFields P fs = true) (hC : P.cellsOf e = fs.size) (h : DataW.trod enc P w base spare held fuel t cs = some x) :
    (cs = [.slice none 0 0] ∧ x = (.nil, [])) ∨
    ∃ (a : Addr) (len cap m : Nat) (D : Nat → DataW H) (Pl : Nat → List MemPlace), cs = [.slice (some a) len cap] ∧ base ≤ a.block ∧ len ≤ cap ∧ cap ≤ maxLen ∧ m = (if spare a.block then cap else len) ∧
      x = (.slice ((List.range len).map D) ((List.range (m - len)).map fun j => D (len + j)), MemPlace.row a (m * fs.size) ++ (List.range m).flatMap Pl) ∧
      ∀ i, i < m → ∃ (ys : List (DataW H × List MemPlace)) (n : Nat), D i = .agg (ys.map (·.1)) ∧ Pl i = ys.flatMap (·.2) ∧ ys.length = fs.size ∧
        ∀ (j : Nat) (f : Field), fs[j]? = some f → ∃ (v : Value) (y : DataW H × List MemPlace), w.cell? (a.add (i * fs.size + j)) = some v ∧ ys[j]? = some y ∧ DataW.trod enc P w base spare held n f.type [v] = some y := by
  rcases open_slice ht h with h0 | ⟨a, len, cap, m, n, D, Pl, hcs, hb, hl, hm, hmm, hx, hi⟩
  · exact .inl h0
  · refine .inr ⟨a, len, cap, m, D, Pl, hcs, hb, hl, hm, hmm, by rw [hC] at hx; exact hx, fun i him => ?_⟩
    obtain ⟨cs', hc, ht'⟩ := hi i him
    rw [hC] at hc
    obtain ⟨ys, n', hn', hy, hlen, hyl, hf⟩ := DataW.trod_struct he ht'
    obtain ⟨_, hcl, hat⟩ := World.cells?_some hc
    simp only [Prod.mk.injEq] at hy
    refine ⟨ys, n', hy.1, hy.2, hyl, fun j f hj => ?_⟩
    obtain ⟨ho, hk⟩ := hone_of hone j f hj
    have hjl : j < fs.size := (Array.getElem?_eq_some_iff.1 hj).1
    have hcell := hat j hjl
    have hv : cs'[j]? = some (cs'[j]'(by omega)) := List.getElem?_eq_getElem (by omega)
    have h1 := hf j f hj
    rw [ho, hk] at h1
    have hone' : (cs'.drop j).take 1 = [cs'[j]'(by omega)] := by
      rw [List.drop_eq_getElem_cons (by omega)]
      rfl
    rw [hone'] at h1
    have hys : ys[j]? = some (ys[j]'(by omega)) := List.getElem?_eq_getElem (by omega)
    refine ⟨_, _, ?_, hys, h1.trans hys⟩
    rw [← Go.Deep.add_add, hcell, hv]
end

theorem tokFields : ∃ fs : Array Field, Try.prog.underlying 39 = some (.struct fs) ∧ fs.size = 4 ∧ (fs[0]?.map (·.type)) = some 3 ∧ (fs[1]?.map (·.type)) = some 3 ∧ (fs[2]?.map (·.type)) = some 3 ∧ (fs[3]?.map (·.type)) = some 3 ∧ oneCellFields Try.prog fs = true :=
  ⟨_, Try.underlying39, rfl, rfl, rfl, rfl, rfl, by kernel_rfl⟩
theorem tokCells : Try.prog.cellsOf 39 = 4 := by kernel_rfl

theorem open_toks {H : Type} {enc : TypeId × Value → H} {W : World} {base : Nat} {v : Value} {d : DataW H} {p : List MemPlace}
    (hv : Value.okWide Try.prog W .any base 23 v) (h : DataW.Trod enc Try.prog W 0 (fun _ => true) true 23 v d p) :
    ∃ (A : Option Addr) (c : Nat) (l : List Tok), v = .slice A l.length c ∧ l.length ≤ 9223372036854775807 ∧ TokA W A l := by
  obtain ⟨a, len, cap, rfl⟩ := okWide_slice Try.underlying23 hv
  obtain ⟨fs, hfs, hsz, t0, t1, t2, t3, hone⟩ := tokFields
  obtain ⟨fuel, hf⟩ := h
  rcases open_slice_fields Try.underlying23 hfs hone (by rw [tokCells, hsz]) hf with ⟨hcs, _⟩ | ⟨x, l, c, m, D, Pl, hcs, _, hl, hm, hmm, _, hi⟩
  · simp [Value.cells] at hcs
    obtain ⟨rfl, rfl, rfl⟩ := hcs
    exact ⟨none, 0, [], rfl, by simp, fun h => absurd h (by simp)⟩
  · simp [Value.cells] at hcs
    obtain ⟨rfl, rfl, rfl⟩ := hcs
    have hle : len ≤ m := by rw [hmm]; simp; exact hl
    have hcell : ∀ i, i < len → ∃ r : Tok, W.cell? (x.add (i * 4)) = some (.int .i64 r.kind) ∧ W.cell? (x.add (i * 4 + 1)) = some (.int .i64 r.lo) ∧ W.cell? (x.add (i * 4 + 2)) = some (.int .i64 r.at_) ∧ W.cell? (x.add (i * 4 + 3)) = some (.int .i64 r.hi) := by
      intro i hil
      obtain ⟨ys, n, _, _, hys, hj⟩ := hi i (by omega)
      rw [hsz] at hj
      obtain ⟨f0, e0, q0⟩ := Option.map_eq_some_iff.1 t0
      obtain ⟨f1, e1, q1⟩ := Option.map_eq_some_iff.1 t1
      obtain ⟨f2, e2, q2⟩ := Option.map_eq_some_iff.1 t2
      obtain ⟨f3, e3, q3⟩ := Option.map_eq_some_iff.1 t3
      obtain ⟨v0, y0, c0, _, g0⟩ := hj 0 f0 e0
      obtain ⟨v1, y1, c1, _, g1⟩ := hj 1 f1 e1
      obtain ⟨v2, y2, c2, _, g2⟩ := hj 2 f2 e2
      obtain ⟨v3, y3, c3, _, g3⟩ := hj 3 f3 e3
      rw [q0] at g0
      rw [q1] at g1
      rw [q2] at g2
      rw [q3] at g3
      obtain ⟨n0, k0, _, _⟩ := DataW.trod_int Try.underlying3 g0
      obtain ⟨n1, k1, _, _⟩ := DataW.trod_int Try.underlying3 g1
      obtain ⟨n2, k2, _, _⟩ := DataW.trod_int Try.underlying3 g2
      obtain ⟨n3, k3, _, _⟩ := DataW.trod_int Try.underlying3 g3
      simp only [List.cons.injEq, and_true] at k0 k1 k2 k3
      subst k0
      subst k1
      subst k2
      subst k3
      exact ⟨⟨n0, n1, n2, n3⟩, by simpa using c0, c1, c2, c3⟩
    let F : Nat → Tok := fun i => if h : i < len then Classical.choose (hcell i h) else ⟨0, 0, 0, 0⟩
    have hF : ∀ i, i < len → W.cell? (x.add (i * 4)) = some (.int .i64 (F i).kind) ∧ W.cell? (x.add (i * 4 + 1)) = some (.int .i64 (F i).lo) ∧ W.cell? (x.add (i * 4 + 2)) = some (.int .i64 (F i).at_) ∧ W.cell? (x.add (i * 4 + 3)) = some (.int .i64 (F i).hi) := by
      intro i hil
      have h := Classical.choose_spec (hcell i hil)
      have e : F i = Classical.choose (hcell i hil) := dif_pos hil
      rw [e]
      exact h
    have hln : ((List.range len).map F).length = len := by simp
    refine ⟨some x, cap, (List.range len).map F, by rw [hln], by rw [hln]; unfold maxLen at hm; omega, fun h0 => ?_⟩
    rw [hln] at h0
    obtain ⟨b, off, spot⟩ := x
    have hspot : spot = none := by simpa [Addr.add] using World.cell?_spot (hF 0 h0).1
    subst hspot
    have hb : b < W.heap.size := World.block_lt_of_cell? W _ (by simpa [Addr.add] using (hF 0 h0).1)
    refine ⟨b, off, rfl, hb, fun i hil => ?_⟩
    have hil' : i < len := by rw [hln] at hil; exact hil
    obtain ⟨h1, h2, h3, h4⟩ := hF i hil'
    rw [Go.WideShapes.add_plain] at h1 h2 h3 h4
    simp only [List.getElem_map, List.getElem_range]
    exact ⟨h1, h2, h3, h4⟩
end Go.Proofs.Ytgihfnnffailiab
