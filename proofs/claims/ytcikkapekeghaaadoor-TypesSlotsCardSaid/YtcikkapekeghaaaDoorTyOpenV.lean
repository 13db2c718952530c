/- What is proved: an argument that is a list of variables, opened to its cells. -/
import Derived.Test.YtcikkapekeghaaaDoorTyOpen
import Derived.Test.YtcikkapekeghaaaDoorTyVar
set_option linter.unusedVariables false
namespace Go.Proofs.YtcikkapekeghaaaDoor
open Go.RowKit Go.ChangeShapes Go.WideShapes Go.Deep Go.Joins

theorem varFields : ∃ f0 f1 f2 f3 f4 f5 : Field, Tryd.prog.underlying 39 = some (.struct #[f0, f1, f2, f3, f4, f5]) ∧ (f0.type = 9 ∧ f1.type = 27 ∧ f2.type = 3 ∧ f3.type = 3 ∧ f4.type = 4 ∧ f5.type = 4) ∧ f0.offset = 0 ∧ f1.offset = 1 ∧ f2.offset = 4 ∧ f3.offset = 5 ∧ f4.offset = 6 ∧ f5.offset = 7 :=
  ⟨_, _, _, _, _, _, Tryd.underlying39, ⟨rfl, rfl, rfl, rfl, rfl, rfl⟩, rfl, rfl, rfl, rfl, rfl, rfl⟩
theorem varCells : Tryd.prog.cellsOf 39 = 8 := by kernel_rfl
theorem intCells : Tryd.prog.cellsOf 3 = 1 := by kernel_rfl
theorem boolCells : Tryd.prog.cellsOf 4 = 1 := by kernel_rfl

section
variable {H : Type} {enc : TypeId × Value → H} {w : World} {base : Nat} {spare : Nat → Bool} {held : Bool}
/-- eight cells that read as a variable -/
theorem var_of {fuel : Nat} {cs : List Value} {x : DataW H × List MemPlace} (h : DataW.trod enc Tryd.prog w base spare held fuel 39 cs = some x) : ∃ v : VarV, cs = [.string v.name, .int .i64 v.ty.kind, .int .i64 v.ty.len, .string v.ty.nm, .int .i64 v.slot, .int .i64 v.node, .bool v.vr, .bool v.lp] := by
  obtain ⟨f0, f1, f2, f3, f4, f5, hs, ⟨t0, t1, t2, t3, t4, t5⟩, o0, o1, o2, o3, o4, o5⟩ := varFields
  obtain ⟨xs, n, _, _, hl, hlen, hf⟩ := DataW.trod_struct hs h
  rw [varCells] at hl
  match cs, hl with
  | [c0, c1, c2, c3, c4, c5, c6, c7], _ =>
    match xs, hlen with
    | [y0, y1, y2, y3, y4, y5], _ =>
      have g0 := hf 0 f0 rfl
      have g1 := hf 1 f1 rfl
      have g2 := hf 2 f2 rfl
      have g3 := hf 3 f3 rfl
      have g4 := hf 4 f4 rfl
      have g5 := hf 5 f5 rfl
      rw [o0, t0, strCells] at g0
      rw [o1, t1, tyCells] at g1
      rw [o2, t2, intCells] at g2
      rw [o3, t3, intCells] at g3
      rw [o4, t4, boolCells] at g4
      rw [o5, t5, boolCells] at g5
      obtain ⟨n0, e0, _, _⟩ := DataW.trod_string Tryd.underlying9 g0
      obtain ⟨t, ht⟩ := ty_of g1
      obtain ⟨n2, e2, _, _⟩ := DataW.trod_int Tryd.underlying3 g2
      obtain ⟨n3, e3, _, _⟩ := DataW.trod_int Tryd.underlying3 g3
      obtain ⟨n4, e4, _⟩ := DataW.trod_bool Tryd.underlying4 g4
      obtain ⟨n5, e5, _⟩ := DataW.trod_bool Tryd.underlying4 g5
      simp at e0 ht e2 e3 e4 e5
      obtain ⟨h1, h2, h3⟩ := ht
      exact ⟨⟨n0, t, n2, n3, n4, n5⟩, by rw [e0, h1, h2, h3, e2, e3, e4, e5]⟩
end

theorem open_vars {H : Type} {enc : TypeId × Value → H} {w : World} {base : Nat} {v : Value} {d : DataW H} {p : List MemPlace}
    (hv : Value.okWide Tryd.prog w .any base 35 v) (h : DataW.Trod enc Tryd.prog w 0 (fun _ => true) true 35 v d p) :
    ∃ (A : Option Addr) (c : Nat) (l : List VarV), v = .slice A l.length c ∧ l.length ≤ 9223372036854775807 ∧ VRow w.heap.size w A l := by
  obtain ⟨a, len, cap, rfl⟩ := okWide_slice Tryd.underlying35 hv
  obtain ⟨fuel, hf⟩ := h
  rcases open_slice Tryd.underlying35 hf with ⟨hcs, _⟩ | ⟨a, len, cap, m, n, D, Pl, hcs, _, hl, hm, hmm, _, hi⟩
  · simp [Value.cells] at hcs
    obtain ⟨rfl, rfl, rfl⟩ := hcs
    exact ⟨none, 0, [], rfl, by simp, fun h => absurd h (by simp)⟩
  · simp [Value.cells] at hcs
    obtain ⟨rfl, rfl, rfl⟩ := hcs
    have hle : len ≤ m := by rw [hmm]; split <;> omega
    have hcell : ∀ i, i < len → ∃ r : VarV, ∀ (j : Nat) (u : Value), ([.string r.name, .int .i64 r.ty.kind, .int .i64 r.ty.len, .string r.ty.nm, .int .i64 r.slot, .int .i64 r.node, .bool r.vr, .bool r.lp] : List Value)[j]? = some u → w.cell? (a.add (i * 8 + j)) = some u := by
      intro i hil
      obtain ⟨cs', hc, ht⟩ := hi i (by omega)
      obtain ⟨r, rfl⟩ := var_of ht
      rw [varCells] at hc
      refine ⟨r, fun j u hu => ?_⟩
      have hj : j < 8 := (List.getElem?_eq_some_iff.1 hu).1
      have c0 := (cells_at hc j hj).2
      rw [Go.Deep.add_add] at c0
      rw [c0, hu]
    let F : Nat → VarV := fun i => if h : i < len then Classical.choose (hcell i h) else ⟨⟨#[]⟩, ⟨0, 0, ⟨#[]⟩⟩, 0, 0, false, false⟩
    have hF : ∀ i, i < len → ∀ (j : Nat) (u : Value), ([.string (F i).name, .int .i64 (F i).ty.kind, .int .i64 (F i).ty.len, .string (F i).ty.nm, .int .i64 (F i).slot, .int .i64 (F i).node, .bool (F i).vr, .bool (F i).lp] : List Value)[j]? = some u → w.cell? (a.add (i * 8 + j)) = some u := by
      intro i hil
      have h := Classical.choose_spec (hcell i hil)
      have e : F i = Classical.choose (hcell i hil) := dif_pos hil
      rw [e]
      exact h
    have hln : ((List.range len).map F).length = len := by simp
    refine ⟨some a, cap, (List.range len).map F, by rw [hln], by rw [hln]; unfold maxLen at hm; omega, fun h0 => ?_⟩
    rw [hln] at h0
    obtain ⟨b, off, spot⟩ := a
    have hspot : spot = none := by simpa [Addr.add] using World.cell?_spot (hF 0 h0 0 _ rfl)
    subst hspot
    have hb : b < w.heap.size := World.block_lt_of_cell? w _ (by simpa [Addr.add] using (hF 0 h0 0 _ rfl))
    refine ⟨b, off, rfl, hb, fun i hil => ?_⟩
    have hil' : i < len := by rw [hln] at hil; exact hil
    have h := hF i hil'
    have h0' := h 0 _ rfl
    have h1 := h 1 _ rfl
    have h2 := h 2 _ rfl
    have h3 := h 3 _ rfl
    have h4 := h 4 _ rfl
    have h5 := h 5 _ rfl
    have h6 := h 6 _ rfl
    have h7 := h 7 _ rfl
    rw [Go.WideShapes.add_plain] at h0' h1 h2 h3 h4 h5 h6 h7
    simp only [List.getElem_map, List.getElem_range]
    exact ⟨h0', h1, h2, h3, h4, h5, h6, h7⟩
end Go.Proofs.YtcikkapekeghaaaDoor
