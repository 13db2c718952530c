/- What is proved: an argument that is a list of constraints, opened to its cells. -/
import Derived.Test.YtmamajillkajoaaCoOrdLaw
import Derived.Deep.Slices
import Derived.Deep.Fields
import Derived.ChangeSame
import Derived.Lib.SmallJoins
set_option linter.unusedVariables false
set_option maxRecDepth 100000
namespace Go.Proofs.Ytmamajillkajoaa
open Go.RowKit Go.ChangeShapes Go.WideShapes Go.Deep Go.Joins

theorem coTyFields : ∃ f0 f1 f2 : Field, Try.prog.underlying 23 = some (.struct #[f0, f1, f2]) ∧ f0.type = 3 ∧ f1.type = 3 ∧ f2.type = 9 ∧ oneCellFields Try.prog #[f0, f1, f2] = true :=
  ⟨_, _, _, Try.underlying23, rfl, rfl, rfl, by kernel_rfl⟩
theorem conFields : ∃ f0 f1 f2 f3 f4 f5 : Field, Try.prog.underlying 36 = some (.struct #[f0, f1, f2, f3, f4, f5]) ∧ (f0.type = 3 ∧ f1.type = 3 ∧ f2.type = 3 ∧ f3.type = 23 ∧ f4.type = 3 ∧ f5.type = 3) ∧ f0.offset = 0 ∧ f1.offset = 1 ∧ f2.offset = 2 ∧ f3.offset = 3 ∧ f4.offset = 6 ∧ f5.offset = 7 :=
  ⟨_, _, _, _, _, _, Try.underlying36, ⟨rfl, rfl, rfl, rfl, rfl, rfl⟩, rfl, rfl, rfl, rfl, rfl, rfl⟩
theorem conCells : Try.prog.cellsOf 36 = 8 := by kernel_rfl

section
variable {H : Type} {enc : TypeId × Value → H} {w : World} {base : Nat} {spare : Nat → Bool} {held : Bool}
theorem co_cells_at {b : Nat} {a : Addr} {n : Nat} {cs : List Value} (h : w.cells? b a n = some cs) (j : Nat) (hj : j < n) : cs.length = n ∧ w.cell? (a.add j) = cs[j]? := by
  obtain ⟨_, hcl, hat⟩ := World.cells?_some h
  exact ⟨hcl, hat j hj⟩
/-- three cells that read as a type -/
theorem co_ty_of {fuel : Nat} {cs : List Value} {x : DataW H × List MemPlace} (h : DataW.trod enc Try.prog w base spare held fuel 23 cs = some x) : ∃ t : TyV, cs = [.int .i64 t.kind, .int .i64 t.len, .string t.nm] ∧ I64o t.kind ∧ I64o t.len ∧ t.nm.size ≤ maxLen := by
  obtain ⟨f0, f1, f2, hs, t0, t1, t2, hone⟩ := coTyFields
  obtain ⟨y0, y1, y2, n, _, hl, g0, g1, g2⟩ := trod_struct3 hs h
  rw [coTyCells] at hl
  obtain ⟨o0, k0⟩ := hone_of hone 0 f0 rfl
  obtain ⟨o1, k1⟩ := hone_of hone 1 f1 rfl
  obtain ⟨o2, k2⟩ := hone_of hone 2 f2 rfl
  match cs, hl with
  | [c0, c1, c2], _ =>
    rw [o0, k0, t0] at g0
    rw [o1, k1, t1] at g1
    rw [o2, k2, t2] at g2
    obtain ⟨n0, e0, _, w0⟩ := DataW.trod_int Try.underlying3 g0
    obtain ⟨n1, e1, _, w1⟩ := DataW.trod_int Try.underlying3 g1
    obtain ⟨n2, e2, _, w2⟩ := DataW.trod_string Try.underlying9 g2
    simp at e0 e1 e2
    exact ⟨⟨n0, n1, n2⟩, by rw [e0, e1, e2], w0, w1, w2⟩
/-- eight cells that read as a constraint -/
theorem con_of {fuel : Nat} {cs : List Value} {x : DataW H × List MemPlace} (h : DataW.trod enc Try.prog w base spare held fuel 36 cs = some x) : ∃ v : Con, cs = [.int .i64 v.kind, .int .i64 v.a, .int .i64 v.b, .int .i64 v.mark.kind, .int .i64 v.mark.len, .string v.mark.nm, .int .i64 v.lo, .int .i64 v.hi] ∧ ConOk v := by
  obtain ⟨f0, f1, f2, f3, f4, f5, hs, ⟨t0, t1, t2, t3, t4, t5⟩, o0, o1, o2, o3, o4, o5⟩ := conFields
  obtain ⟨xs, n, _, _, hl, hlen, hf⟩ := DataW.trod_struct hs h
  rw [conCells] at hl
  match cs, hl with
  | [c0, c1, c2, c3, c4, c5, c6, c7], _ =>
    match xs, hlen with
    | [y0, y1, y2, y3, y4, y5], _ =>
      have g0 := hf 0 f0 rfl
      have g1 := hf 1 f1 rfl
      have g2 := hf 2 f2 rfl
      have g3 := hf 3 f3 rfl
      have g4 := hf 4 f4 rfl
      have g5 := hf 5 f5 rfl
      rw [o0, t0, coOne] at g0
      rw [o1, t1, coOne] at g1
      rw [o2, t2, coOne] at g2
      rw [o3, t3, coTyCells] at g3
      rw [o4, t4, coOne] at g4
      rw [o5, t5, coOne] at g5
      obtain ⟨n0, e0, _, w0⟩ := DataW.trod_int Try.underlying3 g0
      obtain ⟨n1, e1, _, w1⟩ := DataW.trod_int Try.underlying3 g1
      obtain ⟨n2, e2, _, w2⟩ := DataW.trod_int Try.underlying3 g2
      obtain ⟨t, ht, w3⟩ := co_ty_of g3
      obtain ⟨n4, e4, _, _⟩ := DataW.trod_int Try.underlying3 g4
      obtain ⟨n5, e5, _, _⟩ := DataW.trod_int Try.underlying3 g5
      simp at e0 e1 e2 ht e4 e5
      obtain ⟨h1, h2, h3⟩ := ht
      exact ⟨⟨n0, n1, n2, t, n4, n5⟩, by rw [e0, e1, e2, h1, h2, h3, e4, e5], ⟨w0, w1, w2, w3.1, w3.2.1, w3.2.2⟩⟩
end

theorem open_cons {H : Type} {enc : TypeId × Value → H} {w : World} {base : Nat} {v : Value} {d : DataW H} {p : List MemPlace}
    (hv : Value.okWide Try.prog w .any base 26 v) (h : DataW.Trod enc Try.prog w 0 (fun _ => true) true 26 v d p) :
    ∃ (A : Option Addr) (c : Nat) (l : List Con), v = .slice A l.length c ∧ l.length ≤ c ∧ (CRow w.heap.size w A l ∧ ∀ x ∈ l, ConOk x) := by
  obtain ⟨a, len, cap, rfl⟩ := okWide_slice Try.underlying26 hv
  obtain ⟨fuel, hf⟩ := h
  rcases open_slice Try.underlying26 hf with ⟨hcs, _⟩ | ⟨a, len, cap, m, n, D, Pl, hcs, _, hl, hm, hmm, _, hi⟩
  · simp [Value.cells] at hcs
    obtain ⟨rfl, rfl, rfl⟩ := hcs
    exact ⟨none, 0, [], rfl, by simp, fun h => absurd h (by simp), by simp⟩
  · simp [Value.cells] at hcs
    obtain ⟨rfl, rfl, rfl⟩ := hcs
    have hle : len ≤ m := by rw [hmm]; split <;> omega
    have hcell : ∀ i, i < len → ∃ r : Con, ConOk r ∧ ∀ (j : Nat) (u : Value), ([.int .i64 r.kind, .int .i64 r.a, .int .i64 r.b, .int .i64 r.mark.kind, .int .i64 r.mark.len, .string r.mark.nm, .int .i64 r.lo, .int .i64 r.hi] : List Value)[j]? = some u → w.cell? (a.add (i * 8 + j)) = some u := by
      intro i hil
      obtain ⟨cs', hc, ht⟩ := hi i (by omega)
      obtain ⟨r, rfl, hok⟩ := con_of ht
      rw [conCells] at hc
      refine ⟨r, hok, fun j u hu => ?_⟩
      have hj : j < 8 := (List.getElem?_eq_some_iff.1 hu).1
      have c0 := (co_cells_at hc j hj).2
      rw [Go.Deep.add_add] at c0
      rw [c0, hu]
    let F : Nat → Con := fun i => if h : i < len then Classical.choose (hcell i h) else ⟨0, 0, 0, ⟨0, 0, ⟨#[]⟩⟩, 0, 0⟩
    have hF : ∀ i, i < len → ConOk (F i) ∧ ∀ (j : Nat) (u : Value), ([.int .i64 (F i).kind, .int .i64 (F i).a, .int .i64 (F i).b, .int .i64 (F i).mark.kind, .int .i64 (F i).mark.len, .string (F i).mark.nm, .int .i64 (F i).lo, .int .i64 (F i).hi] : List Value)[j]? = some u → w.cell? (a.add (i * 8 + j)) = some u := by
      intro i hil
      have h := Classical.choose_spec (hcell i hil)
      have e : F i = Classical.choose (hcell i hil) := dif_pos hil
      rw [e]
      exact h
    have hln : ((List.range len).map F).length = len := by simp
    refine ⟨some a, cap, (List.range len).map F, by rw [hln], by rw [hln]; omega, fun h0 => ?_, fun x hx => by
      obtain ⟨i, hi, rfl⟩ := List.mem_map.1 hx
      exact (hF i (List.mem_range.1 hi)).1⟩
    rw [hln] at h0
    obtain ⟨b, off, spot⟩ := a
    have hspot : spot = none := by simpa [Addr.add] using World.cell?_spot ((hF 0 h0).2 0 _ rfl)
    subst hspot
    have hb : b < w.heap.size := World.block_lt_of_cell? w _ (by simpa [Addr.add] using ((hF 0 h0).2 0 _ rfl))
    refine ⟨b, off, rfl, hb, fun i hil => ?_⟩
    have hil' : i < len := by rw [hln] at hil; exact hil
    have h := (hF i hil').2
    have h0' := h 0 _ rfl
    have h1 := h 1 _ rfl
    have h2 := h 2 _ rfl
    have h3 := h 3 _ rfl
    have h4 := h 4 _ rfl
    have h5 := h 5 _ rfl
    have h6 := h 6 _ rfl
    have h7 := h 7 _ rfl
    rw [Go.WideShapes.add_plain] at h0' h1 h2 h3 h4 h5 h6 h7
    simp only [List.getElem_map, List.getElem_range]
    exact ⟨h0', h1, h2, h3, h4, h5, h6, h7⟩
end Go.Proofs.Ytmamajillkajoaa
