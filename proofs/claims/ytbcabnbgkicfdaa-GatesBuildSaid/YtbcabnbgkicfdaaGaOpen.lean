/- What is proved: arguments that are circuits, lists of truth values, lists of numbers, lists of steps, opened to their cells. -/
import Derived.Test.YtbcabnbgkicfdaaGaMem
import Derived.Deep.Slices
import Derived.Deep.Grids
import Derived.Deep.Strs
import Derived.Deep.Fields
import Derived.ChangeSlices
import Derived.ChangeSame
import Derived.Lib.SmallJoins
set_option linter.unusedVariables false
set_option maxRecDepth 100000
namespace Go.Proofs.Ytbcabnbgkicfdaa
open Go.RowKit Go.ChangeShapes Go.WideShapes Go.Deep Go.Joins

theorem ckFields : ∃ f0 f1 : Field, Try.prog.underlying 30 = some (.struct #[f0, f1]) ∧ f0.type = 3 ∧ f1.type = 28 ∧ oneCellFields Try.prog #[f0, f1] = true :=
  ⟨_, _, Try.underlying30, rfl, rfl, by kernel_rfl⟩
theorem ckCells : Try.prog.cellsOf 30 = 2 := by kernel_rfl
theorem blCells : Try.prog.cellsOf 4 = 1 := by kernel_rfl
section
variable {H : Type} {enc : TypeId × Value → H} {w : World} {base : Nat} {spare : Nat → Bool} {held : Bool}
theorem array2 {t e : TypeId} {fuel : Nat} {c0 c1 : Value} {x : DataW H × List MemPlace} (ht : Try.prog.underlying t = some (.array 2 e)) (hce : Try.prog.cellsOf e = 1)
    (h : DataW.trod enc Try.prog w base spare held fuel t [c0, c1] = some x) :
    ∃ y0 y1 n, x = (.agg [y0.1, y1.1], y0.2 ++ y1.2) ∧ DataW.trod enc Try.prog w base spare held n e [c0] = some y0 ∧ DataW.trod enc Try.prog w base spare held n e [c1] = some y1 := by
  cases fuel with
  | zero => simp [DataW.trod] at h
  | succ n =>
    unfold DataW.trod at h
    rw [ht] at h
    have r2 : List.range 2 = [0, 1] := rfl
    simp [r2, hce] at h
    obtain ⟨_, h⟩ := h
    cases h0 : DataW.trod enc Try.prog w base spare held n e [c0] with
    | none => simp [h0] at h
    | some y0 =>
      cases h1 : DataW.trod enc Try.prog w base spare held n e [c1] with
      | none => simp [h0, h1] at h
      | some y1 =>
        simp [h0, h1] at h
        exact ⟨y0, y1, n, h.symm, h0, h1⟩
/-- two cells that read as a gate -/
theorem gt_of {fuel : Nat} {cs : List Value} {x : DataW H × List MemPlace} (hl : cs.length = 2) (h : DataW.trod enc Try.prog w base spare held fuel 76 cs = some x) : ∃ v : Gt, cs = gcs v ∧ GtOk v := by
  match cs, hl with
  | [c0, c1], _ =>
    obtain ⟨z0, z1, m, _, a0, a1⟩ := array2 Try.underlying76 oneCell (c0 := c0) (c1 := c1) h
    obtain ⟨n0, e0, _, w0⟩ := DataW.trod_int Try.underlying3 a0
    obtain ⟨n1, e1, _, w1⟩ := DataW.trod_int Try.underlying3 a1
    simp at e0 e1
    exact ⟨⟨n0, n1⟩, by rw [e0, e1]; rfl, ⟨w0, w1⟩⟩
theorem ga_cells_at {b : Nat} {a : Addr} {n : Nat} {cs : List Value} (h : w.cells? b a n = some cs) (j : Nat) (hj : j < n) : cs.length = n ∧ w.cell? (a.add j) = cs[j]? := by
  obtain ⟨_, hcl, hat⟩ := World.cells?_some h
  exact ⟨hcl, hat j hj⟩
end
/-- what is known of an argument's list of gates -/
def GOpn (w : World) (A : Option Addr) (l : List Gt) : Prop := l.length ≤ 9223372036854775807 ∧ GRow w A l ∧ ∀ x ∈ l, GtOk x
theorem gts_of {H : Type} {enc : TypeId × Value → H} {w : World} {fuel : Nat} {cs : List Value} {x : DataW H × List MemPlace} (hf : DataW.trod enc Try.prog w 0 (fun _ => true) true fuel 28 cs = some x) :
    ∃ (A : Option Addr) (c : Nat) (l : List Gt), cs = [.slice A l.length c] ∧ GOpn w A l := by
  rcases open_slice Try.underlying28 hf with ⟨hcs, _⟩ | ⟨a, len, cap, m, n, D, Pl, hcs, _, hl, hm, hmm, _, hi⟩
  · exact ⟨none, 0, [], hcs, by simp, fun h => absurd h (by simp), by simp⟩
  · have hle : len ≤ m := by rw [hmm]; split <;> omega
    have hcell : ∀ i, i < len → ∃ r : Gt, GtOk r ∧ ∀ (j : Nat) (u : Value), (gcs r)[j]? = some u → w.cell? (a.add (i * 2 + j)) = some u := by
      intro i hil
      obtain ⟨cs', hc, ht⟩ := hi i (by omega)
      rw [pairCells] at hc
      obtain ⟨r, rfl, hok⟩ := gt_of (ga_cells_at hc 0 (by omega)).1 ht
      refine ⟨r, hok, fun j u hu => ?_⟩
      have hj : j < 2 := (List.getElem?_eq_some_iff.1 hu).1
      have c0 := (ga_cells_at hc j hj).2
      rw [Go.Deep.add_add] at c0
      rw [c0, hu]
    let F : Nat → Gt := fun i => if h : i < len then Classical.choose (hcell i h) else ⟨0, 0⟩
    have hF : ∀ i, i < len → GtOk (F i) ∧ ∀ (j : Nat) (u : Value), (gcs (F i))[j]? = some u → w.cell? (a.add (i * 2 + j)) = some u := by
      intro i hil
      have h := Classical.choose_spec (hcell i hil)
      have e : F i = Classical.choose (hcell i hil) := dif_pos hil
      rw [e]
      exact h
    have hln : ((List.range len).map F).length = len := by simp
    refine ⟨some a, cap, (List.range len).map F, by rw [hln]; exact hcs, by rw [hln]; unfold maxLen at hm; omega, fun h0 => ?_, fun x hx => by
      obtain ⟨i, hi, rfl⟩ := List.mem_map.1 hx
      exact (hF i (List.mem_range.1 hi)).1⟩
    rw [hln] at h0
    obtain ⟨b, off, spot⟩ := a
    have hspot : spot = none := by simpa [Addr.add] using World.cell?_spot ((hF 0 h0).2 0 _ rfl)
    subst hspot
    have hb : b < w.heap.size := World.block_lt_of_cell? w _ (by simpa [Addr.add] using ((hF 0 h0).2 0 _ rfl))
    refine ⟨b, off, rfl, hb, fun i hil => ?_⟩
    have hil' : i < len := by rw [hln] at hil; exact hil
    have h := (hF i hil').2
    have h0' := h 0 _ rfl
    have h1 := h 1 _ rfl
    rw [Go.WideShapes.add_plain] at h0' h1
    simp only [List.getElem_map, List.getElem_range]
    exact ⟨h0', h1⟩
theorem open_ck {H : Type} {enc : TypeId × Value → H} {w : World} {base : Nat} {v : Value} {d : DataW H} {p : List MemPlace}
    (hv : Value.okWide Try.prog w .any base 30 v) (h : DataW.Trod enc Try.prog w 0 (fun _ => true) true 30 v d p) :
    ∃ (I : Int) (A : Option Addr) (c : Nat) (l : List Gt), v = .agg #[.int .i64 I, .slice A l.length c] ∧ I64o I ∧ GOpn w A l := by
  obtain ⟨f0, f1, hs, t0, t1, hone⟩ := ckFields
  obtain ⟨o0, k0⟩ := hone_of hone 0 f0 rfl
  obtain ⟨o1, k1⟩ := hone_of hone 1 f1 rfl
  obtain ⟨cs, rfl, hcsz⟩ := okWide_struct hs hv
  rw [ckCells] at hcsz
  obtain ⟨l0⟩ := cs
  simp at hcsz
  obtain ⟨fuel, hf⟩ := h
  obtain ⟨y0, y1, n, _, hl, g0, g1⟩ := trod_struct2 hs hf
  match l0, hcsz with
  | [c0, c1], _ =>
    rw [o0, k0, t0] at g0
    rw [o1, k1, t1] at g1
    obtain ⟨n0, e0, _, w0⟩ := DataW.trod_int Try.underlying3 g0
    obtain ⟨A, c, l, e1, h1⟩ := gts_of g1
    simp [Value.cells] at e0 e1
    exact ⟨n0, A, c, l, by rw [e0, e1], w0, h1⟩
/-- a slice of truth values -/
def BRow (w : World) (A : Option Addr) (l : List Bool) : Prop :=
  0 < l.length → ∃ b off, A = some ⟨b, off, none⟩ ∧ b < w.heap.size ∧ ∀ (i : Nat) (h : i < l.length), w.cell? ⟨b, off + i, none⟩ = some (.bool l[i])
theorem BRow.nil (w : World) (A : Option Addr) : BRow w A [] := fun h => by simp at h
theorem BRow.later {w w' : World} {A : Option Addr} {l : List Bool} (h : BRow w A l) (hb : Below w.heap.size w w') : BRow w' A l := fun h0 => by
  obtain ⟨b, off, hA, hlt, hc⟩ := h h0
  exact ⟨b, off, hA, Nat.lt_of_lt_of_le hlt hb.size, fun i hi => (hb.cell (p := ⟨b, off + i, none⟩) hlt).trans (hc i hi)⟩
def BOpn (w : World) (A : Option Addr) (c : Nat) (l : List Bool) : Prop := l.length ≤ 9223372036854775807 ∧ l.length ≤ c ∧ BRow w A l
theorem open_bl {H : Type} {enc : TypeId × Value → H} {W : World} {base : Nat} {v : Value} {d : DataW H} {p : List MemPlace}
    (hv : Value.okWide Try.prog W .any base 48 v) (h : DataW.Trod enc Try.prog W 0 (fun _ => true) true 48 v d p) :
    ∃ (A : Option Addr) (c : Nat) (l : List Bool), v = .slice A l.length c ∧ BOpn W A c l := by
  obtain ⟨a, len, cap, rfl⟩ := okWide_slice Try.underlying48 hv
  obtain ⟨fuel, hf⟩ := h
  rcases open_bools Try.underlying48 Try.underlying4 blCells hf with ⟨hcs, hx⟩ | ⟨a', len', cap', B, hcs, _, hl, hm, hx, hcell⟩
  · simp [Value.cells] at hcs
    obtain ⟨rfl, rfl, rfl⟩ := hcs
    exact ⟨none, 0, [], rfl, by simp, by simp, fun h0 => absurd h0 (by simp)⟩
  · simp [Value.cells] at hcs
    obtain ⟨rfl, rfl, rfl⟩ := hcs
    have hll : ((List.range len).map B).length = len := by simp
    refine ⟨some a', cap, (List.range len).map B, by rw [hll], by rw [hll]; unfold maxLen at hm; omega, by rw [hll]; exact hl, fun h0 => ?_⟩
    rw [hll] at h0
    obtain ⟨bk, off, spot⟩ := a'
    have h1 := hcell 0 (by omega)
    have hspot : spot = none := by simpa [Addr.add] using World.cell?_spot h1
    subst hspot
    have hbk : bk < W.heap.size := World.block_lt_of_cell? W _ (by simpa [Addr.add] using h1)
    refine ⟨bk, off, rfl, hbk, fun i hil => ?_⟩
    rw [hll] at hil
    have h2 := hcell i (by omega)
    rw [Go.WideShapes.add_plain] at h2
    rw [h2]
    simp
/-- what is known of an argument's list of numbers -/
def ZOpn (W : World) (A : Option Addr) (c : Nat) (l : List Int) : Prop := l.length ≤ c ∧ l.length ≤ 9223372036854775807 ∧ ZRow W.heap.size W A l ∧ ∀ i, -9223372036854775808 ≤ l.getD i 0 ∧ l.getD i 0 ≤ 9223372036854775807
theorem open_zs {H : Type} {enc : TypeId × Value → H} {W : World} {base : Nat} {v : Value} {d : DataW H} {p : List MemPlace}
    (hv : Value.okWide Try.prog W .any base 47 v) (h : DataW.Trod enc Try.prog W 0 (fun _ => true) true 47 v d p) :
    ∃ (A : Option Addr) (c : Nat) (l : List Int), v = .slice A l.length c ∧ ZOpn W A c l := by
  obtain ⟨a, len, cap, rfl⟩ := okWide_slice Try.underlying47 hv
  obtain ⟨fuel, hf⟩ := h
  rcases open_ints Try.underlying47 Try.underlying3 oneCell hf with ⟨hcs, hx⟩ | ⟨a', len', cap', zs, hcs, _, hl, hm, hlen, hx, hcell, hwf⟩
  · simp [Value.cells] at hcs
    obtain ⟨rfl, rfl, rfl⟩ := hcs
    exact ⟨none, 0, [], rfl, by simp, by simp, fun h0 => absurd h0 (by simp), fun i => by simp⟩
  · simp [Value.cells] at hcs
    obtain ⟨rfl, rfl, rfl⟩ := hcs
    have hle : len ≤ zs.length := by rw [hlen]; simp; exact hl
    have hll : (zs.take len).length = len := by rw [List.length_take]; omega
    refine ⟨some a', cap, zs.take len, by rw [hll], by rw [hll]; exact hl, by rw [hll]; unfold maxLen at hm; omega, fun h0 => ?_, fun i => ?_⟩
    · rw [hll] at h0
      obtain ⟨bk, off, spot⟩ := a'
      have h1 := hcell 0 (by omega)
      have hspot : spot = none := by simpa [Addr.add] using World.cell?_spot h1
      subst hspot
      have hbk : bk < W.heap.size := World.block_lt_of_cell? W _ (by simpa [Addr.add] using h1)
      refine ⟨bk, off, rfl, hbk, fun i hil => ?_⟩
      have h2 := hcell i (by rw [hll] at hil; omega)
      rw [Go.WideShapes.add_plain] at h2
      rw [h2]
      have : i < zs.length := by rw [hll] at hil; omega
      simp [List.getD_eq_getElem?_getD, List.getElem?_eq_getElem this]
    · rcases Nat.lt_or_ge i (zs.take len).length with hi | hi
      · have hm2 : (zs.take len)[i] ∈ zs := List.mem_of_mem_take (List.getElem_mem hi)
        have hw := hwf _ hm2
        simp [Lit.wf, IntKind.min, IntKind.max, IntKind.bits, IntKind.signed] at hw
        rw [List.getD_eq_getElem?_getD, List.getElem?_eq_getElem hi]
        simp only [Option.getD_some, List.getElem_take]
        omega
      · rw [List.getD_eq_getElem?_getD, List.getElem?_eq_none hi]
        simp
end Go.Proofs.Ytbcabnbgkicfdaa
