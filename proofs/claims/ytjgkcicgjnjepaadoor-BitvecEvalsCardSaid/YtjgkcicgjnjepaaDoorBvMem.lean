/- What is proved: terms, slices of terms, tables of terms and the list of operators as they lie in memory; nothing of the program's functions. -/
import Derived.Test.YtjgkcicgjnjepaaDoorBvBase
import Derived.Test.YtjgkcicgjnjepaaDoorBvP
import Derived.Maps.Own
import Derived.Maps.Views
import Derived.DeepKeys5
set_option linter.unusedVariables false
namespace Go.Proofs.YtjgkcicgjnjepaaDoor
open Go.RowKit Go.Maps Go.WideMaps

theorem laidO : laidOutB Tryd.prog = true := by kernel_rfl
theorem infoTm : (Tryd.prog.info? 46).map (fun i => (i.zero, i.size, i.bytes)) = some (some (.agg #[.int .i64 0, .int .i64 0, .int .i64 0, .int .i64 0, .int .i64 0]), 5, 40) := by kernel_rfl

/-- a node's cells -/
def tcs (x : Tm) : List Value := [.int .i64 x.op, .int .i64 x.v, .int .i64 x.a, .int .i64 x.b, .int .i64 x.c]
def TCells (w : World) (b o : Nat) (x : Tm) : Prop :=
  w.cell? ⟨b, o, none⟩ = some (.int .i64 x.op) ∧ w.cell? ⟨b, o + 1, none⟩ = some (.int .i64 x.v) ∧ w.cell? ⟨b, o + 2, none⟩ = some (.int .i64 x.a) ∧ w.cell? ⟨b, o + 3, none⟩ = some (.int .i64 x.b) ∧ w.cell? ⟨b, o + 4, none⟩ = some (.int .i64 x.c)
theorem TCells.eq {w w' : World} {b o : Nat} {x : Tm} (h : TCells w b o x) (hb : w'.heap[b]? = w.heap[b]?) : TCells w' b o x := by
  obtain ⟨h0, h1, h2, h3, h4⟩ := h
  exact ⟨(World.cell?_of_block (a := ⟨b, o, none⟩) hb).trans h0, (World.cell?_of_block (a := ⟨b, o + 1, none⟩) hb).trans h1, (World.cell?_of_block (a := ⟨b, o + 2, none⟩) hb).trans h2, (World.cell?_of_block (a := ⟨b, o + 3, none⟩) hb).trans h3, (World.cell?_of_block (a := ⟨b, o + 4, none⟩) hb).trans h4⟩
/-- a slice of nodes, in block g (if there are any) -/
def TRow (w : World) (A : Option Addr) (l : List Tm) : Prop :=
  0 < l.length → ∃ b off, A = some ⟨b, off, none⟩ ∧ b < w.heap.size ∧ ∀ (i : Nat) (h : i < l.length), TCells w b (off + i * 5) l[i]
theorem TRow.nil (w : World) (A : Option Addr) : TRow w A [] := fun h => by simp at h
theorem TRow.stays {w w' : World} {A : Option Addr} {l : List Tm} (h : TRow w A l) (hs : w.heap.size ≤ w'.heap.size) (hb : ∀ a, A = some a → a.block < w.heap.size → w'.heap[a.block]? = w.heap[a.block]?) : TRow w' A l := fun h0 => by
  obtain ⟨b, off, hA, hlt, hc⟩ := h h0
  exact ⟨b, off, hA, by omega, fun i hi => (hc i hi).eq (hb _ hA hlt)⟩
theorem TRow.later {w w' : World} {A : Option Addr} {l : List Tm} (h : TRow w A l) (hb : Below w.heap.size w w') : TRow w' A l := h.stays hb.size fun a _ hl => hb.block _ hl
theorem TRow.at {w : World} {A : Option Addr} {l : List Tm} (h : TRow w A l) {i : Nat} (hi : i < l.length) : ∃ b off, A = some ⟨b, off, none⟩ ∧ b < w.heap.size ∧ TCells w b (off + i * 5) l[i] := by
  obtain ⟨b, off, hA, hlt, hc⟩ := h (by omega)
  exact ⟨b, off, hA, hlt, hc i hi⟩

/-- a variable that holds a node -/
def TBox (w : World) (b : Nat) (x : Tm) : Prop := w.heap[b]? = some (.cells #[.int .i64 x.op, .int .i64 x.v, .int .i64 x.a, .int .i64 x.b, .int .i64 x.c] 46 (0, 0))
def put5 (w : World) (b : Nat) (x : Tm) : World := ((((w.setCell ⟨b, 0, none⟩ (.int .i64 x.op)).setCell ⟨b, 1, none⟩ (.int .i64 x.v)).setCell ⟨b, 2, none⟩ (.int .i64 x.a)).setCell ⟨b, 3, none⟩ (.int .i64 x.b)).setCell ⟨b, 4, none⟩ (.int .i64 x.c)
theorem TBox.cells {w : World} {b : Nat} {x : Tm} (h : TBox w b x) : w.cell? ⟨b, 0, none⟩ = some (.int .i64 x.op) ∧ w.cell? ⟨b, 1, none⟩ = some (.int .i64 x.v) ∧ w.cell? ⟨b, 2, none⟩ = some (.int .i64 x.a) ∧ w.cell? ⟨b, 3, none⟩ = some (.int .i64 x.b) ∧ w.cell? ⟨b, 4, none⟩ = some (.int .i64 x.c) :=
  ⟨Lib.cell_of_heap h 0, Lib.cell_of_heap h 1, Lib.cell_of_heap h 2, Lib.cell_of_heap h 3, Lib.cell_of_heap h 4⟩
theorem TBox.frz {w : World} {b : Nat} {x : Tm} (h : TBox w b x) (i : Nat) : w.frozen? ⟨b, i, none⟩ = false := hfrz h i
theorem TBox.put {w : World} {b : Nat} {x : Tm} (h : TBox w b x) (y : Tm) : TBox (put5 w b y) b y := by
  unfold put5 TBox
  have h0 := hset (i := 0) h (.int .i64 y.op)
  have h1 := hset (i := 1) h0 (.int .i64 y.v)
  have h2 := hset (i := 2) h1 (.int .i64 y.a)
  have h3 := hset (i := 3) h2 (.int .i64 y.b)
  have h4 := hset (i := 4) h3 (.int .i64 y.c)
  rw [h4]
  rfl
theorem put5_far (w : World) {b k : Nat} (y : Tm) (h : k ≠ b) : (put5 w b y).heap[k]? = w.heap[k]? := by
  unfold put5
  rw [hfar (p := ⟨b, 4, none⟩) h, hfar (p := ⟨b, 3, none⟩) h, hfar (p := ⟨b, 2, none⟩) h, hfar (p := ⟨b, 1, none⟩) h, hfar (p := ⟨b, 0, none⟩) h]
theorem put5_below {n : Nat} {w w' : World} (h : Below n w w') {b : Nat} (hb : n ≤ b) (y : Tm) : Below n w (put5 w' b y) := by
  unfold put5
  exact ((((h.setCell (p := ⟨b, 0, none⟩) hb _).setCell (p := ⟨b, 1, none⟩) hb _).setCell (p := ⟨b, 2, none⟩) hb _).setCell (p := ⟨b, 3, none⟩) hb _).setCell (p := ⟨b, 4, none⟩) hb _
theorem put5_size (w : World) (b : Nat) (y : Tm) : (put5 w b y).heap.size = w.heap.size := by unfold put5; simp
theorem TBox.later {w w' : World} {b : Nat} {x : Tm} (h : TBox w b x) (hb : Below w.heap.size w w') : TBox w' b x := (hb.block b (hlt h)).trans h
theorem TBox.new (w : World) (x : Tm) : TBox (w.alloc (.cells #[.int .i64 x.op, .int .i64 x.v, .int .i64 x.a, .int .i64 x.b, .int .i64 x.c] 46)) w.heap.size x := heap_alloc_new w _

/-- the cells of nodes -/
def tcl (l : List Tm) : List Value := l.flatMap tcs
theorem tcl_len (l : List Tm) : (tcl l).length = l.length * 5 := by
  induction l with
  | nil => rfl
  | cons x l ih =>
    unfold tcl at *
    simp only [List.flatMap_cons, List.length_append, ih, List.length_cons]
    show 5 + l.length * 5 = _
    omega
theorem tcl_append (l m : List Tm) : tcl (l ++ m) = tcl l ++ tcl m := by simp [tcl]
theorem tcs_one (x : Tm) : ∀ u ∈ tcs x, u.oneCell' = true := by
  intro u hu
  simp only [tcs, List.mem_cons, List.not_mem_nil, or_false] at hu
  rcases hu with h | h | h | h | h <;> rw [h] <;> rfl
theorem tcl_one (l : List Tm) : ∀ u ∈ tcl l, u.oneCell' = true := by
  intro u hu
  obtain ⟨x, _, h⟩ := List.mem_flatMap.1 hu
  exact tcs_one x u h
theorem tcl_get (l : List Tm) : ∀ (i : Nat) (h : i < l.length) (j : Nat), j < 5 → (tcl l)[i * 5 + j]? = (tcs l[i])[j]? := by
  induction l with
  | nil => intro i h; simp at h
  | cons x l ih =>
    intro i h j hj
    have e : tcl (x :: l) = tcs x ++ tcl l := by simp [tcl]
    rw [e]
    cases i with
    | zero =>
      rw [List.getElem?_append_left (by show 0 * 5 + j < 5; omega)]
      simp
    | succ i =>
      rw [List.getElem?_append_right (by show 5 ≤ (i + 1) * 5 + j; omega)]
      rw [show (i + 1) * 5 + j - (tcs x).length = i * 5 + j from by show (i + 1) * 5 + j - 5 = _; omega]
      exact ih i (by simpa using h) j hj
/-- a row of nodes that is owned -/
def TOwn (w : World) (B : Nat) (v : Value) (l : List Tm) : Prop := w.ownsRow B 46 5 v l.length (tcl l)
theorem TOwn.form {w : World} {B : Nat} {v : Value} {l : List Tm} (h : TOwn w B v l) : ∃ A c, v = .slice A l.length c ∧ l.length ≤ c ∧ TRow w A l ∧ (∀ a, A = some a → v.ownBlock = some a.block) := by
  rcases h.2 with ⟨rfl, h0⟩ | ⟨g, cap, cur, hv, hB, hg, hn, _⟩
  · exact ⟨none, 0, by rw [h0], by omega, fun hh => by omega, fun a e => by cases e⟩
  · refine ⟨some ⟨g, 0, none⟩, cap, hv, hn, fun _ => ⟨g, 0, rfl, hlt hg, fun i hi => ?_⟩, fun a e => by cases e; rw [hv]; rfl⟩
    have hb : v.ownBlock = some g := by rw [hv]; rfl
    have q : ∀ j, j < 5 → w.cell? ⟨g, 0 + i * 5 + j, none⟩ = (tcs l[i])[j]? := fun j hj => by
      obtain ⟨u, hu⟩ : ∃ u, (tcs l[i])[j]? = some u := ⟨(tcs l[i])[j]'(by show j < 5; exact hj), List.getElem?_eq_getElem _⟩
      have a := World.ownsRow.cells h hb (i * 5 + j) u (by rw [tcl_get l i hi j hj, hu])
      rw [do_add] at a
      rw [Nat.zero_add, a, hu]
    exact ⟨q 0 (by omega), q 1 (by omega), q 2 (by omega), q 3 (by omega), q 4 (by omega)⟩

/-- the list of operators, as the program's text lays it -/
def TabS (w : World) : Prop := ∀ o, o < 18 → w.cell? ⟨0, o * 5, none⟩ = some (.int .i64 (srt o)) ∧ w.cell? ⟨0, o * 5 + 1, none⟩ = some (.int .i64 ((cnt o : Nat) : Int)) ∧ w.cell? ⟨0, o * 5 + 2, none⟩ = some (.int .i64 (agA o)) ∧ w.cell? ⟨0, o * 5 + 3, none⟩ = some (.int .i64 (agB o)) ∧ w.cell? ⟨0, o * 5 + 4, none⟩ = some (.int .i64 (agC o))
theorem TabS.pos {w : World} (h : TabS w) : 0 < w.heap.size := World.block_lt_of_cell? w ⟨0, 0 * 5, none⟩ (h 0 (by omega)).1
theorem TabS.below {w w' : World} {n : Nat} (h : TabS w) (hb : Below n w w') (hn : 0 < n) : TabS w' := fun o ho => by
  obtain ⟨h0, h1, h2, h3, h4⟩ := h o ho
  exact ⟨(hb.cell (p := ⟨0, _, none⟩) hn).trans h0, (hb.cell (p := ⟨0, _, none⟩) hn).trans h1, (hb.cell (p := ⟨0, _, none⟩) hn).trans h2, (hb.cell (p := ⟨0, _, none⟩) hn).trans h3, (hb.cell (p := ⟨0, _, none⟩) hn).trans h4⟩
theorem TabS.later {w w' : World} (h : TabS w) (hb : Below w.heap.size w w') : TabS w' := h.below hb h.pos

/-- the key of a node -/
theorem tmLaw : Keyed Tryd.prog 46 := Keyed.of_law (deep_law_gate laidO (of_decide_eq_true (by kernel_rfl)) (of_decide_eq_true (by kernel_rfl)) (by kernel_rfl) (by kernel_rfl))
theorem tmDeep : Tryd.prog.keyType 46 = true := by kernel_rfl
theorem tmCells : Tryd.prog.cellsOf 46 = 5 := by kernel_rfl
theorem arCells : Tryd.prog.cellsOf 44 = 3 := by kernel_rfl
theorem oneCell : Tryd.prog.cellsOf 3 = 1 := by kernel_rfl
theorem tmTypes : ∃ m, Tryd.prog.types.size = m + 3 := ⟨Tryd.prog.types.size - 3, by have : 3 ≤ Tryd.prog.types.size := of_decide_eq_true (by kernel_rfl); omega⟩
theorem int_lits (d : Nat) (a : Int) (ha : I64o a) : Tryd.prog.keyLits (d + 1) 3 [.int .i64 a] = some [.int .i64 a] := by
  unfold Program.keyLits
  rw [Tryd.underlying3]
  simp [show (Lit.int .i64 a).wf = true from ha]
theorem arr_lits (d : Nat) (a b c : Int) (ha : I64o a) (hb : I64o b) (hc : I64o c) : Tryd.prog.keyLits (d + 2) 44 [.int .i64 a, .int .i64 b, .int .i64 c] = some [.int .i64 a, .int .i64 b, .int .i64 c] := by
  unfold Program.keyLits
  rw [Tryd.underlying44]
  simp only [arCells, oneCell, List.length_cons, List.length_nil, if_true]
  have e : List.range 3 = [0, 1, 2] := rfl
  rw [e]
  simp [int_lits d a ha, int_lits d b hb, int_lits d c hc]
def keyT (x : Tm) : Lit := .string (keyBytes [.int .i64 x.op, .int .i64 x.v, .int .i64 x.a, .int .i64 x.b, .int .i64 x.c])
theorem tm_lits (d : Nat) (x : Tm) (h : TmOk x) : Tryd.prog.keyLits (d + 3) 46 (tcs x) = some [.int .i64 x.op, .int .i64 x.v, .int .i64 x.a, .int .i64 x.b, .int .i64 x.c] := by
  unfold Program.keyLits tcs
  rw [Tryd.underlying46]
  simp [tmCells, oneCell, arCells, int_lits (d + 1) _ h.op, int_lits (d + 1) _ h.v, arr_lits d _ _ _ h.a h.b h.c]
theorem tm_keyOf {x : Tm} (h : TmOk x) : keyOf Tryd.prog 46 (.agg #[.int .i64 x.op, .int .i64 x.v, .int .i64 x.a, .int .i64 x.b, .int .i64 x.c]) = some (keyT x) := by
  obtain ⟨m, hm⟩ := tmTypes
  have hl := tm_lits (m + 1) x h
  unfold keyOf
  rw [Tryd.underlying46]
  have hf : (Value.agg #[.int .i64 x.op, .int .i64 x.v, .int .i64 x.a, .int .i64 x.b, .int .i64 x.c]).formed Tryd.prog 46 = true := by simp [Value.formed, Tryd.underlying46, tmCells]
  simp only [tmDeep, hf, Bool.and_self, if_true]
  rw [hm, show m + 3 + 1 = m + 1 + 3 from rfl]
  have hc : (Value.agg #[.int .i64 x.op, .int .i64 x.v, .int .i64 x.a, .int .i64 x.b, .int .i64 x.c]).cells.toList = tcs x := rfl
  rw [hc, hl]
  rfl
theorem key_inj {x y : Tm} (hx : TmOk x) (hy : TmOk y) (h : keyT x = keyT y) : x = y := by
  have e := tmLaw.inj (tm_keyOf hx) (by rw [h]; exact tm_keyOf hy)
  simp at e
  exact Tm.ext' e.1 e.2.1 e.2.2.1 e.2.2.2.1 e.2.2.2.2
theorem intZero (w : World) : (zeroValue 3).run Tryd.prog w = .ok (.int .i64 0) w := by kernel_rfl

/-- the numbers of nodes, by their keys -/
def numK (l : List Tm) : Nat → DataW Unit
  | 0 => .map []
  | k + 1 => match l[k]? with
    | none => numK l k
    | some x => (numK l k).put (keyT x) (.lit (.int .i64 (k : Int)))
def numD (l : List Tm) : DataW Unit := numK l l.length
theorem numK_append (l m : List Tm) : ∀ k, k ≤ l.length → numK (l ++ m) k = numK l k := by
  intro k
  induction k with
  | zero => intro _; rfl
  | succ k ih =>
    intro hk
    simp only [numK]
    rw [List.getElem?_append_left (by omega), ih (by omega)]
theorem numD_snoc (l : List Tm) (x : Tm) : numD (l ++ [x]) = (numD l).put (keyT x) (.lit (.int .i64 (l.length : Int))) := by
  unfold numD
  rw [List.length_append, List.length_singleton]
  show (match (l ++ [x])[l.length]? with | none => _ | some x => _) = _
  rw [List.getElem?_append_right (by omega), Nat.sub_self, numK_append l [x] l.length (by omega)]
  rfl
theorem numK_map (l : List Tm) : ∀ k, IsMap (numK l k) := by
  intro k
  induction k with
  | zero => exact isMap_empty
  | succ k ih =>
    simp only [numK]
    split
    · exact ih
    · exact ih.put _ _
theorem numK_miss {l : List Tm} (hok : ∀ x ∈ l, TmOk x) {x : Tm} (hx : TmOk x) (hn : x ∉ l) (z : DataW Unit) : ∀ k, k ≤ l.length → (numK l k).atKey (keyT x) z = z := by
  intro k
  induction k with
  | zero => intro _; rfl
  | succ k ih =>
    intro hk
    simp only [numK, List.getElem?_eq_getElem (show k < l.length by omega)]
    rw [Maps.atKey_put_other (fun e => hn (by rw [key_inj hx (hok _ (List.getElem_mem _)) e]; exact List.getElem_mem _)), ih (by omega)]
theorem numK_hit {l : List Tm} (hok : ∀ x ∈ l, TmOk x) (hnd : l.Nodup) {i : Nat} (hi : i < l.length) (z : DataW Unit) : ∀ k, i < k → k ≤ l.length → (numK l k).atKey (keyT l[i]) z = .lit (.int .i64 (i : Int)) := by
  intro k
  induction k with
  | zero => intro h; omega
  | succ k ih =>
    intro h1 hk
    simp only [numK, List.getElem?_eq_getElem (show k < l.length by omega)]
    by_cases e : i = k
    · subst e
      exact Maps.atKey_put_same (numK_map l i) (tmLaw.key (tm_keyOf (hok _ (List.getElem_mem hi)))) _ _
    · have hne : l[i] ≠ l[k]'(by omega) := List.pairwise_iff_getElem.1 hnd i k hi (by omega) (by omega)
      rw [Maps.atKey_put_other (fun e2 => hne (key_inj (hok _ (List.getElem_mem _)) (hok _ (List.getElem_mem _)) e2)), ih (by omega) (by omega)]

/-- a table as it lies in memory: its box, the map of the numbers, the row of nodes -/
structure Tab (w : World) (n₀ tb mb : Nat) (rv : Value) (W : Int) (l : List Tm) : Prop where
  box : w.heap[tb]? = some (.cells #[.int .i64 W, rv, .map (some mb)] 57 (0, 0))
  row : TOwn w n₀ rv l
  map : w.ownsMap Tryd.prog 46 (plainElem (H := Unit) Tryd.prog 3) mb l.length (numD l)
  lo : n₀ ≤ tb ∧ n₀ ≤ mb
  tb : TbOk W l
  few : l.length ≤ 1000
  tm : ∀ x ∈ l, TmOk x
/-- the table's own blocks -/
def Own (tb mb : Nat) (rv : Value) (k : Nat) : Prop := k = tb ∨ k = mb ∨ rv.ownBlock = some k
theorem Tab.lt {w : World} {n₀ tb mb : Nat} {rv : Value} {W : Int} {l : List Tm} (h : Tab w n₀ tb mb rv W l) {k : Nat} (hk : Own tb mb rv k) : n₀ ≤ k ∧ k < w.heap.size := by
  rcases hk with rfl | rfl | hk
  · exact ⟨h.lo.1, hlt h.box⟩
  · exact ⟨h.lo.2, h.map.lt⟩
  · exact h.row.lt k hk
theorem Tab.stays {w w' : World} {n₀ tb mb : Nat} {rv : Value} {W : Int} {l : List Tm} (h : Tab w n₀ tb mb rv W l) (hb : ∀ k, Own tb mb rv k → w'.heap[k]? = w.heap[k]?) : Tab w' n₀ tb mb rv W l := by
  refine ⟨(hb tb (.inl rfl)).trans h.box, own_stays h.row fun b e => hb b (.inr (.inr e)), ?_, h.lo, h.tb, h.few, h.tm⟩
  obtain ⟨es, clock, hb0, F, hs, hD⟩ := h.map
  exact ⟨es, clock, (hb mb (.inr (.inl rfl))).trans hb0, F, hs, hD⟩
theorem Tab.later {w w' : World} {n₀ tb mb : Nat} {rv : Value} {W : Int} {l : List Tm} (h : Tab w n₀ tb mb rv W l) (hb : Below w.heap.size w w') : Tab w' n₀ tb mb rv W l := h.stays fun k hk => hb.block k (h.lt hk).2
theorem Tab.form {w : World} {n₀ tb mb : Nat} {rv : Value} {W : Int} {l : List Tm} (h : Tab w n₀ tb mb rv W l) : ∃ A c, rv = .slice A l.length c ∧ l.length ≤ c ∧ TRow w A l ∧ (∀ a, A = some a → rv.ownBlock = some a.block) := h.row.form
/-- what the map answers -/
theorem Tab.look {w : World} {n₀ tb mb : Nat} {rv : Value} {W : Int} {l : List Tm} (h : Tab w n₀ tb mb rv W l) {x : Tm} (hx : TmOk x) :
    (Instr.lookup 55 (.map (some mb)) (.agg #[.int .i64 x.op, .int .i64 x.v, .int .i64 x.a, .int .i64 x.b, .int .i64 x.c]) true).run Tryd.prog w = .ok (.tuple #[.int .i64 (match idx l x with | some i => (i : Int) | none => 0), .bool (idx l x).isSome]) w := by
  obtain ⟨es, clock, hb, F, hs, hD⟩ := h.map
  have hz := intZero w
  rcases Maps.fit_look true tmLaw Tryd.underlying55 hz hb F (tm_keyOf hx) with ⟨hrun, _, hat⟩ | ⟨e0, y, _, _, hrun, hRv, hat, _⟩
  · rw [← hD] at hat
    cases hi : idx l x with
    | none => rw [hrun]; rfl
    | some i =>
      obtain ⟨hi', hxi, _⟩ := idx_some hi
      have := numK_hit h.tm h.tb.nd hi' .nil l.length hi' (Nat.le_refl _)
      rw [hxi] at this
      rw [show numK l l.length = numD l from rfl, hat] at this
      cases this
  · rw [← hD] at hat
    cases hi : idx l x with
    | none =>
      have h1 := numK_miss h.tm hx (idx_none hi) .nil l.length (Nat.le_refl _)
      have h2 := numK_miss h.tm hx (idx_none hi) (.lit (.bool true)) l.length (Nat.le_refl _)
      rw [show numK l l.length = numD l from rfl, hat] at h1 h2
      rw [h1] at h2
      cases h2
    | some i =>
      obtain ⟨hi', hxi, _⟩ := idx_some hi
      have h1 := numK_hit h.tm h.tb.nd hi' .nil l.length hi' (Nat.le_refl _)
      rw [hxi, show numK l l.length = numD l from rfl, hat] at h1
      obtain ⟨a, he, hy, _⟩ := plainElem_int_inv Tryd.underlying3 hRv
      rw [hy] at h1
      simp only [DataW.lit.injEq, Lit.int.injEq, true_and] at h1
      rw [hrun, he, h1]
      rfl
end Go.Proofs.YtjgkcicgjnjepaaDoor
