/- What is proved: gates, slices of gates, circuits as they lie in memory; maps with gates as keys; nothing of the program's functions. -/
import Derived.Test.YtbcabnbgkicfdaaBvBase
import Derived.Test.YtbcabnbgkicfdaaGaCn
import Derived.Maps.Own
import Derived.Maps.Views
import Derived.WideKeyArr
set_option linter.unusedVariables false
namespace Go.Proofs.Ytbcabnbgkicfdaa
open Go.RowKit Go.Maps Go.WideMaps

def I64o (a : Int) : Prop := (Lit.int .i64 a).wf = true
structure GtOk (x : Gt) : Prop where
  hx : I64o x.x
  hy : I64o x.y
theorem i64o_of {a : Int} (h : -9223372036854775808 ≤ a ∧ a < 9223372036854775808) : I64o a := WalkArith.wf_i64 (by omega)
theorem infoGt : (Try.prog.info? 76).map (fun i => (i.zero, i.size, i.bytes)) = some (some (.agg #[.int .i64 0, .int .i64 0]), 2, 16) := by kernel_rfl

/-- a gate's cells -/
def gcs (x : Gt) : List Value := [.int .i64 x.x, .int .i64 x.y]
def GCells (w : World) (b o : Nat) (x : Gt) : Prop := w.cell? ⟨b, o, none⟩ = some (.int .i64 x.x) ∧ w.cell? ⟨b, o + 1, none⟩ = some (.int .i64 x.y)
theorem GCells.eq {w w' : World} {b o : Nat} {x : Gt} (h : GCells w b o x) (hb : w'.heap[b]? = w.heap[b]?) : GCells w' b o x :=
  ⟨(World.cell?_of_block (a := ⟨b, o, none⟩) hb).trans h.1, (World.cell?_of_block (a := ⟨b, o + 1, none⟩) hb).trans h.2⟩
/-- a slice of gates, in block g (if there are any) -/
def GRow (w : World) (A : Option Addr) (l : List Gt) : Prop :=
  0 < l.length → ∃ b off, A = some ⟨b, off, none⟩ ∧ b < w.heap.size ∧ ∀ (i : Nat) (h : i < l.length), GCells w b (off + i * 2) l[i]
theorem GRow.nil (w : World) (A : Option Addr) : GRow w A [] := fun h => by simp at h
theorem GRow.stays {w w' : World} {A : Option Addr} {l : List Gt} (h : GRow w A l) (hs : w.heap.size ≤ w'.heap.size) (hb : ∀ a, A = some a → a.block < w.heap.size → w'.heap[a.block]? = w.heap[a.block]?) : GRow w' A l := fun h0 => by
  obtain ⟨b, off, hA, hlt, hc⟩ := h h0
  exact ⟨b, off, hA, by omega, fun i hi => (hc i hi).eq (hb _ hA hlt)⟩
theorem GRow.later {w w' : World} {A : Option Addr} {l : List Gt} (h : GRow w A l) (hb : Below w.heap.size w w') : GRow w' A l := h.stays hb.size fun a _ hl => hb.block _ hl
theorem GRow.at {w : World} {A : Option Addr} {l : List Gt} (h : GRow w A l) {i : Nat} (hi : i < l.length) : ∃ b off, A = some ⟨b, off, none⟩ ∧ b < w.heap.size ∧ GCells w b (off + i * 2) l[i] := by
  obtain ⟨b, off, hA, hlt, hc⟩ := h (by omega)
  exact ⟨b, off, hA, hlt, hc i hi⟩
theorem GRow.pre {w : World} {A : Option Addr} {l m : List Gt} (h : GRow w A (l ++ m)) : GRow w A l := fun h0 => by
  obtain ⟨b, off, hA, hlt, hc⟩ := h (by simp; omega)
  exact ⟨b, off, hA, hlt, fun i hi => by have := hc i (by simp; omega); rw [List.getElem_append_left hi] at this; exact this⟩

/-- a variable that holds a gate -/
def GBox (w : World) (b : Nat) (x : Gt) : Prop := w.heap[b]? = some (.cells #[.int .i64 x.x, .int .i64 x.y] 76 (0, 0))
theorem GBox.cells {w : World} {b : Nat} {x : Gt} (h : GBox w b x) : w.cell? ⟨b, 0, none⟩ = some (.int .i64 x.x) ∧ w.cell? ⟨b, 1, none⟩ = some (.int .i64 x.y) := ⟨Lib.cell_of_heap h 0, Lib.cell_of_heap h 1⟩
theorem GBox.later {w w' : World} {b : Nat} {x : Gt} (h : GBox w b x) (hb : Below w.heap.size w w') : GBox w' b x := (hb.block b (hlt h)).trans h
theorem GBox.new (w : World) (x : Gt) : GBox (w.alloc (.cells #[.int .i64 x.x, .int .i64 x.y] 76)) w.heap.size x := heap_alloc_new w _

/-- a variable that holds a circuit -/
def CBx (w : World) (b : Nat) (I : Int) (A : Option Addr) (n c : Nat) : Prop := w.heap[b]? = some (.cells #[.int .i64 I, .slice A n c] 30 (0, 0))
theorem CBx.later {w w' : World} {b : Nat} {I : Int} {A : Option Addr} {n c : Nat} (h : CBx w b I A n c) (hb : Below w.heap.size w w') : CBx w' b I A n c := (hb.block b (hlt h)).trans h
theorem CBx.new (w : World) (I : Int) (A : Option Addr) (n c : Nat) : CBx (w.alloc (.cells #[.int .i64 I, .slice A n c] 30)) w.heap.size I A n c := heap_alloc_new w _
theorem CBx.cells {w : World} {b : Nat} {I : Int} {A : Option Addr} {n c : Nat} (h : CBx w b I A n c) : w.cell? ⟨b, 0, none⟩ = some (.int .i64 I) ∧ w.cell? ⟨b, 1, none⟩ = some (.slice A n c) := ⟨Lib.cell_of_heap h 0, Lib.cell_of_heap h 1⟩

/-- the cells of gates -/
def gcl (l : List Gt) : List Value := l.flatMap gcs
theorem gcl_len (l : List Gt) : (gcl l).length = l.length * 2 := by
  induction l with
  | nil => rfl
  | cons x l ih =>
    unfold gcl at *
    simp only [List.flatMap_cons, List.length_append, ih, List.length_cons]
    show 2 + l.length * 2 = _
    omega
theorem gcl_append (l m : List Gt) : gcl (l ++ m) = gcl l ++ gcl m := by simp [gcl]
theorem gcs_one (x : Gt) : ∀ u ∈ gcs x, u.oneCell' = true := by
  intro u hu
  simp only [gcs, List.mem_cons, List.not_mem_nil, or_false] at hu
  rcases hu with h | h <;> rw [h] <;> rfl
theorem gcl_one (l : List Gt) : ∀ u ∈ gcl l, u.oneCell' = true := by
  intro u hu
  obtain ⟨x, _, h⟩ := List.mem_flatMap.1 hu
  exact gcs_one x u h
theorem gcl_get (l : List Gt) : ∀ (i : Nat) (h : i < l.length) (j : Nat), j < 2 → (gcl l)[i * 2 + j]? = (gcs l[i])[j]? := by
  induction l with
  | nil => intro i h; simp at h
  | cons x l ih =>
    intro i h j hj
    have e : gcl (x :: l) = gcs x ++ gcl l := by simp [gcl]
    rw [e]
    cases i with
    | zero =>
      rw [List.getElem?_append_left (by show 0 * 2 + j < 2; omega)]
      simp
    | succ i =>
      rw [List.getElem?_append_right (by show 2 ≤ (i + 1) * 2 + j; omega)]
      rw [show (i + 1) * 2 + j - (gcs x).length = i * 2 + j from by show (i + 1) * 2 + j - 2 = _; omega]
      exact ih i (by simpa using h) j hj
/-- a row of gates that is owned -/
def GOwn (w : World) (B : Nat) (v : Value) (l : List Gt) : Prop := w.ownsRow B 76 2 v l.length (gcl l)
theorem GOwn.form {w : World} {B : Nat} {v : Value} {l : List Gt} (h : GOwn w B v l) : ∃ A c, v = .slice A l.length c ∧ l.length ≤ c ∧ GRow w A l ∧ (∀ a, A = some a → v.ownBlock = some a.block) := by
  rcases h.2 with ⟨rfl, h0⟩ | ⟨g, cap, cur, hv, hB, hg, hn, _⟩
  · exact ⟨none, 0, by rw [h0], by omega, fun hh => by omega, fun a e => by cases e⟩
  · refine ⟨some ⟨g, 0, none⟩, cap, hv, hn, fun _ => ⟨g, 0, rfl, hlt hg, fun i hi => ?_⟩, fun a e => by cases e; rw [hv]; rfl⟩
    have hb : v.ownBlock = some g := by rw [hv]; rfl
    have q : ∀ j, j < 2 → w.cell? ⟨g, 0 + i * 2 + j, none⟩ = (gcs l[i])[j]? := fun j hj => by
      obtain ⟨u, hu⟩ : ∃ u, (gcs l[i])[j]? = some u := ⟨(gcs l[i])[j]'(by show j < 2; exact hj), List.getElem?_eq_getElem _⟩
      have a := World.ownsRow.cells h hb (i * 2 + j) u (by rw [gcl_get l i hi j hj, hu])
      rw [do_add] at a
      rw [Nat.zero_add, a, hu]
    exact ⟨q 0 (by omega), q 1 (by omega)⟩
theorem GOwn.later {w w' : World} {B : Nat} {v : Value} {l : List Gt} (h : GOwn w B v l) (hb : Below w.heap.size w w') : GOwn w' B v l := own_stays h fun b e => hb.block b (own_block' h e).2.1
theorem GOwn.nil (w : World) (B : Nat) : GOwn w B (.slice none 0 0) [] := World.ownsRow_nil _ _ _ _

/-- the key of a gate -/
theorem pairCells : Try.prog.cellsOf 76 = 2 := by kernel_rfl
theorem oneCell : Try.prog.cellsOf 3 = 1 := by kernel_rfl
theorem pairArr : ArrKey Try.prog 76 3 2 := ⟨Try.underlying76, by kernel_rfl, oneCell, pairCells⟩
theorem pairLaw : Keyed Try.prog 76 := Keyed.of_law pairArr.law
theorem pairDeep : Try.prog.keyType 76 = true := by kernel_rfl
theorem typesSize : ∃ m, Try.prog.types.size = m + 2 := ⟨Try.prog.types.size - 2, by have : 2 ≤ Try.prog.types.size := of_decide_eq_true (by kernel_rfl); omega⟩
theorem boolZero (w : World) : (zeroValue 4).run Try.prog w = .ok (.bool false) w := by kernel_rfl
theorem intZero (w : World) : (zeroValue 3).run Try.prog w = .ok (.int .i64 0) w := by kernel_rfl
def keyG (x : Gt) : Lit := .string (keyBytes [.int .i64 x.x, .int .i64 x.y])
theorem int_lits (d : Nat) (a : Int) (ha : I64o a) : Try.prog.keyLits (d + 1) 3 [.int .i64 a] = some [.int .i64 a] := by
  unfold Program.keyLits
  rw [Try.underlying3]
  simp [show (Lit.int .i64 a).wf = true from ha]
theorem pair_lits (d : Nat) (x : Gt) (h : GtOk x) : Try.prog.keyLits (d + 2) 76 [.int .i64 x.x, .int .i64 x.y] = some [.int .i64 x.x, .int .i64 x.y] := by
  unfold Program.keyLits
  rw [Try.underlying76]
  simp only [pairCells, oneCell, List.length_cons, List.length_nil, if_true]
  have e : List.range 2 = [0, 1] := rfl
  rw [e]
  simp [int_lits d _ h.hx, int_lits d _ h.hy]
theorem pair_keyOf {x : Gt} (h : GtOk x) : keyOf Try.prog 76 (.agg #[.int .i64 x.x, .int .i64 x.y]) = some (keyG x) := by
  obtain ⟨m, hm⟩ := typesSize
  have hl := pair_lits (m + 1) x h
  unfold keyOf
  rw [Try.underlying76]
  have hf : (.agg #[.int .i64 x.x, .int .i64 x.y] : Value).formed Try.prog 76 = true := by simp [Value.formed, Try.underlying76, pairCells]
  simp only [pairDeep, hf, Bool.and_self, if_true]
  rw [hm, show m + 2 + 1 = m + 1 + 2 from rfl]
  have hc : (.agg #[.int .i64 x.x, .int .i64 x.y] : Value).cells.toList = [.int .i64 x.x, .int .i64 x.y] := rfl
  rw [hc, hl]
  rfl
theorem key_inj {x y : Gt} (hx : GtOk x) (hy : GtOk y) (h : keyG x = keyG y) : x = y := by
  have e := pairLaw.inj (pair_keyOf hx) (by rw [h]; exact pair_keyOf hy)
  simp at e
  exact Gt.ext' e.1 e.2

set_option maxRecDepth 100000 in
theorem bool_inv {v : Value} {z : DataW Unit × List MemPlace} (h : plainElem (H := Unit) Try.prog 4 v = some z) : ∃ x, v = .bool x ∧ z = (.lit (.bool x), []) := by
  unfold plainElem at h
  rw [Try.underlying4] at h
  cases v <;> simp at h
  exact ⟨_, rfl, h.symm⟩
/-- the gates that a map has seen -/
def seenD (gs : List Gt) : Nat → DataW Unit
  | 0 => .map []
  | k + 1 => match gs[k]? with
    | none => seenD gs k
    | some g => (seenD gs k).put (keyG g) (.lit (.bool true))
theorem seen_map (gs : List Gt) : ∀ k, IsMap (seenD gs k) := by
  intro k
  induction k with
  | zero => exact isMap_empty
  | succ k ih =>
    simp only [seenD]
    split
    · exact ih
    · exact ih.put _ _
theorem seen_miss {gs : List Gt} (hok : ∀ x ∈ gs, GtOk x) {x : Gt} (hx : GtOk x) (z : DataW Unit) : ∀ k, k ≤ gs.length → x ∉ gs.take k → (seenD gs k).atKey (keyG x) z = z := by
  intro k
  induction k with
  | zero => intro _ _; rfl
  | succ k ih =>
    intro hk hn
    simp only [seenD, List.getElem?_eq_getElem (show k < gs.length by omega)]
    rw [List.take_succ_eq_append_getElem (by omega)] at hn
    simp only [List.mem_append, List.mem_singleton, not_or] at hn
    rw [Maps.atKey_put_other (fun e => hn.2 (key_inj hx (hok _ (List.getElem_mem _)) e)), ih (by omega) hn.1]
theorem seen_hit {gs : List Gt} (hok : ∀ x ∈ gs, GtOk x) {x : Gt} (hx : GtOk x) (z : DataW Unit) : ∀ k, k ≤ gs.length → x ∈ gs.take k → (seenD gs k).atKey (keyG x) z = .lit (.bool true) := by
  intro k
  induction k with
  | zero => intro _ h; simp at h
  | succ k ih =>
    intro hk hn
    simp only [seenD, List.getElem?_eq_getElem (show k < gs.length by omega)]
    rw [List.take_succ_eq_append_getElem (by omega)] at hn
    by_cases e : x = gs[k]'(by omega)
    · rw [← e]
      exact Maps.atKey_put_same (seen_map gs k) (pairLaw.key (pair_keyOf hx)) _ _
    · simp only [List.mem_append, List.mem_singleton, e, or_false] at hn
      rw [Maps.atKey_put_other (fun e2 => e (key_inj hx (hok _ (List.getElem_mem _)) e2)), ih (by omega) hn]
def Seen (w : World) (b : Nat) (gs : List Gt) (k : Nat) : Prop := w.ownsMap Try.prog 76 (plainElem (H := Unit) Try.prog 4) b k (seenD gs k)
theorem Seen.look {w : World} {b k : Nat} {gs : List Gt} (h : Seen w b gs k) (hok : ∀ x ∈ gs, GtOk x) (hk : k ≤ gs.length) {x : Gt} (hx : GtOk x) :
    (Instr.lookup 97 (.map (some b)) (.agg #[.int .i64 x.x, .int .i64 x.y]) false).run Try.prog w = .ok (.bool (decide (x ∈ gs.take k))) w := by
  obtain ⟨v, ps, hrun, hv⟩ := World.ownsMap.lookup h pairLaw Try.underlying97 (boolZero w) (zd := .lit (.bool false)) (zp := []) (plainElem_bool Try.underlying4 false) (pair_keyOf hx)
  obtain ⟨u, rfl, hu⟩ := bool_inv hv
  by_cases e : x ∈ gs.take k
  · rw [seen_hit hok hx _ k hk e] at hu
    rw [hrun, decide_eq_true e]
    simp at hu
    rw [hu.1]
  · rw [seen_miss hok hx _ k hk e] at hu
    rw [hrun, decide_eq_false e]
    simp at hu
    rw [hu.1]
theorem Seen.made (w : World) (gs : List Gt) : Seen (w.alloc (.map #[] 0)) w.heap.size gs 0 := World.ownsMap_made w Try.prog 76 (plainElem (H := Unit) Try.prog 4)
theorem Seen.below {w w' : World} {b k : Nat} {gs : List Gt} (h : Seen w b gs k) (hb : Below w.heap.size w w') : Seen w' b gs k :=
  World.ownsMap.kept (row := none) h ⟨hb.os, hb.tape, hb.output, hb.size, fun k hk _ => hb.block k hk⟩ (by simp)
theorem Seen.own {w : World} {b k : Nat} {gs : List Gt} (h : Seen w b gs k) : w.ownsMap Try.prog 76 (plainElem (H := Unit) Try.prog 4) b k (seenD gs k) := h
theorem Seen.of {w : World} {b k : Nat} {gs : List Gt} (hk : k < gs.length) (h : w.ownsMap Try.prog 76 (plainElem (H := Unit) Try.prog 4) b (k + 1) ((seenD gs k).put (keyG gs[k]) (.lit (.bool true)))) : Seen w b gs (k + 1) := by
  unfold Seen
  simp only [seenD, List.getElem?_eq_getElem hk]
  exact h

/-- the literals of gates, by their keys -/
def numK (I : Int) (l : List Gt) : Nat → DataW Unit
  | 0 => .map []
  | k + 1 => match l[k]? with
    | none => numK I l k
    | some x => (numK I l k).put (keyG x) (.lit (.int .i64 (2 * (1 + I + (k : Int)))))
def numD (I : Int) (l : List Gt) : DataW Unit := numK I l l.length
theorem numK_append (I : Int) (l m : List Gt) : ∀ k, k ≤ l.length → numK I (l ++ m) k = numK I l k := by
  intro k
  induction k with
  | zero => intro _; rfl
  | succ k ih =>
    intro hk
    simp only [numK]
    rw [List.getElem?_append_left (by omega), ih (by omega)]
theorem numD_snoc (I : Int) (l : List Gt) (x : Gt) : numD I (l ++ [x]) = (numD I l).put (keyG x) (.lit (.int .i64 (2 * (1 + I + (l.length : Int))))) := by
  unfold numD
  rw [List.length_append, List.length_singleton]
  show (match (l ++ [x])[l.length]? with | none => _ | some x => _) = _
  rw [List.getElem?_append_right (by omega), Nat.sub_self, numK_append I l [x] l.length (by omega)]
  rfl
theorem numK_map (I : Int) (l : List Gt) : ∀ k, IsMap (numK I l k) := by
  intro k
  induction k with
  | zero => exact isMap_empty
  | succ k ih =>
    simp only [numK]
    split
    · exact ih
    · exact ih.put _ _
theorem numK_miss {I : Int} {l : List Gt} (hok : ∀ x ∈ l, GtOk x) {x : Gt} (hx : GtOk x) (hn : x ∉ l) (z : DataW Unit) : ∀ k, k ≤ l.length → (numK I l k).atKey (keyG x) z = z := by
  intro k
  induction k with
  | zero => intro _; rfl
  | succ k ih =>
    intro hk
    simp only [numK, List.getElem?_eq_getElem (show k < l.length by omega)]
    rw [Maps.atKey_put_other (fun e => hn (by rw [key_inj hx (hok _ (List.getElem_mem _)) e]; exact List.getElem_mem _)), ih (by omega)]
theorem numK_hit {I : Int} {l : List Gt} (hok : ∀ x ∈ l, GtOk x) (hnd : l.Nodup) {i : Nat} (hi : i < l.length) (z : DataW Unit) : ∀ k, i < k → k ≤ l.length → (numK I l k).atKey (keyG l[i]) z = .lit (.int .i64 (2 * (1 + I + (i : Int)))) := by
  intro k
  induction k with
  | zero => intro h; omega
  | succ k ih =>
    intro h1 hk
    simp only [numK, List.getElem?_eq_getElem (show k < l.length by omega)]
    by_cases e : i = k
    · subst e
      exact Maps.atKey_put_same (numK_map I l i) (pairLaw.key (pair_keyOf (hok _ (List.getElem_mem hi)))) _ _
    · have hne : l[i] ≠ l[k]'(by omega) := List.pairwise_iff_getElem.1 hnd i k hi (by omega) (by omega)
      rw [Maps.atKey_put_other (fun e2 => hne (key_inj (hok _ (List.getElem_mem _)) (hok _ (List.getElem_mem _)) e2)), ih (by omega) (by omega)]
/-- what a map of all gates answers -/
theorem lits_look {w : World} {I : Int} {l : List Gt} {mb n : Nat} (h : w.ownsMap Try.prog 76 (plainElem (H := Unit) Try.prog 3) mb n (numD I l)) (hok : ∀ x ∈ l, GtOk x) (hnd : l.Nodup) {x : Gt} (hx : GtOk x) :
    (Instr.lookup 78 (.map (some mb)) (.agg #[.int .i64 x.x, .int .i64 x.y]) true).run Try.prog w = .ok (.tuple #[.int .i64 (match gix l x with | some i => 2 * (1 + I + (i : Int)) | none => 0), .bool (gix l x).isSome]) w := by
  obtain ⟨es, clock, hb, F, hs, hD⟩ := h
  have hz := intZero w
  rcases Maps.fit_look true pairLaw Try.underlying78 hz hb F (pair_keyOf hx) with ⟨hrun, _, hat⟩ | ⟨e0, y, _, _, hrun, hRv, hat, _⟩
  · rw [← hD] at hat
    cases hi : gix l x with
    | none => rw [hrun]; rfl
    | some i =>
      obtain ⟨hi', hxi, _⟩ := gix_some hi
      have := numK_hit (I := I) hok hnd hi' .nil l.length hi' (Nat.le_refl _)
      rw [hxi] at this
      rw [show numK I l l.length = numD I l from rfl, hat] at this
      cases this
  · rw [← hD] at hat
    cases hi : gix l x with
    | none =>
      have h1 := numK_miss (I := I) hok hx (gix_none hi) .nil l.length (Nat.le_refl _)
      have h2 := numK_miss (I := I) hok hx (gix_none hi) (.lit (.bool true)) l.length (Nat.le_refl _)
      rw [show numK I l l.length = numD I l from rfl, hat] at h1 h2
      rw [h1] at h2
      cases h2
    | some i =>
      obtain ⟨hi', hxi, _⟩ := gix_some hi
      have h1 := numK_hit (I := I) hok hnd hi' .nil l.length hi' (Nat.le_refl _)
      rw [hxi, show numK I l l.length = numD I l from rfl, hat] at h1
      obtain ⟨a, he, hy, _⟩ := plainElem_int_inv Try.underlying3 hRv
      rw [hy] at h1
      simp only [DataW.lit.injEq, Lit.int.injEq, true_and] at h1
      rw [hrun, he, h1]
      rfl
theorem ck_gtOk {I : Int} {gs : List Gt} (h : CkOk I gs) (hn : gs.length ≤ 5000) : ∀ x ∈ gs, GtOk x := by
  intro x hx
  obtain ⟨i, hi, rfl⟩ := List.getElem_of_mem hx
  have := h.ok i hi
  have := h.hi
  exact ⟨i64o_of (by omega), i64o_of (by omega)⟩

/-- a builder as it lies in memory: its box, the map of the literals, the row of gates -/
structure Bld (w : World) (n₀ bb mb : Nat) (rv : Value) (I : Int) (gs : List Gt) (e : Int) : Prop where
  box : w.heap[bb]? = some (.cells #[.int .i64 I, rv, .map (some mb), .int .i64 e] 80 (0, 0))
  row : GOwn w n₀ rv gs
  map : w.ownsMap Try.prog 76 (plainElem (H := Unit) Try.prog 3) mb gs.length (numD I gs)
  lo : n₀ ≤ bb ∧ n₀ ≤ mb
  ck : CkOk I gs
  few : gs.length ≤ 5000
/-- the builder's own blocks -/
def Own (tb mb : Nat) (rv : Value) (k : Nat) : Prop := k = tb ∨ k = mb ∨ rv.ownBlock = some k
section
variable {w w' : World} {n₀ bb mb : Nat} {rv : Value} {I : Int} {gs : List Gt} {e : Int}
theorem Bld.lt (h : Bld w n₀ bb mb rv I gs e) {k : Nat} (hk : Own bb mb rv k) : n₀ ≤ k ∧ k < w.heap.size := by
  rcases hk with rfl | rfl | hk
  · exact ⟨h.lo.1, hlt h.box⟩
  · exact ⟨h.lo.2, h.map.lt⟩
  · exact h.row.lt k hk
theorem Bld.stays (h : Bld w n₀ bb mb rv I gs e) (hb : ∀ k, Own bb mb rv k → w'.heap[k]? = w.heap[k]?) : Bld w' n₀ bb mb rv I gs e := by
  refine ⟨(hb bb (.inl rfl)).trans h.box, own_stays h.row fun b e => hb b (.inr (.inr e)), ?_, h.lo, h.ck, h.few⟩
  obtain ⟨es, clock, hb0, F, hs, hD⟩ := h.map
  exact ⟨es, clock, (hb mb (.inr (.inl rfl))).trans hb0, F, hs, hD⟩
theorem Bld.later (h : Bld w n₀ bb mb rv I gs e) (hb : Below w.heap.size w w') : Bld w' n₀ bb mb rv I gs e := h.stays fun k hk => hb.block k (h.lt hk).2
theorem Bld.form (h : Bld w n₀ bb mb rv I gs e) : ∃ A c, rv = .slice A gs.length c ∧ gs.length ≤ c ∧ GRow w A gs ∧ (∀ a, A = some a → rv.ownBlock = some a.block) := h.row.form
theorem Bld.gt (h : Bld w n₀ bb mb rv I gs e) : ∀ x ∈ gs, GtOk x := ck_gtOk h.ck h.few
theorem Bld.down {n₁ : Nat} (h : Bld w n₀ bb mb rv I gs e) (hn : n₁ ≤ n₀) : Bld w n₁ bb mb rv I gs e := ⟨h.box, own_down h.row hn, h.map, ⟨by have := h.lo.1; omega, by have := h.lo.2; omega⟩, h.ck, h.few⟩
end
end Go.Proofs.Ytbcabnbgkicfdaa
