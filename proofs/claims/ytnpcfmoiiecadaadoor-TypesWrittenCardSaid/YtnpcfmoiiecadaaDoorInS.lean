/- What is proved: trees that lie in blocks of a set; trees without their addresses. -/
import Derived.Test.YtnpcfmoiiecadaaDoorTreeBase
import Derived.Laws.MakeOwn
import Derived.Deep.RegionHeld3
import Derived.Deep.AppendLies
set_option linter.unusedVariables false
namespace Go.Proofs.YtnpcfmoiiecadaaDoor
open Go.RowKit

theorem infoNode : (Tryd.prog.info? 31).map (fun i => (i.zero, i.size, i.bytes)) = some (some (.agg #[.int .i64 0, .string ⟨#[]⟩, .int .i64 0, .int .i64 0, .slice none 0 0]), 5, 64) := by kernel_rfl

/-- the cells of nodes -/
def ncells : List NT → List Value
  | [] => []
  | n :: ns => .int .i64 n.kind :: .string n.text :: .int .i64 n.lo :: .int .i64 n.hi :: .slice n.A n.kids.length n.c :: ncells ns
theorem ncells_append (l m : List NT) : ncells (l ++ m) = ncells l ++ ncells m := by
  induction l with
  | nil => rfl
  | cons r rs ih => simp [ncells, ih]
theorem ncells_len (l : List NT) : (ncells l).length = l.length * 5 := by
  induction l with
  | nil => rfl
  | cons r rs ih => simp [ncells, ih]; omega
theorem ncells_one (l : List NT) : ∀ u ∈ ncells l, u.oneCell' = true := by
  induction l with
  | nil => simp [ncells]
  | cons r rs ih =>
    intro u hu
    simp only [ncells, List.mem_cons] at hu
    rcases hu with rfl | rfl | rfl | rfl | rfl | hu
    · rfl
    · rfl
    · rfl
    · rfl
    · rfl
    · exact ih u hu
theorem ncells_get (l : List NT) : ∀ (i : Nat) (h : i < l.length), (ncells l)[i * 5]? = some (.int .i64 l[i].kind) ∧ (ncells l)[i * 5 + 1]? = some (.string l[i].text) ∧ (ncells l)[i * 5 + 2]? = some (.int .i64 l[i].lo) ∧ (ncells l)[i * 5 + 3]? = some (.int .i64 l[i].hi) ∧ (ncells l)[i * 5 + 4]? = some (.slice l[i].A l[i].kids.length l[i].c) := by
  induction l with
  | nil => intro i h; simp at h
  | cons r rs ih =>
    intro i h
    cases i with
    | zero => simp [ncells]
    | succ i =>
      have h' := ih i (by simpa using h)
      rw [show (i + 1) * 5 = i * 5 + 5 from by omega]
      simpa [ncells] using h'
theorem addr_add (g k : Nat) : (⟨g, 0, none⟩ : Addr).add k = ⟨g, 0 + k, none⟩ := by
  unfold Addr.add
  by_cases hk : k = 0
  · simp [hk]
  · simp [hk]

/-- a row of its own that holds nodes reads as they -/
theorem nodes_own {w : World} {B : Nat} {v : Value} {l : List NT} (h : w.ownsRow B 31 5 v l.length (ncells l)) : ∃ A c, v = .slice A l.length c ∧ Row w.heap.size w A l := by
  rcases Nat.eq_zero_or_pos l.length with h0 | h0
  · rcases h.2 with ⟨rfl, _⟩ | ⟨g, cap, cur, rfl, _⟩
    · exact ⟨none, 0, by rw [h0], fun hh => by omega⟩
    · exact ⟨_, _, rfl, fun hh => by omega⟩
  · obtain ⟨g, cap, hv, _, hlt⟩ := h.form h0
    refine ⟨some ⟨g, 0, none⟩, cap, hv, fun _ => ⟨g, 0, rfl, hlt, fun i hi => ?_⟩⟩
    have hc := h.cells (g := g) (by rw [hv]; rfl)
    obtain ⟨e1, e2, e3, e4, e5⟩ := ncells_get l i hi
    have a1 := hc _ _ e1
    have a2 := hc _ _ e2
    have a3 := hc _ _ e3
    have a4 := hc _ _ e4
    have a5 := hc _ _ e5
    rw [addr_add] at a1 a2 a3 a4 a5
    exact ⟨a1, a2, a3, a4, a5⟩
theorem own_below {w w' : World} {B n sz : Nat} {E : TypeId} {v : Value} {xs : List Value} (h : w.ownsRow B E sz v n xs) (hb : Below w.heap.size w w') : w'.ownsRow B E sz v n xs :=
  h.kept (row := none) ⟨hb.os, hb.tape, hb.output, hb.size, fun k hk _ => hb.block k hk⟩ (by
    cases hv : v.ownBlock with
    | none => exact .inl rfl
    | some g => exact .inr (by simp))
theorem own_base {w : World} {B B' n sz : Nat} {E : TypeId} {v : Value} {xs : List Value} (hB : B' ≤ B) (h : w.ownsRow B E sz v n xs) : w.ownsRow B' E sz v n xs := by
  refine ⟨h.1, ?_⟩
  rcases h.2 with h0 | ⟨g, cap, cur, hv, hb, hr⟩
  · exact .inl h0
  · exact .inr ⟨g, cap, cur, hv, by omega, hr⟩
/-- a block of five new cells is a row of one node -/
theorem own_one (w : World) (n : NT) (B : Nat) (hB : B ≤ w.heap.size) : (w.alloc (.cells #[.int .i64 n.kind, .string n.text, .int .i64 n.lo, .int .i64 n.hi, .slice n.A n.kids.length n.c] 31)).ownsRow B 31 5 (.slice (some ⟨w.heap.size, 0, none⟩) 1 1) 1 (ncells [n]) :=
  ⟨by simp [ncells], .inr ⟨w.heap.size, 1, #[.int .i64 n.kind, .string n.text, .int .i64 n.lo, .int .i64 n.hi, .slice n.A n.kids.length n.c], rfl, hB, heap_alloc_new w _, Nat.le_refl _, by unfold maxLen; omega, rfl, rfl⟩⟩

/-- at most so many nodes, with short texts -/
def shortB (l : List NT) : Bool := l.all fun x => decide (x.text.size ≤ 60)
def smallB (n : NT) (m : Int) : Bool := shortB (NT.nds n) && decide ((NT.cnt n : Int) ≤ m)
theorem short_take {l : List NT} {k : Nat} (h : shortB (l.take k) = true) (hk : k < l.length) (hx : ¬ 60 < l[k].text.size) : shortB (l.take (k + 1)) = true := by
  rw [List.take_succ_eq_append_getElem hk]
  unfold shortB at *
  rw [List.all_append, h]
  simpa using by omega
theorem short_not {l : List NT} {k : Nat} (hk : k < l.length) (hx : 60 < l[k].text.size) : shortB l = false := by
  unfold shortB
  rw [List.all_eq_false]
  exact ⟨l[k], List.getElem_mem hk, by simpa using hx⟩

end Go.Proofs.YtnpcfmoiiecadaaDoor
set_option linter.unusedVariables false
namespace Go.Proofs.YtnpcfmoiiecadaaDoor
open Go.RowKit

namespace NT
mutual
/-- a tree without its addresses -/
def strip : NT → NT
  | mk k t l h _ _ ks => mk k t l h none 0 (strips ks)
def strips : List NT → List NT
  | [] => []
  | k :: ks => strip k :: strips ks
end
theorem strips_map (l : List NT) : strips l = l.map strip := by
  induction l with
  | nil => rfl
  | cons x xs ih => simp [strips, ih]
theorem strip_eq (n : NT) : strip n = mk n.kind n.text n.lo n.hi none 0 (n.kids.map strip) := by cases n; simp [strip, strips_map, kind, text, lo, hi, kids]
theorem strip_iff (m n : NT) : strip m = strip n ↔ m.kind = n.kind ∧ m.text = n.text ∧ m.lo = n.lo ∧ m.hi = n.hi ∧ m.kids.map strip = n.kids.map strip := by
  rw [strip_eq, strip_eq n]; simp
theorem strip_kids_len {m n : NT} (h : strip m = strip n) : m.kids.length = n.kids.length := by
  have := congrArg List.length ((strip_iff m n).1 h).2.2.2.2
  simpa using this
theorem strip_kid {m n : NT} (h : strip m = strip n) (i : Nat) (h1 : i < m.kids.length) (h2 : i < n.kids.length) : strip m.kids[i] = strip n.kids[i] := by
  have e := ((strip_iff m n).1 h).2.2.2.2
  have := congrArg (fun l => l[i]?) e
  simpa [List.getElem?_eq_getElem h1, List.getElem?_eq_getElem h2] using this
theorem cnts_strip (l : List NT) (h : ∀ k ∈ l, cnt (strip k) = cnt k) : cnts (l.map strip) = cnts l := by
  induction l with
  | nil => rfl
  | cons x xs ih => simp [cnts, h x (by simp), ih (fun k hk => h k (by simp [hk]))]
theorem cnt_strip : ∀ n : NT, cnt (strip n) = cnt n := ind fun n ih => by
  have h := cnts_strip n.kids ih
  rw [strip_eq, cnt_eq, cnt_eq n, ← h]; rfl
theorem cnt_of_strip {m n : NT} (h : strip m = strip n) : cnt m = cnt n := by rw [← cnt_strip m, h, cnt_strip]
theorem cnts_of_strip {l m : List NT} (h : l.map strip = m.map strip) : cnts l = cnts m := by
  rw [← cnts_strip l (fun k _ => cnt_strip k), h, cnts_strip m (fun k _ => cnt_strip k)]
end NT

/-- a slice's address, nil or not, in a block of the set, where the cells of these nodes lie -/
def RowS (S : Nat → Prop) (w : World) (A : Option Addr) (l : List NT) : Prop :=
  0 < l.length → ∃ b off, A = some ⟨b, off, none⟩ ∧ S b ∧ ∀ (i : Nat) (h : i < l.length), Cells5 w b (off + i * 5) l[i]
/-- the blocks of the set hold what they held -/
def KeepS (S : Nat → Prop) (w w' : World) : Prop := ∀ b, S b → w'.heap[b]? = w.heap[b]?
theorem KeepS.cell {S : Nat → Prop} {w w' : World} (h : KeepS S w w') {p : Addr} (hb : S p.block) : w'.cell? p = w.cell? p := World.cell?_of_block (h p.block hb)
theorem KeepS.of_below {S : Nat → Prop} {w w' : World} {B : Nat} (h : Below B w w') (hS : ∀ b, S b → b < B) : KeepS S w w' := fun b hb => h.block b (hS b hb)
theorem RowS.keep {S : Nat → Prop} {w w' : World} {A : Option Addr} {l : List NT} (h : RowS S w A l) (hk : KeepS S w w') : RowS S w' A l := fun h0 => by
  obtain ⟨b, off, hA, hS, hc⟩ := h h0
  refine ⟨b, off, hA, hS, fun i hi => ?_⟩
  obtain ⟨h0, h1, h2, h3, h4⟩ := hc i hi
  exact ⟨(hk.cell (p := ⟨b, off + i * 5, none⟩) hS).trans h0, (hk.cell (p := ⟨b, off + i * 5 + 1, none⟩) hS).trans h1, (hk.cell (p := ⟨b, off + i * 5 + 2, none⟩) hS).trans h2, (hk.cell (p := ⟨b, off + i * 5 + 3, none⟩) hS).trans h3, (hk.cell (p := ⟨b, off + i * 5 + 4, none⟩) hS).trans h4⟩
theorem RowS.mono {S T : Nat → Prop} {w : World} {A : Option Addr} {l : List NT} (h : RowS S w A l) (hs : ∀ b, S b → T b) : RowS T w A l := fun h0 => by
  obtain ⟨b, off, hA, hS, hc⟩ := h h0
  exact ⟨b, off, hA, hs b hS, hc⟩
mutual
/-- all below a node lies in blocks of the set -/
def InS (S : Nat → Prop) (w : World) : NT → Prop
  | .mk _ _ _ _ A c ks => RowS S w A ks ∧ ks.length ≤ c ∧ InSs S w ks
def InSs (S : Nat → Prop) (w : World) : List NT → Prop
  | [] => True
  | k :: ks => InS S w k ∧ InSs S w ks
end
theorem inSs_iff {S : Nat → Prop} {w : World} (l : List NT) : InSs S w l ↔ ∀ k ∈ l, InS S w k := by
  induction l with
  | nil => simp [InSs]
  | cons x xs ih => simp [InSs, ih]
theorem inS_iff {S : Nat → Prop} {w : World} (n : NT) : InS S w n ↔ RowS S w n.A n.kids ∧ n.kids.length ≤ n.c ∧ ∀ k ∈ n.kids, InS S w k := by
  cases n; simp [InS, NT.A, NT.kids, NT.c, inSs_iff]
theorem InS.keep {S : Nat → Prop} {w w' : World} (hk : KeepS S w w') : ∀ n : NT, InS S w n → InS S w' n := NT.ind fun n ih h => by
  obtain ⟨h1, h2, h3⟩ := (inS_iff n).1 h
  exact (inS_iff n).2 ⟨h1.keep hk, h2, fun k hm => ih k hm (h3 k hm)⟩
theorem InS.mono {S T : Nat → Prop} {w : World} (hs : ∀ b, S b → T b) : ∀ n : NT, InS S w n → InS T w n := NT.ind fun n ih h => by
  obtain ⟨h1, h2, h3⟩ := (inS_iff n).1 h
  exact (inS_iff n).2 ⟨h1.mono hs, h2, fun k hm => ih k hm (h3 k hm)⟩
theorem inS_inT {n₀ : Nat} {w : World} : ∀ n : NT, InS (fun b => b < n₀) w n → InT n₀ w n := NT.ind fun n ih h => by
  obtain ⟨h1, h2, h3⟩ := (inS_iff n).1 h
  exact (inT_iff n).2 ⟨h1, h2, fun k hm => ih k hm (h3 k hm)⟩
theorem inT_inS {n₀ : Nat} {w : World} : ∀ n : NT, InT n₀ w n → InS (fun b => b < n₀) w n := NT.ind fun n ih h => by
  obtain ⟨h1, h2, h3⟩ := (inT_iff n).1 h
  exact (inS_iff n).2 ⟨h1, h2, fun k hm => ih k hm (h3 k hm)⟩
/-- the blocks that were laid between two worlds -/
def Fresh (w w' : World) (b : Nat) : Prop := w.heap.size ≤ b ∧ b < w'.heap.size
theorem fresh_inT {w w' : World} {n : NT} (h : InS (Fresh w w') w' n) : InT w'.heap.size w' n := inS_inT n (InS.mono (fun b hb => hb.2) n h)

/-- a row of its own that holds nodes: where it lies -/
theorem nodes_ownS {w : World} {B : Nat} {v : Value} {l : List NT} (h : w.ownsRow B 31 5 v l.length (ncells l)) : ∃ A c, v = .slice A l.length c ∧ l.length ≤ c ∧ RowS (fun b => v.ownBlock = some b) w A l := by
  rcases Nat.eq_zero_or_pos l.length with h0 | h0
  · rcases h.2 with ⟨rfl, _⟩ | ⟨g, cap, cur, rfl, _, _, hc, _⟩
    · exact ⟨none, 0, by rw [h0], by omega, fun hh => by omega⟩
    · exact ⟨_, _, rfl, hc, fun hh => by omega⟩
  · rcases h.2 with ⟨_, h1⟩ | ⟨g, cap, cur, hv, hB, hg, hc, _⟩
    · omega
    · refine ⟨some ⟨g, 0, none⟩, cap, hv, hc, fun _ => ⟨g, 0, rfl, by rw [hv]; rfl, fun i hi => ?_⟩⟩
      have hcs := h.cells (g := g) (by rw [hv]; rfl)
      obtain ⟨e1, e2, e3, e4, e5⟩ := ncells_get l i hi
      have a1 := hcs _ _ e1
      have a2 := hcs _ _ e2
      have a3 := hcs _ _ e3
      have a4 := hcs _ _ e4
      have a5 := hcs _ _ e5
      rw [addr_add] at a1 a2 a3 a4 a5
      exact ⟨a1, a2, a3, a4, a5⟩
end Go.Proofs.YtnpcfmoiiecadaaDoor
