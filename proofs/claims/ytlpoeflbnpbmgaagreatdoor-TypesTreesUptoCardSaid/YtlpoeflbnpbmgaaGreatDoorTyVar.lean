/- What is proved: variables as they lie in memory. -/
import Derived.Test.YtlpoeflbnpbmgaaGreatDoorTySize
set_option linter.unusedVariables false
namespace Go.Proofs.YtlpoeflbnpbmgaaGreatDoor
open Go.RowKit

/-- a variable -/
structure VarV where
  name : ByteArray
  ty : TyV
  slot : Int
  node : Int
  vr : Bool
  lp : Bool
def VCells (w : World) (b o : Nat) (x : VarV) : Prop :=
  w.cell? ⟨b, o, none⟩ = some (.string x.name) ∧ w.cell? ⟨b, o + 1, none⟩ = some (.int .i64 x.ty.kind) ∧ w.cell? ⟨b, o + 2, none⟩ = some (.int .i64 x.ty.len) ∧ w.cell? ⟨b, o + 3, none⟩ = some (.string x.ty.nm) ∧
    w.cell? ⟨b, o + 4, none⟩ = some (.int .i64 x.slot) ∧ w.cell? ⟨b, o + 5, none⟩ = some (.int .i64 x.node) ∧ w.cell? ⟨b, o + 6, none⟩ = some (.bool x.vr) ∧ w.cell? ⟨b, o + 7, none⟩ = some (.bool x.lp)
def VRow (n₀ : Nat) (w : World) (A : Option Addr) (l : List VarV) : Prop :=
  0 < l.length → ∃ b off, A = some ⟨b, off, none⟩ ∧ b < n₀ ∧ ∀ (i : Nat) (h : i < l.length), VCells w b (off + i * 8) l[i]
theorem VCells.below {w w' : World} {b o B : Nat} {x : VarV} (h : VCells w b o x) (hb : Below B w w') (hlt : b < B) : VCells w' b o x :=
  ⟨(hb.cell (p := ⟨b, o, none⟩) hlt).trans h.1, (hb.cell (p := ⟨b, o + 1, none⟩) hlt).trans h.2.1, (hb.cell (p := ⟨b, o + 2, none⟩) hlt).trans h.2.2.1, (hb.cell (p := ⟨b, o + 3, none⟩) hlt).trans h.2.2.2.1,
    (hb.cell (p := ⟨b, o + 4, none⟩) hlt).trans h.2.2.2.2.1, (hb.cell (p := ⟨b, o + 5, none⟩) hlt).trans h.2.2.2.2.2.1, (hb.cell (p := ⟨b, o + 6, none⟩) hlt).trans h.2.2.2.2.2.2.1, (hb.cell (p := ⟨b, o + 7, none⟩) hlt).trans h.2.2.2.2.2.2.2⟩
theorem VRow.below {n₀ : Nat} {w w' : World} {A : Option Addr} {l : List VarV} (h : VRow n₀ w A l) (hb : Below n₀ w w') : VRow n₀ w' A l := fun h0 => by
  obtain ⟨b, off, e, hlt, hc⟩ := h h0
  exact ⟨b, off, e, hlt, fun i hi => (hc i hi).below hb hlt⟩
theorem VRow.mono {n₀ n₁ : Nat} {w : World} {A : Option Addr} {l : List VarV} (h : VRow n₀ w A l) (hn : n₀ ≤ n₁) : VRow n₁ w A l := fun h0 => by
  obtain ⟨b, off, e, hlt, hc⟩ := h h0
  exact ⟨b, off, e, Nat.lt_of_lt_of_le hlt hn, hc⟩
theorem VRow.later {w w' : World} {A : Option Addr} {l : List VarV} (h : VRow w.heap.size w A l) (hb : Below w.heap.size w w') : VRow w'.heap.size w' A l := (h.below hb).mono hb.size

/-- a variable in a block of its own -/
def VBox (w : World) (b : Nat) (x : VarV) : Prop := w.heap[b]? = some (.cells #[.string x.name, .int .i64 x.ty.kind, .int .i64 x.ty.len, .string x.ty.nm, .int .i64 x.slot, .int .i64 x.node, .bool x.vr, .bool x.lp] 45 (0, 0))
theorem VBox.new (w : World) (x : VarV) : VBox (w.alloc (.cells #[.string x.name, .int .i64 x.ty.kind, .int .i64 x.ty.len, .string x.ty.nm, .int .i64 x.slot, .int .i64 x.node, .bool x.vr, .bool x.lp] 45)) w.heap.size x := heap_alloc_new w _
theorem VBox.below {B b : Nat} {w w' : World} {x : VarV} (h : VBox w b x) (hb : Below B w w') (hlt : b < B) : VBox w' b x := (hb.block _ hlt).trans h
theorem VBox.cells {w : World} {b : Nat} {x : VarV} (h : VBox w b x) : w.cell? ⟨b, 0, none⟩ = some (.string x.name) ∧ w.cell? ⟨b, 1, none⟩ = some (.int .i64 x.ty.kind) ∧ w.cell? ⟨b, 2, none⟩ = some (.int .i64 x.ty.len) ∧ w.cell? ⟨b, 3, none⟩ = some (.string x.ty.nm) ∧
    w.cell? ⟨b, 4, none⟩ = some (.int .i64 x.slot) ∧ w.cell? ⟨b, 5, none⟩ = some (.int .i64 x.node) ∧ w.cell? ⟨b, 6, none⟩ = some (.bool x.vr) ∧ w.cell? ⟨b, 7, none⟩ = some (.bool x.lp) :=
  ⟨Lib.cell_of_heap h 0, Lib.cell_of_heap h 1, Lib.cell_of_heap h 2, Lib.cell_of_heap h 3, Lib.cell_of_heap h 4, Lib.cell_of_heap h 5, Lib.cell_of_heap h 6, Lib.cell_of_heap h 7⟩
theorem VBox.frozen {w : World} {b : Nat} {x : VarV} (h : VBox w b x) (i : Nat) : w.frozen? ⟨b, i, none⟩ = false := hfrz h i
/-- the variable with another slot -/
def VarV.at_ (x : VarV) (s : Int) : VarV := { x with slot := s }
theorem VBox.put {w : World} {b : Nat} {x : VarV} (h : VBox w b x) (s : Int) : VBox (w.setCell ⟨b, 4, none⟩ (.int .i64 s)) b (x.at_ s) := hset h _
theorem box_var (w : World) (x : VarV) : Below w.heap.size w (w.alloc (.cells #[.string x.name, .int .i64 x.ty.kind, .int .i64 x.ty.len, .string x.ty.nm, .int .i64 x.slot, .int .i64 x.node, .bool x.vr, .bool x.lp] 45)) ∧ VBox (w.alloc (.cells #[.string x.name, .int .i64 x.ty.kind, .int .i64 x.ty.len, .string x.ty.nm, .int .i64 x.slot, .int .i64 x.node, .bool x.vr, .bool x.lp] 45)) w.heap.size x ∧ (w.alloc (.cells #[.string x.name, .int .i64 x.ty.kind, .int .i64 x.ty.len, .string x.ty.nm, .int .i64 x.slot, .int .i64 x.node, .bool x.vr, .bool x.lp] 45)).heap.size = w.heap.size + 1 :=
  ⟨(Below.refl _ _).alloc (Nat.le_refl _) _, VBox.new w x, by simp⟩

/-- the cells of variables -/
def vcells : List VarV → List Value
  | [] => []
  | x :: xs => .string x.name :: .int .i64 x.ty.kind :: .int .i64 x.ty.len :: .string x.ty.nm :: .int .i64 x.slot :: .int .i64 x.node :: .bool x.vr :: .bool x.lp :: vcells xs
theorem vcells_append (l m : List VarV) : vcells (l ++ m) = vcells l ++ vcells m := by
  induction l with
  | nil => rfl
  | cons r rs ih => simp [vcells, ih]
theorem vcells_len (l : List VarV) : (vcells l).length = l.length * 8 := by
  induction l with
  | nil => rfl
  | cons r rs ih => simp [vcells, ih]; omega
theorem vcells_one (l : List VarV) : ∀ u ∈ vcells l, u.oneCell' = true := by
  induction l with
  | nil => simp [vcells]
  | cons r rs ih =>
    intro u hu
    simp only [vcells, List.mem_cons] at hu
    rcases hu with rfl | rfl | rfl | rfl | rfl | rfl | rfl | rfl | hu
    · rfl
    · rfl
    · rfl
    · rfl
    · rfl
    · rfl
    · rfl
    · rfl
    · exact ih u hu
theorem vcells_get (l : List VarV) : ∀ (i : Nat) (h : i < l.length), (vcells l)[i * 8]? = some (.string l[i].name) ∧ (vcells l)[i * 8 + 1]? = some (.int .i64 l[i].ty.kind) ∧ (vcells l)[i * 8 + 2]? = some (.int .i64 l[i].ty.len) ∧ (vcells l)[i * 8 + 3]? = some (.string l[i].ty.nm) ∧
    (vcells l)[i * 8 + 4]? = some (.int .i64 l[i].slot) ∧ (vcells l)[i * 8 + 5]? = some (.int .i64 l[i].node) ∧ (vcells l)[i * 8 + 6]? = some (.bool l[i].vr) ∧ (vcells l)[i * 8 + 7]? = some (.bool l[i].lp) := by
  induction l with
  | nil => intro i h; simp at h
  | cons r rs ih =>
    intro i h
    cases i with
    | zero => simp [vcells]
    | succ i =>
      have h' := ih i (by simpa using h)
      rw [show (i + 1) * 8 = i * 8 + 8 from by omega]
      simpa [vcells] using h'
theorem vars_own {w : World} {B : Nat} {v : Value} {l : List VarV} (h : w.ownsRow B 45 8 v l.length (vcells l)) : ∃ A c, v = .slice A l.length c ∧ VRow w.heap.size w A l := by
  rcases Nat.eq_zero_or_pos l.length with h0 | h0
  · rcases h.2 with ⟨rfl, _⟩ | ⟨g, cap, cur, rfl, _⟩
    · exact ⟨none, 0, by rw [h0], fun hh => by omega⟩
    · exact ⟨_, _, rfl, fun hh => by omega⟩
  · obtain ⟨g, cap, hv, _, hlt⟩ := h.form h0
    refine ⟨some ⟨g, 0, none⟩, cap, hv, fun _ => ⟨g, 0, rfl, hlt, fun i hi => ?_⟩⟩
    have hc := h.cells (g := g) (by rw [hv]; rfl)
    obtain ⟨e1, e2, e3, e4, e5, e6, e7, e8⟩ := vcells_get l i hi
    have a1 := hc _ _ e1
    have a2 := hc _ _ e2
    have a3 := hc _ _ e3
    have a4 := hc _ _ e4
    have a5 := hc _ _ e5
    have a6 := hc _ _ e6
    have a7 := hc _ _ e7
    have a8 := hc _ _ e8
    rw [ty_addr_add] at a1 a2 a3 a4 a5 a6 a7 a8
    exact ⟨a1, a2, a3, a4, a5, a6, a7, a8⟩
theorem infoVar : (Tryz.prog.info? 45).map (fun i => (i.zero, i.size, i.bytes)) = some (some (.agg #[.string ⟨#[]⟩, .int .i64 0, .int .i64 0, .string ⟨#[]⟩, .int .i64 0, .int .i64 0, .bool false, .bool false]), 8, 72) := by kernel_rfl

/-- variables with the slots that they have -/
def tot (l : List RcV) (vs : List VarV) : Nat := (vs.map (fun v => szT v.ty l)).sum
def lay (l : List RcV) : List VarV → Nat → List VarV
  | [], _ => []
  | v :: vs, s => v.at_ (s : Int) :: lay l vs (s + szT v.ty l)
theorem lay_len (l : List RcV) (vs : List VarV) : ∀ s, (lay l vs s).length = vs.length := by
  induction vs with
  | nil => intro s; rfl
  | cons v vs ih => intro s; simp [lay, ih]
theorem tot_snoc (l : List RcV) (vs : List VarV) (v : VarV) : tot l (vs ++ [v]) = tot l vs + szT v.ty l := by simp [tot]
theorem lay_snoc (l : List RcV) (vs : List VarV) (v : VarV) : ∀ s, lay l (vs ++ [v]) s = lay l vs s ++ [v.at_ ((s + tot l vs : Nat) : Int)] := by
  induction vs with
  | nil => intro s; simp [lay, tot]
  | cons x xs ih =>
    intro s
    simp only [List.cons_append, lay, ih, tot, List.map_cons, List.sum_cons, Nat.add_assoc]
/-- what is there behind k variables -/
def layK (l : List RcV) (vs : List VarV) (k : Nat) : List VarV := lay l (vs.take k) 0
def totK (l : List RcV) (vs : List VarV) (k : Nat) : Nat := tot l (vs.take k)
theorem layK_zero (l : List RcV) (vs : List VarV) : layK l vs 0 = [] := rfl
theorem totK_zero (l : List RcV) (vs : List VarV) : totK l vs 0 = 0 := rfl
theorem layK_succ (l : List RcV) {vs : List VarV} {k : Nat} (h : k < vs.length) : layK l vs (k + 1) = layK l vs k ++ [vs[k].at_ ((totK l vs k : Nat) : Int)] := by
  unfold layK totK
  rw [List.take_succ_eq_append_getElem h, lay_snoc, Nat.zero_add]
theorem totK_succ (l : List RcV) {vs : List VarV} {k : Nat} (h : k < vs.length) : totK l vs (k + 1) = totK l vs k + szT vs[k].ty l := by
  unfold totK
  rw [List.take_succ_eq_append_getElem h, tot_snoc]
theorem layK_len (l : List RcV) (vs : List VarV) (k : Nat) (h : k ≤ vs.length) : (layK l vs k).length = k := by
  unfold layK
  rw [lay_len, List.length_take]; omega
theorem layK_get (l : List RcV) (vs : List VarV) : ∀ (k : Nat) (hk : k ≤ vs.length) (i : Nat) (hi : i < k), (layK l vs k)[i]? = some ((vs[i]'(by omega)).at_ ((totK l vs i : Nat) : Int)) := by
  intro k
  induction k with
  | zero => intro _ i hi; omega
  | succ k ih =>
    intro hk i hi
    rw [layK_succ l (by omega)]
    have hl := layK_len l vs k (by omega)
    by_cases h : i < k
    · rw [List.getElem?_append_left (by omega)]
      exact ih (by omega) i h
    · obtain rfl : i = k := by omega
      rw [List.getElem?_append_right (by omega), hl, Nat.sub_self]
      rfl
theorem totK_le {l : List RcV} {vs : List VarV} (h20 : ∀ r ∈ l, r.flds.length ≤ 20) : ∀ k, k ≤ vs.length → totK l vs k ≤ 20 * k := by
  intro k
  induction k with
  | zero => intro _; simp [totK_zero]
  | succ k ih =>
    intro hk
    rw [totK_succ l (by omega)]
    have h1 := ih (by omega)
    have h2 : szT vs[k].ty l ≤ 20 := by
      cases hv : validB vs[k].ty l with
      | true => exact szT_len hv h20
      | false => unfold szT; rw [hv]; simp
    omega
end Go.Proofs.YtlpoeflbnpbmgaaGreatDoor
