/- What is proved: constraints as they lie in memory, rows of integers, and the keys of a map by what constraints say; nothing of the program's functions. -/
import Derived.Test.YtmamajillkajoaaDoorCoExcl
import Derived.Maps.Own
import Derived.Maps.Views
import Derived.DeepKeys5
set_option linter.unusedVariables false
namespace Go.Proofs.YtmamajillkajoaaDoor
open Go.RowKit Go.Maps Go.WideMaps

/-- a constraint -/
structure Con where
  kind : Int
  a : Int
  b : Int
  mark : TyV
  lo : Int
  hi : Int
/-- a constraint's cells -/
def CCells (w : World) (b o : Nat) (x : Con) : Prop :=
  w.cell? ⟨b, o, none⟩ = some (.int .i64 x.kind) ∧ w.cell? ⟨b, o + 1, none⟩ = some (.int .i64 x.a) ∧ w.cell? ⟨b, o + 2, none⟩ = some (.int .i64 x.b) ∧
  w.cell? ⟨b, o + 3, none⟩ = some (.int .i64 x.mark.kind) ∧ w.cell? ⟨b, o + 4, none⟩ = some (.int .i64 x.mark.len) ∧ w.cell? ⟨b, o + 5, none⟩ = some (.string x.mark.nm) ∧
  w.cell? ⟨b, o + 6, none⟩ = some (.int .i64 x.lo) ∧ w.cell? ⟨b, o + 7, none⟩ = some (.int .i64 x.hi)
/-- a slice of constraints -/
def CRow (n₀ : Nat) (w : World) (A : Option Addr) (l : List Con) : Prop :=
  0 < l.length → ∃ b off, A = some ⟨b, off, none⟩ ∧ b < n₀ ∧ ∀ (i : Nat) (h : i < l.length), CCells w b (off + i * 8) l[i]
theorem CCells.below {w w' : World} {b o B : Nat} {x : Con} (h : CCells w b o x) (hb : Below B w w') (hlt : b < B) : CCells w' b o x := by
  obtain ⟨h0, h1, h2, h3, h4, h5, h6, h7⟩ := h
  exact ⟨(hb.cell (p := ⟨b, o, none⟩) hlt).trans h0, (hb.cell (p := ⟨b, o + 1, none⟩) hlt).trans h1, (hb.cell (p := ⟨b, o + 2, none⟩) hlt).trans h2, (hb.cell (p := ⟨b, o + 3, none⟩) hlt).trans h3,
    (hb.cell (p := ⟨b, o + 4, none⟩) hlt).trans h4, (hb.cell (p := ⟨b, o + 5, none⟩) hlt).trans h5, (hb.cell (p := ⟨b, o + 6, none⟩) hlt).trans h6, (hb.cell (p := ⟨b, o + 7, none⟩) hlt).trans h7⟩
theorem CRow.below {n₀ : Nat} {w w' : World} {A : Option Addr} {l : List Con} (h : CRow n₀ w A l) (hb : Below n₀ w w') : CRow n₀ w' A l := fun h0 => by
  obtain ⟨b, off, hA, hlt, hc⟩ := h h0
  exact ⟨b, off, hA, hlt, fun i hi => (hc i hi).below hb hlt⟩
theorem CRow.mono {n₀ n₁ : Nat} {w : World} {A : Option Addr} {l : List Con} (h : CRow n₀ w A l) (hn : n₀ ≤ n₁) : CRow n₁ w A l := fun h0 => by
  obtain ⟨b, off, hA, hlt, hc⟩ := h h0
  exact ⟨b, off, hA, by omega, hc⟩
theorem CRow.later {w w' : World} {A : Option Addr} {l : List Con} (h : CRow w.heap.size w A l) (hb : Below w.heap.size w w') : CRow w'.heap.size w' A l := (h.below hb).mono hb.size

/-- what a constraint says: equalities say the same in both orders -/
def factK (c : Con) : Int × Int × Int × TyV := if c.kind == 1 then (1, min c.a c.b, max c.a c.b, ⟨0, 0, ⟨#[]⟩⟩) else (c.kind, c.a, 0, c.mark)
def I64o (a : Int) : Prop := (Lit.int .i64 a).wf = true
theorem laidO : laidOutB Tryd.prog = true := by kernel_rfl
theorem factLaw : Keyed Tryd.prog 68 := Keyed.of_law (deep_law_gate laidO (of_decide_eq_true (by kernel_rfl)) (of_decide_eq_true (by kernel_rfl)) (by kernel_rfl) (by kernel_rfl))
theorem factDeep : Tryd.prog.keyType 68 = true := by kernel_rfl
theorem factCells : Tryd.prog.cellsOf 68 = 6 := by kernel_rfl
theorem coTyCells : Tryd.prog.cellsOf 39 = 3 := by kernel_rfl
theorem coOne : Tryd.prog.cellsOf 3 = 1 := by kernel_rfl
theorem coStr : Tryd.prog.cellsOf 9 = 1 := by kernel_rfl
theorem coTypes : ∃ m, Tryd.prog.types.size = m + 3 := ⟨Tryd.prog.types.size - 3, by have : 3 ≤ Tryd.prog.types.size := of_decide_eq_true (by kernel_rfl); omega⟩
theorem coBool (w : World) : (zeroValue 4).run Tryd.prog w = .ok (.bool false) w := by kernel_rfl
theorem co_int (d : Nat) (a : Int) (ha : I64o a) : Tryd.prog.keyLits (d + 1) 3 [.int .i64 a] = some [.int .i64 a] := by
  unfold Program.keyLits
  rw [Tryd.underlying3]
  simp [show (Lit.int .i64 a).wf = true from ha]
theorem co_str (d : Nat) (s : ByteArray) (hs : s.size ≤ maxLen) : Tryd.prog.keyLits (d + 1) 9 [.string s] = some [.string s.data.toList] := by
  unfold Program.keyLits
  rw [Tryd.underlying9]
  simp [hs]
theorem co_ty (d : Nat) (k n : Int) (s : ByteArray) (hk : I64o k) (hn : I64o n) (hs : s.size ≤ maxLen) : Tryd.prog.keyLits (d + 2) 39 [.int .i64 k, .int .i64 n, .string s] = some [.int .i64 k, .int .i64 n, .string s.data.toList] := by
  unfold Program.keyLits
  rw [Tryd.underlying39]
  simp [coTyCells, coOne, coStr, co_int d k hk, co_int d n hn, co_str d s hs]
theorem co_fact (d : Nat) (p x y k n : Int) (s : ByteArray) (hp : I64o p) (hx : I64o x) (hy : I64o y) (hk : I64o k) (hn : I64o n) (hs : s.size ≤ maxLen) :
    Tryd.prog.keyLits (d + 3) 68 [.int .i64 p, .int .i64 x, .int .i64 y, .int .i64 k, .int .i64 n, .string s] = some [.int .i64 p, .int .i64 x, .int .i64 y, .int .i64 k, .int .i64 n, .string s.data.toList] := by
  unfold Program.keyLits
  rw [Tryd.underlying68]
  simp [factCells, coTyCells, coOne, co_int (d + 1) p hp, co_int (d + 1) x hx, co_int (d + 1) y hy, co_ty d k n s hk hn hs]
/-- the key of a fact -/
def factLit (p x y : Int) (t : TyV) : Lit := .string (keyBytes [.int .i64 p, .int .i64 x, .int .i64 y, .int .i64 t.kind, .int .i64 t.len, .string t.nm.data.toList])
theorem fact_keyOf (p x y : Int) (t : TyV) (hp : I64o p) (hx : I64o x) (hy : I64o y) (hk : I64o t.kind) (hn : I64o t.len) (hs : t.nm.size ≤ maxLen) :
    keyOf Tryd.prog 68 (.agg #[.int .i64 p, .int .i64 x, .int .i64 y, .int .i64 t.kind, .int .i64 t.len, .string t.nm]) = some (factLit p x y t) := by
  obtain ⟨m, hm⟩ := coTypes
  have hl := co_fact (m + 1) p x y t.kind t.len t.nm hp hx hy hk hn hs
  unfold keyOf
  rw [Tryd.underlying68]
  have hf : (Value.agg #[.int .i64 p, .int .i64 x, .int .i64 y, .int .i64 t.kind, .int .i64 t.len, .string t.nm]).formed Tryd.prog 68 = true := by simp [Value.formed, Tryd.underlying68, factCells]
  simp only [factDeep, hf, Bool.and_self, if_true]
  rw [hm, show m + 3 + 1 = m + 1 + 3 from rfl]
  have hc : (Value.agg #[Value.int .i64 p, .int .i64 x, .int .i64 y, .int .i64 t.kind, .int .i64 t.len, .string t.nm]).cells.toList = [.int .i64 p, .int .i64 x, .int .i64 y, .int .i64 t.kind, .int .i64 t.len, .string t.nm] := rfl
  rw [hc, hl]
  rfl
/-- a constraint whose numbers are the machine's, whose name is not too long -/
structure ConOk (c : Con) : Prop where
  k : I64o c.kind
  a : I64o c.a
  b : I64o c.b
  tk : I64o c.mark.kind
  tl : I64o c.mark.len
  tn : c.mark.nm.size ≤ maxLen
/-- the key of what a constraint says -/
def keyC (c : Con) : Lit := factLit (factK c).1 (factK c).2.1 (factK c).2.2.1 (factK c).2.2.2
theorem i64_zero : I64o 0 := by unfold I64o; decide
theorem i64_one : I64o 1 := by unfold I64o; decide
theorem i64_min {a b : Int} (ha : I64o a) (hb : I64o b) : I64o (min a b) := by rw [Int.min_def]; split <;> assumption
theorem i64_max {a b : Int} (ha : I64o a) (hb : I64o b) : I64o (max a b) := by rw [Int.max_def]; split <;> assumption
theorem fact_ok {c : Con} (h : ConOk c) : I64o (factK c).1 ∧ I64o (factK c).2.1 ∧ I64o (factK c).2.2.1 ∧ I64o (factK c).2.2.2.kind ∧ I64o (factK c).2.2.2.len ∧ (factK c).2.2.2.nm.size ≤ maxLen := by
  unfold factK
  split
  · exact ⟨i64_one, i64_min h.a h.b, i64_max h.a h.b, i64_zero, i64_zero, Nat.zero_le _⟩
  · exact ⟨h.k, h.a, i64_zero, h.tk, h.tl, h.tn⟩
theorem keyC_keyOf {c : Con} (h : ConOk c) : keyOf Tryd.prog 68 (.agg #[.int .i64 (factK c).1, .int .i64 (factK c).2.1, .int .i64 (factK c).2.2.1, .int .i64 (factK c).2.2.2.kind, .int .i64 (factK c).2.2.2.len, .string (factK c).2.2.2.nm]) = some (keyC c) := by
  obtain ⟨h1, h2, h3, h4, h5, h6⟩ := fact_ok h
  exact fact_keyOf _ _ _ _ h1 h2 h3 h4 h5 h6
theorem ty_ext {a b : TyV} (h1 : a.kind = b.kind) (h2 : a.len = b.len) (h3 : a.nm = b.nm) : a = b := by cases a; cases b; simp_all
theorem keyC_inj {c d : Con} (hc : ConOk c) (hd : ConOk d) (h : keyC c = keyC d) : factK c = factK d := by
  have e := factLaw.inj (keyC_keyOf hc) (by rw [h]; exact keyC_keyOf hd)
  simp at e
  obtain ⟨e1, e2, e3, e4, e5, e6⟩ := e
  have et := ty_ext e4 e5 e6
  exact Prod.ext e1 (Prod.ext e2 (Prod.ext e3 et))
end Go.Proofs.YtmamajillkajoaaDoor
