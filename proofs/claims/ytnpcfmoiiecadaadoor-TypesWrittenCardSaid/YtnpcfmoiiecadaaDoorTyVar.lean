/- What is proved: variables as they lie in memory. -/
import Derived.Test.YtnpcfmoiiecadaaDoorTyParts
import Derived.Maps.Own
import Derived.Maps.OwnOps
import Derived.Maps.OwnSet
import Derived.Maps.Views
import Derived.Carry
import Derived.Laws.EntriesVeiled
set_option linter.unusedVariables false
namespace Go.Proofs.YtnpcfmoiiecadaaDoor
open Go.RowKit Go.Maps

def ty_I64 (a : Int) : Prop := (Lit.int .i64 a).wf = true
/-- how a function value reads -/
def ty_fnR (v : Value) : Option (DataW Value × List MemPlace) := some (.held v, [])
def szF1 : Value := .func (.func 57) #[] #[]
def szF3 : Value := .func (.func 58) #[] #[]
def szF4 (B : Nat) : Value := .func (.func 59) #[] #[.pointer (some ⟨B, 0, none⟩)]
/-- what the map holds -/
def szD (B : Nat) : DataW Value := ((((DataW.map []).put (.int .i64 1) (.held szF1)).put (.int .i64 2) (.held szF1)).put (.int .i64 3) (.held szF3)).put (.int .i64 4) (.held (szF4 B))
def SzMap (w : World) (b B : Nat) : Prop := w.ownsMap Tryd.prog 3 ty_fnR b 4 (szD B)
theorem szLaw : Keyed Tryd.prog 3 := int_keyed Tryd.underlying3
theorem SzMap.below {w w' : World} {b B : Nat} (h : SzMap w b B) (hb : Below w.heap.size w w') : SzMap w' b B :=
  World.ownsMap.kept (row := none) h ⟨hb.os, hb.tape, hb.output, hb.size, fun k hk _ => hb.block k hk⟩ (by simp)
theorem SzMap.look {w : World} {b B : Nat} (h : SzMap w b B) (k : Int) (hk : ty_I64 k) (f : Value) (hf : (szD B).atKey (.int .i64 k) (.held .nilFunc) = .held f) :
    (Instr.lookup 83 (.map (some b)) (.int .i64 k) false).run Tryd.prog w = .ok f w := by
  obtain ⟨v, ps, hrun, hv⟩ := World.ownsMap.lookup h szLaw Tryd.underlying83 (z := .nilFunc) (by kernel_rfl) (zd := .held .nilFunc) (zp := []) rfl (keyOf_int_mk Tryd.underlying3 hk)
  rw [hf] at hv
  simp only [ty_fnR, Option.some.injEq, Prod.mk.injEq, DataW.held.injEq] at hv
  rw [hv.1] at hrun
  exact hrun
theorem szD1 (B : Nat) : (szD B).atKey (.int .i64 1) (.held .nilFunc) = .held szF1 := rfl
theorem szD2 (B : Nat) : (szD B).atKey (.int .i64 2) (.held .nilFunc) = .held szF1 := rfl
theorem szD3 (B : Nat) : (szD B).atKey (.int .i64 3) (.held .nilFunc) = .held szF3 := rfl
theorem szD4 (B : Nat) : (szD B).atKey (.int .i64 4) (.held .nilFunc) = .held (szF4 B) := rfl

/-- the records in a variable -/
def RBox (w : World) (B : Nat) (A : Option Addr) (n c : Nat) : Prop := w.heap[B]? = some (.cells #[.slice A n c] 24 (0, 0))

set_option maxHeartbeats 2000000 in
theorem sizes_any (A : Option Addr) (n c : Nat) (w : World) :
    Calls Tryd.prog 41 #[.slice A n c] w fun e w' => e = .returned (.map (some (w.heap.size + 1))) ∧ SzMap w' (w.heap.size + 1) w.heap.size ∧ RBox w' w.heap.size A n c ∧ Below w.heap.size w w' := by
  have hmm := @run_makeMap Tryd.prog
  have hb0 := (Below.refl w.heap.size w).alloc (Nat.le_refl _) (.cells #[.slice A n c] 24)
  have hn0 := heap_alloc_new w (.cells #[.slice A n c] 24)
  have hz0 := World.size_alloc w (.cells #[.slice A n c] 24)
  have hown := World.ownsMap_made (w.alloc (.cells #[.slice A n c] 24)) Tryd.prog 3 ty_fnR
  have hb1 := hb0.alloc (by omega) (.map #[] 0)
  have hn1 := (heap_alloc_old (w.alloc (.cells #[.slice A n c] 24)) (.map #[] 0) (by omega)).trans hn0
  rw [hz0] at hown
  obtain ⟨w2, hr2, ho2, hg2⟩ := hown.update szLaw Tryd.underlying83 (by unfold maxLen; omega) (keyOf_int_mk Tryd.underlying3 (a := 1) (by decide)) (val := szF1) (d := .held szF1) (ps := []) rfl
  obtain ⟨w3, hr3, ho3, hg3⟩ := ho2.update szLaw Tryd.underlying83 (by unfold maxLen; omega) (keyOf_int_mk Tryd.underlying3 (a := 2) (by decide)) (val := szF1) (d := .held szF1) (ps := []) rfl
  obtain ⟨w4, hr4, ho4, hg4⟩ := ho3.update szLaw Tryd.underlying83 (by unfold maxLen; omega) (keyOf_int_mk Tryd.underlying3 (a := 3) (by decide)) (val := szF3) (d := .held szF3) (ps := []) rfl
  obtain ⟨w5, hr5, ho5, hg5⟩ := ho4.update szLaw Tryd.underlying83 (by unfold maxLen; omega) (keyOf_int_mk Tryd.underlying3 (a := 4) (by decide)) (val := szF4 w.heap.size) (d := .held (szF4 w.heap.size)) (ps := []) rfl
  have hge : ∀ k, some (w.heap.size + 1) = some k → w.heap.size ≤ k := fun k e => by injection e with e; omega
  have hb2 := hb1.grown hg2 hb1.size hge
  have hb3 := hb2.grown hg3 hb2.size hge
  have hb4 := hb3.grown hg4 hb3.size hge
  have hb5 := hb4.grown hg5 hb4.size hge
  have hlt1 := (Array.getElem?_eq_some_iff.1 hn1).1
  have q2 := (hg2.block _ hlt1 (by simp)).trans hn1
  have q3 := (hg3.block _ (Array.getElem?_eq_some_iff.1 q2).1 (by simp)).trans q2
  have q4 := (hg4.block _ (Array.getElem?_eq_some_iff.1 q3).1 (by simp)).trans q3
  have q5 := (hg5.block _ (Array.getElem?_eq_some_iff.1 q4).1 (by simp)).trans q4
  have HO := Lib.hid ho5
  have HQ := Lib.hid q5
  have HB := Lib.hid hb5
  clear ho5 q5 hb5 hge hb4 hb3 hb2 hb1 hb0 hn0 hn1 hlt1 q2 q3 q4 hg2 hg3 hg4 hg5 ho2 ho3 ho4 hown hz0
  unfold szF1 at hr2 hr3
  unfold szF3 at hr4
  unfold szF4 at hr5
  go_enter Tryd.func41, Tryd.ntmps41
  go_wp2_with (fail)
  go_ret
  exact ⟨rfl, HO.out, HQ.out, HB.out⟩
end Go.Proofs.YtnpcfmoiiecadaaDoor
set_option linter.unusedVariables false
namespace Go.Proofs.YtnpcfmoiiecadaaDoor
open Go.RowKit Go.Maps

theorem one_any (t : TyV) (w : World) : Calls Tryd.prog 57 #[.agg #[.int .i64 t.kind, .int .i64 t.len, .string t.nm]] w fun e w' => e = .returned (.int .i64 1) ∧ Below w.heap.size w w' := by
  go_enter Tryd.func57, Tryd.ntmps57
  go_wp2_with (fail)
  go_ret
  exact ⟨rfl, (Below.refl _ _).alloc (Nat.le_refl _) _⟩
theorem lenOf_any (t : TyV) (w : World) : Calls Tryd.prog 58 #[.agg #[.int .i64 t.kind, .int .i64 t.len, .string t.nm]] w fun e w' => e = .returned (.int .i64 t.len) ∧ Below w.heap.size w w' := by
  go_enter Tryd.func58, Tryd.ntmps58
  go_wp2_with (fail)
  go_ret
  exact ⟨rfl, (Below.refl _ _).alloc (Nat.le_refl _) _⟩
set_option maxHeartbeats 1000000 in
theorem count_any (t : TyV) (A : Option Addr) (c B : Nat) (l : List RcV) (r : RcV) (w : World) (hB : RBox w B A l.length c) (hf : fndR l t.nm = some r) (hr : RRow w.heap.size w A l) (hl : l.length ≤ 1000000000) :
    Calls Tryd.prog 59 #[.agg #[.int .i64 t.kind, .int .i64 t.len, .string t.nm], .pointer (some ⟨B, 0, none⟩)] w fun e w' => e = .returned (.int .i64 (r.flds.length : Int)) ∧ Below w.heap.size w w' := by
  have HR := Lib.hid hr
  have HF := Lib.hid hf
  have hlt := (Array.getElem?_eq_some_iff.1 hB).1
  have c0 : (w.alloc (.cells #[.int .i64 t.kind, .int .i64 t.len, .string t.nm] 23)).cell? ⟨B, 0, none⟩ = some (.slice A l.length c) := (((Below.refl w.heap.size w).alloc (Nat.le_refl _) _).cell (p := ⟨B, 0, none⟩) hlt).trans (Lib.cell_of_heap hB 0)
  clear hr hf hB
  go_enter Tryd.func59, Tryd.ntmps59
  go_wp2_with (fail)
  clear c0
  obtain ⟨hb0, hc0, hs0⟩ := box_ty w t
  generalize (w.alloc (.cells #[.int .i64 t.kind, .int .i64 t.len, .string t.nm] 23)) = w0 at *
  have HB0 := Lib.hid hb0
  have HS0 := Lib.hid hs0
  clear hb0 hc0 hs0
  refine (find_yes A c l t.nm r w0 HF.out (HR.out.later HB0.out) hl).mono ?_
  rintro e w1 ⟨rfl, hb1⟩
  have HB1 := Lib.hid (HB0.out.trans (hb1.mono (by have := HS0.out; omega)))
  clear hb1
  go_wp2_with (fail)
  go_ret
  exact ⟨rfl, HB1.out⟩

/-- the number of a type's scalars -/
def szT (t : TyV) (l : List RcV) : Nat := if validB t l then (partsT t l).length else 0
/-- what a kind's function is -/
def SzFun (w : World) (t : TyV) (l : List RcV) (b B : Nat) (A : Option Addr) (c : Nat) : Prop :=
  ((t.kind = 1 ∨ t.kind = 2) ∧ szT t l = 1) ∨ (t.kind = 3 ∧ (szT t l : Int) = t.len) ∨ (t.kind = 4 ∧ ∃ r, fndR l t.nm = some r ∧ szT t l = r.flds.length)
theorem szT_cases {t : TyV} {l : List RcV} (hv : validB t l = true) :
    ((t.kind = 1 ∨ t.kind = 2) ∧ szT t l = 1) ∨ (t.kind = 3 ∧ (szT t l : Int) = t.len) ∨ (t.kind = 4 ∧ ∃ r, fndR l t.nm = some r ∧ szT t l = r.flds.length) := by
  unfold szT
  rw [if_pos hv]
  by_cases k12 : t.kind = 1 ∨ t.kind = 2
  · refine .inl ⟨k12, ?_⟩
    unfold partsT
    rw [if_neg (by omega), if_neg (by omega)]; rfl
  · by_cases k3 : t.kind = 3
    · refine .inr (.inl ⟨k3, ?_⟩)
      have hb : 1 ≤ t.len ∧ t.len ≤ 8 := by
        unfold validB at hv
        rw [if_neg (by omega), if_pos k3] at hv
        simp only [Bool.and_eq_true, decide_eq_true_eq] at hv
        exact hv.1
      unfold partsT
      rw [if_pos k3]; simp; omega
    · by_cases k4 : t.kind = 4
      · obtain ⟨r, hf⟩ := kind4 k4 hv
        refine .inr (.inr ⟨k4, r, hf, ?_⟩)
        unfold partsT
        rw [if_neg k3, if_pos k4, hf]; simp
      · unfold validB at hv
        rw [if_neg k12, if_neg k3, if_neg k4] at hv
        cases hv
theorem szT_len {t : TyV} {l : List RcV} (hv : validB t l = true) (h20 : ∀ r ∈ l, r.flds.length ≤ 20) : szT t l ≤ 20 := by
  unfold szT
  rw [if_pos hv]
  exact parts_len t l hv h20

/-- a map of sizes, made for some records -/
structure Sz (w : World) (b B : Nat) (A : Option Addr) (n c : Nat) : Prop where
  map : SzMap w b B
  box : RBox w B A n c
theorem Sz.below {w w' : World} {b B n c : Nat} {A : Option Addr} (h : Sz w b B A n c) (hb : Below w.heap.size w w') : Sz w' b B A n c :=
  ⟨h.map.below hb, (hb.block _ (Array.getElem?_eq_some_iff.1 h.box).1).trans h.box⟩
theorem sizes_f (A : Option Addr) (n c : Nat) (w : World) :
    Calls Tryd.prog 41 #[.slice A n c] w fun e w' => ∃ b B, e = .returned (.map (some b)) ∧ Sz w' b B A n c ∧ Below w.heap.size w w' := by
  refine (sizes_any A n c w).mono ?_
  rintro e w' ⟨rfl, h1, h2, h3⟩
  exact ⟨_, _, rfl, ⟨h1, h2⟩, h3⟩
theorem Sz.look1 {w : World} {b B n c : Nat} {A : Option Addr} (h : Sz w b B A n c) {k : Int} (hk : k = 1 ∨ k = 2) :
    (Instr.lookup 83 (.map (some b)) (.int .i64 k) false).run Tryd.prog w = .ok (.func (.func 57) #[] #[]) w := by
  rcases hk with rfl | rfl
  · exact h.map.look 1 rfl _ (szD1 B)
  · exact h.map.look 2 rfl _ (szD2 B)
theorem Sz.look3 {w : World} {b B n c : Nat} {A : Option Addr} (h : Sz w b B A n c) {k : Int} (hk : k = 3) :
    (Instr.lookup 83 (.map (some b)) (.int .i64 k) false).run Tryd.prog w = .ok (.func (.func 58) #[] #[]) w := by
  subst hk; exact h.map.look 3 rfl _ (szD3 B)
theorem Sz.look4 {w : World} {b B n c : Nat} {A : Option Addr} (h : Sz w b B A n c) {k : Int} (hk : k = 4) :
    (Instr.lookup 83 (.map (some b)) (.int .i64 k) false).run Tryd.prog w = .ok (.func (.func 59) #[] #[.pointer (some ⟨B, 0, none⟩)]) w := by
  subst hk; exact h.map.look 4 rfl _ (szD4 B)

end Go.Proofs.YtnpcfmoiiecadaaDoor
set_option linter.unusedVariables false
namespace Go.Proofs.YtnpcfmoiiecadaaDoor
open Go.RowKit

/-- a variable -/
structure VarV where
  name : ByteArray
  ty : TyV
  slot : Int
  node : Int
  vr : Bool
  lp : Bool
def VCells (w : World) (b o : Nat) (x : VarV) : Prop :=
  w.cell? ⟨b, o, none⟩ = some (.string x.name) ∧ w.cell? ⟨b, o + 1, none⟩ = some (.int .i64 x.ty.kind) ∧ w.cell? ⟨b, o + 2, none⟩ = some (.int .i64 x.ty.len) ∧ w.cell? ⟨b, o + 3, none⟩ = some (.string x.ty.nm) ∧
    w.cell? ⟨b, o + 4, none⟩ = some (.int .i64 x.slot) ∧ w.cell? ⟨b, o + 5, none⟩ = some (.int .i64 x.node) ∧ w.cell? ⟨b, o + 6, none⟩ = some (.bool x.vr) ∧ w.cell? ⟨b, o + 7, none⟩ = some (.bool x.lp)
def VRow (n₀ : Nat) (w : World) (A : Option Addr) (l : List VarV) : Prop :=
  0 < l.length → ∃ b off, A = some ⟨b, off, none⟩ ∧ b < n₀ ∧ ∀ (i : Nat) (h : i < l.length), VCells w b (off + i * 8) l[i]
theorem VCells.below {w w' : World} {b o B : Nat} {x : VarV} (h : VCells w b o x) (hb : Below B w w') (hlt : b < B) : VCells w' b o x :=
  ⟨(hb.cell (p := ⟨b, o, none⟩) hlt).trans h.1, (hb.cell (p := ⟨b, o + 1, none⟩) hlt).trans h.2.1, (hb.cell (p := ⟨b, o + 2, none⟩) hlt).trans h.2.2.1, (hb.cell (p := ⟨b, o + 3, none⟩) hlt).trans h.2.2.2.1,
    (hb.cell (p := ⟨b, o + 4, none⟩) hlt).trans h.2.2.2.2.1, (hb.cell (p := ⟨b, o + 5, none⟩) hlt).trans h.2.2.2.2.2.1, (hb.cell (p := ⟨b, o + 6, none⟩) hlt).trans h.2.2.2.2.2.2.1, (hb.cell (p := ⟨b, o + 7, none⟩) hlt).trans h.2.2.2.2.2.2.2⟩
theorem VRow.below {n₀ : Nat} {w w' : World} {A : Option Addr} {l : List VarV} (h : VRow n₀ w A l) (hb : Below n₀ w w') : VRow n₀ w' A l := fun h0 => by
  obtain ⟨b, off, e, hlt, hc⟩ := h h0
  exact ⟨b, off, e, hlt, fun i hi => (hc i hi).below hb hlt⟩
theorem VRow.mono {n₀ n₁ : Nat} {w : World} {A : Option Addr} {l : List VarV} (h : VRow n₀ w A l) (hn : n₀ ≤ n₁) : VRow n₁ w A l := fun h0 => by
  obtain ⟨b, off, e, hlt, hc⟩ := h h0
  exact ⟨b, off, e, Nat.lt_of_lt_of_le hlt hn, hc⟩
theorem VRow.later {w w' : World} {A : Option Addr} {l : List VarV} (h : VRow w.heap.size w A l) (hb : Below w.heap.size w w') : VRow w'.heap.size w' A l := (h.below hb).mono hb.size

/-- a variable in a block of its own -/
def VBox (w : World) (b : Nat) (x : VarV) : Prop := w.heap[b]? = some (.cells #[.string x.name, .int .i64 x.ty.kind, .int .i64 x.ty.len, .string x.ty.nm, .int .i64 x.slot, .int .i64 x.node, .bool x.vr, .bool x.lp] 56 (0, 0))
theorem VBox.new (w : World) (x : VarV) : VBox (w.alloc (.cells #[.string x.name, .int .i64 x.ty.kind, .int .i64 x.ty.len, .string x.ty.nm, .int .i64 x.slot, .int .i64 x.node, .bool x.vr, .bool x.lp] 56)) w.heap.size x := heap_alloc_new w _
theorem VBox.below {B b : Nat} {w w' : World} {x : VarV} (h : VBox w b x) (hb : Below B w w') (hlt : b < B) : VBox w' b x := (hb.block _ hlt).trans h
theorem VBox.cells {w : World} {b : Nat} {x : VarV} (h : VBox w b x) : w.cell? ⟨b, 0, none⟩ = some (.string x.name) ∧ w.cell? ⟨b, 1, none⟩ = some (.int .i64 x.ty.kind) ∧ w.cell? ⟨b, 2, none⟩ = some (.int .i64 x.ty.len) ∧ w.cell? ⟨b, 3, none⟩ = some (.string x.ty.nm) ∧
    w.cell? ⟨b, 4, none⟩ = some (.int .i64 x.slot) ∧ w.cell? ⟨b, 5, none⟩ = some (.int .i64 x.node) ∧ w.cell? ⟨b, 6, none⟩ = some (.bool x.vr) ∧ w.cell? ⟨b, 7, none⟩ = some (.bool x.lp) :=
  ⟨Lib.cell_of_heap h 0, Lib.cell_of_heap h 1, Lib.cell_of_heap h 2, Lib.cell_of_heap h 3, Lib.cell_of_heap h 4, Lib.cell_of_heap h 5, Lib.cell_of_heap h 6, Lib.cell_of_heap h 7⟩
theorem VBox.frozen {w : World} {b : Nat} {x : VarV} (h : VBox w b x) (i : Nat) : w.frozen? ⟨b, i, none⟩ = false := hfrz h i
/-- the variable with another slot -/
def VarV.at_ (x : VarV) (s : Int) : VarV := { x with slot := s }
theorem VBox.put {w : World} {b : Nat} {x : VarV} (h : VBox w b x) (s : Int) : VBox (w.setCell ⟨b, 4, none⟩ (.int .i64 s)) b (x.at_ s) := hset h _
theorem box_var (w : World) (x : VarV) : Below w.heap.size w (w.alloc (.cells #[.string x.name, .int .i64 x.ty.kind, .int .i64 x.ty.len, .string x.ty.nm, .int .i64 x.slot, .int .i64 x.node, .bool x.vr, .bool x.lp] 56)) ∧ VBox (w.alloc (.cells #[.string x.name, .int .i64 x.ty.kind, .int .i64 x.ty.len, .string x.ty.nm, .int .i64 x.slot, .int .i64 x.node, .bool x.vr, .bool x.lp] 56)) w.heap.size x ∧ (w.alloc (.cells #[.string x.name, .int .i64 x.ty.kind, .int .i64 x.ty.len, .string x.ty.nm, .int .i64 x.slot, .int .i64 x.node, .bool x.vr, .bool x.lp] 56)).heap.size = w.heap.size + 1 :=
  ⟨(Below.refl _ _).alloc (Nat.le_refl _) _, VBox.new w x, by simp⟩

/-- the cells of variables -/
def vcells : List VarV → List Value
  | [] => []
  | x :: xs => .string x.name :: .int .i64 x.ty.kind :: .int .i64 x.ty.len :: .string x.ty.nm :: .int .i64 x.slot :: .int .i64 x.node :: .bool x.vr :: .bool x.lp :: vcells xs
theorem vcells_append (l m : List VarV) : vcells (l ++ m) = vcells l ++ vcells m := by
  induction l with
  | nil => rfl
  | cons r rs ih => simp [vcells, ih]
theorem vcells_len (l : List VarV) : (vcells l).length = l.length * 8 := by
  induction l with
  | nil => rfl
  | cons r rs ih => simp [vcells, ih]; omega
theorem vcells_one (l : List VarV) : ∀ u ∈ vcells l, u.oneCell' = true := by
  induction l with
  | nil => simp [vcells]
  | cons r rs ih =>
    intro u hu
    simp only [vcells, List.mem_cons] at hu
    rcases hu with rfl | rfl | rfl | rfl | rfl | rfl | rfl | rfl | hu
    · rfl
    · rfl
    · rfl
    · rfl
    · rfl
    · rfl
    · rfl
    · rfl
    · exact ih u hu
theorem vcells_get (l : List VarV) : ∀ (i : Nat) (h : i < l.length), (vcells l)[i * 8]? = some (.string l[i].name) ∧ (vcells l)[i * 8 + 1]? = some (.int .i64 l[i].ty.kind) ∧ (vcells l)[i * 8 + 2]? = some (.int .i64 l[i].ty.len) ∧ (vcells l)[i * 8 + 3]? = some (.string l[i].ty.nm) ∧
    (vcells l)[i * 8 + 4]? = some (.int .i64 l[i].slot) ∧ (vcells l)[i * 8 + 5]? = some (.int .i64 l[i].node) ∧ (vcells l)[i * 8 + 6]? = some (.bool l[i].vr) ∧ (vcells l)[i * 8 + 7]? = some (.bool l[i].lp) := by
  induction l with
  | nil => intro i h; simp at h
  | cons r rs ih =>
    intro i h
    cases i with
    | zero => simp [vcells]
    | succ i =>
      have h' := ih i (by simpa using h)
      rw [show (i + 1) * 8 = i * 8 + 8 from by omega]
      simpa [vcells] using h'
theorem vars_own {w : World} {B : Nat} {v : Value} {l : List VarV} (h : w.ownsRow B 56 8 v l.length (vcells l)) : ∃ A c, v = .slice A l.length c ∧ VRow w.heap.size w A l := by
  rcases Nat.eq_zero_or_pos l.length with h0 | h0
  · rcases h.2 with ⟨rfl, _⟩ | ⟨g, cap, cur, rfl, _⟩
    · exact ⟨none, 0, by rw [h0], fun hh => by omega⟩
    · exact ⟨_, _, rfl, fun hh => by omega⟩
  · obtain ⟨g, cap, hv, _, hlt⟩ := h.form h0
    refine ⟨some ⟨g, 0, none⟩, cap, hv, fun _ => ⟨g, 0, rfl, hlt, fun i hi => ?_⟩⟩
    have hc := h.cells (g := g) (by rw [hv]; rfl)
    obtain ⟨e1, e2, e3, e4, e5, e6, e7, e8⟩ := vcells_get l i hi
    have a1 := hc _ _ e1
    have a2 := hc _ _ e2
    have a3 := hc _ _ e3
    have a4 := hc _ _ e4
    have a5 := hc _ _ e5
    have a6 := hc _ _ e6
    have a7 := hc _ _ e7
    have a8 := hc _ _ e8
    rw [ty_addr_add] at a1 a2 a3 a4 a5 a6 a7 a8
    exact ⟨a1, a2, a3, a4, a5, a6, a7, a8⟩
theorem infoVar : (Tryd.prog.info? 56).map (fun i => (i.zero, i.size, i.bytes)) = some (some (.agg #[.string ⟨#[]⟩, .int .i64 0, .int .i64 0, .string ⟨#[]⟩, .int .i64 0, .int .i64 0, .bool false, .bool false]), 8, 72) := by kernel_rfl

/-- variables with the slots that they have -/
def tot (l : List RcV) (vs : List VarV) : Nat := (vs.map (fun v => szT v.ty l)).sum
def lay (l : List RcV) : List VarV → Nat → List VarV
  | [], _ => []
  | v :: vs, s => v.at_ (s : Int) :: lay l vs (s + szT v.ty l)
theorem lay_len (l : List RcV) (vs : List VarV) : ∀ s, (lay l vs s).length = vs.length := by
  induction vs with
  | nil => intro s; rfl
  | cons v vs ih => intro s; simp [lay, ih]
theorem tot_snoc (l : List RcV) (vs : List VarV) (v : VarV) : tot l (vs ++ [v]) = tot l vs + szT v.ty l := by simp [tot]
theorem lay_snoc (l : List RcV) (vs : List VarV) (v : VarV) : ∀ s, lay l (vs ++ [v]) s = lay l vs s ++ [v.at_ ((s + tot l vs : Nat) : Int)] := by
  induction vs with
  | nil => intro s; simp [lay, tot]
  | cons x xs ih =>
    intro s
    simp only [List.cons_append, lay, ih, tot, List.map_cons, List.sum_cons, Nat.add_assoc]
/-- what is there behind k variables -/
def layK (l : List RcV) (vs : List VarV) (k : Nat) : List VarV := lay l (vs.take k) 0
def totK (l : List RcV) (vs : List VarV) (k : Nat) : Nat := tot l (vs.take k)
theorem layK_zero (l : List RcV) (vs : List VarV) : layK l vs 0 = [] := rfl
theorem totK_zero (l : List RcV) (vs : List VarV) : totK l vs 0 = 0 := rfl
theorem layK_succ (l : List RcV) {vs : List VarV} {k : Nat} (h : k < vs.length) : layK l vs (k + 1) = layK l vs k ++ [vs[k].at_ ((totK l vs k : Nat) : Int)] := by
  unfold layK totK
  rw [List.take_succ_eq_append_getElem h, lay_snoc, Nat.zero_add]
theorem totK_succ (l : List RcV) {vs : List VarV} {k : Nat} (h : k < vs.length) : totK l vs (k + 1) = totK l vs k + szT vs[k].ty l := by
  unfold totK
  rw [List.take_succ_eq_append_getElem h, tot_snoc]
theorem layK_len (l : List RcV) (vs : List VarV) (k : Nat) (h : k ≤ vs.length) : (layK l vs k).length = k := by
  unfold layK
  rw [lay_len, List.length_take]; omega
theorem layK_get (l : List RcV) (vs : List VarV) : ∀ (k : Nat) (hk : k ≤ vs.length) (i : Nat) (hi : i < k), (layK l vs k)[i]? = some ((vs[i]'(by omega)).at_ ((totK l vs i : Nat) : Int)) := by
  intro k
  induction k with
  | zero => intro _ i hi; omega
  | succ k ih =>
    intro hk i hi
    rw [layK_succ l (by omega)]
    have hl := layK_len l vs k (by omega)
    by_cases h : i < k
    · rw [List.getElem?_append_left (by omega)]
      exact ih (by omega) i h
    · obtain rfl : i = k := by omega
      rw [List.getElem?_append_right (by omega), hl, Nat.sub_self]
      rfl
theorem totK_le {l : List RcV} {vs : List VarV} (h20 : ∀ r ∈ l, r.flds.length ≤ 20) : ∀ k, k ≤ vs.length → totK l vs k ≤ 20 * k := by
  intro k
  induction k with
  | zero => intro _; simp [totK_zero]
  | succ k ih =>
    intro hk
    rw [totK_succ l (by omega)]
    have h1 := ih (by omega)
    have h2 : szT vs[k].ty l ≤ 20 := by
      cases hv : validB vs[k].ty l with
      | true => exact szT_len hv h20
      | false => unfold szT; rw [hv]; simp
    omega
end Go.Proofs.YtnpcfmoiiecadaaDoor
