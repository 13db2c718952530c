/- What is proved: Member finds a field of the first record. -/
import Derived.Test.YtnpcfmoiiecadaaDoorTyWr
set_option linter.unusedVariables false
namespace Go.Proofs.YtnpcfmoiiecadaaDoor
open Go.RowKit

/-- the kind of a field's type -/
def fkd (f : FldV) : Int := if tyB f.ty (bsc 2) then 2 else 1
theorem fty_eq (f : FldV) : fty f = bsc (fkd f) := by unfold fty fkd; cases tyB f.ty (bsc 2) <;> rfl
theorem fieldType_k (f : FldV) (w : World) (k : Int) (hk : fkd f = k) : Calls Tryd.prog 42 #[.agg #[.string f.name, .int .i64 f.ty.kind, .int .i64 f.ty.len, .string f.ty.nm]] w fun e w' => e = .returned (.agg #[.int .i64 k, .int .i64 0, .string ⟨#[]⟩]) ∧ Below w.heap.size w w' := by
  have h := fieldType_any f w
  rw [fty_eq, hk] at h
  exact h
/-- two fields are the same -/
def fldB (f g : FldV) : Bool := f.name.toList == g.name.toList && fkd f == fkd g

/-- what lies in two boxes -/
def Two (w : World) (b : Nat) (f g : FldV) : Prop := FCells w b 0 f ∧ FCells w (b + 1) 0 g
theorem Two.below {B b : Nat} {w w' : World} {f g : FldV} (h : Two w b f g) (hb : Below B w w') (hlt : b + 1 < B) : Two w' b f g := ⟨h.1.below hb (by omega), h.2.below hb hlt⟩
theorem Two.now {w : World} {b : Nat} {f g : FldV} (h : Two w b f g) : w.cell? ⟨b, 0, none⟩ = some (.string f.name) ∧ w.cell? ⟨b, 1, none⟩ = some (.int .i64 f.ty.kind) ∧ w.cell? ⟨b, 2, none⟩ = some (.int .i64 f.ty.len) ∧ w.cell? ⟨b, 3, none⟩ = some (.string f.ty.nm) ∧
    w.cell? ⟨b + 1, 0, none⟩ = some (.string g.name) ∧ w.cell? ⟨b + 1, 1, none⟩ = some (.int .i64 g.ty.kind) ∧ w.cell? ⟨b + 1, 2, none⟩ = some (.int .i64 g.ty.len) ∧ w.cell? ⟨b + 1, 3, none⟩ = some (.string g.ty.nm) :=
  ⟨h.1.1, h.1.2.1, h.1.2.2.1, h.1.2.2.2, h.2.1, h.2.2.1, h.2.2.2.1, h.2.2.2.2⟩
theorem box_two (w : World) (f g : FldV) : Below w.heap.size w ((w.alloc (.cells #[.string f.name, .int .i64 f.ty.kind, .int .i64 f.ty.len, .string f.ty.nm] 87)).alloc (.cells #[.string g.name, .int .i64 g.ty.kind, .int .i64 g.ty.len, .string g.ty.nm] 87)) ∧ Two ((w.alloc (.cells #[.string f.name, .int .i64 f.ty.kind, .int .i64 f.ty.len, .string f.ty.nm] 87)).alloc (.cells #[.string g.name, .int .i64 g.ty.kind, .int .i64 g.ty.len, .string g.ty.nm] 87)) w.heap.size f g ∧ ((w.alloc (.cells #[.string f.name, .int .i64 f.ty.kind, .int .i64 f.ty.len, .string f.ty.nm] 87)).alloc (.cells #[.string g.name, .int .i64 g.ty.kind, .int .i64 g.ty.len, .string g.ty.nm] 87)).heap.size = w.heap.size + 2 := by
  refine ⟨((Below.refl _ _).alloc (Nat.le_refl _) _).alloc (by simp) _, ⟨FCells.of_box.below ((Below.refl _ _).alloc (Nat.le_refl _) _) (by simp), ?_⟩, by simp⟩
  have h := FCells.of_box (w := w.alloc (.cells #[.string f.name, .int .i64 f.ty.kind, .int .i64 f.ty.len, .string f.ty.nm] 87)) (x := g)
  rwa [World.size_alloc] at h

end Go.Proofs.YtnpcfmoiiecadaaDoor
set_option linter.unusedVariables false
namespace Go.Proofs.YtnpcfmoiiecadaaDoor
open Go.RowKit

/-- two lists of fields are the same -/
def fldsP (l m : List FldV) : Prop := l.length = m.length ∧ ∀ (j : Nat) (h1 : j < l.length) (h2 : j < m.length), fldB l[j] m[j] = true
def Says (P : Prop) (w : World) (e : Ending) (w' : World) : Prop := ∃ r, e = .returned (.bool r) ∧ (r = true ↔ P) ∧ Below w.heap.size w w'
theorem Says.yes {P : Prop} {w w' : World} (h : P) (hb : Below w.heap.size w w') : Says P w (.returned (.bool true)) w' := ⟨true, rfl, ⟨fun _ => h, fun _ => rfl⟩, hb⟩
theorem Says.no {P : Prop} {w w' : World} (h : ¬ P) (hb : Below w.heap.size w w') : Says P w (.returned (.bool false)) w' := ⟨false, rfl, ⟨(fun e => by cases e), fun e => absurd e h⟩, hb⟩
/-- two types with their records mean the same -/
def SameP (a : TyV) (ra : List RcV) (b : TyV) (rb : List RcV) : Prop :=
  a = b ∧ validB a ra = true ∧ validB b rb = true ∧ (a.kind = 4 → ∃ r s, fndR ra a.nm = some r ∧ fndR rb b.nm = some s ∧ fldsP r.flds s.flds)
theorem kind4 {t : TyV} {l : List RcV} (h : t.kind = 4) (hv : validB t l = true) : ∃ r, fndR l t.nm = some r := by
  unfold validB at hv
  rw [if_neg (by omega), if_neg (by omega), if_pos h] at hv
  simp only [Bool.and_eq_true] at hv
  exact Option.isSome_iff_exists.1 hv.1
theorem fndR_mem {l : List RcV} {s : ByteArray} {r : RcV} (h : fndR l s = some r) : r ∈ l := List.mem_of_find?_eq_some h
theorem RRow.fields {n₀ : Nat} {w : World} {A : Option Addr} {l : List RcV} (h : RRow n₀ w A l) {r : RcV} (hr : r ∈ l) : FRow n₀ w r.A r.flds ∧ r.flds.length ≤ 1000000000 := by
  obtain ⟨i, hi, rfl⟩ := List.getElem_of_mem hr
  obtain ⟨b, off, _, _, hc⟩ := h (by omega)
  exact (hc i hi).2.2
theorem tyB_ne {a b : TyV} (h : tyB a b = false) : a ≠ b := fun e => by rw [e, tyB_refl] at h; cases h

/-- what lies in two boxes -/
def TwoT (w : World) (b : Nat) (f g : TyV) : Prop := TCells w b 0 f ∧ TCells w (b + 1) 0 g
theorem TwoT.below {B b : Nat} {w w' : World} {f g : TyV} (h : TwoT w b f g) (hb : Below B w w') (hlt : b + 1 < B) : TwoT w' b f g := ⟨h.1.below hb (by omega), h.2.below hb hlt⟩
theorem TwoT.now {w : World} {b : Nat} {f g : TyV} (h : TwoT w b f g) : w.cell? ⟨b, 0, none⟩ = some (.int .i64 f.kind) ∧ w.cell? ⟨b, 1, none⟩ = some (.int .i64 f.len) ∧ w.cell? ⟨b, 2, none⟩ = some (.string f.nm) ∧
    w.cell? ⟨b + 1, 0, none⟩ = some (.int .i64 g.kind) ∧ w.cell? ⟨b + 1, 1, none⟩ = some (.int .i64 g.len) ∧ w.cell? ⟨b + 1, 2, none⟩ = some (.string g.nm) :=
  ⟨h.1.1, h.1.2.1, h.1.2.2, h.2.1, h.2.2.1, h.2.2.2⟩
theorem box_twoT (w : World) (f g : TyV) : Below w.heap.size w ((w.alloc (.cells #[.int .i64 f.kind, .int .i64 f.len, .string f.nm] 23)).alloc (.cells #[.int .i64 g.kind, .int .i64 g.len, .string g.nm] 23)) ∧ TwoT ((w.alloc (.cells #[.int .i64 f.kind, .int .i64 f.len, .string f.nm] 23)).alloc (.cells #[.int .i64 g.kind, .int .i64 g.len, .string g.nm] 23)) w.heap.size f g ∧ ((w.alloc (.cells #[.int .i64 f.kind, .int .i64 f.len, .string f.nm] 23)).alloc (.cells #[.int .i64 g.kind, .int .i64 g.len, .string g.nm] 23)).heap.size = w.heap.size + 2 := by
  refine ⟨((Below.refl _ _).alloc (Nat.le_refl _) _).alloc (by simp) _, ⟨TCells.of_box.below ((Below.refl _ _).alloc (Nat.le_refl _) _) (by simp), ?_⟩, by simp⟩
  have h := TCells.of_box (w := w.alloc (.cells #[.int .i64 f.kind, .int .i64 f.len, .string f.nm] 23)) (x := g)
  rwa [World.size_alloc] at h

theorem find_yes (A : Option Addr) (c : Nat) (l : List RcV) (s : ByteArray) (r : RcV) (w : World) (hf : fndR l s = some r) (hr : RRow w.heap.size w A l) (hl : l.length ≤ 1000000000) :
    Calls Tryd.prog 13 #[.slice A l.length c, .string s] w fun e w' => e = .returned (.tuple #[.slice r.A r.flds.length r.c, .bool true]) ∧ Below w.heap.size w w' := by
  refine (find_any A c l s w hr hl).mono ?_
  rintro e w' ⟨hb, ⟨h, _⟩ | ⟨r', h, rfl⟩⟩
  · rw [hf] at h; cases h
  · rw [hf] at h
    cases h
    exact ⟨rfl, hb⟩

/-- what follows from it -/
theorem fldB_symm {f g : FldV} (h : fldB f g = true) : fldB g f = true := by
  unfold fldB at *
  simp only [Bool.and_eq_true, beq_iff_eq] at *
  exact ⟨h.1.symm, h.2.symm⟩
theorem fldB_refl (f : FldV) : fldB f f = true := by simp [fldB]
theorem fldsP_symm {l m : List FldV} (h : fldsP l m) : fldsP m l := ⟨h.1.symm, fun j h1 h2 => fldB_symm (h.2 j h2 h1)⟩
theorem fldsP_refl (l : List FldV) : fldsP l l := ⟨rfl, fun _ _ _ => fldB_refl _⟩
theorem SameP.symm {a b : TyV} {ra rb : List RcV} (h : SameP a ra b rb) : SameP b rb a ra := by
  obtain ⟨rfl, h1, h2, h3⟩ := h
  exact ⟨rfl, h2, h1, fun hk => by obtain ⟨r, s, hr, hs, hf⟩ := h3 hk; exact ⟨s, r, hs, hr, fldsP_symm hf⟩⟩
theorem SameP.self {a : TyV} {ra : List RcV} : SameP a ra a ra ↔ validB a ra = true :=
  ⟨fun h => h.2.1, fun h => ⟨rfl, h, h, fun hk => by obtain ⟨r, hr⟩ := kind4 hk h; exact ⟨r, r, hr, hr, fldsP_refl _⟩⟩⟩
theorem fldsP_map {l m : List FldV} (h : fldsP l m) : l.map fty = m.map fty := by
  apply List.ext_getElem (by simpa using h.1)
  intro i h1 h2
  simp only [List.getElem_map]
  have h3 := h.2 i (by simpa using h1) (by simpa using h2)
  unfold fldB at h3
  simp only [Bool.and_eq_true, beq_iff_eq] at h3
  rw [fty_eq, fty_eq, h3.2]
theorem SameP.parts {a b : TyV} {ra rb : List RcV} (h : SameP a ra b rb) : partsT a ra = partsT b rb := by
  obtain ⟨rfl, h1, h2, h3⟩ := h
  unfold partsT
  by_cases k3 : a.kind = 3
  · rw [if_pos k3, if_pos k3]
  · rw [if_neg k3, if_neg k3]
    by_cases k4 : a.kind = 4
    · obtain ⟨r, s, hr, hs, hf⟩ := h3 k4
      rw [if_pos k4, if_pos k4, hr, hs]
      exact fldsP_map hf
    · rw [if_neg k4, if_neg k4]

end Go.Proofs.YtnpcfmoiiecadaaDoor
set_option linter.unusedVariables false
namespace Go.Proofs.YtnpcfmoiiecadaaDoor
open Go.RowKit

theorem small2 (w : World) : Calls Tryd.prog 77 #[.int .i64 2] w fun e w' => e = .returned (.string ⟨#[50]⟩) ∧ w = w' := by
  go_enter Tryd.func77, Tryd.ntmps77
  go_wp2_with (fail)
  go_ret
  exact ⟨rfl, rfl⟩
theorem formatInt2 (w : World) : Calls Tryd.prog 66 #[.int .i64 2, .int .i64 10] w fun e w' => e = .returned (.string ⟨#[50]⟩) ∧ w = w' := by
  go_enter Tryd.func66, Tryd.ntmps66
  go_wp2_with (fail)
  refine (small2 w).mono ?_
  rintro e w' ⟨rfl, rfl⟩
  go_wp2_with (fail)
  go_ret
  exact ⟨rfl, rfl⟩
theorem itoaIn2 (w : World) : Calls Tryd.prog 55 #[.int .i64 2] w fun e w' => e = .returned (.string ⟨#[50]⟩) ∧ w = w' := by
  go_enter Tryd.func55, Tryd.ntmps55
  go_wp2_with (fail)
  refine (formatInt2 w).mono ?_
  rintro e w' ⟨rfl, rfl⟩
  go_wp2_with (fail)
  go_ret
  exact ⟨rfl, rfl⟩
theorem itoa2 (w : World) : Calls Tryd.prog 32 #[.int .i64 2] w fun e w' => e = .returned (.string ⟨#[50]⟩) ∧ w = w' := by
  go_enter Tryd.func32, Tryd.ntmps32
  go_wp2_with (fail)
  refine (itoaIn2 w).mono ?_
  rintro e w' ⟨rfl, rfl⟩
  go_wp2_with (fail)
  go_ret
  exact ⟨rfl, rfl⟩
theorem format2 (w : World) : Calls Tryd.prog 9 #[.agg #[.int .i64 3, .int .i64 2, .string ⟨#[]⟩]] w fun e w' => e = .returned (.string ⟨#[105, 110, 116, 91, 50, 93]⟩) ∧ Below w.heap.size w w' := by
  go_enter Tryd.func9, Tryd.ntmps9
  go_wp2_with (fail)
  have hb := (Below.refl w.heap.size w).alloc (Nat.le_refl _) (.cells #[.int .i64 3, .int .i64 2, .string ⟨#[]⟩] 23)
  generalize (w.alloc (.cells #[.int .i64 3, .int .i64 2, .string ⟨#[]⟩] 23)) = w0 at *
  refine (itoa2 w0).mono ?_
  rintro e w' ⟨rfl, rfl⟩
  go_wp2_with (fail)
  go_ret
  exact ⟨rfl, hb⟩

/-- the example's records -/
def ptF : List FldV := [⟨⟨#[112, 120]⟩, bsc 1⟩, ⟨⟨#[112, 98]⟩, bsc 2⟩]
def ptR (b : Nat) : List RcV := [⟨⟨#[112, 111, 105, 110, 116]⟩, some ⟨b, 0, none⟩, 2, ptF⟩]
theorem point_any (w : World) : Calls Tryd.prog 18 #[] w fun e w' => ∃ b g, e = .returned (.slice (some ⟨g, 0, none⟩) 1 1) ∧ RRow w'.heap.size w' (some ⟨g, 0, none⟩) (ptR b) ∧ Below w.heap.size w w' := by
  go_enter Tryd.func18, Tryd.ntmps18
  go_wp2_with (fail)
  go_ret
  have hb0 := (Below.refl w.heap.size w).alloc (Nat.le_refl _) (.cells #[.string ⟨#[112, 120]⟩, .int .i64 1, .int .i64 0, .string ⟨#[]⟩, .string ⟨#[112, 98]⟩, .int .i64 2, .int .i64 0, .string ⟨#[]⟩] 87)
  have hn0 := heap_alloc_new w (.cells #[.string ⟨#[112, 120]⟩, .int .i64 1, .int .i64 0, .string ⟨#[]⟩, .string ⟨#[112, 98]⟩, .int .i64 2, .int .i64 0, .string ⟨#[]⟩] 87)
  have hz0 := World.size_alloc w (.cells #[.string ⟨#[112, 120]⟩, .int .i64 1, .int .i64 0, .string ⟨#[]⟩, .string ⟨#[112, 98]⟩, .int .i64 2, .int .i64 0, .string ⟨#[]⟩] 87)
  generalize (w.alloc (.cells #[.string ⟨#[112, 120]⟩, .int .i64 1, .int .i64 0, .string ⟨#[]⟩, .string ⟨#[112, 98]⟩, .int .i64 2, .int .i64 0, .string ⟨#[]⟩] 87)) = w0 at *
  have hb1 := hb0.alloc (by omega) (.cells #[.string ⟨#[112, 111, 105, 110, 116]⟩, .slice (some ⟨w.heap.size, 0, none⟩) 2 2] 44)
  have hn1 := heap_alloc_new w0 (.cells #[.string ⟨#[112, 111, 105, 110, 116]⟩, .slice (some ⟨w.heap.size, 0, none⟩) 2 2] 44)
  have hn2 := (heap_alloc_old w0 (.cells #[.string ⟨#[112, 111, 105, 110, 116]⟩, .slice (some ⟨w.heap.size, 0, none⟩) 2 2] 44) (by omega)).trans hn0
  have hz1 := World.size_alloc w0 (.cells #[.string ⟨#[112, 111, 105, 110, 116]⟩, .slice (some ⟨w.heap.size, 0, none⟩) 2 2] 44)
  rw [hz0] at hn1
  refine ⟨w.heap.size, w.heap.size + 1, rfl, fun _ => ⟨w.heap.size + 1, 0, rfl, by omega, fun i hi => ?_⟩, hb1⟩
  match i, hi with
  | 0, _ =>
    refine ⟨Lib.cell_of_heap hn1 0, Lib.cell_of_heap hn1 1, fun _ => ⟨w.heap.size, 0, rfl, by omega, fun j hj => ?_⟩, show (2 : Nat) ≤ 1000000000 by decide⟩
    match j, hj with
    | 0, _ => exact ⟨Lib.cell_of_heap hn2 0, Lib.cell_of_heap hn2 1, Lib.cell_of_heap hn2 2, Lib.cell_of_heap hn2 3⟩
    | 1, _ => exact ⟨Lib.cell_of_heap hn2 4, Lib.cell_of_heap hn2 5, Lib.cell_of_heap hn2 6, Lib.cell_of_heap hn2 7⟩
end Go.Proofs.YtnpcfmoiiecadaaDoor
set_option linter.unusedVariables false
namespace Go.Proofs.YtnpcfmoiiecadaaDoor
open Go.RowKit

/-- a record in a block of its own -/
def RcBox (w : World) (b : Nat) (x : RcV) : Prop := w.heap[b]? = some (.cells #[.string x.name, .slice x.A x.flds.length x.c] 44 (0, 0))
def MemRes (r : RcV) (j : Nat) (f : FldV) (w : World) (e : Ending) (w' : World) : Prop := e = .returned (.tuple #[.string r.name, .int .i64 (j : Int), .agg #[.int .i64 (fkd f), .int .i64 0, .string ⟨#[]⟩], .bool true]) ∧ Below w.heap.size w w'

set_option maxRecDepth 100000 in
set_option maxHeartbeats 4000000 in
theorem member_first (A : Option Addr) (c : Nat) (l : List RcV) (s : ByteArray) (j : Nat) (w : World) (r : RcV) (f : FldV) (h0 : 0 < l.length) (hr0 : l[0] = r) (hj : j < r.flds.length) (hf : r.flds[j] = f) (hy : (f.name.toList == s.toList) = true) (hn : ∀ (i : Nat) (h : i < j), (r.flds[i].name.toList == s.toList) = false) (hr : RRow w.heap.size w A l) (hl : l.length ≤ 1000000000) :
    Calls Tryd.prog 19 #[.slice A l.length c, .string s] w (MemRes r j f w) := by
  obtain ⟨b0, o0, rfl, hb0, hcs⟩ := hr h0
  obtain ⟨c0, c1, hfr, hfl⟩ := hcs 0 h0
  rw [Nat.zero_mul, Nat.add_zero, hr0] at c0 c1
  rw [hr0] at hfr hfl
  have HY := Lib.hid hy
  have HN := Lib.hid hn
  have HFR := Lib.hid hfr
  have HFJ := Lib.hid hf
  clear hr hcs hy hn hfr hf hr0
  have hal := (Below.refl w.heap.size w).alloc (Nat.le_refl _) (.cells #[.int .i64 0, .int .i64 0, .string ⟨#[]⟩] 23)
  have d0 := (hal.cell (p := ⟨b0, o0, none⟩) hb0).trans c0
  have d1 := (hal.cell (p := ⟨b0, o0 + 1, none⟩) hb0).trans c1
  clear hal c0 c1
  go_enter Tryd.func19, Tryd.ntmps19
  go_wp2_with (fail)
  go_loopw [14] (fun i wr => i = .int .i64 0 ∧ wr = w.alloc (.cells #[.int .i64 0, .int .i64 0, .string ⟨#[]⟩] 23)) (fun i _ => 1)
  case atStart => exact ⟨rfl, rfl⟩
  case round =>
    obtain ⟨rfl, rfl⟩ := hrel
    have hl0 : (0 : Int) < (l.length : Int) := by omega
    go_wp2_with (fail)
    have hn1 := heap_alloc_new (w.alloc (.cells #[.int .i64 0, .int .i64 0, .string ⟨#[]⟩] 23)) (.cells #[.string r.name, .slice r.A r.flds.length r.c] 44)
    have hn2 := (heap_alloc_old (w.alloc (.cells #[.int .i64 0, .int .i64 0, .string ⟨#[]⟩] 23)) (.cells #[.string r.name, .slice r.A r.flds.length r.c] 44) (show w.heap.size < _ by simp)).trans (heap_alloc_new w _)
    have hb1 := ((Below.refl w.heap.size w).alloc (Nat.le_refl _) (.cells #[.int .i64 0, .int .i64 0, .string ⟨#[]⟩] 23)).alloc (by simp) (.cells #[.string r.name, .slice r.A r.flds.length r.c] 44)
    have hs1 : ((w.alloc (.cells #[.int .i64 0, .int .i64 0, .string ⟨#[]⟩] 23)).alloc (.cells #[.string r.name, .slice r.A r.flds.length r.c] 44)).heap.size = w.heap.size + 2 := by simp
    rw [World.size_alloc] at hn1
    generalize ((w.alloc (.cells #[.int .i64 0, .int .i64 0, .string ⟨#[]⟩] 23)).alloc (.cells #[.string r.name, .slice r.A r.flds.length r.c] 44)) = w1 at *
    have HZ1 := Lib.hid (show ZT w1 w.heap.size from hn2)
    have HX1 := Lib.hid (show RcBox w1 (w.heap.size + 1) r from hn1)
    have HB1 := Lib.hid hb1
    have HS1 := Lib.hid hs1
    clear hn1 hn2 hb1 hs1 d0 d1
    go_loopw [21] (fun i wr => ∃ k : Nat, k ≤ j ∧ i = .int .i64 (k : Int) ∧ Hid (Below w1.heap.size w1 wr)) (fun i _ => j + 1 - (intOf i).toNat)
    case atStart => exact ⟨0, Nat.zero_le _, rfl, Lib.hid (Below.refl _ _)⟩
    case round =>
      obtain ⟨k, hk, rfl, hbw⟩ := hrel
      obtain ⟨b, off, hA, hb, hcs⟩ := (HFR.out.below (HB1.out.trans (hbw.out.mono (by have := HS1.out; omega)))) (by omega)
      obtain ⟨c0, c1, c2, c3⟩ := hcs k (by omega)
      have hlt : k < r.flds.length := by omega
      clear hcs
      obtain ⟨x, HX⟩ : ∃ x, Hid (r.flds[k] = x) := ⟨_, Lib.hid rfl⟩
      rw [HX.out] at c0 c1 c2 c3
      have hzw := hbw.out.size
      rw [hA]
      have hbx := (Below.refl wr.heap.size wr).alloc (Nat.le_refl _) (.cells #[.string x.name, .int .i64 x.ty.kind, .int .i64 x.ty.len, .string x.ty.nm] 87)
      have HBX := Lib.hid (hbw.out.trans (hbx.mono hzw))
      have HFX := Lib.hid (FCells.of_box (w := wr) (x := x))
      have HSX := Lib.hid (show (wr.alloc (.cells #[.string x.name, .int .i64 x.ty.kind, .int .i64 x.ty.len, .string x.ty.nm] 87)).heap.size = wr.heap.size + 1 by simp)
      clear hbx
      by_cases hkj : k = j
      · subst hkj
        have HE := Lib.hid (HFJ.out.symm.trans HX.out)
        have hyx : (x.name.toList == s.toList) = true := by rw [← HE.out]; exact HY.out
        obtain ⟨kf, HKF⟩ : ∃ q, Hid (fkd x = q) := ⟨_, Lib.hid rfl⟩
        go_wp2_with (fail)
        clear c0 c1 c2 c3 hyx
        generalize (wr.alloc (.cells #[.string x.name, .int .i64 x.ty.kind, .int .i64 x.ty.len, .string x.ty.nm] 87)) = wx at *
        have HRX := Lib.hid (show RcBox wx (w.heap.size + 1) r from (HBX.out.block _ (by have := HS1.out; omega)).trans HX1.out)
        have HZX := Lib.hid (HZ1.out.below HBX.out (by have := HS1.out; omega))
        have f0 := Lib.cell_of_heap HRX.out 0
        obtain ⟨e0, e1, e2, e3⟩ := HFX.out
        have hne1 : ¬ wr.heap.size = w.heap.size := by have := HS1.out; omega
        have hne2 : ¬ w.heap.size = wr.heap.size := by have := HS1.out; omega
        go_region_held3 (fun w' => w'.cell? ⟨w.heap.size + 1, 0, none⟩ = some (.string r.name) ∧ w'.cell? ⟨wr.heap.size, 0, none⟩ = some (.string x.name) ∧ w'.cell? ⟨wr.heap.size, 1, none⟩ = some (.int .i64 x.ty.kind) ∧ w'.cell? ⟨wr.heap.size, 2, none⟩ = some (.int .i64 x.ty.len) ∧ w'.cell? ⟨wr.heap.size, 3, none⟩ = some (.string x.ty.nm)) (first | (with_reducible exact HK.out) | go_keep)
          ((go_at_call 42; (with_reducible refine (fieldType_k x _ kf HKF.out).mono ?_); rintro e w3 ⟨rfl, hb3⟩; have HB3 := Lib.hid (HBX.out.trans (((Below.refl wx.heap.size wx).drew.trans hb3).mono (by have := HSX.out; have := HS1.out; omega))); have HK := Lib.hid (show w3.cell? ⟨w.heap.size + 1, 0, none⟩ = some (.string r.name) ∧ w3.cell? ⟨wr.heap.size, 0, none⟩ = some (.string x.name) ∧ w3.cell? ⟨wr.heap.size, 1, none⟩ = some (.int .i64 x.ty.kind) ∧ w3.cell? ⟨wr.heap.size, 2, none⟩ = some (.int .i64 x.ty.len) ∧ w3.cell? ⟨wr.heap.size, 3, none⟩ = some (.string x.ty.nm) from ⟨(hb3.cell (p := ⟨w.heap.size + 1, 0, none⟩) (show w.heap.size + 1 < wx.heap.size by have := HSX.out; have := HS1.out; omega)).trans f0, (hb3.cell (p := ⟨wr.heap.size, 0, none⟩) (show wr.heap.size < wx.heap.size by have := HSX.out; have := HS1.out; omega)).trans e0, (hb3.cell (p := ⟨wr.heap.size, 1, none⟩) (show wr.heap.size < wx.heap.size by have := HSX.out; have := HS1.out; omega)).trans e1, (hb3.cell (p := ⟨wr.heap.size, 2, none⟩) (show wr.heap.size < wx.heap.size by have := HSX.out; have := HS1.out; omega)).trans e2, (hb3.cell (p := ⟨wr.heap.size, 3, none⟩) (show wr.heap.size < wx.heap.size by have := HSX.out; have := HS1.out; omega)).trans e3⟩); have HZ3 := Lib.hid (HZX.out.below ((Below.refl wx.heap.size wx).drew.trans hb3) (show w.heap.size < wx.heap.size by have := HSX.out; have := HS1.out; omega)); have z0 := HZ3.out.cells.1; have z1 := HZ3.out.cells.2.1; have z2 := HZ3.out.cells.2.2; have y0 := HZ3.out.frozen 0; have y1 := HZ3.out.frozen 1; have y2 := HZ3.out.frozen 2; clear hb3))
        go_wp2_with (fail)
        refine bodyPost_ret (v := .tuple #[.string r.name, .int .i64 (k : Int), .agg #[.int .i64 kf, .int .i64 0, .string ⟨#[]⟩], .bool true]) (by simp [results, Tryd.results19, go_sem, z0, z1, z2]) rfl ⟨?_, ?_⟩
        · rw [HE.out, HKF.out]
        · have HBB := (HB1.out.trans (HB3.out.mono (by have := HS1.out; omega)))
          repeat (first | exact HBB | (refine Below.setCell ?_ (by simp) _))
      · have hyx : (x.name.toList == s.toList) = false := by rw [← HX.out]; exact HN.out k (by omega)
        go_wp2_with (fail)
        exact ⟨⟨k + 1, by omega, by go_num, HBX⟩, by simp [intOf]; omega⟩
end Go.Proofs.YtnpcfmoiiecadaaDoor
