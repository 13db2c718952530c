/- What is proved: EqualFunc over fields, Same. -/
import Derived.Test.YtoopnddlcofhoaaGreatDoorTySame
set_option linter.unusedVariables false
namespace Go.Proofs.YtoopnddlcofhoaaGreatDoor
open Go.RowKit

/-- two lists of fields are the same -/
def fldsP (l m : List FldV) : Prop := l.length = m.length ∧ ∀ (j : Nat) (h1 : j < l.length) (h2 : j < m.length), fldB l[j] m[j] = true
def Says (P : Prop) (w : World) (e : Ending) (w' : World) : Prop := ∃ r, e = .returned (.bool r) ∧ (r = true ↔ P) ∧ Below w.heap.size w w'
theorem Says.yes {P : Prop} {w w' : World} (h : P) (hb : Below w.heap.size w w') : Says P w (.returned (.bool true)) w' := ⟨true, rfl, ⟨fun _ => h, fun _ => rfl⟩, hb⟩
theorem Says.no {P : Prop} {w w' : World} (h : ¬ P) (hb : Below w.heap.size w w') : Says P w (.returned (.bool false)) w' := ⟨false, rfl, ⟨(fun e => by cases e), fun e => absurd e h⟩, hb⟩
/-- two types with their records mean the same -/
def SameP (a : TyV) (ra : List RcV) (b : TyV) (rb : List RcV) : Prop :=
  a = b ∧ validB a ra = true ∧ validB b rb = true ∧ (a.kind = 4 → ∃ r s, fndR ra a.nm = some r ∧ fndR rb b.nm = some s ∧ fldsP r.flds s.flds)
theorem kind4 {t : TyV} {l : List RcV} (h : t.kind = 4) (hv : validB t l = true) : ∃ r, fndR l t.nm = some r := by
  unfold validB at hv
  rw [if_neg (by omega), if_neg (by omega), if_pos h] at hv
  simp only [Bool.and_eq_true] at hv
  exact Option.isSome_iff_exists.1 hv.1
theorem fndR_mem {l : List RcV} {s : ByteArray} {r : RcV} (h : fndR l s = some r) : r ∈ l := List.mem_of_find?_eq_some h
theorem RRow.fields {n₀ : Nat} {w : World} {A : Option Addr} {l : List RcV} (h : RRow n₀ w A l) {r : RcV} (hr : r ∈ l) : FRow n₀ w r.A r.flds ∧ r.flds.length ≤ 1000000000 := by
  obtain ⟨i, hi, rfl⟩ := List.getElem_of_mem hr
  obtain ⟨b, off, _, _, hc⟩ := h (by omega)
  exact (hc i hi).2.2
theorem tyB_ne {a b : TyV} (h : tyB a b = false) : a ≠ b := fun e => by rw [e, tyB_refl] at h; cases h

/-- what lies in two boxes -/
def TwoT (w : World) (b : Nat) (f g : TyV) : Prop := TCells w b 0 f ∧ TCells w (b + 1) 0 g
theorem TwoT.below {B b : Nat} {w w' : World} {f g : TyV} (h : TwoT w b f g) (hb : Below B w w') (hlt : b + 1 < B) : TwoT w' b f g := ⟨h.1.below hb (by omega), h.2.below hb hlt⟩
theorem TwoT.now {w : World} {b : Nat} {f g : TyV} (h : TwoT w b f g) : w.cell? ⟨b, 0, none⟩ = some (.int .i64 f.kind) ∧ w.cell? ⟨b, 1, none⟩ = some (.int .i64 f.len) ∧ w.cell? ⟨b, 2, none⟩ = some (.string f.nm) ∧
    w.cell? ⟨b + 1, 0, none⟩ = some (.int .i64 g.kind) ∧ w.cell? ⟨b + 1, 1, none⟩ = some (.int .i64 g.len) ∧ w.cell? ⟨b + 1, 2, none⟩ = some (.string g.nm) :=
  ⟨h.1.1, h.1.2.1, h.1.2.2, h.2.1, h.2.2.1, h.2.2.2⟩
theorem box_twoT (w : World) (f g : TyV) : Below w.heap.size w ((w.alloc (.cells #[.int .i64 f.kind, .int .i64 f.len, .string f.nm] 23)).alloc (.cells #[.int .i64 g.kind, .int .i64 g.len, .string g.nm] 23)) ∧ TwoT ((w.alloc (.cells #[.int .i64 f.kind, .int .i64 f.len, .string f.nm] 23)).alloc (.cells #[.int .i64 g.kind, .int .i64 g.len, .string g.nm] 23)) w.heap.size f g ∧ ((w.alloc (.cells #[.int .i64 f.kind, .int .i64 f.len, .string f.nm] 23)).alloc (.cells #[.int .i64 g.kind, .int .i64 g.len, .string g.nm] 23)).heap.size = w.heap.size + 2 := by
  refine ⟨((Below.refl _ _).alloc (Nat.le_refl _) _).alloc (by simp) _, ⟨TCells.of_box.below ((Below.refl _ _).alloc (Nat.le_refl _) _) (by simp), ?_⟩, by simp⟩
  have h := TCells.of_box (w := w.alloc (.cells #[.int .i64 f.kind, .int .i64 f.len, .string f.nm] 23)) (x := g)
  rwa [World.size_alloc] at h

theorem find_yes (A : Option Addr) (c : Nat) (l : List RcV) (s : ByteArray) (r : RcV) (w : World) (hf : fndR l s = some r) (hr : RRow w.heap.size w A l) (hl : l.length ≤ 1000000000) :
    Calls Tryz.prog 34 #[.slice A l.length c, .string s] w fun e w' => e = .returned (.tuple #[.slice r.A r.flds.length r.c, .bool true]) ∧ Below w.heap.size w w' := by
  refine (find_any A c l s w hr hl).mono ?_
  rintro e w' ⟨hb, ⟨h, _⟩ | ⟨r', h, rfl⟩⟩
  · rw [hf] at h; cases h
  · rw [hf] at h
    cases h
    exact ⟨rfl, hb⟩

/-- what follows from it -/
theorem fldB_symm {f g : FldV} (h : fldB f g = true) : fldB g f = true := by
  unfold fldB at *
  simp only [Bool.and_eq_true, beq_iff_eq] at *
  exact ⟨h.1.symm, h.2.symm⟩
theorem fldB_refl (f : FldV) : fldB f f = true := by simp [fldB]
theorem fldsP_symm {l m : List FldV} (h : fldsP l m) : fldsP m l := ⟨h.1.symm, fun j h1 h2 => fldB_symm (h.2 j h2 h1)⟩
theorem fldsP_refl (l : List FldV) : fldsP l l := ⟨rfl, fun _ _ _ => fldB_refl _⟩
theorem SameP.symm {a b : TyV} {ra rb : List RcV} (h : SameP a ra b rb) : SameP b rb a ra := by
  obtain ⟨rfl, h1, h2, h3⟩ := h
  exact ⟨rfl, h2, h1, fun hk => by obtain ⟨r, s, hr, hs, hf⟩ := h3 hk; exact ⟨s, r, hs, hr, fldsP_symm hf⟩⟩
theorem SameP.self {a : TyV} {ra : List RcV} : SameP a ra a ra ↔ validB a ra = true :=
  ⟨fun h => h.2.1, fun h => ⟨rfl, h, h, fun hk => by obtain ⟨r, hr⟩ := kind4 hk h; exact ⟨r, r, hr, hr, fldsP_refl _⟩⟩⟩
theorem fldsP_map {l m : List FldV} (h : fldsP l m) : l.map fty = m.map fty := by
  apply List.ext_getElem (by simpa using h.1)
  intro i h1 h2
  simp only [List.getElem_map]
  have h3 := h.2 i (by simpa using h1) (by simpa using h2)
  unfold fldB at h3
  simp only [Bool.and_eq_true, beq_iff_eq] at h3
  rw [fty_eq, fty_eq, h3.2]
theorem SameP.parts {a b : TyV} {ra rb : List RcV} (h : SameP a ra b rb) : partsT a ra = partsT b rb := by
  obtain ⟨rfl, h1, h2, h3⟩ := h
  unfold partsT
  by_cases k3 : a.kind = 3
  · rw [if_pos k3, if_pos k3]
  · rw [if_neg k3, if_neg k3]
    by_cases k4 : a.kind = 4
    · obtain ⟨r, s, hr, hs, hf⟩ := h3 k4
      rw [if_pos k4, if_pos k4, hr, hs]
      exact fldsP_map hf
    · rw [if_neg k4, if_neg k4]

end Go.Proofs.YtoopnddlcofhoaaGreatDoor
