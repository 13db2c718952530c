/- What is proved: Same, and what it calls. -/
import Derived.Test.YtoopnddlcofhoaaGreatDoorTyValid
set_option linter.unusedVariables false
namespace Go.Proofs.YtoopnddlcofhoaaGreatDoor
open Go.RowKit

/-- the kind of a field's type -/
def fkd (f : FldV) : Int := if tyB f.ty (bsc 2) then 2 else 1
theorem fty_eq (f : FldV) : fty f = bsc (fkd f) := by unfold fty fkd; cases tyB f.ty (bsc 2) <;> rfl
theorem fieldType_k (f : FldV) (w : World) (k : Int) (hk : fkd f = k) : Calls Tryz.prog 54 #[.agg #[.string f.name, .int .i64 f.ty.kind, .int .i64 f.ty.len, .string f.ty.nm]] w fun e w' => e = .returned (.agg #[.int .i64 k, .int .i64 0, .string ⟨#[]⟩]) ∧ Below w.heap.size w w' := by
  have h := fieldType_any f w
  rw [fty_eq, hk] at h
  exact h
/-- two fields are the same -/
def fldB (f g : FldV) : Bool := f.name.toList == g.name.toList && fkd f == fkd g

/-- what lies in two boxes -/
def Two (w : World) (b : Nat) (f g : FldV) : Prop := FCells w b 0 f ∧ FCells w (b + 1) 0 g
theorem Two.below {B b : Nat} {w w' : World} {f g : FldV} (h : Two w b f g) (hb : Below B w w') (hlt : b + 1 < B) : Two w' b f g := ⟨h.1.below hb (by omega), h.2.below hb hlt⟩
theorem Two.now {w : World} {b : Nat} {f g : FldV} (h : Two w b f g) : w.cell? ⟨b, 0, none⟩ = some (.string f.name) ∧ w.cell? ⟨b, 1, none⟩ = some (.int .i64 f.ty.kind) ∧ w.cell? ⟨b, 2, none⟩ = some (.int .i64 f.ty.len) ∧ w.cell? ⟨b, 3, none⟩ = some (.string f.ty.nm) ∧
    w.cell? ⟨b + 1, 0, none⟩ = some (.string g.name) ∧ w.cell? ⟨b + 1, 1, none⟩ = some (.int .i64 g.ty.kind) ∧ w.cell? ⟨b + 1, 2, none⟩ = some (.int .i64 g.ty.len) ∧ w.cell? ⟨b + 1, 3, none⟩ = some (.string g.ty.nm) :=
  ⟨h.1.1, h.1.2.1, h.1.2.2.1, h.1.2.2.2, h.2.1, h.2.2.1, h.2.2.2.1, h.2.2.2.2⟩
theorem box_two (w : World) (f g : FldV) : Below w.heap.size w ((w.alloc (.cells #[.string f.name, .int .i64 f.ty.kind, .int .i64 f.ty.len, .string f.ty.nm] 55)).alloc (.cells #[.string g.name, .int .i64 g.ty.kind, .int .i64 g.ty.len, .string g.ty.nm] 55)) ∧ Two ((w.alloc (.cells #[.string f.name, .int .i64 f.ty.kind, .int .i64 f.ty.len, .string f.ty.nm] 55)).alloc (.cells #[.string g.name, .int .i64 g.ty.kind, .int .i64 g.ty.len, .string g.ty.nm] 55)) w.heap.size f g ∧ ((w.alloc (.cells #[.string f.name, .int .i64 f.ty.kind, .int .i64 f.ty.len, .string f.ty.nm] 55)).alloc (.cells #[.string g.name, .int .i64 g.ty.kind, .int .i64 g.ty.len, .string g.ty.nm] 55)).heap.size = w.heap.size + 2 := by
  refine ⟨((Below.refl _ _).alloc (Nat.le_refl _) _).alloc (by simp) _, ⟨FCells.of_box.below ((Below.refl _ _).alloc (Nat.le_refl _) _) (by simp), ?_⟩, by simp⟩
  have h := FCells.of_box (w := w.alloc (.cells #[.string f.name, .int .i64 f.ty.kind, .int .i64 f.ty.len, .string f.ty.nm] 55)) (x := g)
  rwa [World.size_alloc] at h

end Go.Proofs.YtoopnddlcofhoaaGreatDoor
