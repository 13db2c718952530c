/- What is proved: types, fields and records as they lie in memory; nothing of the program's functions. -/
import Derived.Test.YtoopnddlcofhoaaGreatDoorProg
import Derived.WalkKit
import Derived.OwnWalk
import Derived.Below
import Derived.Outline
import Derived.WalkLawsBesides
import Derived.IntWalk
import Derived.Lib.Hide
import Derived.LoopTactic
import Derived.LoopIn
import Derived.LoopNIn
import Derived.Deep.QuietTactic
import Derived.Deep.RegionHeld3
import Derived.Deep.RegionLaw
import Derived.Deep.AppendLies
import Derived.BigQuiet
set_option linter.unusedVariables false
namespace Go.Proofs.YtoopnddlcofhoaaGreatDoor
open Go.RowKit

/-- a type -/
structure TyV where
  kind : Int
  len : Int
  nm : ByteArray
/-- a field -/
structure FldV where
  name : ByteArray
  ty : TyV
/-- a record: its name, and its fields with the place where they lie -/
structure RcV where
  name : ByteArray
  A : Option Addr
  c : Nat
  flds : List FldV

theorem bsz {b c : ByteArray} (h : b = c) : b.toList = c.toList := by rw [h]
theorem ba_eq {b c : ByteArray} (h : b.toList = c.toList) : b = c := by
  rw [ByteArray.toList_eq, ByteArray.toList_eq] at h
  exact ByteArray.ext (Array.ext' h)
theorem ret_bool {a b : Bool} (h : a = b) : Ending.returned (.bool a) = .returned (.bool b) := by rw [h]
theorem ret_int {k : IntKind} {a b : Int} (h : a = b) : Ending.returned (.int k a) = .returned (.int k b) := by rw [h]

theorem bcell {W w1 : World} (hb : Below W.heap.size W w1) : (∀ b o, b < W.heap.size → w1.cell? ⟨b, o, none⟩ = W.cell? ⟨b, o, none⟩) ∧ (∀ b o, b < W.heap.size → w1.frozen? ⟨b, o, none⟩ = W.frozen? ⟨b, o, none⟩) :=
  ⟨fun b o h => hb.cell (p := ⟨b, o, none⟩) h, fun b o h => hb.frozen (p := ⟨b, o, none⟩) h⟩

theorem hset {w : World} {b i : Nat} {cs : Array Value} {t : TypeId} (hb : w.heap[b]? = some (.cells cs t (0, 0))) (v : Value) : (w.setCell ⟨b, i, none⟩ v).heap[b]? = some (.cells (cs.setIfInBounds i v) t (0, 0)) := by
  simp [World.setCell, Array.getElem?_modify, hb]
theorem hfrz {w : World} {b : Nat} {cs : Array Value} {t : TypeId} (hb : w.heap[b]? = some (.cells cs t (0, 0))) (i : Nat) : w.frozen? ⟨b, i, none⟩ = false := by
  simp [World.frozen?, hb]

/-- a field's cells -/
def FCells (w : World) (b o : Nat) (x : FldV) : Prop :=
  w.cell? ⟨b, o, none⟩ = some (.string x.name) ∧ w.cell? ⟨b, o + 1, none⟩ = some (.int .i64 x.ty.kind) ∧ w.cell? ⟨b, o + 2, none⟩ = some (.int .i64 x.ty.len) ∧ w.cell? ⟨b, o + 3, none⟩ = some (.string x.ty.nm)
/-- a type's cells -/
def TCells (w : World) (b o : Nat) (x : TyV) : Prop :=
  w.cell? ⟨b, o, none⟩ = some (.int .i64 x.kind) ∧ w.cell? ⟨b, o + 1, none⟩ = some (.int .i64 x.len) ∧ w.cell? ⟨b, o + 2, none⟩ = some (.string x.nm)
/-- a slice of fields -/
def FRow (n₀ : Nat) (w : World) (A : Option Addr) (l : List FldV) : Prop :=
  0 < l.length → ∃ b off, A = some ⟨b, off, none⟩ ∧ b < n₀ ∧ ∀ (i : Nat) (h : i < l.length), FCells w b (off + i * 4) l[i]
/-- a slice of types -/
def TRow (n₀ : Nat) (w : World) (A : Option Addr) (l : List TyV) : Prop :=
  0 < l.length → ∃ b off, A = some ⟨b, off, none⟩ ∧ b < n₀ ∧ ∀ (i : Nat) (h : i < l.length), TCells w b (off + i * 3) l[i]
/-- a slice of records -/
def RRow (n₀ : Nat) (w : World) (A : Option Addr) (l : List RcV) : Prop :=
  0 < l.length → ∃ b off, A = some ⟨b, off, none⟩ ∧ b < n₀ ∧ ∀ (i : Nat) (h : i < l.length),
    w.cell? ⟨b, off + i * 2, none⟩ = some (.string l[i].name) ∧ w.cell? ⟨b, off + i * 2 + 1, none⟩ = some (.slice l[i].A l[i].flds.length l[i].c) ∧ FRow n₀ w l[i].A l[i].flds ∧ l[i].flds.length ≤ 1000000000

theorem FCells.below {w w' : World} {b o B : Nat} {x : FldV} (h : FCells w b o x) (hb : Below B w w') (hlt : b < B) : FCells w' b o x :=
  ⟨(hb.cell (p := ⟨b, o, none⟩) hlt).trans h.1, (hb.cell (p := ⟨b, o + 1, none⟩) hlt).trans h.2.1, (hb.cell (p := ⟨b, o + 2, none⟩) hlt).trans h.2.2.1, (hb.cell (p := ⟨b, o + 3, none⟩) hlt).trans h.2.2.2⟩
theorem TCells.below {w w' : World} {b o B : Nat} {x : TyV} (h : TCells w b o x) (hb : Below B w w') (hlt : b < B) : TCells w' b o x :=
  ⟨(hb.cell (p := ⟨b, o, none⟩) hlt).trans h.1, (hb.cell (p := ⟨b, o + 1, none⟩) hlt).trans h.2.1, (hb.cell (p := ⟨b, o + 2, none⟩) hlt).trans h.2.2⟩
theorem FRow.below {n₀ : Nat} {w w' : World} {A : Option Addr} {l : List FldV} (h : FRow n₀ w A l) (hb : Below n₀ w w') : FRow n₀ w' A l := fun h0 => by
  obtain ⟨b, off, e, hlt, hc⟩ := h h0
  exact ⟨b, off, e, hlt, fun i hi => (hc i hi).below hb hlt⟩
theorem FRow.mono {n₀ n₁ : Nat} {w : World} {A : Option Addr} {l : List FldV} (h : FRow n₀ w A l) (hn : n₀ ≤ n₁) : FRow n₁ w A l := fun h0 => by
  obtain ⟨b, off, e, hlt, hc⟩ := h h0
  exact ⟨b, off, e, Nat.lt_of_lt_of_le hlt hn, hc⟩
theorem TRow.below {n₀ : Nat} {w w' : World} {A : Option Addr} {l : List TyV} (h : TRow n₀ w A l) (hb : Below n₀ w w') : TRow n₀ w' A l := fun h0 => by
  obtain ⟨b, off, e, hlt, hc⟩ := h h0
  exact ⟨b, off, e, hlt, fun i hi => (hc i hi).below hb hlt⟩
theorem TRow.mono {n₀ n₁ : Nat} {w : World} {A : Option Addr} {l : List TyV} (h : TRow n₀ w A l) (hn : n₀ ≤ n₁) : TRow n₁ w A l := fun h0 => by
  obtain ⟨b, off, e, hlt, hc⟩ := h h0
  exact ⟨b, off, e, Nat.lt_of_lt_of_le hlt hn, hc⟩
theorem RRow.below {n₀ : Nat} {w w' : World} {A : Option Addr} {l : List RcV} (h : RRow n₀ w A l) (hb : Below n₀ w w') : RRow n₀ w' A l := fun h0 => by
  obtain ⟨b, off, e, hlt, hc⟩ := h h0
  exact ⟨b, off, e, hlt, fun i hi => ⟨(hb.cell (p := ⟨b, off + i * 2, none⟩) hlt).trans (hc i hi).1, (hb.cell (p := ⟨b, off + i * 2 + 1, none⟩) hlt).trans (hc i hi).2.1, (hc i hi).2.2.1.below hb, (hc i hi).2.2.2⟩⟩
theorem RRow.mono {n₀ n₁ : Nat} {w : World} {A : Option Addr} {l : List RcV} (h : RRow n₀ w A l) (hn : n₀ ≤ n₁) : RRow n₁ w A l := fun h0 => by
  obtain ⟨b, off, e, hlt, hc⟩ := h h0
  exact ⟨b, off, e, Nat.lt_of_lt_of_le hlt hn, fun i hi => ⟨(hc i hi).1, (hc i hi).2.1, (hc i hi).2.2.1.mono hn, (hc i hi).2.2.2⟩⟩
theorem FRow.later {w w' : World} {A : Option Addr} {l : List FldV} (h : FRow w.heap.size w A l) (hb : Below w.heap.size w w') : FRow w'.heap.size w' A l := (h.below hb).mono hb.size
theorem TRow.later {w w' : World} {A : Option Addr} {l : List TyV} (h : TRow w.heap.size w A l) (hb : Below w.heap.size w w') : TRow w'.heap.size w' A l := (h.below hb).mono hb.size
theorem RRow.later {w w' : World} {A : Option Addr} {l : List RcV} (h : RRow w.heap.size w A l) (hb : Below w.heap.size w w') : RRow w'.heap.size w' A l := (h.below hb).mono hb.size

theorem drewN_below (w : World) (n : Nat) : Below w.heap.size w (w.drewN n) := by
  induction n with
  | zero => exact Below.refl _ _
  | succ n ih => exact ih.drew
/-- what the functions compute -/
def bsc (k : Int) : TyV := ⟨k, 0, ⟨#[]⟩⟩
def tyB (a b : TyV) : Bool := a.kind == b.kind && (a.len == b.len && a.nm.toList == b.nm.toList)
theorem tyB_eq {a b : TyV} (h : tyB a b = true) : a = b := by
  unfold tyB at h
  simp only [Bool.and_eq_true, beq_iff_eq] at h
  obtain ⟨h1, h2, h3⟩ := h
  cases a; cases b
  simp only at h1 h2 h3
  rw [h1, h2, ba_eq h3]
theorem tyB_refl (a : TyV) : tyB a a = true := by simp [tyB]
theorem tyB_iff {a b : TyV} : tyB a b = true ↔ a = b := ⟨tyB_eq, fun h => h ▸ tyB_refl a⟩
/-- the first record with a name -/
def fndR (l : List RcV) (s : ByteArray) : Option RcV := l.find? (fun r => r.name.toList == s.toList)
def validB (t : TyV) (l : List RcV) : Bool :=
  if t.kind = 1 ∨ t.kind = 2 then t.len == 0 && t.nm.toList == []
  else if t.kind = 3 then decide (1 ≤ t.len) && decide (t.len ≤ 8) && t.nm.toList == []
  else if t.kind = 4 then (fndR l t.nm).isSome && t.len == 0
  else false
/-- a field's type -/
def fty (f : FldV) : TyV := if tyB f.ty (bsc 2) then bsc 2 else bsc 1
/-- the scalars of a type that exists -/
def partsT (t : TyV) (l : List RcV) : List TyV :=
  if t.kind = 3 then List.replicate t.len.toNat (bsc 1)
  else if t.kind = 4 then (match fndR l t.nm with | some r => r.flds.map fty | none => [])
  else [t]
/-- the scalars of types -/
def scalT (ts : List TyV) (l : List RcV) : List TyV := if ts.all (fun t => validB t l) then ts.flatMap (fun t => partsT t l) else []
end Go.Proofs.YtoopnddlcofhoaaGreatDoor
