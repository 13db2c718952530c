/- What is proved: the types that a node writes: written, Written, and the reference's Written, over the contracts of both Numbers. -/
import Derived.Test.YtnpcfmoiiecadaaDoorProg
import Derived.WalkKit
import Derived.OwnWalk
import Derived.Below
import Derived.Outline
import Derived.WalkLawsBesides
import Derived.IntWalk
import Derived.Lib.Hide
import Derived.LoopTactic
import Derived.LoopIn
import Derived.LoopNIn
import Derived.Deep.QuietTactic
import Derived.Deep.RegionHeld3
import Derived.Deep.RegionLaw
import Derived.Deep.AppendLies
import Derived.BigQuiet
import Derived.Test.YtnpcfmoiiecadaaDoorNt
set_option linter.unusedVariables false
namespace Go.Proofs.YtnpcfmoiiecadaaDoor
open Go.RowKit

/-- a type -/
structure TyV where
  kind : Int
  len : Int
  nm : ByteArray
/-- a field -/
structure FldV where
  name : ByteArray
  ty : TyV
/-- a record: its name, and its fields with the place where they lie -/
structure RcV where
  name : ByteArray
  A : Option Addr
  c : Nat
  flds : List FldV

theorem bsz {b c : ByteArray} (h : b = c) : b.toList = c.toList := by rw [h]
theorem ba_eq {b c : ByteArray} (h : b.toList = c.toList) : b = c := by
  rw [ByteArray.toList_eq, ByteArray.toList_eq] at h
  exact ByteArray.ext (Array.ext' h)
theorem ret_bool {a b : Bool} (h : a = b) : Ending.returned (.bool a) = .returned (.bool b) := by rw [h]
theorem ret_int {k : IntKind} {a b : Int} (h : a = b) : Ending.returned (.int k a) = .returned (.int k b) := by rw [h]

theorem bcell {W w1 : World} (hb : Below W.heap.size W w1) : (∀ b o, b < W.heap.size → w1.cell? ⟨b, o, none⟩ = W.cell? ⟨b, o, none⟩) ∧ (∀ b o, b < W.heap.size → w1.frozen? ⟨b, o, none⟩ = W.frozen? ⟨b, o, none⟩) :=
  ⟨fun b o h => hb.cell (p := ⟨b, o, none⟩) h, fun b o h => hb.frozen (p := ⟨b, o, none⟩) h⟩

theorem hset {w : World} {b i : Nat} {cs : Array Value} {t : TypeId} (hb : w.heap[b]? = some (.cells cs t (0, 0))) (v : Value) : (w.setCell ⟨b, i, none⟩ v).heap[b]? = some (.cells (cs.setIfInBounds i v) t (0, 0)) := by
  simp [World.setCell, Array.getElem?_modify, hb]
theorem hfrz {w : World} {b : Nat} {cs : Array Value} {t : TypeId} (hb : w.heap[b]? = some (.cells cs t (0, 0))) (i : Nat) : w.frozen? ⟨b, i, none⟩ = false := by
  simp [World.frozen?, hb]

/-- a field's cells -/
def FCells (w : World) (b o : Nat) (x : FldV) : Prop :=
  w.cell? ⟨b, o, none⟩ = some (.string x.name) ∧ w.cell? ⟨b, o + 1, none⟩ = some (.int .i64 x.ty.kind) ∧ w.cell? ⟨b, o + 2, none⟩ = some (.int .i64 x.ty.len) ∧ w.cell? ⟨b, o + 3, none⟩ = some (.string x.ty.nm)
/-- a type's cells -/
def TCells (w : World) (b o : Nat) (x : TyV) : Prop :=
  w.cell? ⟨b, o, none⟩ = some (.int .i64 x.kind) ∧ w.cell? ⟨b, o + 1, none⟩ = some (.int .i64 x.len) ∧ w.cell? ⟨b, o + 2, none⟩ = some (.string x.nm)
/-- a slice of fields -/
def FRow (n₀ : Nat) (w : World) (A : Option Addr) (l : List FldV) : Prop :=
  0 < l.length → ∃ b off, A = some ⟨b, off, none⟩ ∧ b < n₀ ∧ ∀ (i : Nat) (h : i < l.length), FCells w b (off + i * 4) l[i]
/-- a slice of types -/
def TRow (n₀ : Nat) (w : World) (A : Option Addr) (l : List TyV) : Prop :=
  0 < l.length → ∃ b off, A = some ⟨b, off, none⟩ ∧ b < n₀ ∧ ∀ (i : Nat) (h : i < l.length), TCells w b (off + i * 3) l[i]
/-- a slice of records -/
def RRow (n₀ : Nat) (w : World) (A : Option Addr) (l : List RcV) : Prop :=
  0 < l.length → ∃ b off, A = some ⟨b, off, none⟩ ∧ b < n₀ ∧ ∀ (i : Nat) (h : i < l.length),
    w.cell? ⟨b, off + i * 2, none⟩ = some (.string l[i].name) ∧ w.cell? ⟨b, off + i * 2 + 1, none⟩ = some (.slice l[i].A l[i].flds.length l[i].c) ∧ FRow n₀ w l[i].A l[i].flds ∧ l[i].flds.length ≤ 1000000000

theorem FCells.below {w w' : World} {b o B : Nat} {x : FldV} (h : FCells w b o x) (hb : Below B w w') (hlt : b < B) : FCells w' b o x :=
  ⟨(hb.cell (p := ⟨b, o, none⟩) hlt).trans h.1, (hb.cell (p := ⟨b, o + 1, none⟩) hlt).trans h.2.1, (hb.cell (p := ⟨b, o + 2, none⟩) hlt).trans h.2.2.1, (hb.cell (p := ⟨b, o + 3, none⟩) hlt).trans h.2.2.2⟩
theorem TCells.below {w w' : World} {b o B : Nat} {x : TyV} (h : TCells w b o x) (hb : Below B w w') (hlt : b < B) : TCells w' b o x :=
  ⟨(hb.cell (p := ⟨b, o, none⟩) hlt).trans h.1, (hb.cell (p := ⟨b, o + 1, none⟩) hlt).trans h.2.1, (hb.cell (p := ⟨b, o + 2, none⟩) hlt).trans h.2.2⟩
theorem FRow.below {n₀ : Nat} {w w' : World} {A : Option Addr} {l : List FldV} (h : FRow n₀ w A l) (hb : Below n₀ w w') : FRow n₀ w' A l := fun h0 => by
  obtain ⟨b, off, e, hlt, hc⟩ := h h0
  exact ⟨b, off, e, hlt, fun i hi => (hc i hi).below hb hlt⟩
theorem FRow.mono {n₀ n₁ : Nat} {w : World} {A : Option Addr} {l : List FldV} (h : FRow n₀ w A l) (hn : n₀ ≤ n₁) : FRow n₁ w A l := fun h0 => by
  obtain ⟨b, off, e, hlt, hc⟩ := h h0
  exact ⟨b, off, e, Nat.lt_of_lt_of_le hlt hn, hc⟩
theorem TRow.below {n₀ : Nat} {w w' : World} {A : Option Addr} {l : List TyV} (h : TRow n₀ w A l) (hb : Below n₀ w w') : TRow n₀ w' A l := fun h0 => by
  obtain ⟨b, off, e, hlt, hc⟩ := h h0
  exact ⟨b, off, e, hlt, fun i hi => (hc i hi).below hb hlt⟩
theorem TRow.mono {n₀ n₁ : Nat} {w : World} {A : Option Addr} {l : List TyV} (h : TRow n₀ w A l) (hn : n₀ ≤ n₁) : TRow n₁ w A l := fun h0 => by
  obtain ⟨b, off, e, hlt, hc⟩ := h h0
  exact ⟨b, off, e, Nat.lt_of_lt_of_le hlt hn, hc⟩
theorem RRow.below {n₀ : Nat} {w w' : World} {A : Option Addr} {l : List RcV} (h : RRow n₀ w A l) (hb : Below n₀ w w') : RRow n₀ w' A l := fun h0 => by
  obtain ⟨b, off, e, hlt, hc⟩ := h h0
  exact ⟨b, off, e, hlt, fun i hi => ⟨(hb.cell (p := ⟨b, off + i * 2, none⟩) hlt).trans (hc i hi).1, (hb.cell (p := ⟨b, off + i * 2 + 1, none⟩) hlt).trans (hc i hi).2.1, (hc i hi).2.2.1.below hb, (hc i hi).2.2.2⟩⟩
theorem RRow.mono {n₀ n₁ : Nat} {w : World} {A : Option Addr} {l : List RcV} (h : RRow n₀ w A l) (hn : n₀ ≤ n₁) : RRow n₁ w A l := fun h0 => by
  obtain ⟨b, off, e, hlt, hc⟩ := h h0
  exact ⟨b, off, e, Nat.lt_of_lt_of_le hlt hn, fun i hi => ⟨(hc i hi).1, (hc i hi).2.1, (hc i hi).2.2.1.mono hn, (hc i hi).2.2.2⟩⟩
theorem FRow.later {w w' : World} {A : Option Addr} {l : List FldV} (h : FRow w.heap.size w A l) (hb : Below w.heap.size w w') : FRow w'.heap.size w' A l := (h.below hb).mono hb.size
theorem TRow.later {w w' : World} {A : Option Addr} {l : List TyV} (h : TRow w.heap.size w A l) (hb : Below w.heap.size w w') : TRow w'.heap.size w' A l := (h.below hb).mono hb.size
theorem RRow.later {w w' : World} {A : Option Addr} {l : List RcV} (h : RRow w.heap.size w A l) (hb : Below w.heap.size w w') : RRow w'.heap.size w' A l := (h.below hb).mono hb.size

theorem drewN_below (w : World) (n : Nat) : Below w.heap.size w (w.drewN n) := by
  induction n with
  | zero => exact Below.refl _ _
  | succ n ih => exact ih.drew
/-- what the functions compute -/
def bsc (k : Int) : TyV := ⟨k, 0, ⟨#[]⟩⟩
def tyB (a b : TyV) : Bool := a.kind == b.kind && (a.len == b.len && a.nm.toList == b.nm.toList)
theorem tyB_eq {a b : TyV} (h : tyB a b = true) : a = b := by
  unfold tyB at h
  simp only [Bool.and_eq_true, beq_iff_eq] at h
  obtain ⟨h1, h2, h3⟩ := h
  cases a; cases b
  simp only at h1 h2 h3
  rw [h1, h2, ba_eq h3]
theorem tyB_refl (a : TyV) : tyB a a = true := by simp [tyB]
theorem tyB_iff {a b : TyV} : tyB a b = true ↔ a = b := ⟨tyB_eq, fun h => h ▸ tyB_refl a⟩
/-- the first record with a name -/
def fndR (l : List RcV) (s : ByteArray) : Option RcV := l.find? (fun r => r.name.toList == s.toList)
def validB (t : TyV) (l : List RcV) : Bool :=
  if t.kind = 1 ∨ t.kind = 2 then t.len == 0 && t.nm.toList == []
  else if t.kind = 3 then decide (1 ≤ t.len) && decide (t.len ≤ 8) && t.nm.toList == []
  else if t.kind = 4 then (fndR l t.nm).isSome && t.len == 0
  else false
/-- a field's type -/
def fty (f : FldV) : TyV := if tyB f.ty (bsc 2) then bsc 2 else bsc 1
/-- the scalars of a type that exists -/
def partsT (t : TyV) (l : List RcV) : List TyV :=
  if t.kind = 3 then List.replicate t.len.toNat (bsc 1)
  else if t.kind = 4 then (match fndR l t.nm with | some r => r.flds.map fty | none => [])
  else [t]
/-- the scalars of types -/
def scalT (ts : List TyV) (l : List RcV) : List TyV := if ts.all (fun t => validB t l) then ts.flatMap (fun t => partsT t l) else []
end Go.Proofs.YtnpcfmoiiecadaaDoor
set_option linter.unusedVariables false
namespace Go.Proofs.YtnpcfmoiiecadaaDoor
open Go.RowKit

set_option maxHeartbeats 400000 in
theorem ty_basic_any (k : Int) (w : World) : Calls Tryd.prog 12 #[.int .i64 k] w fun e w' => e = .returned (.agg #[.int .i64 k, .int .i64 0, .string ⟨#[]⟩]) ∧ Below w.heap.size w w' := by
  go_enter Tryd.func12, Tryd.ntmps12
  go_wp2_with (fail)
  refine bodyPost_ret (v := .agg #[.int .i64 k, .int .i64 0, .string ⟨#[]⟩]) (by simp [results, Tryd.results12, go_sem]) rfl ⟨rfl, ?_⟩
  exact (Below.refl _ _).alloc (Nat.le_refl _) _

/-- three cells behind a name, in a block -/
def Ty3 (w : World) (b o : Nat) (x : TyV) : Prop := w.cell? ⟨b, o, none⟩ = some (.int .i64 x.kind) ∧ w.cell? ⟨b, o + 1, none⟩ = some (.int .i64 x.len) ∧ w.cell? ⟨b, o + 2, none⟩ = some (.string x.nm)
/-- a result's cells as they are made: a type -/
def ZT (w : World) (b : Nat) : Prop := w.heap[b]? = some (.cells #[.int .i64 0, .int .i64 0, .string ⟨#[]⟩] 23 (0, 0))
theorem ZT.below {B : Nat} {w w' : World} {b : Nat} (h : ZT w b) (hb : Below B w w') (hlt : b < B) : ZT w' b := (hb.block _ hlt).trans h
theorem ZT.cells {w : World} {b : Nat} (h : ZT w b) : w.cell? ⟨b, 0, none⟩ = some (.int .i64 0) ∧ w.cell? ⟨b, 1, none⟩ = some (.int .i64 0) ∧ w.cell? ⟨b, 2, none⟩ = some (.string ⟨#[]⟩) :=
  ⟨Lib.cell_of_heap h 0, Lib.cell_of_heap h 1, Lib.cell_of_heap h 2⟩
theorem ZT.frozen {w : World} {b : Nat} (h : ZT w b) (i : Nat) : w.frozen? ⟨b, i, none⟩ = false := hfrz h i
theorem FCells.of_box {w : World} {x : FldV} : FCells (w.alloc (.cells #[.string x.name, .int .i64 x.ty.kind, .int .i64 x.ty.len, .string x.ty.nm] 87)) w.heap.size 0 x :=
  ⟨Lib.cell_of_heap (heap_alloc_new w _) 0, Lib.cell_of_heap (heap_alloc_new w _) 1, Lib.cell_of_heap (heap_alloc_new w _) 2, Lib.cell_of_heap (heap_alloc_new w _) 3⟩

set_option maxHeartbeats 400000 in
theorem fieldType_any (f : FldV) (w : World) : Calls Tryd.prog 42 #[.agg #[.string f.name, .int .i64 f.ty.kind, .int .i64 f.ty.len, .string f.ty.nm]] w fun e w' => e = .returned (.agg #[.int .i64 (fty f).kind, .int .i64 (fty f).len, .string (fty f).nm]) ∧ Below w.heap.size w w' := by
  have HF : ∃ b, Hid (tyB f.ty (bsc 2) = b) := ⟨_, rfl⟩
  obtain ⟨b, HF⟩ := HF
  have hb3 : b = true ∧ (f.ty.kind == 2) = true ∧ (f.ty.len == 0) = true ∧ (f.ty.nm.toList == []) = true ∨ b = false ∧ ((f.ty.kind == 2) = false ∨ (f.ty.kind == 2) = true ∧ ((f.ty.len == 0) = false ∨ (f.ty.len == 0) = true ∧ (f.ty.nm.toList == []) = false)) := by
    have h := HF.out
    unfold tyB bsc at h
    dsimp only at h
    have e0 : (⟨#[]⟩ : ByteArray).toList = [] := by rw [ByteArray.toList_eq]
    rw [e0] at h
    cases h1 : (f.ty.kind == 2) <;> cases h2 : (f.ty.len == 0) <;> cases h3 : (f.ty.nm.toList == []) <;> simp [h1, h2, h3] at h <;> simp [h.symm]
  have HV1 := Lib.hid (show tyB f.ty (bsc 2) = false → fty f = bsc 1 from fun h => by unfold fty; rw [h]; rfl)
  have HV2 := Lib.hid (show tyB f.ty (bsc 2) = true → fty f = bsc 2 from fun h => by unfold fty; rw [h]; rfl)
  rcases hb3 with ⟨rfl, h1, h2, h3⟩ | ⟨rfl, h1 | ⟨h1, h2 | ⟨h2, h3⟩⟩⟩
  · have HV := Lib.hid (HV2.out HF.out)
    clear HV1 HV2
    rw [HV.out]
    go_enter Tryd.func42, Tryd.ntmps42
    go_wp2_with (fail)
    have hb0 : Below w.heap.size w ((w.alloc (.cells #[.string f.name, .int .i64 f.ty.kind, .int .i64 f.ty.len, .string f.ty.nm] 87)).alloc (.cells #[.int .i64 0, .int .i64 0, .string ⟨#[]⟩] 23)) := ((Below.refl _ _).alloc (Nat.le_refl _) _).alloc (by simp) _
    have hz0 : ZT ((w.alloc (.cells #[.string f.name, .int .i64 f.ty.kind, .int .i64 f.ty.len, .string f.ty.nm] 87)).alloc (.cells #[.int .i64 0, .int .i64 0, .string ⟨#[]⟩] 23)) (w.heap.size + 1) := by
      have h := heap_alloc_new (w.alloc (.cells #[.string f.name, .int .i64 f.ty.kind, .int .i64 f.ty.len, .string f.ty.nm] 87)) (.cells #[.int .i64 0, .int .i64 0, .string ⟨#[]⟩] 23)
      rwa [World.size_alloc] at h
    have hc0 : FCells ((w.alloc (.cells #[.string f.name, .int .i64 f.ty.kind, .int .i64 f.ty.len, .string f.ty.nm] 87)).alloc (.cells #[.int .i64 0, .int .i64 0, .string ⟨#[]⟩] 23)) w.heap.size 0 f := FCells.of_box.below ((Below.refl _ _).alloc (Nat.le_refl _) _) (by simp)
    have hs0 : ((w.alloc (.cells #[.string f.name, .int .i64 f.ty.kind, .int .i64 f.ty.len, .string f.ty.nm] 87)).alloc (.cells #[.int .i64 0, .int .i64 0, .string ⟨#[]⟩] 23)).heap.size = w.heap.size + 2 := by simp
    generalize ((w.alloc (.cells #[.string f.name, .int .i64 f.ty.kind, .int .i64 f.ty.len, .string f.ty.nm] 87)).alloc (.cells #[.int .i64 0, .int .i64 0, .string ⟨#[]⟩] 23)) = w0 at *
    have HB0 := Lib.hid hb0
    have HZ0 := Lib.hid hz0
    have HC0 := Lib.hid hc0
    have hs1 : w.heap.size + 2 ≤ w0.drew.heap.size := by simp; omega
    have HS0 := Lib.hid hs0
    clear hb0 hz0 hs0
    obtain ⟨c0, c1, c2, c3⟩ := hc0
    go_region_held3 (fun w' => w'.cell? ⟨w.heap.size, 1, none⟩ = some (.int .i64 f.ty.kind) ∧ w'.cell? ⟨w.heap.size, 2, none⟩ = some (.int .i64 f.ty.len) ∧ w'.cell? ⟨w.heap.size, 3, none⟩ = some (.string f.ty.nm)) (first | exact HK.out | go_keep) ((go_at_call 12; refine (ty_basic_any 2 _).mono ?_; rintro e w1 ⟨rfl, hb⟩; have HK := Lib.hid (show w1.cell? ⟨w.heap.size, 1, none⟩ = some (.int .i64 f.ty.kind) ∧ w1.cell? ⟨w.heap.size, 2, none⟩ = some (.int .i64 f.ty.len) ∧ w1.cell? ⟨w.heap.size, 3, none⟩ = some (.string f.ty.nm) from (HC0.out.below ((Below.refl _ _).drew.trans hb) (by omega)).2); have HB1 := Lib.hid hb; clear hb))
    have hz := HZ0.out.below ((Below.refl _ _).drew.trans HB1.out) (by have := HS0.out; omega)
    obtain ⟨z0, z1, z2⟩ := hz.cells
    have y0 := hz.frozen 0
    have y1 := hz.frozen 1
    have y2 := hz.frozen 2
    have HBB := Lib.hid (HB0.out.trans (((Below.refl w0.heap.size w0).drew.trans HB1.out).mono (by have := HS0.out; omega)))
    clear hz
    go_wp2_with (fail)
    refine bodyPost_ret (v := .agg #[.int .i64 f.ty.kind, .int .i64 f.ty.len, .string f.ty.nm]) (by simp [results, Tryd.results42, go_sem, z0, z1, z2]) rfl ⟨?_, ?_⟩
    · have h := tyB_eq HF.out
      rw [h]
    · repeat (first | exact HBB.out | (refine Below.setCell ?_ (by simp) _))
  all_goals
    have HV := Lib.hid (HV1.out HF.out)
    clear HV1 HV2
    rw [HV.out]
    go_enter Tryd.func42, Tryd.ntmps42
    go_wp2_with (fail)
    have hb0 : Below w.heap.size w ((w.alloc (.cells #[.string f.name, .int .i64 f.ty.kind, .int .i64 f.ty.len, .string f.ty.nm] 87)).alloc (.cells #[.int .i64 0, .int .i64 0, .string ⟨#[]⟩] 23)) := ((Below.refl _ _).alloc (Nat.le_refl _) _).alloc (by simp) _
    have hz0 : ZT ((w.alloc (.cells #[.string f.name, .int .i64 f.ty.kind, .int .i64 f.ty.len, .string f.ty.nm] 87)).alloc (.cells #[.int .i64 0, .int .i64 0, .string ⟨#[]⟩] 23)) (w.heap.size + 1) := by
      have h := heap_alloc_new (w.alloc (.cells #[.string f.name, .int .i64 f.ty.kind, .int .i64 f.ty.len, .string f.ty.nm] 87)) (.cells #[.int .i64 0, .int .i64 0, .string ⟨#[]⟩] 23)
      rwa [World.size_alloc] at h
    have hc0 : FCells ((w.alloc (.cells #[.string f.name, .int .i64 f.ty.kind, .int .i64 f.ty.len, .string f.ty.nm] 87)).alloc (.cells #[.int .i64 0, .int .i64 0, .string ⟨#[]⟩] 23)) w.heap.size 0 f := FCells.of_box.below ((Below.refl _ _).alloc (Nat.le_refl _) _) (by simp)
    have hs0 : ((w.alloc (.cells #[.string f.name, .int .i64 f.ty.kind, .int .i64 f.ty.len, .string f.ty.nm] 87)).alloc (.cells #[.int .i64 0, .int .i64 0, .string ⟨#[]⟩] 23)).heap.size = w.heap.size + 2 := by simp
    generalize ((w.alloc (.cells #[.string f.name, .int .i64 f.ty.kind, .int .i64 f.ty.len, .string f.ty.nm] 87)).alloc (.cells #[.int .i64 0, .int .i64 0, .string ⟨#[]⟩] 23)) = w0 at *
    have HB0 := Lib.hid hb0
    have HZ0 := Lib.hid hz0
    have HC0 := Lib.hid hc0
    have hs1 : w.heap.size + 2 ≤ w0.drew.heap.size := by simp; omega
    have HS0 := Lib.hid hs0
    clear hb0 hz0 hs0
    obtain ⟨c0, c1, c2, c3⟩ := hc0
    go_region_held3 (fun w' => w'.cell? ⟨w.heap.size, 1, none⟩ = some (.int .i64 f.ty.kind) ∧ w'.cell? ⟨w.heap.size, 2, none⟩ = some (.int .i64 f.ty.len) ∧ w'.cell? ⟨w.heap.size, 3, none⟩ = some (.string f.ty.nm)) (first | exact HK.out | go_keep) ((go_at_call 12; refine (ty_basic_any 2 _).mono ?_; rintro e w1 ⟨rfl, hb⟩; have HK := Lib.hid (show w1.cell? ⟨w.heap.size, 1, none⟩ = some (.int .i64 f.ty.kind) ∧ w1.cell? ⟨w.heap.size, 2, none⟩ = some (.int .i64 f.ty.len) ∧ w1.cell? ⟨w.heap.size, 3, none⟩ = some (.string f.ty.nm) from (HC0.out.below ((Below.refl _ _).drew.trans hb) (by omega)).2); have HB1 := Lib.hid hb; clear hb))
    go_wp2_with (fail)
    refine (ty_basic_any 1 _).mono ?_
    rintro e w2 ⟨rfl, hb⟩
    have HB2 := Lib.hid (((Below.refl w0.heap.size w0).drew.trans HB1.out).trans (hb.mono (by have := HB1.out.size; have := hs1; have := HS0.out; omega)))
    clear hb
    have hz := HZ0.out.below HB2.out (by have := HS0.out; omega)
    obtain ⟨z0, z1, z2⟩ := hz.cells
    have y0 := hz.frozen 0
    have y1 := hz.frozen 1
    have y2 := hz.frozen 2
    have HBB := Lib.hid (HB0.out.trans (HB2.out.mono (by have := HS0.out; omega)))
    clear hz
    go_wp2_with (fail)
    refine bodyPost_ret (v := .agg #[.int .i64 1, .int .i64 0, .string ⟨#[]⟩]) (by simp [results, Tryd.results42, go_sem, z0, z1, z2]) rfl ⟨rfl, ?_⟩
    repeat (first | exact HBB.out | (refine Below.setCell ?_ (by simp) _))

/-- find's literal -/
theorem nameIs_any (x : RcV) (s : ByteArray) (B : Nat) (w : World) (hb : w.cell? ⟨B, 0, none⟩ = some (.string s)) (hB : B < w.heap.size) :
    Calls Tryd.prog 35 #[.agg #[.string x.name, .slice x.A x.flds.length x.c], .pointer (some ⟨B, 0, none⟩)] w fun e w' => e = .returned (.bool (x.name.toList == s.toList)) ∧ Below w.heap.size w w' := by
  have hcell : (w.alloc (.cells #[.string x.name, .slice x.A x.flds.length x.c] 44)).cell? ⟨B, 0, none⟩ = some (.string s) := (((Below.refl w.heap.size w).alloc (Nat.le_refl _) _).cell (p := ⟨B, 0, none⟩) hB).trans hb
  clear hb
  go_enter Tryd.func35, Tryd.ntmps35
  go_wp2_with (fail)
  go_ret
  exact ⟨rfl, (Below.refl _ _).alloc (Nat.le_refl _) _⟩

def nameB (s : ByteArray) (x : RcV) : Bool := x.name.toList == s.toList
theorem nameIs_yes (x : RcV) (s : ByteArray) (B : Nat) (w : World) (v : Bool) (hv : nameB s x = v) (hb : w.cell? ⟨B, 0, none⟩ = some (.string s)) (hB : B < w.heap.size) :
    Calls Tryd.prog 35 #[.agg #[.string x.name, .slice x.A x.flds.length x.c], .pointer (some ⟨B, 0, none⟩)] w fun e w' => e = .returned (.bool v) ∧ Below w.heap.size w w' := by
  have h := nameIs_any x s B w hb hB
  rw [show (x.name.toList == s.toList) = v from hv] at h
  exact h

set_option maxHeartbeats 1000000 in
theorem indexFunc_any (A : Option Addr) (c : Nat) (l : List RcV) (s : ByteArray) (B : Nat) (w : World) (hb : w.cell? ⟨B, 0, none⟩ = some (.string s)) (hB : B < w.heap.size) (hr : RRow w.heap.size w A l) (hl : l.length ≤ 1000000000) :
    Calls Tryd.prog 34 #[.slice A l.length c, .func (.func 35) #[] #[.pointer (some ⟨B, 0, none⟩)]] w fun e w' => ∃ r : Int, e = .returned (.int .i64 r) ∧ ((r = -1 ∧ ∀ k ∈ l, nameB s k = false) ∨ ∃ (i : Nat) (hi : i < l.length), r = i ∧ nameB s l[i] = true ∧ ∀ (j : Nat) (hj : j < i), nameB s (l[j]'(by omega)) = false) ∧ Below w.heap.size w w' := by
  have HB := Lib.hid hb
  have HW := Lib.hid hr
  clear hb hr
  go_enter Tryd.func34, Tryd.ntmps34
  go_wp2_with (fail)
  go_loopw [8] (fun i wr => ∃ k : Nat, k ≤ l.length ∧ i = .int .i64 (k : Int) ∧ Hid (∀ (j : Nat) (h : j < l.length), j < k → nameB s l[j] = false) ∧ Hid (Below w.heap.size w wr)) (fun i _ => l.length - (intOf i).toNat)
  case atStart => exact ⟨0, Nat.zero_le _, rfl, (fun j _ h => absurd h (by omega) : ∀ (j : Nat) (h : j < l.length), j < 0 → nameB s l[j] = false), Below.refl _ _⟩
  case round =>
    obtain ⟨k, hk, rfl, hno, hbw⟩ := hrel
    have hzw := hbw.out.size
    by_cases hlt : k < l.length
    · obtain ⟨b, off, rfl, hb, hcs⟩ := (HW.out.below hbw.out) (by omega)
      obtain ⟨c0, c1, _, _⟩ := hcs k hlt
      clear hcs
      have HX : ∃ x, Hid (l[k] = x) := ⟨_, Lib.hid rfl⟩
      obtain ⟨x, HX⟩ := HX
      rw [HX.out] at c0 c1
      go_wp2_with (fail)
      cases hh : nameB s x with
      | true =>
        have HH := Lib.hid hh
        clear hh
        refine (nameIs_yes x s B _ true HH.out ((hbw.out.cell (p := ⟨B, 0, none⟩) hB).trans HB.out) (by omega)).mono ?_
        rintro e w' ⟨rfl, hb2⟩
        have HB2 := Lib.hid (hbw.out.trans (hb2.mono hzw))
        clear hb2
        go_wp2_with (fail)
        go_ret
        exact ⟨_, rfl, .inr ⟨k, hlt, rfl, by rw [HX.out]; exact HH.out, fun j hj => hno.out j (by omega) hj⟩, HB2.out⟩
      | false =>
        have HH := Lib.hid hh
        clear hh
        refine (nameIs_yes x s B _ false HH.out ((hbw.out.cell (p := ⟨B, 0, none⟩) hB).trans HB.out) (by omega)).mono ?_
        rintro e w' ⟨rfl, hb2⟩
        have HB2 := Lib.hid (hbw.out.trans (hb2.mono hzw))
        clear hb2
        go_wp2_with (fail)
        have HN : Hid (∀ (j : Nat) (h : j < l.length), j < k + 1 → nameB s l[j] = false) := Lib.hid (fun j h hj => by
          rcases Nat.lt_or_ge j k with h' | h'
          · exact hno.out j h h'
          · obtain rfl : j = k := by omega
            rw [HX.out]; exact HH.out)
        exact ⟨⟨k + 1, by omega, by go_num, HN, HB2⟩, by simp [intOf]; omega⟩
    · have hkl : k = l.length := by omega
      subst hkl
      go_wp2_with (fail)
      go_ret
      exact ⟨-1, rfl, .inl ⟨rfl, fun x hx => by
        obtain ⟨j, hj, rfl⟩ := List.getElem_of_mem hx
        exact hno.out j hj hj⟩, hbw.out⟩

theorem fndR_none {l : List RcV} {s : ByteArray} (h : ∀ k ∈ l, nameB s k = false) : fndR l s = none := by
  unfold fndR
  rw [List.find?_eq_none]
  intro x hx
  have := h x hx
  unfold nameB at this
  simp [this]
theorem fndR_at {l : List RcV} {s : ByteArray} {i : Nat} (hi : i < l.length) (h : nameB s l[i] = true) (hno : ∀ (j : Nat) (hj : j < i), nameB s (l[j]'(by omega)) = false) : fndR l s = some l[i] := by
  unfold fndR
  rw [List.find?_eq_some_iff_getElem]
  refine ⟨h, i, hi, rfl, fun j hj => ?_⟩
  have := hno j hj
  unfold nameB at this
  simp [this]

/-- find: the fields of the first record with a name, and whether there is one -/
def FndRes (w : World) (l : List RcV) (s : ByteArray) (e : Ending) (w' : World) : Prop :=
  Below w.heap.size w w' ∧ ((fndR l s = none ∧ e = .returned (.tuple #[.slice none 0 0, .bool false])) ∨ ∃ r, fndR l s = some r ∧ e = .returned (.tuple #[.slice r.A r.flds.length r.c, .bool true]))

set_option maxHeartbeats 1000000 in
theorem find_any (A : Option Addr) (c : Nat) (l : List RcV) (s : ByteArray) (w : World) (hr : RRow w.heap.size w A l) (hl : l.length ≤ 1000000000) :
    Calls Tryd.prog 13 #[.slice A l.length c, .string s] w (FndRes w l s) := by
  have HR := Lib.hid hr
  clear hr
  go_enter Tryd.func13, Tryd.ntmps13
  go_wp2_with (fail)
  have hb0 := (Below.refl w.heap.size w).alloc (Nat.le_refl _) (.cells #[.string s] 9)
  have hn0 := heap_alloc_new w (.cells #[.string s] 9)
  have hs0 : (w.alloc (.cells #[.string s] 9)).heap.size = w.heap.size + 1 := by simp
  generalize (w.alloc (.cells #[.string s] 9)) = w0 at *
  have HB0 := Lib.hid hb0
  have hc0 := Lib.cell_of_heap hn0 0
  refine (indexFunc_any A c l s w.heap.size w0 hc0 (by omega) (HR.out.later hb0) hl).mono ?_
  rintro e w1 ⟨r, rfl, hr, hb1⟩
  have HB1 := Lib.hid (HB0.out.trans (hb1.mono (by omega)))
  clear hb0 hn0 hc0 hb1
  rcases hr with ⟨rfl, hno⟩ | ⟨i, hi, rfl, hyes, hno⟩
  · have HN := Lib.hid (fndR_none hno)
    clear hno hs0
    go_wp2_with (fail)
    go_ret2
    exact ⟨HB1.out, .inl ⟨HN.out, rfl⟩⟩
  · have HN := Lib.hid (fndR_at hi hyes hno)
    clear hno hyes hs0
    obtain ⟨b, off, rfl, hb, hcs⟩ := (HR.out.below HB1.out) (by omega)
    obtain ⟨c0, c1, _, _⟩ := hcs i hi
    clear hcs hb
    have HX : ∃ x, Hid (l[i] = x) := ⟨_, Lib.hid rfl⟩
    obtain ⟨x, HX⟩ := HX
    rw [HX.out] at c0 c1 HN
    have hi0 : decide ((i : Int) < 0) = false := by simp
    go_wp2_with (fail)
    go_ret2
    exact ⟨HB1.out, .inr ⟨x, HN.out, rfl⟩⟩

end Go.Proofs.YtnpcfmoiiecadaaDoor
set_option linter.unusedVariables false
namespace Go.Proofs.YtnpcfmoiiecadaaDoor
open Go.RowKit

theorem TCells.of_box {w : World} {x : TyV} : TCells (w.alloc (.cells #[.int .i64 x.kind, .int .i64 x.len, .string x.nm] 23)) w.heap.size 0 x :=
  ⟨Lib.cell_of_heap (heap_alloc_new w _) 0, Lib.cell_of_heap (heap_alloc_new w _) 1, Lib.cell_of_heap (heap_alloc_new w _) 2⟩
theorem box_ty (w : World) (x : TyV) : Below w.heap.size w (w.alloc (.cells #[.int .i64 x.kind, .int .i64 x.len, .string x.nm] 23)) ∧ TCells (w.alloc (.cells #[.int .i64 x.kind, .int .i64 x.len, .string x.nm] 23)) w.heap.size 0 x ∧ (w.alloc (.cells #[.int .i64 x.kind, .int .i64 x.len, .string x.nm] 23)).heap.size = w.heap.size + 1 :=
  ⟨(Below.refl _ _).alloc (Nat.le_refl _) _, TCells.of_box, by simp⟩
theorem nil_toList : (⟨#[]⟩ : ByteArray).toList = [] := by rw [ByteArray.toList_eq]
theorem TCells.now {w : World} {b : Nat} {x : TyV} (h : TCells w b 0 x) : w.cell? ⟨b, 0, none⟩ = some (.int .i64 x.kind) ∧ w.cell? ⟨b, 1, none⟩ = some (.int .i64 x.len) ∧ w.cell? ⟨b, 2, none⟩ = some (.string x.nm) := h

set_option maxHeartbeats 1000000 in
/-- int, bool -/
theorem valid_basic (t : TyV) (A : Option Addr) (c : Nat) (l : List RcV) (w : World) (hk : (t.kind == 1) = true ∨ (t.kind == 1) = false ∧ (t.kind == 2) = true) :
    Calls Tryd.prog 5 #[.agg #[.int .i64 t.kind, .int .i64 t.len, .string t.nm], .slice A l.length c] w fun e w' => e = .returned (.bool (t.len == 0 && t.nm.toList == [])) ∧ Below w.heap.size w w' := by
  have h23 : (t.len == 0) = false ∨ (t.len == 0) = true ∧ ((t.nm.toList == []) = false ∨ (t.nm.toList == []) = true) := by
    cases h2 : (t.len == 0) <;> cases h3 : (t.nm.toList == []) <;> simp
  rcases h23 with h2 | ⟨h2, h3 | h3⟩
  all_goals
    rcases hk with h1 | ⟨h0, h1⟩
    all_goals
      go_enter Tryd.func5, Tryd.ntmps5
      go_wp2_with (fail)
      obtain ⟨hb0, hc0, hs0⟩ := box_ty w t
      generalize (w.alloc (.cells #[.int .i64 t.kind, .int .i64 t.len, .string t.nm] 23)) = w0 at *
      obtain ⟨c0, c1, c2⟩ := hc0.now
      have HB0 := Lib.hid hb0
      have HC0 := Lib.hid hc0
      have HS0 := Lib.hid hs0
      clear hb0 hc0 hs0
      go_region_held3 (fun w' => w'.cell? ⟨w.heap.size, 0, none⟩ = some (.int .i64 t.kind) ∧ w'.cell? ⟨w.heap.size, 1, none⟩ = some (.int .i64 t.len) ∧ w'.cell? ⟨w.heap.size, 2, none⟩ = some (.string t.nm)) (first | exact HK.out | go_keep) ((go_at_call 12; refine (ty_basic_any t.kind _).mono ?_; rintro e w1 ⟨rfl, hb⟩; have HK := Lib.hid (HC0.out.below ((Below.refl _ _).drew.trans hb) (by have := HS0.out; show w.heap.size < w0.heap.size; omega)).now; have HB1 := Lib.hid (HB0.out.trans (((Below.refl _ _).drew.trans hb).mono (by have := HS0.out; show w.heap.size ≤ w0.heap.size; omega))); clear hb))
      go_wp2_with (fail)
      go_ret
      exact ⟨ret_bool (by first | (rw [h2]; rfl) | (rw [h2, h3]; rfl)), HB1.out⟩

set_option maxHeartbeats 1000000 in
/-- an array -/
theorem valid_array (t : TyV) (A : Option Addr) (c : Nat) (l : List RcV) (w : World) (hk : (t.kind == 1) = false ∧ (t.kind == 2) = false ∧ (t.kind == 3) = true) :
    Calls Tryd.prog 5 #[.agg #[.int .i64 t.kind, .int .i64 t.len, .string t.nm], .slice A l.length c] w fun e w' => e = .returned (.bool (decide (1 ≤ t.len) && decide (t.len ≤ 8) && t.nm.toList == [])) ∧ Below w.heap.size w w' := by
  have h23 : decide (1 ≤ t.len) = false ∨ decide (1 ≤ t.len) = true ∧ (decide (t.len ≤ 8) = false ∨ decide (t.len ≤ 8) = true ∧ ((t.nm.toList == []) = false ∨ (t.nm.toList == []) = true)) := by
    cases h1 : decide (1 ≤ t.len) <;> cases h2 : decide (t.len ≤ 8) <;> cases h3 : (t.nm.toList == []) <;> simp
  obtain ⟨k1, k2, k3⟩ := hk
  rcases h23 with h1 | ⟨h1, h2 | ⟨h2, h3 | h3⟩⟩
  all_goals
    go_enter Tryd.func5, Tryd.ntmps5
    go_wp2_with (fail)
    go_ret
    exact ⟨ret_bool (by first | (rw [h1]; rfl) | (rw [h1, h2]; rfl) | (rw [h1, h2, h3]; rfl)), (Below.refl _ _).alloc (Nat.le_refl _) _⟩

set_option maxHeartbeats 1000000 in
/-- none -/
theorem valid_none (t : TyV) (A : Option Addr) (c : Nat) (l : List RcV) (w : World) (hk : (t.kind == 1) = false ∧ (t.kind == 2) = false ∧ (t.kind == 3) = false ∧ (t.kind == 4) = false) :
    Calls Tryd.prog 5 #[.agg #[.int .i64 t.kind, .int .i64 t.len, .string t.nm], .slice A l.length c] w fun e w' => e = .returned (.bool false) ∧ Below w.heap.size w w' := by
  obtain ⟨k1, k2, k3, k4⟩ := hk
  go_enter Tryd.func5, Tryd.ntmps5
  go_wp2_with (fail)
  go_ret
  exact ⟨rfl, (Below.refl _ _).alloc (Nat.le_refl _) _⟩

set_option maxHeartbeats 1000000 in
/-- a record -/
theorem valid_record (t : TyV) (A : Option Addr) (c : Nat) (l : List RcV) (w : World) (hr : RRow w.heap.size w A l) (hl : l.length ≤ 1000000000) (hk : (t.kind == 1) = false ∧ (t.kind == 2) = false ∧ (t.kind == 3) = false ∧ (t.kind == 4) = true) :
    Calls Tryd.prog 5 #[.agg #[.int .i64 t.kind, .int .i64 t.len, .string t.nm], .slice A l.length c] w fun e w' => e = .returned (.bool ((fndR l t.nm).isSome && t.len == 0)) ∧ Below w.heap.size w w' := by
  obtain ⟨k1, k2, k3, k4⟩ := hk
  have HR := Lib.hid hr
  clear hr
  have h2 : (t.len == 0) = true ∨ (t.len == 0) = false := by cases (t.len == 0) <;> simp
  go_enter Tryd.func5, Tryd.ntmps5
  go_wp2_with (fail)
  obtain ⟨hb0, hc0, hs0⟩ := box_ty w t
  generalize (w.alloc (.cells #[.int .i64 t.kind, .int .i64 t.len, .string t.nm] 23)) = w0 at *
  have HB0 := Lib.hid hb0
  have HC0 := Lib.hid hc0
  have HS0 := Lib.hid hs0
  clear hb0 hc0 hs0
  refine (find_any A c l t.nm w0 (HR.out.later HB0.out) hl).mono ?_
  rintro e w1 ⟨hb1, hf⟩
  have HB1 := Lib.hid (HB0.out.trans (hb1.mono (by have := HS0.out; omega)))
  obtain ⟨c0, c1, c2⟩ := (HC0.out.below hb1 (by have := HS0.out; omega)).now
  clear hb1
  rcases hf with ⟨hf, rfl⟩ | ⟨r, hf, rfl⟩
  · have HF := Lib.hid hf
    clear hf
    go_wp2_with (fail)
    go_ret
    exact ⟨ret_bool (by rw [HF.out]; rfl), HB1.out⟩
  · have HF := Lib.hid hf
    clear hf
    rcases h2 with h2 | h2
    all_goals
      go_wp2_with (fail)
      go_ret
      exact ⟨ret_bool (by rw [HF.out, h2]; rfl), HB1.out⟩

theorem valid_any (t : TyV) (A : Option Addr) (c : Nat) (l : List RcV) (w : World) (hr : RRow w.heap.size w A l) (hl : l.length ≤ 1000000000) :
    Calls Tryd.prog 5 #[.agg #[.int .i64 t.kind, .int .i64 t.len, .string t.nm], .slice A l.length c] w fun e w' => e = .returned (.bool (validB t l)) ∧ Below w.heap.size w w' := by
  by_cases k1 : t.kind = 1
  · rw [show validB t l = (t.len == 0 && t.nm.toList == []) by unfold validB; rw [if_pos (.inl k1)]]
    exact valid_basic t A c l w (.inl (by simpa using k1))
  · by_cases k2 : t.kind = 2
    · rw [show validB t l = (t.len == 0 && t.nm.toList == []) by unfold validB; rw [if_pos (.inr k2)]]
      exact valid_basic t A c l w (.inr ⟨by simpa using k1, by simpa using k2⟩)
    · by_cases k3 : t.kind = 3
      · rw [show validB t l = (decide (1 ≤ t.len) && decide (t.len ≤ 8) && t.nm.toList == []) by unfold validB; rw [if_neg (by omega), if_pos k3]]
        exact valid_array t A c l w ⟨by simpa using k1, by simpa using k2, by simpa using k3⟩
      · by_cases k4 : t.kind = 4
        · rw [show validB t l = ((fndR l t.nm).isSome && t.len == 0) by unfold validB; rw [if_neg (by omega), if_neg k3, if_pos k4]]
          exact valid_record t A c l w hr hl ⟨by simpa using k1, by simpa using k2, by simpa using k3, by simpa using k4⟩
        · rw [show validB t l = false by unfold validB; rw [if_neg (by omega), if_neg k3, if_neg k4]]
          exact valid_none t A c l w ⟨by simpa using k1, by simpa using k2, by simpa using k3, by simpa using k4⟩
theorem ty_valid_f (t : TyV) (A : Option Addr) (c : Nat) (l : List RcV) (w : World) (v : Bool) (hv : validB t l = v) (hr : RRow w.heap.size w A l) (hl : l.length ≤ 1000000000) :
    Calls Tryd.prog 5 #[.agg #[.int .i64 t.kind, .int .i64 t.len, .string t.nm], .slice A l.length c] w fun e w' => e = .returned (.bool v) ∧ Below w.heap.size w w' := by
  rw [← hv]
  exact valid_any t A c l w hr hl
end Go.Proofs.YtnpcfmoiiecadaaDoor
set_option linter.unusedVariables false
namespace Go.Proofs.YtnpcfmoiiecadaaDoor
open Go.RowKit

def IdxRes (l : List RcV) (s : ByteArray) (w : World) (e : Ending) (w' : World) : Prop := ∃ r : Int, e = .returned (.int .i64 r) ∧ decide (0 ≤ r) = (fndR l s).isSome ∧ Below w.heap.size w w'

end Go.Proofs.YtnpcfmoiiecadaaDoor
set_option linter.unusedVariables false
namespace Go.Proofs.YtnpcfmoiiecadaaDoor
open Go.RowKit

end Go.Proofs.YtnpcfmoiiecadaaDoor
set_option linter.unusedVariables false
namespace Go.Proofs.YtnpcfmoiiecadaaDoor
open Go.RowKit

/-- a function reads numbers -/
def NumC (f : Nat) (nv : ByteArray → Nat) (ok : ByteArray → Bool) : Prop := ∀ (s : ByteArray) (w : World), Calls Tryd.prog f #[.string s] w fun e w' => e = .returned (.tuple #[.int .i64 (nv s : Int), .bool (ok s)]) ∧ w = w'
/-- the type that a node writes if there is one -/
def wrT (nv : ByteArray → Nat) (n : NT) : TyV :=
  if n.kind == 9 then (if n.text.toList == [105, 110, 116] then bsc 1 else if n.text.toList == [98, 111, 111, 108] then bsc 2 else ⟨4, 0, n.text⟩)
  else if n.kind == 10 then ⟨3, (nv n.text : Int), ⟨#[]⟩⟩ else ⟨0, 0, ⟨#[]⟩⟩

theorem box_nt (w : World) (n : NT) : Below w.heap.size w ((w.alloc (.cells #[.int .i64 n.kind, .string n.text, .int .i64 n.lo, .int .i64 n.hi, .slice n.A n.kids.length n.c] 31)).alloc (.cells #[.int .i64 0, .int .i64 0, .string ⟨#[]⟩] 23)) ∧
    ZT ((w.alloc (.cells #[.int .i64 n.kind, .string n.text, .int .i64 n.lo, .int .i64 n.hi, .slice n.A n.kids.length n.c] 31)).alloc (.cells #[.int .i64 0, .int .i64 0, .string ⟨#[]⟩] 23)) (w.heap.size + 1) ∧
    ((w.alloc (.cells #[.int .i64 n.kind, .string n.text, .int .i64 n.lo, .int .i64 n.hi, .slice n.A n.kids.length n.c] 31)).alloc (.cells #[.int .i64 0, .int .i64 0, .string ⟨#[]⟩] 23)).heap.size = w.heap.size + 2 := by
  refine ⟨((Below.refl _ _).alloc (Nat.le_refl _) _).alloc (by simp) _, ?_, by simp⟩
  have h := heap_alloc_new (w.alloc (.cells #[.int .i64 n.kind, .string n.text, .int .i64 n.lo, .int .i64 n.hi, .slice n.A n.kids.length n.c] 31)) (.cells #[.int .i64 0, .int .i64 0, .string ⟨#[]⟩] 23)
  rwa [World.size_alloc] at h

set_option maxHeartbeats 1000000 in
/-- int, bool -/
theorem written_basic (k : Int) (n : NT) (w : World) (h9 : (n.kind == 9) = true) (hk : k = 1 ∧ (n.text.toList == [105, 110, 116]) = true ∨ k = 2 ∧ (n.text.toList == [105, 110, 116]) = false ∧ (n.text.toList == [98, 111, 111, 108]) = true) :
    Calls Tryd.prog 33 #[.agg #[.int .i64 n.kind, .string n.text, .int .i64 n.lo, .int .i64 n.hi, .slice n.A n.kids.length n.c]] w fun e w' => e = .returned (.agg #[.int .i64 k, .int .i64 0, .string ⟨#[]⟩]) ∧ Below w.heap.size w w' := by
  rcases hk with ⟨rfl, h1⟩ | ⟨rfl, h1, h2⟩
  all_goals
    go_enter Tryd.func33, Tryd.ntmps33
    go_wp2_with (fail)
    obtain ⟨hb0, hz0, hs0⟩ := box_nt w n
    generalize ((w.alloc (.cells #[.int .i64 n.kind, .string n.text, .int .i64 n.lo, .int .i64 n.hi, .slice n.A n.kids.length n.c] 31)).alloc (.cells #[.int .i64 0, .int .i64 0, .string ⟨#[]⟩] 23)) = w0 at *
    have HB0 := Lib.hid hb0
    have HZ0 := Lib.hid hz0
    have HS0 := Lib.hid hs0
    clear hb0 hz0 hs0
    refine (ty_basic_any _ w0).mono ?_
    rintro e w1 ⟨rfl, hb1⟩
    have HB1 := Lib.hid (HB0.out.trans (hb1.mono (by have := HS0.out; omega)))
    have hz := HZ0.out.below hb1 (by have := HS0.out; omega)
    obtain ⟨z0, z1, z2⟩ := hz.cells
    have y0 := hz.frozen 0
    have y1 := hz.frozen 1
    have y2 := hz.frozen 2
    clear hb1 hz
    go_wp2_with (fail)
    refine bodyPost_ret (v := .agg #[.int .i64 _, .int .i64 0, .string ⟨#[]⟩]) (by simp [results, Tryd.results33, go_sem, z0, z1, z2]) rfl ⟨rfl, ?_⟩
    repeat (first | exact HB1.out | (refine Below.setCell ?_ (by simp) _))

set_option maxHeartbeats 1000000 in
/-- a name, or nothing -/
theorem written_plain (n : NT) (w : World) (t : TyV) (ht : (n.kind == 9) = true ∧ (n.text.toList == [105, 110, 116]) = false ∧ (n.text.toList == [98, 111, 111, 108]) = false ∧ t = ⟨4, 0, n.text⟩ ∨ (n.kind == 9) = false ∧ (n.kind == 10) = false ∧ t = ⟨0, 0, ⟨#[]⟩⟩) :
    Calls Tryd.prog 33 #[.agg #[.int .i64 n.kind, .string n.text, .int .i64 n.lo, .int .i64 n.hi, .slice n.A n.kids.length n.c]] w fun e w' => e = .returned (.agg #[.int .i64 t.kind, .int .i64 t.len, .string t.nm]) ∧ Below w.heap.size w w' := by
  rcases ht with ⟨h9, h1, h2, rfl⟩ | ⟨h9, h10, rfl⟩
  · go_enter Tryd.func33, Tryd.ntmps33
    go_wp2_with (fail)
    refine bodyPost_ret (v := .agg #[.int .i64 4, .int .i64 0, .string n.text]) (by simp [results, Tryd.results33, go_sem]) rfl ⟨rfl, ?_⟩
    exact ((Below.refl _ _).alloc (Nat.le_refl _) _).alloc (by simp) _
  · go_enter Tryd.func33, Tryd.ntmps33
    go_wp2_with (fail)
    refine bodyPost_ret (v := .agg #[.int .i64 0, .int .i64 0, .string ⟨#[]⟩]) (by simp [results, Tryd.results33, go_sem]) rfl ⟨rfl, ?_⟩
    exact ((Below.refl _ _).alloc (Nat.le_refl _) _).alloc (by simp) _

set_option maxHeartbeats 1000000 in
/-- an array -/
theorem written_array {nv : ByteArray → Nat} {ok : ByteArray → Bool} (HN : NumC 56 nv ok) (n : NT) (w : World) (h9 : (n.kind == 9) = false) (h10 : (n.kind == 10) = true) :
    Calls Tryd.prog 33 #[.agg #[.int .i64 n.kind, .string n.text, .int .i64 n.lo, .int .i64 n.hi, .slice n.A n.kids.length n.c]] w fun e w' => e = .returned (.agg #[.int .i64 3, .int .i64 (nv n.text : Int), .string ⟨#[]⟩]) ∧ Below w.heap.size w w' := by
  have HNN := Lib.hid (fun w => HN n.text w)
  clear HN
  generalize nv n.text = q at *
  generalize ok n.text = o at *
  go_enter Tryd.func33, Tryd.ntmps33
  go_wp2_with (fail)
  refine (HNN.out _).mono ?_
  rintro e w1 ⟨rfl, rfl⟩
  go_wp2_with (fail)
  refine bodyPost_ret (v := .agg #[.int .i64 3, .int .i64 (q : Int), .string ⟨#[]⟩]) (by simp [results, Tryd.results33, go_sem]) rfl ⟨rfl, ?_⟩
  exact ((Below.refl _ _).alloc (Nat.le_refl _) _).alloc (by simp) _
theorem written_any {nv : ByteArray → Nat} {ok : ByteArray → Bool} (HN : NumC 56 nv ok) (n : NT) (w : World) (t : TyV) (ht : wrT nv n = t) :
    Calls Tryd.prog 33 #[.agg #[.int .i64 n.kind, .string n.text, .int .i64 n.lo, .int .i64 n.hi, .slice n.A n.kids.length n.c]] w fun e w' => e = .returned (.agg #[.int .i64 t.kind, .int .i64 t.len, .string t.nm]) ∧ Below w.heap.size w w' := by
  subst ht
  cases h9 : (n.kind == 9) with
  | true =>
    cases h1 : (n.text.toList == [105, 110, 116]) with
    | true =>
      rw [show wrT nv n = bsc 1 by unfold wrT; rw [h9, h1]; rfl]
      exact written_basic 1 n w h9 (.inl ⟨rfl, h1⟩)
    | false =>
      cases h2 : (n.text.toList == [98, 111, 111, 108]) with
      | true =>
        rw [show wrT nv n = bsc 2 by unfold wrT; rw [h9, h1, h2]; rfl]
        exact written_basic 2 n w h9 (.inr ⟨rfl, h1, h2⟩)
      | false => exact written_plain n w _ (.inl ⟨h9, h1, h2, by unfold wrT; rw [h9, h1, h2]; rfl⟩)
  | false =>
    cases h10 : (n.kind == 10) with
    | true =>
      rw [show wrT nv n = ⟨3, (nv n.text : Int), ⟨#[]⟩⟩ by unfold wrT; rw [h9, h10]; rfl]
      exact written_array HN n w h9 h10
    | false => exact written_plain n w _ (.inr ⟨h9, h10, by unfold wrT; rw [h9, h10]; rfl⟩)
set_option maxHeartbeats 2000000 in
theorem wr_any {nv : ByteArray → Nat} {ok : ByteArray → Bool} (HN : NumC 56 nv ok) (n : NT) (A : Option Addr) (c : Nat) (l : List RcV) (w : World) (t : TyV) (ht : wrT nv n = t) (hr : RRow w.heap.size w A l) (hl : l.length ≤ 1000000000) (v : Bool) (hv : validB t l = v) (u : TyV) (hu : u = if v then t else ⟨0, 0, ⟨#[]⟩⟩) :
    Calls Tryd.prog 11 #[.agg #[.int .i64 n.kind, .string n.text, .int .i64 n.lo, .int .i64 n.hi, .slice n.A n.kids.length n.c], .slice A l.length c] w fun e w' => e = .returned (.tuple #[.agg #[.int .i64 u.kind, .int .i64 u.len, .string u.nm], .bool v]) ∧ Below w.heap.size w w' := by
  have HR := Lib.hid hr
  have HV := Lib.hid hv
  have HU := Lib.hid hu
  have HWR := Lib.hid (fun w => written_any HN n w t ht)
  clear hr hv hu ht HN
  go_enter Tryd.func11, Tryd.ntmps11
  go_wp2_with (fail)
  obtain ⟨hb0, hz0, hs0⟩ := box_nt w n
  generalize ((w.alloc (.cells #[.int .i64 n.kind, .string n.text, .int .i64 n.lo, .int .i64 n.hi, .slice n.A n.kids.length n.c] 31)).alloc (.cells #[.int .i64 0, .int .i64 0, .string ⟨#[]⟩] 23)) = w0 at *
  have HB0 := Lib.hid hb0
  have HZ0 := Lib.hid hz0
  have HS0 := Lib.hid hs0
  clear hb0 hz0 hs0
  refine (HWR.out w0).mono ?_
  rintro e w1 ⟨rfl, hb1⟩
  have HB1 := Lib.hid (HB0.out.trans (hb1.mono (by have := HS0.out; omega)))
  have HZ1 := Lib.hid (HZ0.out.below hb1 (by have := HS0.out; omega))
  have HS1 := Lib.hid (show w.heap.size + 2 ≤ w1.heap.size by have := hb1.size; have := HS0.out; omega)
  clear hb1
  go_wp2_with (fail)
  obtain ⟨hb2, hc2, hs2⟩ := box_ty w1 t
  generalize (w1.alloc (.cells #[.int .i64 t.kind, .int .i64 t.len, .string t.nm] 23)) = w2 at *
  have HB2 := Lib.hid (HB1.out.trans (hb2.mono HB1.out.size))
  have HZ2 := Lib.hid (HZ1.out.below hb2 (by have := HS1.out; omega))
  have HC2 := Lib.hid hc2
  have HS2 := Lib.hid hs2
  clear hb2 hc2 hs2
  refine (ty_valid_f t A c l w2 v HV.out (HR.out.later HB2.out) hl).mono ?_
  rintro e w3 ⟨rfl, hb3⟩
  have HB3 := Lib.hid (HB2.out.trans (hb3.mono HB2.out.size))
  have hz := HZ2.out.below hb3 (by have := HS1.out; have := HS2.out; omega)
  obtain ⟨z0, z1, z2⟩ := hz.cells
  have y0 := hz.frozen 0
  have y1 := hz.frozen 1
  have y2 := hz.frozen 2
  obtain ⟨c0, c1, c2⟩ := (HC2.out.below hb3 (by have := HS2.out; omega)).now
  clear hb3 hz
  cases v with
  | true =>
    go_wp2_with (fail)
    refine bodyPost_ret (v := .tuple #[.agg #[.int .i64 t.kind, .int .i64 t.len, .string t.nm], .bool true]) (by simp [results, Tryd.results11, go_sem, z0, z1, z2]) rfl ⟨?_, ?_⟩
    · rw [HU.out]; rfl
    · repeat (first | exact HB3.out | (refine Below.setCell ?_ (by simp) _))
  | false =>
    go_wp2_with (fail)
    refine bodyPost_ret (v := .tuple #[.agg #[.int .i64 0, .int .i64 0, .string ⟨#[]⟩], .bool false]) (by simp [results, Tryd.results11, go_sem, z0, z1, z2]) rfl ⟨?_, ?_⟩
    · rw [HU.out]; rfl
    · repeat (first | exact HB3.out | (refine Below.setCell ?_ (by simp) _))
end Go.Proofs.YtnpcfmoiiecadaaDoor
