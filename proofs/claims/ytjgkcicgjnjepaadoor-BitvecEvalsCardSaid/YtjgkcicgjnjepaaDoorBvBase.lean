/- What is proved: numbers, truth values and slices of numbers as they lie in memory; nothing of the program's functions. -/
import Derived.Test.YtjgkcicgjnjepaaDoorProg
import Derived.WalkKit
import Derived.OwnWalk
import Derived.Below
import Derived.Outline
import Derived.WalkLawsBesides
import Derived.IntWalk
import Derived.Lib.Hide
import Derived.LoopTactic
import Derived.LoopIn
import Derived.LoopNIn
import Derived.Deep.QuietTactic
import Derived.Deep.RegionHeld3
import Derived.Deep.RegionLaw
import Derived.Deep.AppendLies
import Derived.Deep.LoopGhost
import Derived.Deep.Draws
import Derived.BigQuiet
import Derived.Laws.MakeOwn
import Derived.Laws.EntriesVeiled
import Derived.Maps.AppendAt
import Derived.Shelf.Abstract
import Derived.Deep.Cut
import Derived.Deep.DeepCutAuto
set_option linter.unusedVariables false
namespace Go.Proofs.YtjgkcicgjnjepaaDoor
open Go.RowKit

theorem info_parts {x : Option TypeInfo} {z : Value} {s b : Nat} (h : x.map (fun i => (i.zero, i.size, i.bytes)) = some (some z, s, b)) : ∃ i, x = some i ∧ i.zero = some z ∧ i.size = s ∧ i.bytes = b := by
  cases x with
  | none => cases h
  | some i =>
    simp only [Option.map_some, Option.some.injEq, Prod.mk.injEq] at h
    exact ⟨i, rfl, h.1, h.2.1, h.2.2⟩
theorem infoInt : (Tryd.prog.info? 3).map (fun i => (i.zero, i.size, i.bytes)) = some (some (.int .i64 0), 1, 8) := by kernel_rfl
theorem infoBl : (Tryd.prog.info? 4).map (fun i => (i.zero, i.size, i.bytes)) = some (some (.bool false), 1, 1) := by kernel_rfl

theorem ret_bool {a b : Bool} (h : a = b) : Ending.returned (.bool a) = .returned (.bool b) := by rw [h]
theorem ret_int {k : IntKind} {a b : Int} (h : a = b) : Ending.returned (.int k a) = .returned (.int k b) := by rw [h]
theorem drewN_below (w : World) (n : Nat) : Below w.heap.size w (w.drewN n) := below_drewN (Below.refl _ _) n
theorem hlt {w : World} {b : Nat} {o : Obj} (h : w.heap[b]? = some o) : b < w.heap.size := (Array.getElem?_eq_some_iff.1 h).1
theorem hset {w : World} {b i : Nat} {cs : Array Value} {t : TypeId} (hb : w.heap[b]? = some (.cells cs t (0, 0))) (v : Value) : (w.setCell ⟨b, i, none⟩ v).heap[b]? = some (.cells (cs.setIfInBounds i v) t (0, 0)) := by
  simp [World.setCell, Array.getElem?_modify, hb]
theorem hfrz {w : World} {b : Nat} {cs : Array Value} {t : TypeId} (hb : w.heap[b]? = some (.cells cs t (0, 0))) (i : Nat) : w.frozen? ⟨b, i, none⟩ = false := by
  simp [World.frozen?, hb]
theorem hfar {w : World} {b : Nat} {p : Addr} (h : b ≠ p.block) (v : Value) : (w.setCell p v).heap[b]? = w.heap[b]? := Below.heap_setCell _ _ _ _ h
theorem do_add (g i : Nat) : (⟨g, 0, none⟩ : Addr).add i = ⟨g, i, none⟩ := by unfold Addr.add; split <;> simp_all

/-- a variable -/
def Bx (w : World) (b : Nat) (t : TypeId) (v : Value) : Prop := w.heap[b]? = some (.cells #[v] t (0, 0))
section
variable {w w' : World} {b : Nat} {t : TypeId} {v : Value}
theorem Bx.cell (h : Bx w b t v) : w.cell? ⟨b, 0, none⟩ = some v := Lib.cell_of_heap h 0
theorem Bx.frz (h : Bx w b t v) : w.frozen? ⟨b, 0, none⟩ = false := hfrz h 0
theorem Bx.lt (h : Bx w b t v) : b < w.heap.size := hlt h
theorem Bx.set (h : Bx w b t v) (u : Value) : Bx (w.setCell ⟨b, 0, none⟩ u) b t u := hset h u
theorem Bx.other (h : Bx w b t v) {p : Addr} (hp : b ≠ p.block) (u : Value) : Bx (w.setCell p u) b t v := (hfar hp u).trans h
theorem Bx.below {n : Nat} (h : Bx w b t v) (hb : Below n w w') (hn : b < n) : Bx w' b t v := (hb.block b hn).trans h
theorem Bx.later (h : Bx w b t v) (hb : Below w.heap.size w w') : Bx w' b t v := h.below hb h.lt
theorem Bx.grown (h : Bx w b t v) {row : Option Nat} (hg : w.grownBy w' row) (hne : some b ≠ row) : Bx w' b t v := (hg.block b h.lt hne).trans h
theorem Bx.drew (h : Bx w b t v) (n : Nat) : Bx (w.drewN n) b t v := h
end

/-- a row of values -/
def hdr (R : Nat → Value) (n : Nat) : Array Value := ((List.range n).map R).toArray
theorem hdr_get (R : Nat → Value) {n v : Nat} (h : v < n) : (hdr R n)[v]? = some (R v) := by
  simp [hdr, h]
theorem hdr_set (R : Nat → Value) {n v : Nat} (x : Value) : (hdr R n).setIfInBounds v x = hdr (fun i => if i = v then x else R i) n := by
  unfold hdr
  rw [List.setIfInBounds_toArray]
  congr 1
  apply List.ext_getElem
  · simp
  · intro i h1 h2
    simp only [List.getElem_set, List.getElem_map, List.getElem_range]
    by_cases e : v = i
    · subst e; simp
    · rw [if_neg e, if_neg (fun h => e h.symm)]
theorem made_hdr (z : Value) (n : Nat) : madeCells #[z] n = hdr (fun _ => z) n := by
  apply Array.ext
  · simp [hdr, madeCells]
  · intro i h1 h2
    simp [hdr, madeCells, Nat.mod_one]
theorem do_make_in (n : Nat) (hn : n ≤ 1000000) (W : World) : (Instr.makeSlice 23 (.int .i64 (n : Int)) (.int .i64 (n : Int))).run Tryd.prog W = .ok (.slice (some ⟨W.heap.size, 0, none⟩) n n) (W.alloc (.cells (hdr (fun _ => .int .i64 0) n) 3)) := by
  obtain ⟨i0, hi, hz0, hz1, hz2⟩ := info_parts infoInt
  have h := run_make (P := Tryd.prog) W 23 3 i0 _ Tryd.underlying23 hi hz0 .i64 .i64 (n : Int) (n : Int) (by omega) (Int.le_refl _) (by rw [hz2]; omega) (by omega)
  rw [hz1] at h
  simp only [Int.toNat_natCast, Nat.mul_one] at h
  rw [h, show (Value.int .i64 0).cells = #[.int .i64 0] from rfl, made_hdr]
theorem do_make_bl (n : Nat) (hn : n ≤ 1000000) (W : World) : (Instr.makeSlice 60 (.int .i64 (n : Int)) (.int .i64 (n : Int))).run Tryd.prog W = .ok (.slice (some ⟨W.heap.size, 0, none⟩) n n) (W.alloc (.cells (hdr (fun _ => .bool false) n) 4)) := by
  obtain ⟨i0, hi, hz0, hz1, hz2⟩ := info_parts infoBl
  have h := run_make (P := Tryd.prog) W 60 4 i0 _ Tryd.underlying60 hi hz0 .i64 .i64 (n : Int) (n : Int) (by omega) (Int.le_refl _) (by rw [hz2]; omega) (by omega)
  rw [hz1] at h
  simp only [Int.toNat_natCast, Nat.mul_one] at h
  rw [h, show (Value.bool false).cells = #[.bool false] from rfl, made_hdr]

/-- integers in a block -/
def IArr (w : World) (b n : Nat) (f : Nat → Int) : Prop :=
  ∃ cs, w.heap[b]? = some (.cells cs 3 (0, 0)) ∧ cs.size = n ∧ ∀ v, v < n → cs[v]? = some (.int .i64 (f v))
def setF (f : Nat → Int) (x : Nat) (y : Int) : Nat → Int := fun v => if v = x then y else f v
section
variable {w w' : World} {b n : Nat} {f : Nat → Int}
theorem IArr.lt (h : IArr w b n f) : b < w.heap.size := by obtain ⟨cs, h1, _⟩ := h; exact hlt h1
theorem IArr.later (h : IArr w b n f) (hb : Below w.heap.size w w') : IArr w' b n f := by
  obtain ⟨cs, h1, h2, h3⟩ := h
  exact ⟨cs, (hb.block _ (hlt h1)).trans h1, h2, h3⟩
theorem IArr.below {m : Nat} (h : IArr w b n f) (hb : Below m w w') (hm : b < m) : IArr w' b n f := by
  obtain ⟨cs, h1, h2, h3⟩ := h
  exact ⟨cs, (hb.block _ hm).trans h1, h2, h3⟩
theorem IArr.eq (h : IArr w b n f) (hb : w'.heap[b]? = w.heap[b]?) : IArr w' b n f := by
  obtain ⟨cs, h1, h2, h3⟩ := h
  exact ⟨cs, hb.trans h1, h2, h3⟩
theorem IArr.cell (h : IArr w b n f) {v : Nat} (hv : v < n) : w.cell? ⟨b, v, none⟩ = some (.int .i64 (f v)) := by
  obtain ⟨cs, h1, _, h3⟩ := h
  exact (Lib.cell_of_heap h1 v).trans (h3 v hv)
theorem IArr.frz (h : IArr w b n f) (i : Nat) : w.frozen? ⟨b, i, none⟩ = false := by
  obtain ⟨cs, h1, _⟩ := h
  exact hfrz h1 i
theorem IArr.set (h : IArr w b n f) {y : Nat} (hy : y < n) (x : Int) : IArr (w.setCell ⟨b, y, none⟩ (.int .i64 x)) b n (setF f y x) := by
  obtain ⟨cs, h1, h2, h3⟩ := h
  refine ⟨_, hset h1 _, by simpa using h2, fun v hv => ?_⟩
  unfold setF
  by_cases e : v = y
  · subst e
    rw [if_pos rfl]
    simp [h2, hy]
  · rw [if_neg e, Array.getElem?_setIfInBounds_ne (fun h => e h.symm)]
    exact h3 v hv
theorem IArr.ext {f' : Nat → Int} (h : IArr w b n f) (he : ∀ v, v < n → f v = f' v) : IArr w b n f' := by
  obtain ⟨cs, h1, h2, h3⟩ := h
  exact ⟨cs, h1, h2, fun v hv => by rw [← he v hv]; exact h3 v hv⟩
theorem IArr.other (h : IArr w b n f) {p : Addr} (hne : b ≠ p.block) (v : Value) : IArr (w.setCell p v) b n f := h.eq (hfar hne v)
theorem IArr.new (w : World) (n : Nat) : IArr (w.alloc (.cells (hdr (fun _ => .int .i64 0) n) 3)) w.heap.size n (fun _ => 0) :=
  ⟨_, heap_alloc_new w _, by simp [hdr], fun v hv => by simp [hdr, hv]⟩
end

/-- truth values in a block -/
def BArr (w : World) (b n : Nat) (f : Nat → Bool) : Prop :=
  ∃ cs, w.heap[b]? = some (.cells cs 4 (0, 0)) ∧ cs.size = n ∧ ∀ v, v < n → cs[v]? = some (.bool (f v))
def setB (f : Nat → Bool) (x : Nat) : Nat → Bool := fun v => if v = x then true else f v
section
variable {w w' : World} {b n : Nat} {f : Nat → Bool}
theorem BArr.lt (h : BArr w b n f) : b < w.heap.size := by obtain ⟨cs, h1, _⟩ := h; exact hlt h1
theorem BArr.later (h : BArr w b n f) (hb : Below w.heap.size w w') : BArr w' b n f := by
  obtain ⟨cs, h1, h2, h3⟩ := h
  exact ⟨cs, (hb.block _ (hlt h1)).trans h1, h2, h3⟩
theorem BArr.eq (h : BArr w b n f) (hb : w'.heap[b]? = w.heap[b]?) : BArr w' b n f := by
  obtain ⟨cs, h1, h2, h3⟩ := h
  exact ⟨cs, hb.trans h1, h2, h3⟩
theorem BArr.cell (h : BArr w b n f) {v : Nat} (hv : v < n) : w.cell? ⟨b, v, none⟩ = some (.bool (f v)) := by
  obtain ⟨cs, h1, _, h3⟩ := h
  exact (Lib.cell_of_heap h1 v).trans (h3 v hv)
theorem BArr.frz (h : BArr w b n f) (i : Nat) : w.frozen? ⟨b, i, none⟩ = false := by
  obtain ⟨cs, h1, _⟩ := h
  exact hfrz h1 i
theorem BArr.set (h : BArr w b n f) {y : Nat} (hy : y < n) : BArr (w.setCell ⟨b, y, none⟩ (.bool true)) b n (setB f y) := by
  obtain ⟨cs, h1, h2, h3⟩ := h
  refine ⟨_, hset h1 _, by simpa using h2, fun v hv => ?_⟩
  unfold setB
  by_cases e : v = y
  · subst e
    rw [if_pos rfl]
    simp [h2, hy]
  · rw [if_neg e, Array.getElem?_setIfInBounds_ne (fun h => e h.symm)]
    exact h3 v hv
theorem BArr.other (h : BArr w b n f) {p : Addr} (hne : b ≠ p.block) (v : Value) : BArr (w.setCell p v) b n f := h.eq (hfar hne v)
theorem BArr.new (w : World) (n : Nat) : BArr (w.alloc (.cells (hdr (fun _ => .bool false) n) 4)) w.heap.size n (fun _ => false) :=
  ⟨_, heap_alloc_new w _, by simp [hdr], fun v hv => by simp [hdr, hv]⟩
end

/-- a slice's address, nil or not, below block n₀, where these numbers lie -/
def ZRow (n₀ : Nat) (w : World) (A : Option Addr) (l : List Int) : Prop :=
  0 < l.length → ∃ b off, A = some ⟨b, off, none⟩ ∧ b < n₀ ∧ ∀ (i : Nat) (h : i < l.length), w.cell? ⟨b, off + i, none⟩ = some (.int .i64 l[i])
theorem ZRow.nil (n₀ : Nat) (w : World) (A : Option Addr) : ZRow n₀ w A [] := fun h => by simp at h
theorem ZRow.below {n₀ : Nat} {w w' : World} {A : Option Addr} {l : List Int} (h : ZRow n₀ w A l) (hb : Below n₀ w w') : ZRow n₀ w' A l := fun h0 => by
  obtain ⟨b, off, hA, hlt, hc⟩ := h h0
  exact ⟨b, off, hA, hlt, fun i hi => (hb.cell (p := ⟨b, off + i, none⟩) hlt).trans (hc i hi)⟩
theorem ZRow.mono {n₀ n₁ : Nat} {w : World} {A : Option Addr} {l : List Int} (h : ZRow n₀ w A l) (hn : n₀ ≤ n₁) : ZRow n₁ w A l := fun h0 => by
  obtain ⟨b, off, hA, hlt, hc⟩ := h h0
  exact ⟨b, off, hA, by omega, hc⟩
theorem ZRow.later {w w' : World} {A : Option Addr} {l : List Int} (h : ZRow w.heap.size w A l) (hb : Below w.heap.size w w') : ZRow w'.heap.size w' A l := (h.below hb).mono hb.size
theorem IArr.row {w : World} {b n : Nat} {f : Nat → Int} (h : IArr w b n f) : ZRow w.heap.size w (some ⟨b, 0, none⟩) ((List.range n).map f) := fun h0 => by
  refine ⟨b, 0, rfl, h.lt, fun i hi => ?_⟩
  have hi' : i < n := by simpa using hi
  rw [Nat.zero_add, h.cell hi']
  simp
/-- their cells -/
def zcells (l : List Int) : List Value := l.map (fun x => Value.int .i64 x)
theorem zcells_len (l : List Int) : (zcells l).length = l.length := by simp [zcells]
theorem zcells_append (l m : List Int) : zcells (l ++ m) = zcells l ++ zcells m := by simp [zcells]
theorem zcells_one (l : List Int) : ∀ u ∈ zcells l, u.oneCell' = true := by
  intro u hu
  obtain ⟨x, _, rfl⟩ := List.mem_map.1 hu
  rfl
theorem zcells_get (l : List Int) (k : Nat) (h : k < l.length) : (zcells l)[k]? = some (.int .i64 l[k]) := by
  unfold zcells
  rw [List.getElem?_map, List.getElem?_eq_getElem h]
  rfl
/-- a row of numbers that the call owns -/
def ZOwn (w : World) (B : Nat) (v : Value) (l : List Int) : Prop := w.ownsRow B 3 1 v l.length (zcells l)
theorem ZOwn.form {w : World} {B : Nat} {v : Value} {l : List Int} (h : ZOwn w B v l) : ∃ A c, v = .slice A l.length c ∧ l.length ≤ c ∧ (0 < l.length → ∃ b, A = some ⟨b, 0, none⟩ ∧ v.ownBlock = some b ∧ B ≤ b ∧ b < w.heap.size ∧ (∀ i, w.frozen? ⟨b, i, none⟩ = false) ∧ ∀ (i : Nat) (h : i < l.length), w.cell? ⟨b, i, none⟩ = some (.int .i64 l[i])) := by
  rcases Nat.eq_zero_or_pos l.length with h0 | h0
  · rcases h.2 with ⟨rfl, _⟩ | ⟨g, cap, cur, rfl, _, _, hn, _⟩
    · exact ⟨none, 0, by rw [h0], by omega, fun hh => by omega⟩
    · exact ⟨_, _, rfl, hn, fun hh => by omega⟩
  · rcases h.2 with ⟨_, h1⟩ | ⟨g, cap, cur, hv, hB, hg, hn, _⟩
    · omega
    · have hb : v.ownBlock = some g := by rw [hv]; rfl
      refine ⟨some ⟨g, 0, none⟩, cap, hv, hn, fun _ => ⟨g, rfl, hb, (World.ownsRow.lt h g hb).1, (World.ownsRow.lt h g hb).2, fun i => hfrz hg i, fun i hi => ?_⟩⟩
      have a := World.ownsRow.cells h hb _ _ (zcells_get l i hi)
      rw [do_add] at a
      exact a
theorem ZOwn.row {w : World} {B c n : Nat} {A : Option Addr} {l : List Int} (h : ZOwn w B (.slice A n c) l) : n = l.length ∧ l.length ≤ c ∧ ZRow w.heap.size w A l := by
  obtain ⟨A', c', e, hc, h1⟩ := h.form
  cases e
  refine ⟨rfl, hc, fun h0 => ?_⟩
  obtain ⟨b, hA, _, _, hb, _, hcs⟩ := h1 h0
  exact ⟨b, 0, hA, hb, fun i hi => by rw [Nat.zero_add]; exact hcs i hi⟩
theorem own_stays {w w' : World} {B E s n : Nat} {v : Value} {xs : List Value} (h : w.ownsRow B E s v n xs) (hb : ∀ b, v.ownBlock = some b → w'.heap[b]? = w.heap[b]?) : w'.ownsRow B E s v n xs := by
  refine ⟨h.1, ?_⟩
  rcases h.2 with h0 | ⟨g, cap, cur, hv, hle, hg, r⟩
  · exact .inl h0
  · exact .inr ⟨g, cap, cur, hv, hle, (hb g (by rw [hv]; rfl)).trans hg, r⟩
theorem own_block' {w : World} {B E s n : Nat} {v : Value} {xs : List Value} {b : Nat} (h : w.ownsRow B E s v n xs) (hb : v.ownBlock = some b) : B ≤ b ∧ b < w.heap.size ∧ ∃ cs, w.heap[b]? = some (.cells cs E (0, 0)) := by
  refine ⟨(h.lt b hb).1, (h.lt b hb).2, ?_⟩
  rcases h.2 with ⟨rfl, _⟩ | ⟨g, cap, cur, rfl, _, hg, _⟩
  · cases hb
  · cases hb
    exact ⟨_, hg⟩
theorem own_down {w : World} {B B' n sz : Nat} {e : TypeId} {v : Value} {xs : List Value} (h : w.ownsRow B e sz v n xs) (hb : B' ≤ B) : w.ownsRow B' e sz v n xs := by
  refine ⟨h.1, ?_⟩
  rcases h.2 with h0 | ⟨g, cap, cur, h1, h2, h3⟩
  · exact .inl h0
  · exact .inr ⟨g, cap, cur, h1, Nat.le_trans hb h2, h3⟩
theorem ZOwn.later {w w' : World} {B : Nat} {v : Value} {l : List Int} (h : ZOwn w B v l) (hb : Below w.heap.size w w') : ZOwn w' B v l := own_stays h fun b e => hb.block b (own_block' h e).2.1

/-- numbers of points -/
def zl (l : List Nat) : List Int := l.map (fun x : Nat => (x : Int))
theorem zl_len (l : List Nat) : (zl l).length = l.length := by simp [zl]
theorem zl_get (l : List Nat) (i : Nat) (h : i < l.length) : (zl l)[i]'(by rw [zl_len]; exact h) = ((l[i] : Nat) : Int) := by simp [zl]
theorem zl_append (l m : List Nat) : zl (l ++ m) = zl l ++ zl m := by simp [zl]
/-- a slice of numbers of points -/
def NRow (n₀ : Nat) (w : World) (A : Option Addr) (l : List Nat) : Prop :=
  0 < l.length → ∃ b off, A = some ⟨b, off, none⟩ ∧ b < n₀ ∧ ∀ (i : Nat) (h : i < l.length), w.cell? ⟨b, off + i, none⟩ = some (.int .i64 ((l[i] : Nat) : Int))
theorem NRow.of {n₀ : Nat} {w : World} {A : Option Addr} {l : List Nat} (h : ZRow n₀ w A (zl l)) : NRow n₀ w A l := fun h0 => by
  obtain ⟨b, off, h1, h2, h3⟩ := h (by rw [zl_len]; exact h0)
  exact ⟨b, off, h1, h2, fun i hi => by rw [h3 i (by rw [zl_len]; exact hi), zl_get]⟩
theorem NRow.z {n₀ : Nat} {w : World} {A : Option Addr} {l : List Nat} (h : NRow n₀ w A l) : ZRow n₀ w A (zl l) := fun h0 => by
  obtain ⟨b, off, h1, h2, h3⟩ := h (by rw [zl_len] at h0; exact h0)
  exact ⟨b, off, h1, h2, fun i hi => by rw [h3 i (by rw [zl_len] at hi; exact hi), zl_get]⟩
theorem NRow.nil (n₀ : Nat) (w : World) (A : Option Addr) : NRow n₀ w A [] := fun h => by simp at h
theorem NRow.below {n₀ : Nat} {w w' : World} {A : Option Addr} {l : List Nat} (h : NRow n₀ w A l) (hb : Below n₀ w w') : NRow n₀ w' A l := .of (h.z.below hb)
theorem NRow.mono {n₀ n₁ : Nat} {w : World} {A : Option Addr} {l : List Nat} (h : NRow n₀ w A l) (hn : n₀ ≤ n₁) : NRow n₁ w A l := .of (h.z.mono hn)
theorem NRow.later {w w' : World} {A : Option Addr} {l : List Nat} (h : NRow w.heap.size w A l) (hb : Below w.heap.size w w') : NRow w'.heap.size w' A l := (h.below hb).mono hb.size

end Go.Proofs.YtjgkcicgjnjepaaDoor
