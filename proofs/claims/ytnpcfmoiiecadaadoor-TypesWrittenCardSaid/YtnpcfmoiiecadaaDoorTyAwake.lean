/- What is proved: the chapter's examples hold. -/
import Derived.Test.YtnpcfmoiiecadaaDoorTyAwBase
import Derived.Deep.Cut
import Derived.Deep.DeepCutAuto
set_option linter.unusedVariables false
namespace Go.Proofs.YtnpcfmoiiecadaaDoor
open Go.RowKit

/-- the four variables of the example, in blocks of their own -/
structure Aw (w : World) (N : Nat) (W : World) : Prop where
  x : TCells W N 0 (bsc 1)
  b : TCells W (N + 1) 0 (bsc 2)
  a : TCells W (N + 2) 0 exA
  p : TCells W (N + 3) 0 exP
  size : N + 4 ≤ W.heap.size
  below : Below w.heap.size w W
theorem Aw.later {w W W' : World} {N : Nat} (h : Aw w N W) (hb : Below W.heap.size W W') : Aw w N W' :=
  ⟨h.x.below hb (by have := h.size; omega), h.b.below hb (by have := h.size; omega), h.a.below hb (by have := h.size; omega), h.p.below hb (by have := h.size; omega), Nat.le_trans h.size hb.size, h.below.trans (hb.mono h.below.size)⟩
theorem Aw.alloc {w W : World} {N : Nat} (h : Aw w N W) (o : Obj) : Aw w N (W.alloc o) := h.later ((Below.refl _ _).alloc (Nat.le_refl _) _)
theorem Aw.drew {w W : World} {N : Nat} (h : Aw w N W) : Aw w N W.drew := h.later (Below.refl _ _).drew
theorem Aw.now {w W : World} {N : Nat} (h : Aw w N W) : W.cell? ⟨N, 0, none⟩ = some (.int .i64 1) ∧ W.cell? ⟨N, 1, none⟩ = some (.int .i64 0) ∧ W.cell? ⟨N, 2, none⟩ = some (.string ⟨#[]⟩) ∧ W.cell? ⟨N + 1, 0, none⟩ = some (.int .i64 2) ∧ W.cell? ⟨N + 1, 1, none⟩ = some (.int .i64 0) ∧ W.cell? ⟨N + 1, 2, none⟩ = some (.string ⟨#[]⟩) ∧ W.cell? ⟨N + 2, 0, none⟩ = some (.int .i64 3) ∧ W.cell? ⟨N + 2, 1, none⟩ = some (.int .i64 2) ∧ W.cell? ⟨N + 2, 2, none⟩ = some (.string ⟨#[]⟩) ∧ W.cell? ⟨N + 3, 0, none⟩ = some (.int .i64 4) ∧ W.cell? ⟨N + 3, 1, none⟩ = some (.int .i64 0) ∧ W.cell? ⟨N + 3, 2, none⟩ = some (.string ⟨#[112, 111, 105, 110, 116]⟩) :=
  ⟨h.x.1, h.x.2.1, h.x.2.2, h.b.1, h.b.2.1, h.b.2.2, h.a.1, h.a.2.1, h.a.2.2, h.p.1, h.p.2.1, h.p.2.2⟩
theorem aw_new (w : World) : Aw w w.heap.size ((((w.alloc (.cells #[.int .i64 1, .int .i64 0, .string ⟨#[]⟩] 23)).alloc (.cells #[.int .i64 2, .int .i64 0, .string ⟨#[]⟩] 23)).alloc (.cells #[.int .i64 3, .int .i64 2, .string ⟨#[]⟩] 23)).alloc (.cells #[.int .i64 4, .int .i64 0, .string ⟨#[112, 111, 105, 110, 116]⟩] 23)) := by
  have h0 : TCells (w.alloc (.cells #[.int .i64 1, .int .i64 0, .string ⟨#[]⟩] 23)) w.heap.size 0 (bsc 1) := TCells.of_box (x := bsc 1)
  have h1 := TCells.of_box (w := (w.alloc (.cells #[.int .i64 1, .int .i64 0, .string ⟨#[]⟩] 23))) (x := bsc 2)
  have h2 := TCells.of_box (w := ((w.alloc (.cells #[.int .i64 1, .int .i64 0, .string ⟨#[]⟩] 23)).alloc (.cells #[.int .i64 2, .int .i64 0, .string ⟨#[]⟩] 23))) (x := exA)
  have h3 := TCells.of_box (w := (((w.alloc (.cells #[.int .i64 1, .int .i64 0, .string ⟨#[]⟩] 23)).alloc (.cells #[.int .i64 2, .int .i64 0, .string ⟨#[]⟩] 23)).alloc (.cells #[.int .i64 3, .int .i64 2, .string ⟨#[]⟩] 23))) (x := exP)
  simp only [World.size_alloc] at h1 h2 h3
  have b1 := fun (W : World) (o : Obj) => (Below.refl W.heap.size W).alloc (Nat.le_refl _) o
  exact ⟨((h0.below (b1 _ _) (by simp)).below (b1 _ _) (by simp <;> omega)).below (b1 _ _) (by simp <;> omega), (h1.below (b1 _ _) (by simp)).below (b1 _ _) (by simp <;> omega), h2.below (b1 _ _) (by simp), h3, by simp, (((b1 _ _).alloc (by simp) _).alloc (by simp <;> omega) _).alloc (by simp <;> omega) _⟩

/-- a block with the example's variables -/
theorem exV_row (W : World) : VRow (W.alloc (.cells #[.string ⟨#[120]⟩, .int .i64 2, .int .i64 0, .string ⟨#[]⟩, .int .i64 0, .int .i64 0, .bool false, .bool false, .string ⟨#[97]⟩, .int .i64 3, .int .i64 2, .string ⟨#[]⟩, .int .i64 0, .int .i64 0, .bool false, .bool false, .string ⟨#[112]⟩, .int .i64 4, .int .i64 0, .string ⟨#[112, 111, 105, 110, 116]⟩, .int .i64 0, .int .i64 0, .bool false, .bool false] 56)).heap.size (W.alloc (.cells #[.string ⟨#[120]⟩, .int .i64 2, .int .i64 0, .string ⟨#[]⟩, .int .i64 0, .int .i64 0, .bool false, .bool false, .string ⟨#[97]⟩, .int .i64 3, .int .i64 2, .string ⟨#[]⟩, .int .i64 0, .int .i64 0, .bool false, .bool false, .string ⟨#[112]⟩, .int .i64 4, .int .i64 0, .string ⟨#[112, 111, 105, 110, 116]⟩, .int .i64 0, .int .i64 0, .bool false, .bool false] 56)) (some ⟨W.heap.size, 0, none⟩) exV := fun _ => by
  have h := heap_alloc_new W (.cells #[.string ⟨#[120]⟩, .int .i64 2, .int .i64 0, .string ⟨#[]⟩, .int .i64 0, .int .i64 0, .bool false, .bool false, .string ⟨#[97]⟩, .int .i64 3, .int .i64 2, .string ⟨#[]⟩, .int .i64 0, .int .i64 0, .bool false, .bool false, .string ⟨#[112]⟩, .int .i64 4, .int .i64 0, .string ⟨#[112, 111, 105, 110, 116]⟩, .int .i64 0, .int .i64 0, .bool false, .bool false] 56)
  refine ⟨W.heap.size, 0, rfl, by simp, fun i hi => ?_⟩
  match i, hi with
  | 0, _ => exact ⟨Lib.cell_of_heap h 0, Lib.cell_of_heap h 1, Lib.cell_of_heap h 2, Lib.cell_of_heap h 3, Lib.cell_of_heap h 4, Lib.cell_of_heap h 5, Lib.cell_of_heap h 6, Lib.cell_of_heap h 7⟩
  | 1, _ => exact ⟨Lib.cell_of_heap h 8, Lib.cell_of_heap h 9, Lib.cell_of_heap h 10, Lib.cell_of_heap h 11, Lib.cell_of_heap h 12, Lib.cell_of_heap h 13, Lib.cell_of_heap h 14, Lib.cell_of_heap h 15⟩
  | 2, _ => exact ⟨Lib.cell_of_heap h 16, Lib.cell_of_heap h 17, Lib.cell_of_heap h 18, Lib.cell_of_heap h 19, Lib.cell_of_heap h 20, Lib.cell_of_heap h 21, Lib.cell_of_heap h 22, Lib.cell_of_heap h 23⟩

/-- what several orders of a region share is walked once -/
theorem tail_share {P : Program} {md : Region.Mode} {ops : Array Oper} {Q : Exit → Act → World → Prop} {S : World → Prop} {n : Nat} {L : Array Bool} {fuel : Nat} {listed : Array Bool} {a : Act} {w : World} (f : Value → Value → Value → Value → Act)
    (hT : ∀ (fuel : Nat) (listed : Array Bool), fuel = n → listed = L → ∀ z1 z2 z3 z4 we, S we → wpAnyH P md ops Q S fuel listed (f z1 z2 z3 z4) we)
    (hH : (∀ (fuel : Nat) (listed : Array Bool), fuel = n → listed = L → ∀ z1 z2 z3 z4 we, S we → wpAnyH P md ops Q S fuel listed (f z1 z2 z3 z4) we) → wpAnyH P md ops Q S fuel listed a w) : wpAnyH P md ops Q S fuel listed a w := hH hT

/-- what is known of the memory ahead of the last statement -/
structure Aw2 (w : World) (N M K : Nat) (W : World) : Prop where
  aw : Aw w N W
  t9 : TCells W M 0 (bsc 2)
  sl : Slots W K
  hm : M < W.heap.size
  hk : K < W.heap.size
theorem Slots.below {W W' : World} {B k : Nat} (h : Slots W k) (hb : Below B W W') (hk : k < B) : Slots W' k :=
  ⟨(hb.cell (p := ⟨k, 4, none⟩) hk).trans h.1, (hb.cell (p := ⟨k, 12, none⟩) hk).trans h.2.1, (hb.cell (p := ⟨k, 20, none⟩) hk).trans h.2.2⟩
theorem Aw2.later {w W W' : World} {N M K : Nat} (h : Aw2 w N M K W) (hb : Below W.heap.size W W') : Aw2 w N M K W' :=
  ⟨h.aw.later hb, h.t9.below hb h.hm, h.sl.below hb h.hk, Nat.lt_of_lt_of_le h.hm hb.size, Nat.lt_of_lt_of_le h.hk hb.size⟩
theorem Aw2.alloc {w W : World} {N M K : Nat} (h : Aw2 w N M K W) (o : Obj) : Aw2 w N M K (W.alloc o) := h.later ((Below.refl _ _).alloc (Nat.le_refl _) _)
theorem Aw2.drew {w W : World} {N M K : Nat} (h : Aw2 w N M K W) : Aw2 w N M K W.drew := h.later (Below.refl _ _).drew
theorem Aw2.now {w W : World} {N M K : Nat} (h : Aw2 w N M K W) : W.cell? ⟨N, 0, none⟩ = some (.int .i64 1) ∧ W.cell? ⟨N, 1, none⟩ = some (.int .i64 0) ∧ W.cell? ⟨N, 2, none⟩ = some (.string ⟨#[]⟩) ∧ W.cell? ⟨N + 1, 0, none⟩ = some (.int .i64 2) ∧ W.cell? ⟨N + 1, 1, none⟩ = some (.int .i64 0) ∧ W.cell? ⟨N + 1, 2, none⟩ = some (.string ⟨#[]⟩) ∧ W.cell? ⟨N + 2, 0, none⟩ = some (.int .i64 3) ∧ W.cell? ⟨N + 2, 1, none⟩ = some (.int .i64 2) ∧ W.cell? ⟨N + 2, 2, none⟩ = some (.string ⟨#[]⟩) ∧ W.cell? ⟨N + 3, 0, none⟩ = some (.int .i64 4) ∧ W.cell? ⟨N + 3, 1, none⟩ = some (.int .i64 0) ∧ W.cell? ⟨N + 3, 2, none⟩ = some (.string ⟨#[112, 111, 105, 110, 116]⟩) ∧ W.cell? ⟨M, 0, none⟩ = some (.int .i64 2) ∧ W.cell? ⟨M, 1, none⟩ = some (.int .i64 0) ∧ W.cell? ⟨M, 2, none⟩ = some (.string ⟨#[]⟩) ∧ W.cell? ⟨K, 4, none⟩ = some (.int .i64 0) ∧ W.cell? ⟨K, 12, none⟩ = some (.int .i64 1) ∧ W.cell? ⟨K, 20, none⟩ = some (.int .i64 3) :=
  ⟨h.aw.x.1, h.aw.x.2.1, h.aw.x.2.2, h.aw.b.1, h.aw.b.2.1, h.aw.b.2.2, h.aw.a.1, h.aw.a.2.1, h.aw.a.2.2, h.aw.p.1, h.aw.p.2.1, h.aw.p.2.2, h.t9.1, h.t9.2.1, h.t9.2.2, h.sl.1, h.sl.2.1, h.sl.2.2⟩
theorem row2 (W : World) (n : Nat) (hn : W.heap.size = n) : TRow (W.alloc (.cells #[.int .i64 3, .int .i64 2, .string ⟨#[]⟩, .int .i64 4, .int .i64 0, .string ⟨#[112, 111, 105, 110, 116]⟩] 23)).heap.size (W.alloc (.cells #[.int .i64 3, .int .i64 2, .string ⟨#[]⟩, .int .i64 4, .int .i64 0, .string ⟨#[112, 111, 105, 110, 116]⟩] 23)) (some ⟨n, 0, none⟩) [exA, exP] := fun _ => by
  subst hn
  have h := heap_alloc_new W (.cells #[.int .i64 3, .int .i64 2, .string ⟨#[]⟩, .int .i64 4, .int .i64 0, .string ⟨#[112, 111, 105, 110, 116]⟩] 23)
  refine ⟨W.heap.size, 0, rfl, by simp, fun i hi => ?_⟩
  match i, hi with
  | 0, _ => exact ⟨Lib.cell_of_heap h 0, Lib.cell_of_heap h 1, Lib.cell_of_heap h 2⟩
  | 1, _ => exact ⟨Lib.cell_of_heap h 3, Lib.cell_of_heap h 4, Lib.cell_of_heap h 5⟩
theorem row4 (W : World) (n : Nat) (hn : W.heap.size = n) : TRow (W.alloc (.cells #[.int .i64 1, .int .i64 0, .string ⟨#[]⟩, .int .i64 1, .int .i64 0, .string ⟨#[]⟩, .int .i64 1, .int .i64 0, .string ⟨#[]⟩, .int .i64 2, .int .i64 0, .string ⟨#[]⟩] 23)).heap.size (W.alloc (.cells #[.int .i64 1, .int .i64 0, .string ⟨#[]⟩, .int .i64 1, .int .i64 0, .string ⟨#[]⟩, .int .i64 1, .int .i64 0, .string ⟨#[]⟩, .int .i64 2, .int .i64 0, .string ⟨#[]⟩] 23)) (some ⟨n, 0, none⟩) exS := fun _ => by
  subst hn
  have h := heap_alloc_new W (.cells #[.int .i64 1, .int .i64 0, .string ⟨#[]⟩, .int .i64 1, .int .i64 0, .string ⟨#[]⟩, .int .i64 1, .int .i64 0, .string ⟨#[]⟩, .int .i64 2, .int .i64 0, .string ⟨#[]⟩] 23)
  refine ⟨W.heap.size, 0, rfl, by simp, fun i hi => ?_⟩
  match i, hi with
  | 0, _ => exact ⟨Lib.cell_of_heap h 0, Lib.cell_of_heap h 1, Lib.cell_of_heap h 2⟩
  | 1, _ => exact ⟨Lib.cell_of_heap h 3, Lib.cell_of_heap h 4, Lib.cell_of_heap h 5⟩
  | 2, _ => exact ⟨Lib.cell_of_heap h 6, Lib.cell_of_heap h 7, Lib.cell_of_heap h 8⟩
  | 3, _ => exact ⟨Lib.cell_of_heap h 9, Lib.cell_of_heap h 10, Lib.cell_of_heap h 11⟩
theorem TRow.alloc {W : World} {A : Option Addr} {l : List TyV} (h : TRow W.heap.size W A l) (o : Obj) : TRow (W.alloc o).heap.size (W.alloc o) A l := h.later ((Below.refl _ _).alloc (Nat.le_refl _) _)
theorem TRow.drew {W : World} {A : Option Addr} {l : List TyV} (h : TRow W.heap.size W A l) : TRow W.drew.heap.size W.drew A l := h.later (Below.refl _ _).drew
theorem RRow.alloc {W : World} {A : Option Addr} {l : List RcV} (h : RRow W.heap.size W A l) (o : Obj) : RRow (W.alloc o).heap.size (W.alloc o) A l := h.later ((Below.refl _ _).alloc (Nat.le_refl _) _)

set_option maxRecDepth 100000 in
set_option maxHeartbeats 8000000 in
theorem awake_any (w : World) : Calls Tryd.prog 7 #[] w fun e w' => e = .returned (.bool true) ∧ Below w.heap.size w w' := by
  have HA0 := Lib.hid (aw_new w)
  go_enter Tryd.func7, Tryd.ntmps7
  go_wp2_with (fail)
  have HNN : ∃ N, Hid (w.heap.size = N) := ⟨_, Lib.hid rfl⟩
  obtain ⟨N, HNN⟩ := HNN
  rw [HNN.out] at HA0
  generalize (((w.alloc (.cells #[.int .i64 1, .int .i64 0, .string ⟨#[]⟩] 23)).alloc (.cells #[.int .i64 2, .int .i64 0, .string ⟨#[]⟩] 23)).alloc (.cells #[.int .i64 3, .int .i64 2, .string ⟨#[]⟩] 23)).alloc (.cells #[.int .i64 4, .int .i64 0, .string ⟨#[112, 111, 105, 110, 116]⟩] 23) = w4 at *
  rw [HNN.out]
  go_upto_region 3 with fail
  go_cut [5, 6] (fun s5 s6 wx => ∃ (k c : Nat), s5 = .slice (some ⟨k, 0, none⟩) 3 c ∧ s6 = .int .i64 5 ∧ Hid (Aw w N wx) ∧ Hid (Slots wx k) ∧ Hid (k < wx.heap.size))
  case first =>
    obtain ⟨x0, x1, x2, b0, b1, b2, a0, a1, a2, p0, p1, p2⟩ := HA0.out.now
    have HKV := Lib.hid (HA0.out.alloc (.cells #[.string ⟨#[120]⟩, .int .i64 2, .int .i64 0, .string ⟨#[]⟩, .int .i64 0, .int .i64 0, .bool false, .bool false, .string ⟨#[97]⟩, .int .i64 3, .int .i64 2, .string ⟨#[]⟩, .int .i64 0, .int .i64 0, .bool false, .bool false, .string ⟨#[112]⟩, .int .i64 4, .int .i64 0, .string ⟨#[112, 111, 105, 110, 116]⟩, .int .i64 0, .int .i64 0, .bool false, .bool false] 56)).now
    have HVV := Lib.hid (exV_row w4)
    go_region_held3 (fun w' => w'.cell? ⟨N, 0, none⟩ = some (.int .i64 1) ∧ w'.cell? ⟨N, 1, none⟩ = some (.int .i64 0) ∧ w'.cell? ⟨N, 2, none⟩ = some (.string ⟨#[]⟩) ∧ w'.cell? ⟨N + 1, 0, none⟩ = some (.int .i64 2) ∧ w'.cell? ⟨N + 1, 1, none⟩ = some (.int .i64 0) ∧ w'.cell? ⟨N + 1, 2, none⟩ = some (.string ⟨#[]⟩) ∧ w'.cell? ⟨N + 2, 0, none⟩ = some (.int .i64 3) ∧ w'.cell? ⟨N + 2, 1, none⟩ = some (.int .i64 2) ∧ w'.cell? ⟨N + 2, 2, none⟩ = some (.string ⟨#[]⟩) ∧ w'.cell? ⟨N + 3, 0, none⟩ = some (.int .i64 4) ∧ w'.cell? ⟨N + 3, 1, none⟩ = some (.int .i64 0) ∧ w'.cell? ⟨N + 3, 2, none⟩ = some (.string ⟨#[112, 111, 105, 110, 116]⟩)) (first | (with_reducible exact HK.out) | (with_reducible exact HKV.out) | (with_reducible exact HKP.out) | go_keep)
      ((first
        | (go_at_call 18; (with_reducible refine (point_any w4.drew).mono ?_); rintro e wp ⟨q, g, rfl, hr, hb⟩; have HAP := Lib.hid (HA0.out.drew.later hb); have HRP := Lib.hid (hr.later ((Below.refl wp.heap.size wp).alloc (Nat.le_refl _) (.cells #[.string ⟨#[120]⟩, .int .i64 2, .int .i64 0, .string ⟨#[]⟩, .int .i64 0, .int .i64 0, .bool false, .bool false, .string ⟨#[97]⟩, .int .i64 3, .int .i64 2, .string ⟨#[]⟩, .int .i64 0, .int .i64 0, .bool false, .bool false, .string ⟨#[112]⟩, .int .i64 4, .int .i64 0, .string ⟨#[112, 111, 105, 110, 116]⟩, .int .i64 0, .int .i64 0, .bool false, .bool false] 56))); have HK := Lib.hid HAP.out.now; have HKP := Lib.hid (HAP.out.alloc (.cells #[.string ⟨#[120]⟩, .int .i64 2, .int .i64 0, .string ⟨#[]⟩, .int .i64 0, .int .i64 0, .bool false, .bool false, .string ⟨#[97]⟩, .int .i64 3, .int .i64 2, .string ⟨#[]⟩, .int .i64 0, .int .i64 0, .bool false, .bool false, .string ⟨#[112]⟩, .int .i64 4, .int .i64 0, .string ⟨#[112, 111, 105, 110, 116]⟩, .int .i64 0, .int .i64 0, .bool false, .bool false] 56)).now; clear hr hb)
        | (go_at_call 18; (with_reducible refine (point_any (w4.alloc (.cells #[.string ⟨#[120]⟩, .int .i64 2, .int .i64 0, .string ⟨#[]⟩, .int .i64 0, .int .i64 0, .bool false, .bool false, .string ⟨#[97]⟩, .int .i64 3, .int .i64 2, .string ⟨#[]⟩, .int .i64 0, .int .i64 0, .bool false, .bool false, .string ⟨#[112]⟩, .int .i64 4, .int .i64 0, .string ⟨#[112, 111, 105, 110, 116]⟩, .int .i64 0, .int .i64 0, .bool false, .bool false] 56)).drew).mono ?_); rintro e wp ⟨q, g, rfl, hr, hb⟩; have HAQ := Lib.hid ((HA0.out.alloc (.cells #[.string ⟨#[120]⟩, .int .i64 2, .int .i64 0, .string ⟨#[]⟩, .int .i64 0, .int .i64 0, .bool false, .bool false, .string ⟨#[97]⟩, .int .i64 3, .int .i64 2, .string ⟨#[]⟩, .int .i64 0, .int .i64 0, .bool false, .bool false, .string ⟨#[112]⟩, .int .i64 4, .int .i64 0, .string ⟨#[112, 111, 105, 110, 116]⟩, .int .i64 0, .int .i64 0, .bool false, .bool false] 56)).drew.later hb); have HRQ := Lib.hid hr; have HVQ := Lib.hid ((HVV.out.later (Below.refl _ _).drew).later hb); have HK := Lib.hid HAQ.out.now; clear hr hb)
        | (go_at_call 17; (with_reducible refine (layout_ex g _ q _ HRP.out (exV_row wp)).mono ?_); rintro e wl ⟨k, c, rfl, hsl, hk, hb⟩; have HA := Lib.hid ((HAP.out.alloc (.cells #[.string ⟨#[120]⟩, .int .i64 2, .int .i64 0, .string ⟨#[]⟩, .int .i64 0, .int .i64 0, .bool false, .bool false, .string ⟨#[97]⟩, .int .i64 3, .int .i64 2, .string ⟨#[]⟩, .int .i64 0, .int .i64 0, .bool false, .bool false, .string ⟨#[112]⟩, .int .i64 4, .int .i64 0, .string ⟨#[112, 111, 105, 110, 116]⟩, .int .i64 0, .int .i64 0, .bool false, .bool false] 56)).later hb); have HSL := Lib.hid hsl; have HKL := Lib.hid hk; have HK := Lib.hid HA.out.now; clear hsl hk hb)
        | (go_at_call 17; (with_reducible refine (layout_ex g _ q _ HRQ.out HVQ.out).mono ?_); rintro e wl ⟨k, c, rfl, hsl, hk, hb⟩; have HA := Lib.hid (HAQ.out.later hb); have HSL := Lib.hid hsl; have HKL := Lib.hid hk; have HK := Lib.hid HA.out.now; clear hsl hk hb)))
    all_goals
      go_wp2_with (fail)
      go_meet
      exact ⟨k, c, rfl, rfl, HA, HSL, HKL⟩
  case rest =>
    obtain ⟨k, c, rfl, rfl, HA, HSL, HKL⟩ := hcut
    go_wp2_with (fail)
    refine (point_any wc).mono ?_
    rintro e w7 ⟨q7, g7, rfl, hr7, hb7⟩
    have HA7 := Lib.hid (HA.out.later hb7)
    have HR7 := Lib.hid hr7
    have HS7 := Lib.hid (HSL.out.below hb7 HKL.out)
    have HK7 := Lib.hid (Nat.lt_of_lt_of_le HKL.out hb7.size)
    clear hr7 hb7
    go_wp2_with (fail)
    refine (member_ex g7 q7 w7 HR7.out).mono ?_
    rintro e w8 ⟨rfl, hb8⟩
    have HA8 := Lib.hid (HA7.out.later hb8)
    have HS8 := Lib.hid (HS7.out.below hb8 HK7.out)
    have HK8 := Lib.hid (Nat.lt_of_lt_of_le HK7.out hb8.size)
    clear hb8
    go_wp2_with (fail)
    have HA9 := Lib.hid (show Aw2 w N w8.heap.size k (w8.alloc (.cells #[.int .i64 2, .int .i64 0, .string ⟨#[]⟩] 23)) from ⟨HA8.out.alloc _, TCells.of_box (x := bsc 2), HS8.out.below ((Below.refl w8.heap.size w8).alloc (Nat.le_refl _) _) HK8.out, by simp, by have := HK8.out; simp; omega⟩)
    generalize (w8.alloc (.cells #[.int .i64 2, .int .i64 0, .string ⟨#[]⟩] 23)) = w9 at *
    generalize w8.heap.size = M at *
    have h9 := HA9.out.drew
    have HKa := Lib.hid (HA9.out.alloc (.cells #[.int .i64 3, .int .i64 2, .string ⟨#[]⟩, .int .i64 4, .int .i64 0, .string ⟨#[112, 111, 105, 110, 116]⟩] 23)).drew
    have HKb := Lib.hid (HA9.out.alloc (.cells #[.int .i64 1, .int .i64 0, .string ⟨#[]⟩, .int .i64 1, .int .i64 0, .string ⟨#[]⟩, .int .i64 1, .int .i64 0, .string ⟨#[]⟩, .int .i64 2, .int .i64 0, .string ⟨#[]⟩] 23)).drew
    have HKc := Lib.hid ((HA9.out.alloc (.cells #[.int .i64 3, .int .i64 2, .string ⟨#[]⟩, .int .i64 4, .int .i64 0, .string ⟨#[112, 111, 105, 110, 116]⟩] 23)).alloc (.cells #[.int .i64 1, .int .i64 0, .string ⟨#[]⟩, .int .i64 1, .int .i64 0, .string ⟨#[]⟩, .int .i64 1, .int .i64 0, .string ⟨#[]⟩, .int .i64 2, .int .i64 0, .string ⟨#[]⟩] 23)).drew
    have HKd := Lib.hid ((HA9.out.alloc (.cells #[.int .i64 1, .int .i64 0, .string ⟨#[]⟩, .int .i64 1, .int .i64 0, .string ⟨#[]⟩, .int .i64 1, .int .i64 0, .string ⟨#[]⟩, .int .i64 2, .int .i64 0, .string ⟨#[]⟩] 23)).alloc (.cells #[.int .i64 3, .int .i64 2, .string ⟨#[]⟩, .int .i64 4, .int .i64 0, .string ⟨#[112, 111, 105, 110, 116]⟩] 23)).drew
    have i0 : ∀ w', Aw2 w N M k w' → w'.cell? ⟨N, 0, none⟩ = some (.int .i64 1) := fun w' h => h.now.1
    have i1 : ∀ w', Aw2 w N M k w' → w'.cell? ⟨N, 1, none⟩ = some (.int .i64 0) := fun w' h => h.now.2.1
    have i2 : ∀ w', Aw2 w N M k w' → w'.cell? ⟨N, 2, none⟩ = some (.string ⟨#[]⟩) := fun w' h => h.now.2.2.1
    have i3 : ∀ w', Aw2 w N M k w' → w'.cell? ⟨N + 1, 0, none⟩ = some (.int .i64 2) := fun w' h => h.now.2.2.2.1
    have i4 : ∀ w', Aw2 w N M k w' → w'.cell? ⟨N + 1, 1, none⟩ = some (.int .i64 0) := fun w' h => h.now.2.2.2.2.1
    have i5 : ∀ w', Aw2 w N M k w' → w'.cell? ⟨N + 1, 2, none⟩ = some (.string ⟨#[]⟩) := fun w' h => h.now.2.2.2.2.2.1
    have i6 : ∀ w', Aw2 w N M k w' → w'.cell? ⟨N + 2, 0, none⟩ = some (.int .i64 3) := fun w' h => h.now.2.2.2.2.2.2.1
    have i7 : ∀ w', Aw2 w N M k w' → w'.cell? ⟨N + 2, 1, none⟩ = some (.int .i64 2) := fun w' h => h.now.2.2.2.2.2.2.2.1
    have i8 : ∀ w', Aw2 w N M k w' → w'.cell? ⟨N + 2, 2, none⟩ = some (.string ⟨#[]⟩) := fun w' h => h.now.2.2.2.2.2.2.2.2.1
    have i9 : ∀ w', Aw2 w N M k w' → w'.cell? ⟨N + 3, 0, none⟩ = some (.int .i64 4) := fun w' h => h.now.2.2.2.2.2.2.2.2.2.1
    have i10 : ∀ w', Aw2 w N M k w' → w'.cell? ⟨N + 3, 1, none⟩ = some (.int .i64 0) := fun w' h => h.now.2.2.2.2.2.2.2.2.2.2.1
    have i11 : ∀ w', Aw2 w N M k w' → w'.cell? ⟨N + 3, 2, none⟩ = some (.string ⟨#[112, 111, 105, 110, 116]⟩) := fun w' h => h.now.2.2.2.2.2.2.2.2.2.2.2.1
    have i12 : ∀ w', Aw2 w N M k w' → w'.cell? ⟨M, 0, none⟩ = some (.int .i64 2) := fun w' h => h.now.2.2.2.2.2.2.2.2.2.2.2.2.1
    have i13 : ∀ w', Aw2 w N M k w' → w'.cell? ⟨M, 1, none⟩ = some (.int .i64 0) := fun w' h => h.now.2.2.2.2.2.2.2.2.2.2.2.2.2.1
    have i14 : ∀ w', Aw2 w N M k w' → w'.cell? ⟨M, 2, none⟩ = some (.string ⟨#[]⟩) := fun w' h => h.now.2.2.2.2.2.2.2.2.2.2.2.2.2.2.1
    have i15 : ∀ w', Aw2 w N M k w' → w'.cell? ⟨k, 4, none⟩ = some (.int .i64 0) := fun w' h => h.now.2.2.2.2.2.2.2.2.2.2.2.2.2.2.2.1
    have i16 : ∀ w', Aw2 w N M k w' → w'.cell? ⟨k, 12, none⟩ = some (.int .i64 1) := fun w' h => h.now.2.2.2.2.2.2.2.2.2.2.2.2.2.2.2.2.1
    have i17 : ∀ w', Aw2 w N M k w' → w'.cell? ⟨k, 20, none⟩ = some (.int .i64 3) := fun w' h => h.now.2.2.2.2.2.2.2.2.2.2.2.2.2.2.2.2.2
    refine wp_region_noPanic ?_
    refine wp_region_held_drew (S := fun w' => Aw2 w N M k w') (by kernel_rfl) h9 (fun _ => ?_)
    refine tail_share (n := 52) (L := #[true, true, true, true, true, true, true, true, true, true, true, false, false, false, false, false, false, false, false, false, false, false, false, false, false, false, false, false, false, false, false, false, false, false, false, false, false, false, false, false, false, false, false, false, false, false, false, false, false, false, false, false, false, false, false, false, false, false, false, false, false, false, false]) (fun z1 z2 z3 z4 => ⟨#[.bool false, .pointer (some ⟨N, 0, none⟩), .pointer (some ⟨N + 1, 0, none⟩), .pointer (some ⟨N + 1 + 1, 0, none⟩), .pointer (some ⟨N + 1 + 1 + 1, 0, none⟩), .slice (some ⟨k, 0, none⟩) 3 c, .int .i64 5, .string ⟨#[112, 111, 105, 110, 116]⟩, .int .i64 1, .pointer (some ⟨M, 0, none⟩), .bool true, u11, u12, u13, u14, u15, u16, u17, u18, u19, u20, u21, u22, u23, u24, u25, u26, .tuple #[.string ⟨#[112, 111, 105, 110, 116]⟩, .int .i64 1, .agg #[.int .i64 2, .int .i64 0, .string ⟨#[]⟩], .bool true], .slice (some ⟨g7, 0, none⟩) 1 1, .tuple #[.string ⟨#[112, 111, 105, 110, 116]⟩, .int .i64 1, .agg #[.int .i64 2, .int .i64 0, .string ⟨#[]⟩], .bool true], .string ⟨#[112, 111, 105, 110, 116]⟩, .int .i64 1, .agg #[.int .i64 2, .int .i64 0, .string ⟨#[]⟩], .bool true, z1, .agg #[.int .i64 3, .int .i64 2, .string ⟨#[]⟩], .agg #[.int .i64 4, .int .i64 0, .string ⟨#[112, 111, 105, 110, 116]⟩], z2, z3, .agg #[.int .i64 1, .int .i64 0, .string ⟨#[]⟩], .agg #[.int .i64 1, .int .i64 0, .string ⟨#[]⟩], .agg #[.int .i64 1, .int .i64 0, .string ⟨#[]⟩], .agg #[.int .i64 2, .int .i64 0, .string ⟨#[]⟩], z4, .bool true, u45, u46, u47, u48, u49, u50, u51, u52, u53, u54, u55, u56, u57, u58, u59, u60, u61, u62, u63, u64, u65, u66, u67, u68, u69, u70, u71, u72, u73, u74, u75, u76, u77, u78, u79, u80, u81, u82, u83, u84, u85, u86, u87, u88, u89, u90, u91, u92, u93, u94, u95], []⟩) ?tail (fun HT => ?head)
    case tail =>
      intro fuel listed hf hl z1 z2 z3 z4 we HSE
      subst hf
      subst hl
      have HAE := Lib.hid HSE
      refine wpAnyH_take (i := 11) (oi := { dst := some 45, op := Op.move (Operand.tmp 44), type := 4, pos := "law.go:24", after := #[{ on := 10, ground := Ground.data }, { on := 10, ground := Ground.chain }], guard := none }) (v := (Value.bool true)) rfl (by kernel_rfl) (by kernel_rfl) (by kernel_rfl) (fun _ _ _ h => h) (Or.inl ⟨by rfl, ?_⟩) HAE.out ?_
      · (intro w hSw; go_simp)
      simp only [Act.put, List.setIfInBounds_toArray, List.set_cons_zero, List.set_cons_succ]
      refine wpAnyH_take (i := 12) (oi := { dst := some 46, op := Op.move (Operand.tmp 5), type := 51, pos := "law.go:24", after := #[{ on := 11, ground := Ground.guard }], guard := some (11, true) }) (v := .slice (some ⟨k, 0, none⟩) 3 c) rfl (by kernel_rfl) (by kernel_rfl) (by kernel_rfl) (fun _ _ _ h => h) (Or.inl ⟨by rfl, ?_⟩) HAE.out ?_
      · (intro w hSw; go_simp)
      simp only [Act.put, List.setIfInBounds_toArray, List.set_cons_zero, List.set_cons_succ]
      refine wpAnyH_take (i := 13) (oi := { dst := some 47, op := Op.call { callee := Callee.builtin Builtin.len, args := #[Operand.tmp 46], argTypes := #[51] }, type := 3, pos := "law.go:24", after := #[{ on := 12, ground := Ground.data }, { on := 11, ground := Ground.guard }], guard := some (11, true) }) (v := .int .i64 3) rfl (by kernel_rfl) (by kernel_rfl) (by kernel_rfl) (fun _ _ _ h => h) (Or.inl ⟨by rfl, ?_⟩) HAE.out ?_
      · (intro w hSw; go_simp)
      simp only [Act.put, List.setIfInBounds_toArray, List.set_cons_zero, List.set_cons_succ]
      refine wpAnyH_take (i := 14) (oi := { dst := some 48, op := Op.binOp BinOp.eql 3 (Operand.tmp 47) (Operand.const (Value.int IntKind.i64 3)) 3, type := 4, pos := "law.go:24", after := #[{ on := 13, ground := Ground.data }, { on := 11, ground := Ground.guard }], guard := some (11, true) }) (v := (Value.bool true)) rfl (by kernel_rfl) (by kernel_rfl) (by kernel_rfl) (fun _ _ _ h => h) (Or.inl ⟨by rfl, ?_⟩) HAE.out ?_
      · (intro w hSw; go_simp)
      simp only [Act.put, List.setIfInBounds_toArray, List.set_cons_zero, List.set_cons_succ]
      refine wpAnyH_take (i := 15) (oi := { dst := some 49, op := Op.pick (Operand.tmp 45) (Operand.tmp 48) (Operand.const (Value.bool false)), type := 4, pos := "law.go:24", after := #[{ on := 11, ground := Ground.data }, { on := 14, ground := Ground.data }], guard := none }) (v := (Value.bool true)) rfl (by kernel_rfl) (by kernel_rfl) (by kernel_rfl) (fun _ _ _ h => h) (Or.inl ⟨by rfl, ?_⟩) HAE.out ?_
      · (intro w hSw; go_simp)
      simp only [Act.put, List.setIfInBounds_toArray, List.set_cons_zero, List.set_cons_succ]
      refine wpAnyH_take (i := 16) (oi := { dst := some 50, op := Op.move (Operand.tmp 49), type := 4, pos := "law.go:24", after := #[{ on := 15, ground := Ground.data }, { on := 11, ground := Ground.chain }], guard := none }) (v := (Value.bool true)) rfl (by kernel_rfl) (by kernel_rfl) (by kernel_rfl) (fun _ _ _ h => h) (Or.inl ⟨by rfl, ?_⟩) HAE.out ?_
      · (intro w hSw; go_simp)
      simp only [Act.put, List.setIfInBounds_toArray, List.set_cons_zero, List.set_cons_succ]
      refine wpAnyH_take (i := 17) (oi := { dst := some 51, op := Op.move (Operand.tmp 5), type := 51, pos := "law.go:24", after := #[{ on := 16, ground := Ground.guard }], guard := some (16, true) }) (v := .slice (some ⟨k, 0, none⟩) 3 c) rfl (by kernel_rfl) (by kernel_rfl) (by kernel_rfl) (fun _ _ _ h => h) (Or.inl ⟨by rfl, ?_⟩) HAE.out ?_
      · (intro w hSw; go_simp)
      simp only [Act.put, List.setIfInBounds_toArray, List.set_cons_zero, List.set_cons_succ]
      refine wpAnyH_take (i := 18) (oi := { dst := some 52, op := Op.indexAddr 51 (Operand.tmp 51) (Operand.const (Value.int IntKind.i64 0)), type := 0, pos := "law.go:24", after := #[{ on := 17, ground := Ground.data }, { on := 16, ground := Ground.guard }], guard := some (16, true) }) (v := .pointer (some ⟨k, 0, none⟩)) rfl (by kernel_rfl) (by kernel_rfl) (by kernel_rfl) (fun _ _ _ h => h) (Or.inl ⟨by rfl, ?_⟩) HAE.out ?_
      · (intro w hSw; go_simp)
      simp only [Act.put, List.setIfInBounds_toArray, List.set_cons_zero, List.set_cons_succ]
      refine wpAnyH_take (i := 19) (oi := { dst := some 53, op := Op.fieldAddr 56 (Operand.tmp 52) 2, type := 0, pos := "law.go:24", after := #[{ on := 18, ground := Ground.data }, { on := 16, ground := Ground.guard }], guard := some (16, true) }) (v := .pointer (some ⟨k, 4, none⟩)) rfl (by kernel_rfl) (by kernel_rfl) (by kernel_rfl) (fun _ _ _ h => h) (Or.inl ⟨by rfl, ?_⟩) HAE.out ?_
      · (intro w hSw; go_simp)
      simp only [Act.put, List.setIfInBounds_toArray, List.set_cons_zero, List.set_cons_succ]
      refine wpAnyH_take (i := 20) (oi := { dst := some 54, op := Op.load 3 (Operand.tmp 53), type := 3, pos := "law.go:24", after := #[{ on := 19, ground := Ground.data }, { on := 16, ground := Ground.guard }], guard := some (16, true) }) (v := .int .i64 0) rfl (by kernel_rfl) (by kernel_rfl) (by kernel_rfl) (fun _ _ _ h => h) (Or.inl ⟨by rfl, ?_⟩) HAE.out ?_
      · (intro w hSw; go_simp)
      simp only [Act.put, List.setIfInBounds_toArray, List.set_cons_zero, List.set_cons_succ]
      refine wpAnyH_take (i := 21) (oi := { dst := some 55, op := Op.binOp BinOp.eql 3 (Operand.tmp 54) (Operand.const (Value.int IntKind.i64 0)) 3, type := 4, pos := "law.go:24", after := #[{ on := 20, ground := Ground.data }, { on := 16, ground := Ground.guard }], guard := some (16, true) }) (v := (Value.bool true)) rfl (by kernel_rfl) (by kernel_rfl) (by kernel_rfl) (fun _ _ _ h => h) (Or.inl ⟨by rfl, ?_⟩) HAE.out ?_
      · (intro w hSw; go_simp)
      simp only [Act.put, List.setIfInBounds_toArray, List.set_cons_zero, List.set_cons_succ]
      refine wpAnyH_take (i := 22) (oi := { dst := some 56, op := Op.pick (Operand.tmp 50) (Operand.tmp 55) (Operand.const (Value.bool false)), type := 4, pos := "law.go:24", after := #[{ on := 16, ground := Ground.data }, { on := 21, ground := Ground.data }], guard := none }) (v := (Value.bool true)) rfl (by kernel_rfl) (by kernel_rfl) (by kernel_rfl) (fun _ _ _ h => h) (Or.inl ⟨by rfl, ?_⟩) HAE.out ?_
      · (intro w hSw; go_simp)
      simp only [Act.put, List.setIfInBounds_toArray, List.set_cons_zero, List.set_cons_succ]
      refine wpAnyH_take (i := 23) (oi := { dst := some 57, op := Op.move (Operand.tmp 56), type := 4, pos := "law.go:24", after := #[{ on := 22, ground := Ground.data }, { on := 16, ground := Ground.chain }], guard := none }) (v := (Value.bool true)) rfl (by kernel_rfl) (by kernel_rfl) (by kernel_rfl) (fun _ _ _ h => h) (Or.inl ⟨by rfl, ?_⟩) HAE.out ?_
      · (intro w hSw; go_simp)
      simp only [Act.put, List.setIfInBounds_toArray, List.set_cons_zero, List.set_cons_succ]
      refine wpAnyH_take (i := 24) (oi := { dst := some 58, op := Op.move (Operand.tmp 5), type := 51, pos := "law.go:24", after := #[{ on := 23, ground := Ground.guard }], guard := some (23, true) }) (v := .slice (some ⟨k, 0, none⟩) 3 c) rfl (by kernel_rfl) (by kernel_rfl) (by kernel_rfl) (fun _ _ _ h => h) (Or.inl ⟨by rfl, ?_⟩) HAE.out ?_
      · (intro w hSw; go_simp)
      simp only [Act.put, List.setIfInBounds_toArray, List.set_cons_zero, List.set_cons_succ]
      refine wpAnyH_take (i := 25) (oi := { dst := some 59, op := Op.indexAddr 51 (Operand.tmp 58) (Operand.const (Value.int IntKind.i64 1)), type := 0, pos := "law.go:24", after := #[{ on := 24, ground := Ground.data }, { on := 23, ground := Ground.guard }], guard := some (23, true) }) (v := .pointer (some ⟨k, 8, none⟩)) rfl (by kernel_rfl) (by kernel_rfl) (by kernel_rfl) (fun _ _ _ h => h) (Or.inl ⟨by rfl, ?_⟩) HAE.out ?_
      · (intro w hSw; go_simp)
      simp only [Act.put, List.setIfInBounds_toArray, List.set_cons_zero, List.set_cons_succ]
      refine wpAnyH_take (i := 26) (oi := { dst := some 60, op := Op.fieldAddr 56 (Operand.tmp 59) 2, type := 0, pos := "law.go:24", after := #[{ on := 25, ground := Ground.data }, { on := 23, ground := Ground.guard }], guard := some (23, true) }) (v := .pointer (some ⟨k, 12, none⟩)) rfl (by kernel_rfl) (by kernel_rfl) (by kernel_rfl) (fun _ _ _ h => h) (Or.inl ⟨by rfl, ?_⟩) HAE.out ?_
      · (intro w hSw; go_simp)
      simp only [Act.put, List.setIfInBounds_toArray, List.set_cons_zero, List.set_cons_succ]
      refine wpAnyH_take (i := 27) (oi := { dst := some 61, op := Op.load 3 (Operand.tmp 60), type := 3, pos := "law.go:24", after := #[{ on := 26, ground := Ground.data }, { on := 23, ground := Ground.guard }], guard := some (23, true) }) (v := .int .i64 1) rfl (by kernel_rfl) (by kernel_rfl) (by kernel_rfl) (fun _ _ _ h => h) (Or.inl ⟨by rfl, ?_⟩) HAE.out ?_
      · (intro w hSw; go_simp)
      simp only [Act.put, List.setIfInBounds_toArray, List.set_cons_zero, List.set_cons_succ]
      refine wpAnyH_take (i := 28) (oi := { dst := some 62, op := Op.binOp BinOp.eql 3 (Operand.tmp 61) (Operand.const (Value.int IntKind.i64 1)) 3, type := 4, pos := "law.go:24", after := #[{ on := 27, ground := Ground.data }, { on := 23, ground := Ground.guard }], guard := some (23, true) }) (v := (Value.bool true)) rfl (by kernel_rfl) (by kernel_rfl) (by kernel_rfl) (fun _ _ _ h => h) (Or.inl ⟨by rfl, ?_⟩) HAE.out ?_
      · (intro w hSw; go_simp)
      simp only [Act.put, List.setIfInBounds_toArray, List.set_cons_zero, List.set_cons_succ]
      refine wpAnyH_take (i := 29) (oi := { dst := some 63, op := Op.pick (Operand.tmp 57) (Operand.tmp 62) (Operand.const (Value.bool false)), type := 4, pos := "law.go:24", after := #[{ on := 23, ground := Ground.data }, { on := 28, ground := Ground.data }], guard := none }) (v := (Value.bool true)) rfl (by kernel_rfl) (by kernel_rfl) (by kernel_rfl) (fun _ _ _ h => h) (Or.inl ⟨by rfl, ?_⟩) HAE.out ?_
      · (intro w hSw; go_simp)
      simp only [Act.put, List.setIfInBounds_toArray, List.set_cons_zero, List.set_cons_succ]
      refine wpAnyH_take (i := 30) (oi := { dst := some 64, op := Op.move (Operand.tmp 63), type := 4, pos := "law.go:24", after := #[{ on := 29, ground := Ground.data }, { on := 23, ground := Ground.chain }], guard := none }) (v := (Value.bool true)) rfl (by kernel_rfl) (by kernel_rfl) (by kernel_rfl) (fun _ _ _ h => h) (Or.inl ⟨by rfl, ?_⟩) HAE.out ?_
      · (intro w hSw; go_simp)
      simp only [Act.put, List.setIfInBounds_toArray, List.set_cons_zero, List.set_cons_succ]
      refine wpAnyH_take (i := 31) (oi := { dst := some 65, op := Op.move (Operand.tmp 5), type := 51, pos := "law.go:24", after := #[{ on := 30, ground := Ground.guard }], guard := some (30, true) }) (v := .slice (some ⟨k, 0, none⟩) 3 c) rfl (by kernel_rfl) (by kernel_rfl) (by kernel_rfl) (fun _ _ _ h => h) (Or.inl ⟨by rfl, ?_⟩) HAE.out ?_
      · (intro w hSw; go_simp)
      simp only [Act.put, List.setIfInBounds_toArray, List.set_cons_zero, List.set_cons_succ]
      refine wpAnyH_take (i := 32) (oi := { dst := some 66, op := Op.indexAddr 51 (Operand.tmp 65) (Operand.const (Value.int IntKind.i64 2)), type := 0, pos := "law.go:24", after := #[{ on := 31, ground := Ground.data }, { on := 30, ground := Ground.guard }], guard := some (30, true) }) (v := .pointer (some ⟨k, 16, none⟩)) rfl (by kernel_rfl) (by kernel_rfl) (by kernel_rfl) (fun _ _ _ h => h) (Or.inl ⟨by rfl, ?_⟩) HAE.out ?_
      · (intro w hSw; go_simp)
      simp only [Act.put, List.setIfInBounds_toArray, List.set_cons_zero, List.set_cons_succ]
      refine wpAnyH_take (i := 33) (oi := { dst := some 67, op := Op.fieldAddr 56 (Operand.tmp 66) 2, type := 0, pos := "law.go:24", after := #[{ on := 32, ground := Ground.data }, { on := 30, ground := Ground.guard }], guard := some (30, true) }) (v := .pointer (some ⟨k, 20, none⟩)) rfl (by kernel_rfl) (by kernel_rfl) (by kernel_rfl) (fun _ _ _ h => h) (Or.inl ⟨by rfl, ?_⟩) HAE.out ?_
      · (intro w hSw; go_simp)
      simp only [Act.put, List.setIfInBounds_toArray, List.set_cons_zero, List.set_cons_succ]
      refine wpAnyH_take (i := 34) (oi := { dst := some 68, op := Op.load 3 (Operand.tmp 67), type := 3, pos := "law.go:24", after := #[{ on := 33, ground := Ground.data }, { on := 30, ground := Ground.guard }], guard := some (30, true) }) (v := .int .i64 3) rfl (by kernel_rfl) (by kernel_rfl) (by kernel_rfl) (fun _ _ _ h => h) (Or.inl ⟨by rfl, ?_⟩) HAE.out ?_
      · (intro w hSw; go_simp)
      simp only [Act.put, List.setIfInBounds_toArray, List.set_cons_zero, List.set_cons_succ]
      refine wpAnyH_take (i := 35) (oi := { dst := some 69, op := Op.binOp BinOp.eql 3 (Operand.tmp 68) (Operand.const (Value.int IntKind.i64 3)) 3, type := 4, pos := "law.go:24", after := #[{ on := 34, ground := Ground.data }, { on := 30, ground := Ground.guard }], guard := some (30, true) }) (v := (Value.bool true)) rfl (by kernel_rfl) (by kernel_rfl) (by kernel_rfl) (fun _ _ _ h => h) (Or.inl ⟨by rfl, ?_⟩) HAE.out ?_
      · (intro w hSw; go_simp)
      simp only [Act.put, List.setIfInBounds_toArray, List.set_cons_zero, List.set_cons_succ]
      refine wpAnyH_take (i := 36) (oi := { dst := some 70, op := Op.pick (Operand.tmp 64) (Operand.tmp 69) (Operand.const (Value.bool false)), type := 4, pos := "law.go:24", after := #[{ on := 30, ground := Ground.data }, { on := 35, ground := Ground.data }], guard := none }) (v := (Value.bool true)) rfl (by kernel_rfl) (by kernel_rfl) (by kernel_rfl) (fun _ _ _ h => h) (Or.inl ⟨by rfl, ?_⟩) HAE.out ?_
      · (intro w hSw; go_simp)
      simp only [Act.put, List.setIfInBounds_toArray, List.set_cons_zero, List.set_cons_succ]
      refine wpAnyH_take (i := 37) (oi := { dst := some 71, op := Op.move (Operand.tmp 70), type := 4, pos := "law.go:24", after := #[{ on := 36, ground := Ground.data }, { on := 30, ground := Ground.chain }], guard := none }) (v := (Value.bool true)) rfl (by kernel_rfl) (by kernel_rfl) (by kernel_rfl) (fun _ _ _ h => h) (Or.inl ⟨by rfl, ?_⟩) HAE.out ?_
      · (intro w hSw; go_simp)
      simp only [Act.put, List.setIfInBounds_toArray, List.set_cons_zero, List.set_cons_succ]
      refine wpAnyH_take (i := 38) (oi := { dst := some 72, op := Op.move (Operand.tmp 6), type := 3, pos := "law.go:24", after := #[{ on := 37, ground := Ground.guard }], guard := some (37, true) }) (v := .int .i64 5) rfl (by kernel_rfl) (by kernel_rfl) (by kernel_rfl) (fun _ _ _ h => h) (Or.inl ⟨by rfl, ?_⟩) HAE.out ?_
      · (intro w hSw; go_simp)
      simp only [Act.put, List.setIfInBounds_toArray, List.set_cons_zero, List.set_cons_succ]
      refine wpAnyH_take (i := 39) (oi := { dst := some 73, op := Op.binOp BinOp.eql 3 (Operand.tmp 72) (Operand.const (Value.int IntKind.i64 5)) 3, type := 4, pos := "law.go:24", after := #[{ on := 38, ground := Ground.data }, { on := 37, ground := Ground.guard }], guard := some (37, true) }) (v := (Value.bool true)) rfl (by kernel_rfl) (by kernel_rfl) (by kernel_rfl) (fun _ _ _ h => h) (Or.inl ⟨by rfl, ?_⟩) HAE.out ?_
      · (intro w hSw; go_simp)
      simp only [Act.put, List.setIfInBounds_toArray, List.set_cons_zero, List.set_cons_succ]
      refine wpAnyH_take (i := 40) (oi := { dst := some 74, op := Op.pick (Operand.tmp 71) (Operand.tmp 73) (Operand.const (Value.bool false)), type := 4, pos := "law.go:24", after := #[{ on := 37, ground := Ground.data }, { on := 39, ground := Ground.data }], guard := none }) (v := (Value.bool true)) rfl (by kernel_rfl) (by kernel_rfl) (by kernel_rfl) (fun _ _ _ h => h) (Or.inl ⟨by rfl, ?_⟩) HAE.out ?_
      · (intro w hSw; go_simp)
      simp only [Act.put, List.setIfInBounds_toArray, List.set_cons_zero, List.set_cons_succ]
      refine wpAnyH_take (i := 41) (oi := { dst := some 75, op := Op.move (Operand.tmp 74), type := 4, pos := "law.go:24", after := #[{ on := 40, ground := Ground.data }, { on := 37, ground := Ground.chain }], guard := none }) (v := (Value.bool true)) rfl (by kernel_rfl) (by kernel_rfl) (by kernel_rfl) (fun _ _ _ h => h) (Or.inl ⟨by rfl, ?_⟩) HAE.out ?_
      · (intro w hSw; go_simp)
      simp only [Act.put, List.setIfInBounds_toArray, List.set_cons_zero, List.set_cons_succ]
      refine wpAnyH_take (i := 42) (oi := { dst := some 76, op := Op.move (Operand.tmp 7), type := 9, pos := "law.go:24", after := #[{ on := 41, ground := Ground.guard }], guard := some (41, true) }) (v := .string ⟨#[112, 111, 105, 110, 116]⟩) rfl (by kernel_rfl) (by kernel_rfl) (by kernel_rfl) (fun _ _ _ h => h) (Or.inl ⟨by rfl, ?_⟩) HAE.out ?_
      · (intro w hSw; go_simp)
      simp only [Act.put, List.setIfInBounds_toArray, List.set_cons_zero, List.set_cons_succ]
      refine wpAnyH_take (i := 43) (oi := { dst := some 77, op := Op.binOp BinOp.eql 9 (Operand.tmp 76) (Operand.const (Value.string { data := #[112, 111, 105, 110, 116] })) 9, type := 4, pos := "law.go:24", after := #[{ on := 42, ground := Ground.data }, { on := 41, ground := Ground.guard }], guard := some (41, true) }) (v := (Value.bool true)) rfl (by kernel_rfl) (by kernel_rfl) (by kernel_rfl) (fun _ _ _ h => h) (Or.inl ⟨by rfl, ?_⟩) HAE.out ?_
      · (intro w hSw; go_simp)
      simp only [Act.put, List.setIfInBounds_toArray, List.set_cons_zero, List.set_cons_succ]
      refine wpAnyH_take (i := 44) (oi := { dst := some 78, op := Op.pick (Operand.tmp 75) (Operand.tmp 77) (Operand.const (Value.bool false)), type := 4, pos := "law.go:24", after := #[{ on := 41, ground := Ground.data }, { on := 43, ground := Ground.data }], guard := none }) (v := (Value.bool true)) rfl (by kernel_rfl) (by kernel_rfl) (by kernel_rfl) (fun _ _ _ h => h) (Or.inl ⟨by rfl, ?_⟩) HAE.out ?_
      · (intro w hSw; go_simp)
      simp only [Act.put, List.setIfInBounds_toArray, List.set_cons_zero, List.set_cons_succ]
      refine wpAnyH_take (i := 45) (oi := { dst := some 79, op := Op.move (Operand.tmp 78), type := 4, pos := "law.go:24", after := #[{ on := 44, ground := Ground.data }, { on := 41, ground := Ground.chain }], guard := none }) (v := (Value.bool true)) rfl (by kernel_rfl) (by kernel_rfl) (by kernel_rfl) (fun _ _ _ h => h) (Or.inl ⟨by rfl, ?_⟩) HAE.out ?_
      · (intro w hSw; go_simp)
      simp only [Act.put, List.setIfInBounds_toArray, List.set_cons_zero, List.set_cons_succ]
      refine wpAnyH_take (i := 46) (oi := { dst := some 80, op := Op.move (Operand.tmp 8), type := 3, pos := "law.go:24", after := #[{ on := 45, ground := Ground.guard }], guard := some (45, true) }) (v := .int .i64 1) rfl (by kernel_rfl) (by kernel_rfl) (by kernel_rfl) (fun _ _ _ h => h) (Or.inl ⟨by rfl, ?_⟩) HAE.out ?_
      · (intro w hSw; go_simp)
      simp only [Act.put, List.setIfInBounds_toArray, List.set_cons_zero, List.set_cons_succ]
      refine wpAnyH_take (i := 47) (oi := { dst := some 81, op := Op.binOp BinOp.eql 3 (Operand.tmp 80) (Operand.const (Value.int IntKind.i64 1)) 3, type := 4, pos := "law.go:24", after := #[{ on := 46, ground := Ground.data }, { on := 45, ground := Ground.guard }], guard := some (45, true) }) (v := (Value.bool true)) rfl (by kernel_rfl) (by kernel_rfl) (by kernel_rfl) (fun _ _ _ h => h) (Or.inl ⟨by rfl, ?_⟩) HAE.out ?_
      · (intro w hSw; go_simp)
      simp only [Act.put, List.setIfInBounds_toArray, List.set_cons_zero, List.set_cons_succ]
      refine wpAnyH_take (i := 48) (oi := { dst := some 82, op := Op.pick (Operand.tmp 79) (Operand.tmp 81) (Operand.const (Value.bool false)), type := 4, pos := "law.go:24", after := #[{ on := 45, ground := Ground.data }, { on := 47, ground := Ground.data }], guard := none }) (v := (Value.bool true)) rfl (by kernel_rfl) (by kernel_rfl) (by kernel_rfl) (fun _ _ _ h => h) (Or.inl ⟨by rfl, ?_⟩) HAE.out ?_
      · (intro w hSw; go_simp)
      simp only [Act.put, List.setIfInBounds_toArray, List.set_cons_zero, List.set_cons_succ]
      refine wpAnyH_take (i := 49) (oi := { dst := some 83, op := Op.move (Operand.tmp 82), type := 4, pos := "law.go:24", after := #[{ on := 48, ground := Ground.data }, { on := 45, ground := Ground.chain }], guard := none }) (v := (Value.bool true)) rfl (by kernel_rfl) (by kernel_rfl) (by kernel_rfl) (fun _ _ _ h => h) (Or.inl ⟨by rfl, ?_⟩) HAE.out ?_
      · (intro w hSw; go_simp)
      simp only [Act.put, List.setIfInBounds_toArray, List.set_cons_zero, List.set_cons_succ]
      refine wpAnyH_take (i := 50) (oi := { dst := some 84, op := Op.load 23 (Operand.tmp 9), type := 23, pos := "law.go:24", after := #[{ on := 49, ground := Ground.guard }], guard := some (49, true) }) (v := .agg #[.int .i64 2, .int .i64 0, .string ⟨#[]⟩]) rfl (by kernel_rfl) (by kernel_rfl) (by kernel_rfl) (fun _ _ _ h => h) (Or.inl ⟨by rfl, ?_⟩) HAE.out ?_
      · (intro w hSw; go_simp)
      simp only [Act.put, List.setIfInBounds_toArray, List.set_cons_zero, List.set_cons_succ]
      refine wpAnyH_take (i := 51) (oi := { dst := some 85, op := Op.load 23 (Operand.tmp 2), type := 23, pos := "law.go:24", after := #[{ on := 49, ground := Ground.guard }], guard := some (49, true) }) (v := .agg #[.int .i64 2, .int .i64 0, .string ⟨#[]⟩]) rfl (by kernel_rfl) (by kernel_rfl) (by kernel_rfl) (fun _ _ _ h => h) (Or.inl ⟨by rfl, ?_⟩) HAE.out ?_
      · (intro w hSw; go_simp)
      simp only [Act.put, List.setIfInBounds_toArray, List.set_cons_zero, List.set_cons_succ]
      refine wpAnyH_take (i := 52) (oi := { dst := some 86, op := Op.binOp BinOp.eql 23 (Operand.tmp 84) (Operand.tmp 85) 23, type := 4, pos := "law.go:24", after := #[{ on := 50, ground := Ground.data }, { on := 51, ground := Ground.data }, { on := 49, ground := Ground.guard }], guard := some (49, true) }) (v := (Value.bool true)) rfl (by kernel_rfl) (by kernel_rfl) (by kernel_rfl) (fun _ _ _ h => h) (Or.inl ⟨by rfl, ?_⟩) HAE.out ?_
      · (intro w hSw; go_simp)
      simp only [Act.put, List.setIfInBounds_toArray, List.set_cons_zero, List.set_cons_succ]
      refine wpAnyH_take (i := 53) (oi := { dst := some 87, op := Op.pick (Operand.tmp 83) (Operand.tmp 86) (Operand.const (Value.bool false)), type := 4, pos := "law.go:24", after := #[{ on := 49, ground := Ground.data }, { on := 52, ground := Ground.data }], guard := none }) (v := (Value.bool true)) rfl (by kernel_rfl) (by kernel_rfl) (by kernel_rfl) (fun _ _ _ h => h) (Or.inl ⟨by rfl, ?_⟩) HAE.out ?_
      · (intro w hSw; go_simp)
      simp only [Act.put, List.setIfInBounds_toArray, List.set_cons_zero, List.set_cons_succ]
      refine wpAnyH_take (i := 54) (oi := { dst := some 88, op := Op.move (Operand.tmp 87), type := 4, pos := "law.go:24", after := #[{ on := 53, ground := Ground.data }, { on := 49, ground := Ground.chain }], guard := none }) (v := (Value.bool true)) rfl (by kernel_rfl) (by kernel_rfl) (by kernel_rfl) (fun _ _ _ h => h) (Or.inl ⟨by rfl, ?_⟩) HAE.out ?_
      · (intro w hSw; go_simp)
      simp only [Act.put, List.setIfInBounds_toArray, List.set_cons_zero, List.set_cons_succ]
      refine wpAnyH_take (i := 55) (oi := { dst := some 89, op := Op.move (Operand.tmp 10), type := 4, pos := "law.go:24", after := #[{ on := 54, ground := Ground.guard }], guard := some (54, true) }) (v := (Value.bool true)) rfl (by kernel_rfl) (by kernel_rfl) (by kernel_rfl) (fun _ _ _ h => h) (Or.inl ⟨by rfl, ?_⟩) HAE.out ?_
      · (intro w hSw; go_simp)
      simp only [Act.put, List.setIfInBounds_toArray, List.set_cons_zero, List.set_cons_succ]
      refine wpAnyH_take (i := 56) (oi := { dst := some 90, op := Op.pick (Operand.tmp 88) (Operand.tmp 89) (Operand.const (Value.bool false)), type := 4, pos := "law.go:24", after := #[{ on := 54, ground := Ground.data }, { on := 55, ground := Ground.data }], guard := none }) (v := (Value.bool true)) rfl (by kernel_rfl) (by kernel_rfl) (by kernel_rfl) (fun _ _ _ h => h) (Or.inl ⟨by rfl, ?_⟩) HAE.out ?_
      · (intro w hSw; go_simp)
      simp only [Act.put, List.setIfInBounds_toArray, List.set_cons_zero, List.set_cons_succ]
      refine wpAnyH_take (i := 57) (oi := { dst := some 91, op := Op.move (Operand.tmp 90), type := 4, pos := "law.go:24", after := #[{ on := 56, ground := Ground.data }, { on := 54, ground := Ground.chain }], guard := none }) (v := (Value.bool true)) rfl (by kernel_rfl) (by kernel_rfl) (by kernel_rfl) (fun _ _ _ h => h) (Or.inl ⟨by rfl, ?_⟩) HAE.out ?_
      · (intro w hSw; go_simp)
      simp only [Act.put, List.setIfInBounds_toArray, List.set_cons_zero, List.set_cons_succ]
      refine wpAnyH_take (i := 58) (oi := { dst := some 92, op := Op.load 23 (Operand.tmp 3), type := 23, pos := "law.go:24", after := #[{ on := 57, ground := Ground.guard }], guard := some (57, true) }) (v := .agg #[.int .i64 3, .int .i64 2, .string ⟨#[]⟩]) rfl (by kernel_rfl) (by kernel_rfl) (by kernel_rfl) (fun _ _ _ h => h) (Or.inl ⟨by rfl, ?_⟩) HAE.out ?_
      · (intro w hSw; go_simp)
      simp only [Act.put, List.setIfInBounds_toArray, List.set_cons_zero, List.set_cons_succ]
      refine wpAnyH_ready (rs := [59]) (by kernel_rfl) (by simp) (AllReadyH.cons (o := { dst := some 93, op := Op.call { callee := Callee.value (Operand.func 9), args := #[Operand.tmp 92], argTypes := #[23] }, type := 9, pos := "law.go:24", after := #[{ on := 58, ground := Ground.data }, { on := 57, ground := Ground.chain }, { on := 57, ground := Ground.guard }], guard := some (57, true) }) rfl (fun K hK => ?_) AllReadyH.nil)
      go_simp
      refine (format2 we).mono ?_
      rintro e wf ⟨rfl, hb⟩
      have HAF := Lib.hid (HAE.out.later hb)
      clear hb
      go_wp2_with (fail)
      refine hK.out _ _ HAF.out (fun _ => ?_)
      clear hK K
      refine wpAnyH_take (i := 60) (oi := { dst := some 94, op := Op.binOp BinOp.eql 9 (Operand.tmp 93) (Operand.const (Value.string { data := #[105, 110, 116, 91, 50, 93] })) 9, type := 4, pos := "law.go:24", after := #[{ on := 59, ground := Ground.data }, { on := 57, ground := Ground.guard }], guard := some (57, true) }) (v := (Value.bool true)) rfl (by kernel_rfl) (by kernel_rfl) (by kernel_rfl) (fun _ _ _ h => h) (Or.inl ⟨by rfl, ?_⟩) HAF.out ?_
      · (intro w hSw; go_simp)
      simp only [Act.put, List.setIfInBounds_toArray, List.set_cons_zero, List.set_cons_succ]
      refine wpAnyH_take (i := 61) (oi := { dst := some 95, op := Op.pick (Operand.tmp 91) (Operand.tmp 94) (Operand.const (Value.bool false)), type := 4, pos := "law.go:24", after := #[{ on := 57, ground := Ground.data }, { on := 60, ground := Ground.data }], guard := none }) (v := (Value.bool true)) rfl (by kernel_rfl) (by kernel_rfl) (by kernel_rfl) (fun _ _ _ h => h) (Or.inl ⟨by rfl, ?_⟩) HAF.out ?_
      · (intro w hSw; go_simp)
      simp only [Act.put, List.setIfInBounds_toArray, List.set_cons_zero, List.set_cons_succ]
      refine wpAnyH_take (i := 62) (oi := { dst := some 0, op := Op.assign (Operand.tmp 95), type := 4, pos := "law.go:24", after := #[{ on := 61, ground := Ground.data }, { on := 59, ground := Ground.chain }, { on := 0, ground := Ground.phase }, { on := 1, ground := Ground.phase }, { on := 2, ground := Ground.phase }, { on := 3, ground := Ground.phase }, { on := 4, ground := Ground.phase }, { on := 5, ground := Ground.phase }, { on := 6, ground := Ground.phase }, { on := 7, ground := Ground.phase }, { on := 8, ground := Ground.phase }, { on := 9, ground := Ground.phase }, { on := 10, ground := Ground.phase }, { on := 11, ground := Ground.phase }, { on := 12, ground := Ground.phase }, { on := 13, ground := Ground.phase }, { on := 14, ground := Ground.phase }, { on := 15, ground := Ground.phase }, { on := 16, ground := Ground.phase }, { on := 17, ground := Ground.phase }, { on := 18, ground := Ground.phase }, { on := 19, ground := Ground.phase }, { on := 20, ground := Ground.phase }, { on := 21, ground := Ground.phase }, { on := 22, ground := Ground.phase }, { on := 23, ground := Ground.phase }, { on := 24, ground := Ground.phase }, { on := 25, ground := Ground.phase }, { on := 26, ground := Ground.phase }, { on := 27, ground := Ground.phase }, { on := 28, ground := Ground.phase }, { on := 29, ground := Ground.phase }, { on := 30, ground := Ground.phase }, { on := 31, ground := Ground.phase }, { on := 32, ground := Ground.phase }, { on := 33, ground := Ground.phase }, { on := 34, ground := Ground.phase }, { on := 35, ground := Ground.phase }, { on := 36, ground := Ground.phase }, { on := 37, ground := Ground.phase }, { on := 38, ground := Ground.phase }, { on := 39, ground := Ground.phase }, { on := 40, ground := Ground.phase }, { on := 41, ground := Ground.phase }, { on := 42, ground := Ground.phase }, { on := 43, ground := Ground.phase }, { on := 44, ground := Ground.phase }, { on := 45, ground := Ground.phase }, { on := 46, ground := Ground.phase }, { on := 47, ground := Ground.phase }, { on := 48, ground := Ground.phase }, { on := 49, ground := Ground.phase }, { on := 50, ground := Ground.phase }, { on := 51, ground := Ground.phase }, { on := 52, ground := Ground.phase }, { on := 53, ground := Ground.phase }, { on := 54, ground := Ground.phase }, { on := 55, ground := Ground.phase }, { on := 56, ground := Ground.phase }, { on := 57, ground := Ground.phase }, { on := 58, ground := Ground.phase }, { on := 59, ground := Ground.phase }, { on := 60, ground := Ground.phase }, { on := 61, ground := Ground.phase }], guard := none }) (v := (Value.bool true)) rfl (by kernel_rfl) (by kernel_rfl) (by kernel_rfl) (fun _ _ _ h => h) (Or.inl ⟨by rfl, ?_⟩) HAF.out ?_
      · (intro w hSw; go_simp)
      simp only [Act.put, List.setIfInBounds_toArray, List.set_cons_zero, List.set_cons_succ]
      refine wpAnyH_done (by kernel_rfl) ?_ _
      refine NoPanic.normal ?_
      go_wp2_with (fail)
      go_ret
      exact ⟨rfl, HAF.out.aw.below⟩
    case head =>
      refine wpAnyH_take (i := 1) (oi := { dst := some 35, op := Op.load 23 (Operand.tmp 3), type := 23, pos := "law.go:24", after := #[], guard := none }) (v := .agg #[.int .i64 3, .int .i64 2, .string ⟨#[]⟩]) rfl (by kernel_rfl) (by kernel_rfl) (by kernel_rfl) (fun _ _ _ h => h) (Or.inl ⟨by rfl, ?_⟩) h9 ?_
      · (intro w hSw; go_simp)
      simp only [Act.put, List.setIfInBounds_toArray, List.set_cons_zero, List.set_cons_succ]
      refine wpAnyH_take (i := 2) (oi := { dst := some 36, op := Op.load 23 (Operand.tmp 4), type := 23, pos := "law.go:24", after := #[], guard := none }) (v := .agg #[.int .i64 4, .int .i64 0, .string ⟨#[112, 111, 105, 110, 116]⟩]) rfl (by kernel_rfl) (by kernel_rfl) (by kernel_rfl) (fun _ _ _ h => h) (Or.inl ⟨by rfl, ?_⟩) h9 ?_
      · (intro w hSw; go_simp)
      simp only [Act.put, List.setIfInBounds_toArray, List.set_cons_zero, List.set_cons_succ]
      refine wpAnyH_take (i := 5) (oi := { dst := some 39, op := Op.load 23 (Operand.tmp 1), type := 23, pos := "law.go:24", after := #[], guard := none }) (v := .agg #[.int .i64 1, .int .i64 0, .string ⟨#[]⟩]) rfl (by kernel_rfl) (by kernel_rfl) (by kernel_rfl) (fun _ _ _ h => h) (Or.inl ⟨by rfl, ?_⟩) h9 ?_
      · (intro w hSw; go_simp)
      simp only [Act.put, List.setIfInBounds_toArray, List.set_cons_zero, List.set_cons_succ]
      refine wpAnyH_take (i := 6) (oi := { dst := some 40, op := Op.load 23 (Operand.tmp 1), type := 23, pos := "law.go:24", after := #[], guard := none }) (v := .agg #[.int .i64 1, .int .i64 0, .string ⟨#[]⟩]) rfl (by kernel_rfl) (by kernel_rfl) (by kernel_rfl) (fun _ _ _ h => h) (Or.inl ⟨by rfl, ?_⟩) h9 ?_
      · (intro w hSw; go_simp)
      simp only [Act.put, List.setIfInBounds_toArray, List.set_cons_zero, List.set_cons_succ]
      refine wpAnyH_take (i := 7) (oi := { dst := some 41, op := Op.load 23 (Operand.tmp 1), type := 23, pos := "law.go:24", after := #[], guard := none }) (v := .agg #[.int .i64 1, .int .i64 0, .string ⟨#[]⟩]) rfl (by kernel_rfl) (by kernel_rfl) (by kernel_rfl) (fun _ _ _ h => h) (Or.inl ⟨by rfl, ?_⟩) h9 ?_
      · (intro w hSw; go_simp)
      simp only [Act.put, List.setIfInBounds_toArray, List.set_cons_zero, List.set_cons_succ]
      refine wpAnyH_take (i := 8) (oi := { dst := some 42, op := Op.load 23 (Operand.tmp 2), type := 23, pos := "law.go:24", after := #[], guard := none }) (v := .agg #[.int .i64 2, .int .i64 0, .string ⟨#[]⟩]) rfl (by kernel_rfl) (by kernel_rfl) (by kernel_rfl) (fun _ _ _ h => h) (Or.inl ⟨by rfl, ?_⟩) h9 ?_
      · (intro w hSw; go_simp)
      simp only [Act.put, List.setIfInBounds_toArray, List.set_cons_zero, List.set_cons_succ]
      refine wpAnyH_ready (rs := [0, 3, 9]) (by kernel_rfl) (by simp) (AllReadyH.cons (o := { dst := some 34, op := Op.call { callee := Callee.value (Operand.func 18), args := #[], argTypes := #[] }, type := 24, pos := "law.go:24", after := #[], guard := none }) rfl (fun K hK => ?_) (AllReadyH.cons (o := { dst := some 37, op := Op.buildSlice 60 2 #[(0, Operand.tmp 35), (1, Operand.tmp 36)], type := 60, pos := "law.go:24", after := #[{ on := 1, ground := Ground.data }, { on := 2, ground := Ground.data }], guard := none }) rfl (fun K hK => ?_) (AllReadyH.cons (o := { dst := some 43, op := Op.buildSlice 60 4 #[(0, Operand.tmp 39), (1, Operand.tmp 40), (2, Operand.tmp 41), (3, Operand.tmp 42)], type := 60, pos := "law.go:24", after := #[{ on := 5, ground := Ground.data }, { on := 6, ground := Ground.data }, { on := 7, ground := Ground.data }, { on := 8, ground := Ground.data }], guard := none }) rfl (fun K hK => ?_) AllReadyH.nil)))
      · go_simp
        refine (point_any w9.drew).mono ?_
        rintro e wp ⟨q2, g2, rfl, hr, hb⟩
        have HAp0 := Lib.hid (HA9.out.drew.later hb)
        have HRp0 := Lib.hid hr
        clear hr hb
        go_wp2_with (fail)
        refine hK.out _ _ HAp0.out (fun _ => ?_)
        clear hK K
        refine wpAnyH_ready (rs := [3, 9]) (by kernel_rfl) (by simp) (AllReadyH.cons (o := { dst := some 37, op := Op.buildSlice 60 2 #[(0, Operand.tmp 35), (1, Operand.tmp 36)], type := 60, pos := "law.go:24", after := #[{ on := 1, ground := Ground.data }, { on := 2, ground := Ground.data }], guard := none }) rfl (fun K hK => ?_) (AllReadyH.cons (o := { dst := some 43, op := Op.buildSlice 60 4 #[(0, Operand.tmp 39), (1, Operand.tmp 40), (2, Operand.tmp 41), (3, Operand.tmp 42)], type := 60, pos := "law.go:24", after := #[{ on := 5, ground := Ground.data }, { on := 6, ground := Ground.data }, { on := 7, ground := Ground.data }, { on := 8, ground := Ground.data }], guard := none }) rfl (fun K hK => ?_) AllReadyH.nil))
        · go_simp
          refine hK.out _ _ ((HAp0.out.alloc (.cells #[.int .i64 3, .int .i64 2, .string ⟨#[]⟩, .int .i64 4, .int .i64 0, .string ⟨#[112, 111, 105, 110, 116]⟩] 23))) (fun _ => ?_)
          clear hK K
          refine wpAnyH_ready (rs := [4, 9]) (by kernel_rfl) (by simp) (AllReadyH.cons (o := { dst := some 38, op := Op.call { callee := Callee.value (Operand.func 21), args := #[Operand.tmp 34, Operand.tmp 37], argTypes := #[24, 60] }, type := 60, pos := "law.go:24", after := #[{ on := 0, ground := Ground.data }, { on := 3, ground := Ground.data }, { on := 0, ground := Ground.chain }], guard := none }) rfl (fun K hK => ?_) (AllReadyH.cons (o := { dst := some 43, op := Op.buildSlice 60 4 #[(0, Operand.tmp 39), (1, Operand.tmp 40), (2, Operand.tmp 41), (3, Operand.tmp 42)], type := 60, pos := "law.go:24", after := #[{ on := 5, ground := Ground.data }, { on := 6, ground := Ground.data }, { on := 7, ground := Ground.data }, { on := 8, ground := Ground.data }], guard := none }) rfl (fun K hK => ?_) AllReadyH.nil))
          · go_simp
            have HTT := Lib.hid (row2 wp _ rfl)
            refine (scal_ex g2 _ q2 (wp.alloc (.cells #[.int .i64 3, .int .i64 2, .string ⟨#[]⟩, .int .i64 4, .int .i64 0, .string ⟨#[112, 111, 105, 110, 116]⟩] 23)) (HRp0.out.alloc (.cells #[.int .i64 3, .int .i64 2, .string ⟨#[]⟩, .int .i64 4, .int .i64 0, .string ⟨#[112, 111, 105, 110, 116]⟩] 23)) (by first | exact HTT.out | (have h := HTT.out; simpa using h))).mono ?_
            rintro e ws ⟨As, cs, rfl, ht, hb⟩
            have HAs2 := Lib.hid ((HAp0.out.alloc (.cells #[.int .i64 3, .int .i64 2, .string ⟨#[]⟩, .int .i64 4, .int .i64 0, .string ⟨#[112, 111, 105, 110, 116]⟩] 23)).later hb)
            have HTs2 := Lib.hid ht
            clear ht hb
            go_wp2_with (fail)
            refine hK.out _ _ HAs2.out (fun _ => ?_)
            clear hK K
            refine wpAnyH_ready (rs := [9]) (by kernel_rfl) (by simp) (AllReadyH.cons (o := { dst := some 43, op := Op.buildSlice 60 4 #[(0, Operand.tmp 39), (1, Operand.tmp 40), (2, Operand.tmp 41), (3, Operand.tmp 42)], type := 60, pos := "law.go:24", after := #[{ on := 5, ground := Ground.data }, { on := 6, ground := Ground.data }, { on := 7, ground := Ground.data }, { on := 8, ground := Ground.data }], guard := none }) rfl (fun K hK => ?_) AllReadyH.nil)
            · go_simp
              refine hK.out _ _ ((HAs2.out.alloc (.cells #[.int .i64 1, .int .i64 0, .string ⟨#[]⟩, .int .i64 1, .int .i64 0, .string ⟨#[]⟩, .int .i64 1, .int .i64 0, .string ⟨#[]⟩, .int .i64 2, .int .i64 0, .string ⟨#[]⟩] 23))) (fun _ => ?_)
              clear hK K
              refine wpAnyH_ready (rs := [10]) (by kernel_rfl) (by simp) (AllReadyH.cons (o := { dst := some 44, op := Op.call { callee := Callee.value (Operand.func 20), args := #[Operand.tmp 38, Operand.tmp 43], argTypes := #[60, 60] }, type := 4, pos := "law.go:24", after := #[{ on := 4, ground := Ground.data }, { on := 9, ground := Ground.data }, { on := 4, ground := Ground.chain }], guard := none }) rfl (fun K hK => ?_) AllReadyH.nil)
              · go_simp
                have HTT := Lib.hid (row4 ws _ rfl)
                refine (equal_ex As _ cs _ (ws.alloc (.cells #[.int .i64 1, .int .i64 0, .string ⟨#[]⟩, .int .i64 1, .int .i64 0, .string ⟨#[]⟩, .int .i64 1, .int .i64 0, .string ⟨#[]⟩, .int .i64 2, .int .i64 0, .string ⟨#[]⟩] 23)) (HTs2.out.alloc (.cells #[.int .i64 1, .int .i64 0, .string ⟨#[]⟩, .int .i64 1, .int .i64 0, .string ⟨#[]⟩, .int .i64 1, .int .i64 0, .string ⟨#[]⟩, .int .i64 2, .int .i64 0, .string ⟨#[]⟩] 23)) (by first | exact HTT.out | (have h := HTT.out; simpa using h))).mono ?_
                rintro e we ⟨rfl, hb⟩
                have HAE := Lib.hid ((HAs2.out.alloc (.cells #[.int .i64 1, .int .i64 0, .string ⟨#[]⟩, .int .i64 1, .int .i64 0, .string ⟨#[]⟩, .int .i64 1, .int .i64 0, .string ⟨#[]⟩, .int .i64 2, .int .i64 0, .string ⟨#[]⟩] 23)).later hb)
                clear hb
                go_wp2_with (fail)
                refine hK.out _ _ HAE.out (fun _ => ?_)
                clear hK K
                exact HT _ _ (by kernel_rfl) (by kernel_rfl) _ _ _ _ we HAE.out
          · go_simp
            refine hK.out _ _ (((HAp0.out.alloc (.cells #[.int .i64 3, .int .i64 2, .string ⟨#[]⟩, .int .i64 4, .int .i64 0, .string ⟨#[112, 111, 105, 110, 116]⟩] 23)).alloc (.cells #[.int .i64 1, .int .i64 0, .string ⟨#[]⟩, .int .i64 1, .int .i64 0, .string ⟨#[]⟩, .int .i64 1, .int .i64 0, .string ⟨#[]⟩, .int .i64 2, .int .i64 0, .string ⟨#[]⟩] 23))) (fun _ => ?_)
            clear hK K
            refine wpAnyH_ready (rs := [4]) (by kernel_rfl) (by simp) (AllReadyH.cons (o := { dst := some 38, op := Op.call { callee := Callee.value (Operand.func 21), args := #[Operand.tmp 34, Operand.tmp 37], argTypes := #[24, 60] }, type := 60, pos := "law.go:24", after := #[{ on := 0, ground := Ground.data }, { on := 3, ground := Ground.data }, { on := 0, ground := Ground.chain }], guard := none }) rfl (fun K hK => ?_) AllReadyH.nil)
            · go_simp
              have HTT := Lib.hid ((row2 wp _ rfl).alloc (.cells #[.int .i64 1, .int .i64 0, .string ⟨#[]⟩, .int .i64 1, .int .i64 0, .string ⟨#[]⟩, .int .i64 1, .int .i64 0, .string ⟨#[]⟩, .int .i64 2, .int .i64 0, .string ⟨#[]⟩] 23))
              refine (scal_ex g2 _ q2 ((wp.alloc (.cells #[.int .i64 3, .int .i64 2, .string ⟨#[]⟩, .int .i64 4, .int .i64 0, .string ⟨#[112, 111, 105, 110, 116]⟩] 23)).alloc (.cells #[.int .i64 1, .int .i64 0, .string ⟨#[]⟩, .int .i64 1, .int .i64 0, .string ⟨#[]⟩, .int .i64 1, .int .i64 0, .string ⟨#[]⟩, .int .i64 2, .int .i64 0, .string ⟨#[]⟩] 23)) ((HRp0.out.alloc (.cells #[.int .i64 3, .int .i64 2, .string ⟨#[]⟩, .int .i64 4, .int .i64 0, .string ⟨#[112, 111, 105, 110, 116]⟩] 23)).alloc (.cells #[.int .i64 1, .int .i64 0, .string ⟨#[]⟩, .int .i64 1, .int .i64 0, .string ⟨#[]⟩, .int .i64 1, .int .i64 0, .string ⟨#[]⟩, .int .i64 2, .int .i64 0, .string ⟨#[]⟩] 23)) (by first | exact HTT.out | (have h := HTT.out; simpa using h))).mono ?_
              rintro e ws ⟨As, cs, rfl, ht, hb⟩
              have HAs3 := Lib.hid (((HAp0.out.alloc (.cells #[.int .i64 3, .int .i64 2, .string ⟨#[]⟩, .int .i64 4, .int .i64 0, .string ⟨#[112, 111, 105, 110, 116]⟩] 23)).alloc (.cells #[.int .i64 1, .int .i64 0, .string ⟨#[]⟩, .int .i64 1, .int .i64 0, .string ⟨#[]⟩, .int .i64 1, .int .i64 0, .string ⟨#[]⟩, .int .i64 2, .int .i64 0, .string ⟨#[]⟩] 23)).later hb)
              have HTs3 := Lib.hid ht
              have HYs3 := Lib.hid ((row4 (wp.alloc (.cells #[.int .i64 3, .int .i64 2, .string ⟨#[]⟩, .int .i64 4, .int .i64 0, .string ⟨#[112, 111, 105, 110, 116]⟩] 23)) _ rfl).later hb)
              clear ht hb
              go_wp2_with (fail)
              refine hK.out _ _ HAs3.out (fun _ => ?_)
              clear hK K
              refine wpAnyH_ready (rs := [10]) (by kernel_rfl) (by simp) (AllReadyH.cons (o := { dst := some 44, op := Op.call { callee := Callee.value (Operand.func 20), args := #[Operand.tmp 38, Operand.tmp 43], argTypes := #[60, 60] }, type := 4, pos := "law.go:24", after := #[{ on := 4, ground := Ground.data }, { on := 9, ground := Ground.data }, { on := 4, ground := Ground.chain }], guard := none }) rfl (fun K hK => ?_) AllReadyH.nil)
              · go_simp
                have HTT := Lib.hid HYs3.out
                refine (equal_ex As _ cs _ ws HTs3.out (by first | exact HTT.out | (have h := HTT.out; simpa using h))).mono ?_
                rintro e we ⟨rfl, hb⟩
                have HAE := Lib.hid (HAs3.out.later hb)
                clear hb
                go_wp2_with (fail)
                refine hK.out _ _ HAE.out (fun _ => ?_)
                clear hK K
                exact HT _ _ (by kernel_rfl) (by kernel_rfl) _ _ _ _ we HAE.out
        · go_simp
          refine hK.out _ _ ((HAp0.out.alloc (.cells #[.int .i64 1, .int .i64 0, .string ⟨#[]⟩, .int .i64 1, .int .i64 0, .string ⟨#[]⟩, .int .i64 1, .int .i64 0, .string ⟨#[]⟩, .int .i64 2, .int .i64 0, .string ⟨#[]⟩] 23))) (fun _ => ?_)
          clear hK K
          refine wpAnyH_ready (rs := [3]) (by kernel_rfl) (by simp) (AllReadyH.cons (o := { dst := some 37, op := Op.buildSlice 60 2 #[(0, Operand.tmp 35), (1, Operand.tmp 36)], type := 60, pos := "law.go:24", after := #[{ on := 1, ground := Ground.data }, { on := 2, ground := Ground.data }], guard := none }) rfl (fun K hK => ?_) AllReadyH.nil)
          · go_simp
            refine hK.out _ _ (((HAp0.out.alloc (.cells #[.int .i64 1, .int .i64 0, .string ⟨#[]⟩, .int .i64 1, .int .i64 0, .string ⟨#[]⟩, .int .i64 1, .int .i64 0, .string ⟨#[]⟩, .int .i64 2, .int .i64 0, .string ⟨#[]⟩] 23)).alloc (.cells #[.int .i64 3, .int .i64 2, .string ⟨#[]⟩, .int .i64 4, .int .i64 0, .string ⟨#[112, 111, 105, 110, 116]⟩] 23))) (fun _ => ?_)
            clear hK K
            refine wpAnyH_ready (rs := [4]) (by kernel_rfl) (by simp) (AllReadyH.cons (o := { dst := some 38, op := Op.call { callee := Callee.value (Operand.func 21), args := #[Operand.tmp 34, Operand.tmp 37], argTypes := #[24, 60] }, type := 60, pos := "law.go:24", after := #[{ on := 0, ground := Ground.data }, { on := 3, ground := Ground.data }, { on := 0, ground := Ground.chain }], guard := none }) rfl (fun K hK => ?_) AllReadyH.nil)
            · go_simp
              have HTT := Lib.hid (row2 (wp.alloc (.cells #[.int .i64 1, .int .i64 0, .string ⟨#[]⟩, .int .i64 1, .int .i64 0, .string ⟨#[]⟩, .int .i64 1, .int .i64 0, .string ⟨#[]⟩, .int .i64 2, .int .i64 0, .string ⟨#[]⟩] 23)) _ rfl)
              refine (scal_ex g2 _ q2 ((wp.alloc (.cells #[.int .i64 1, .int .i64 0, .string ⟨#[]⟩, .int .i64 1, .int .i64 0, .string ⟨#[]⟩, .int .i64 1, .int .i64 0, .string ⟨#[]⟩, .int .i64 2, .int .i64 0, .string ⟨#[]⟩] 23)).alloc (.cells #[.int .i64 3, .int .i64 2, .string ⟨#[]⟩, .int .i64 4, .int .i64 0, .string ⟨#[112, 111, 105, 110, 116]⟩] 23)) ((HRp0.out.alloc (.cells #[.int .i64 1, .int .i64 0, .string ⟨#[]⟩, .int .i64 1, .int .i64 0, .string ⟨#[]⟩, .int .i64 1, .int .i64 0, .string ⟨#[]⟩, .int .i64 2, .int .i64 0, .string ⟨#[]⟩] 23)).alloc (.cells #[.int .i64 3, .int .i64 2, .string ⟨#[]⟩, .int .i64 4, .int .i64 0, .string ⟨#[112, 111, 105, 110, 116]⟩] 23)) (by first | exact HTT.out | (have h := HTT.out; simpa using h))).mono ?_
              rintro e ws ⟨As, cs, rfl, ht, hb⟩
              have HAs3 := Lib.hid (((HAp0.out.alloc (.cells #[.int .i64 1, .int .i64 0, .string ⟨#[]⟩, .int .i64 1, .int .i64 0, .string ⟨#[]⟩, .int .i64 1, .int .i64 0, .string ⟨#[]⟩, .int .i64 2, .int .i64 0, .string ⟨#[]⟩] 23)).alloc (.cells #[.int .i64 3, .int .i64 2, .string ⟨#[]⟩, .int .i64 4, .int .i64 0, .string ⟨#[112, 111, 105, 110, 116]⟩] 23)).later hb)
              have HTs3 := Lib.hid ht
              have HYs3 := Lib.hid (((row4 wp _ rfl).alloc (.cells #[.int .i64 3, .int .i64 2, .string ⟨#[]⟩, .int .i64 4, .int .i64 0, .string ⟨#[112, 111, 105, 110, 116]⟩] 23)).later hb)
              clear ht hb
              go_wp2_with (fail)
              refine hK.out _ _ HAs3.out (fun _ => ?_)
              clear hK K
              refine wpAnyH_ready (rs := [10]) (by kernel_rfl) (by simp) (AllReadyH.cons (o := { dst := some 44, op := Op.call { callee := Callee.value (Operand.func 20), args := #[Operand.tmp 38, Operand.tmp 43], argTypes := #[60, 60] }, type := 4, pos := "law.go:24", after := #[{ on := 4, ground := Ground.data }, { on := 9, ground := Ground.data }, { on := 4, ground := Ground.chain }], guard := none }) rfl (fun K hK => ?_) AllReadyH.nil)
              · go_simp
                have HTT := Lib.hid HYs3.out
                refine (equal_ex As _ cs _ ws HTs3.out (by first | exact HTT.out | (have h := HTT.out; simpa using h))).mono ?_
                rintro e we ⟨rfl, hb⟩
                have HAE := Lib.hid (HAs3.out.later hb)
                clear hb
                go_wp2_with (fail)
                refine hK.out _ _ HAE.out (fun _ => ?_)
                clear hK K
                exact HT _ _ (by kernel_rfl) (by kernel_rfl) _ _ _ _ we HAE.out
      · go_simp
        refine hK.out _ _ ((HA9.out.alloc (.cells #[.int .i64 3, .int .i64 2, .string ⟨#[]⟩, .int .i64 4, .int .i64 0, .string ⟨#[112, 111, 105, 110, 116]⟩] 23)).drew) (fun _ => ?_)
        clear hK K
        refine wpAnyH_ready (rs := [0, 9]) (by kernel_rfl) (by simp) (AllReadyH.cons (o := { dst := some 34, op := Op.call { callee := Callee.value (Operand.func 18), args := #[], argTypes := #[] }, type := 24, pos := "law.go:24", after := #[], guard := none }) rfl (fun K hK => ?_) (AllReadyH.cons (o := { dst := some 43, op := Op.buildSlice 60 4 #[(0, Operand.tmp 39), (1, Operand.tmp 40), (2, Operand.tmp 41), (3, Operand.tmp 42)], type := 60, pos := "law.go:24", after := #[{ on := 5, ground := Ground.data }, { on := 6, ground := Ground.data }, { on := 7, ground := Ground.data }, { on := 8, ground := Ground.data }], guard := none }) rfl (fun K hK => ?_) AllReadyH.nil))
        · go_simp
          refine (point_any (w9.alloc (.cells #[.int .i64 3, .int .i64 2, .string ⟨#[]⟩, .int .i64 4, .int .i64 0, .string ⟨#[112, 111, 105, 110, 116]⟩] 23)).drew).mono ?_
          rintro e wp ⟨q2, g2, rfl, hr, hb⟩
          have HAp1 := Lib.hid ((HA9.out.alloc (.cells #[.int .i64 3, .int .i64 2, .string ⟨#[]⟩, .int .i64 4, .int .i64 0, .string ⟨#[112, 111, 105, 110, 116]⟩] 23)).drew.later hb)
          have HRp1 := Lib.hid hr
          have HXp1 := Lib.hid ((row2 w9 _ rfl).drew.later hb)
          clear hr hb
          go_wp2_with (fail)
          refine hK.out _ _ HAp1.out (fun _ => ?_)
          clear hK K
          refine wpAnyH_ready (rs := [4, 9]) (by kernel_rfl) (by simp) (AllReadyH.cons (o := { dst := some 38, op := Op.call { callee := Callee.value (Operand.func 21), args := #[Operand.tmp 34, Operand.tmp 37], argTypes := #[24, 60] }, type := 60, pos := "law.go:24", after := #[{ on := 0, ground := Ground.data }, { on := 3, ground := Ground.data }, { on := 0, ground := Ground.chain }], guard := none }) rfl (fun K hK => ?_) (AllReadyH.cons (o := { dst := some 43, op := Op.buildSlice 60 4 #[(0, Operand.tmp 39), (1, Operand.tmp 40), (2, Operand.tmp 41), (3, Operand.tmp 42)], type := 60, pos := "law.go:24", after := #[{ on := 5, ground := Ground.data }, { on := 6, ground := Ground.data }, { on := 7, ground := Ground.data }, { on := 8, ground := Ground.data }], guard := none }) rfl (fun K hK => ?_) AllReadyH.nil))
          · go_simp
            have HTT := Lib.hid HXp1.out
            refine (scal_ex g2 _ q2 wp HRp1.out (by first | exact HTT.out | (have h := HTT.out; simpa using h))).mono ?_
            rintro e ws ⟨As, cs, rfl, ht, hb⟩
            have HAs2 := Lib.hid (HAp1.out.later hb)
            have HTs2 := Lib.hid ht
            clear ht hb
            go_wp2_with (fail)
            refine hK.out _ _ HAs2.out (fun _ => ?_)
            clear hK K
            refine wpAnyH_ready (rs := [9]) (by kernel_rfl) (by simp) (AllReadyH.cons (o := { dst := some 43, op := Op.buildSlice 60 4 #[(0, Operand.tmp 39), (1, Operand.tmp 40), (2, Operand.tmp 41), (3, Operand.tmp 42)], type := 60, pos := "law.go:24", after := #[{ on := 5, ground := Ground.data }, { on := 6, ground := Ground.data }, { on := 7, ground := Ground.data }, { on := 8, ground := Ground.data }], guard := none }) rfl (fun K hK => ?_) AllReadyH.nil)
            · go_simp
              refine hK.out _ _ ((HAs2.out.alloc (.cells #[.int .i64 1, .int .i64 0, .string ⟨#[]⟩, .int .i64 1, .int .i64 0, .string ⟨#[]⟩, .int .i64 1, .int .i64 0, .string ⟨#[]⟩, .int .i64 2, .int .i64 0, .string ⟨#[]⟩] 23))) (fun _ => ?_)
              clear hK K
              refine wpAnyH_ready (rs := [10]) (by kernel_rfl) (by simp) (AllReadyH.cons (o := { dst := some 44, op := Op.call { callee := Callee.value (Operand.func 20), args := #[Operand.tmp 38, Operand.tmp 43], argTypes := #[60, 60] }, type := 4, pos := "law.go:24", after := #[{ on := 4, ground := Ground.data }, { on := 9, ground := Ground.data }, { on := 4, ground := Ground.chain }], guard := none }) rfl (fun K hK => ?_) AllReadyH.nil)
              · go_simp
                have HTT := Lib.hid (row4 ws _ rfl)
                refine (equal_ex As _ cs _ (ws.alloc (.cells #[.int .i64 1, .int .i64 0, .string ⟨#[]⟩, .int .i64 1, .int .i64 0, .string ⟨#[]⟩, .int .i64 1, .int .i64 0, .string ⟨#[]⟩, .int .i64 2, .int .i64 0, .string ⟨#[]⟩] 23)) (HTs2.out.alloc (.cells #[.int .i64 1, .int .i64 0, .string ⟨#[]⟩, .int .i64 1, .int .i64 0, .string ⟨#[]⟩, .int .i64 1, .int .i64 0, .string ⟨#[]⟩, .int .i64 2, .int .i64 0, .string ⟨#[]⟩] 23)) (by first | exact HTT.out | (have h := HTT.out; simpa using h))).mono ?_
                rintro e we ⟨rfl, hb⟩
                have HAE := Lib.hid ((HAs2.out.alloc (.cells #[.int .i64 1, .int .i64 0, .string ⟨#[]⟩, .int .i64 1, .int .i64 0, .string ⟨#[]⟩, .int .i64 1, .int .i64 0, .string ⟨#[]⟩, .int .i64 2, .int .i64 0, .string ⟨#[]⟩] 23)).later hb)
                clear hb
                go_wp2_with (fail)
                refine hK.out _ _ HAE.out (fun _ => ?_)
                clear hK K
                exact HT _ _ (by kernel_rfl) (by kernel_rfl) _ _ _ _ we HAE.out
          · go_simp
            refine hK.out _ _ ((HAp1.out.alloc (.cells #[.int .i64 1, .int .i64 0, .string ⟨#[]⟩, .int .i64 1, .int .i64 0, .string ⟨#[]⟩, .int .i64 1, .int .i64 0, .string ⟨#[]⟩, .int .i64 2, .int .i64 0, .string ⟨#[]⟩] 23))) (fun _ => ?_)
            clear hK K
            refine wpAnyH_ready (rs := [4]) (by kernel_rfl) (by simp) (AllReadyH.cons (o := { dst := some 38, op := Op.call { callee := Callee.value (Operand.func 21), args := #[Operand.tmp 34, Operand.tmp 37], argTypes := #[24, 60] }, type := 60, pos := "law.go:24", after := #[{ on := 0, ground := Ground.data }, { on := 3, ground := Ground.data }, { on := 0, ground := Ground.chain }], guard := none }) rfl (fun K hK => ?_) AllReadyH.nil)
            · go_simp
              have HTT := Lib.hid (HXp1.out.alloc (.cells #[.int .i64 1, .int .i64 0, .string ⟨#[]⟩, .int .i64 1, .int .i64 0, .string ⟨#[]⟩, .int .i64 1, .int .i64 0, .string ⟨#[]⟩, .int .i64 2, .int .i64 0, .string ⟨#[]⟩] 23))
              refine (scal_ex g2 _ q2 (wp.alloc (.cells #[.int .i64 1, .int .i64 0, .string ⟨#[]⟩, .int .i64 1, .int .i64 0, .string ⟨#[]⟩, .int .i64 1, .int .i64 0, .string ⟨#[]⟩, .int .i64 2, .int .i64 0, .string ⟨#[]⟩] 23)) (HRp1.out.alloc (.cells #[.int .i64 1, .int .i64 0, .string ⟨#[]⟩, .int .i64 1, .int .i64 0, .string ⟨#[]⟩, .int .i64 1, .int .i64 0, .string ⟨#[]⟩, .int .i64 2, .int .i64 0, .string ⟨#[]⟩] 23)) (by first | exact HTT.out | (have h := HTT.out; simpa using h))).mono ?_
              rintro e ws ⟨As, cs, rfl, ht, hb⟩
              have HAs3 := Lib.hid ((HAp1.out.alloc (.cells #[.int .i64 1, .int .i64 0, .string ⟨#[]⟩, .int .i64 1, .int .i64 0, .string ⟨#[]⟩, .int .i64 1, .int .i64 0, .string ⟨#[]⟩, .int .i64 2, .int .i64 0, .string ⟨#[]⟩] 23)).later hb)
              have HTs3 := Lib.hid ht
              have HYs3 := Lib.hid ((row4 wp _ rfl).later hb)
              clear ht hb
              go_wp2_with (fail)
              refine hK.out _ _ HAs3.out (fun _ => ?_)
              clear hK K
              refine wpAnyH_ready (rs := [10]) (by kernel_rfl) (by simp) (AllReadyH.cons (o := { dst := some 44, op := Op.call { callee := Callee.value (Operand.func 20), args := #[Operand.tmp 38, Operand.tmp 43], argTypes := #[60, 60] }, type := 4, pos := "law.go:24", after := #[{ on := 4, ground := Ground.data }, { on := 9, ground := Ground.data }, { on := 4, ground := Ground.chain }], guard := none }) rfl (fun K hK => ?_) AllReadyH.nil)
              · go_simp
                have HTT := Lib.hid HYs3.out
                refine (equal_ex As _ cs _ ws HTs3.out (by first | exact HTT.out | (have h := HTT.out; simpa using h))).mono ?_
                rintro e we ⟨rfl, hb⟩
                have HAE := Lib.hid (HAs3.out.later hb)
                clear hb
                go_wp2_with (fail)
                refine hK.out _ _ HAE.out (fun _ => ?_)
                clear hK K
                exact HT _ _ (by kernel_rfl) (by kernel_rfl) _ _ _ _ we HAE.out
        · go_simp
          refine hK.out _ _ (((HA9.out.alloc (.cells #[.int .i64 3, .int .i64 2, .string ⟨#[]⟩, .int .i64 4, .int .i64 0, .string ⟨#[112, 111, 105, 110, 116]⟩] 23)).alloc (.cells #[.int .i64 1, .int .i64 0, .string ⟨#[]⟩, .int .i64 1, .int .i64 0, .string ⟨#[]⟩, .int .i64 1, .int .i64 0, .string ⟨#[]⟩, .int .i64 2, .int .i64 0, .string ⟨#[]⟩] 23)).drew) (fun _ => ?_)
          clear hK K
          refine wpAnyH_ready (rs := [0]) (by kernel_rfl) (by simp) (AllReadyH.cons (o := { dst := some 34, op := Op.call { callee := Callee.value (Operand.func 18), args := #[], argTypes := #[] }, type := 24, pos := "law.go:24", after := #[], guard := none }) rfl (fun K hK => ?_) AllReadyH.nil)
          · go_simp
            refine (point_any ((w9.alloc (.cells #[.int .i64 3, .int .i64 2, .string ⟨#[]⟩, .int .i64 4, .int .i64 0, .string ⟨#[112, 111, 105, 110, 116]⟩] 23)).alloc (.cells #[.int .i64 1, .int .i64 0, .string ⟨#[]⟩, .int .i64 1, .int .i64 0, .string ⟨#[]⟩, .int .i64 1, .int .i64 0, .string ⟨#[]⟩, .int .i64 2, .int .i64 0, .string ⟨#[]⟩] 23)).drew).mono ?_
            rintro e wp ⟨q2, g2, rfl, hr, hb⟩
            have HAp2 := Lib.hid (((HA9.out.alloc (.cells #[.int .i64 3, .int .i64 2, .string ⟨#[]⟩, .int .i64 4, .int .i64 0, .string ⟨#[112, 111, 105, 110, 116]⟩] 23)).alloc (.cells #[.int .i64 1, .int .i64 0, .string ⟨#[]⟩, .int .i64 1, .int .i64 0, .string ⟨#[]⟩, .int .i64 1, .int .i64 0, .string ⟨#[]⟩, .int .i64 2, .int .i64 0, .string ⟨#[]⟩] 23)).drew.later hb)
            have HRp2 := Lib.hid hr
            have HXp2 := Lib.hid (((row2 w9 _ rfl).alloc (.cells #[.int .i64 1, .int .i64 0, .string ⟨#[]⟩, .int .i64 1, .int .i64 0, .string ⟨#[]⟩, .int .i64 1, .int .i64 0, .string ⟨#[]⟩, .int .i64 2, .int .i64 0, .string ⟨#[]⟩] 23)).drew.later hb)
            have HYp2 := Lib.hid ((row4 (w9.alloc (.cells #[.int .i64 3, .int .i64 2, .string ⟨#[]⟩, .int .i64 4, .int .i64 0, .string ⟨#[112, 111, 105, 110, 116]⟩] 23)) _ rfl).drew.later hb)
            clear hr hb
            go_wp2_with (fail)
            refine hK.out _ _ HAp2.out (fun _ => ?_)
            clear hK K
            refine wpAnyH_ready (rs := [4]) (by kernel_rfl) (by simp) (AllReadyH.cons (o := { dst := some 38, op := Op.call { callee := Callee.value (Operand.func 21), args := #[Operand.tmp 34, Operand.tmp 37], argTypes := #[24, 60] }, type := 60, pos := "law.go:24", after := #[{ on := 0, ground := Ground.data }, { on := 3, ground := Ground.data }, { on := 0, ground := Ground.chain }], guard := none }) rfl (fun K hK => ?_) AllReadyH.nil)
            · go_simp
              have HTT := Lib.hid HXp2.out
              refine (scal_ex g2 _ q2 wp HRp2.out (by first | exact HTT.out | (have h := HTT.out; simpa using h))).mono ?_
              rintro e ws ⟨As, cs, rfl, ht, hb⟩
              have HAs3 := Lib.hid (HAp2.out.later hb)
              have HTs3 := Lib.hid ht
              have HYs3 := Lib.hid (HYp2.out.later hb)
              clear ht hb
              go_wp2_with (fail)
              refine hK.out _ _ HAs3.out (fun _ => ?_)
              clear hK K
              refine wpAnyH_ready (rs := [10]) (by kernel_rfl) (by simp) (AllReadyH.cons (o := { dst := some 44, op := Op.call { callee := Callee.value (Operand.func 20), args := #[Operand.tmp 38, Operand.tmp 43], argTypes := #[60, 60] }, type := 4, pos := "law.go:24", after := #[{ on := 4, ground := Ground.data }, { on := 9, ground := Ground.data }, { on := 4, ground := Ground.chain }], guard := none }) rfl (fun K hK => ?_) AllReadyH.nil)
              · go_simp
                have HTT := Lib.hid HYs3.out
                refine (equal_ex As _ cs _ ws HTs3.out (by first | exact HTT.out | (have h := HTT.out; simpa using h))).mono ?_
                rintro e we ⟨rfl, hb⟩
                have HAE := Lib.hid (HAs3.out.later hb)
                clear hb
                go_wp2_with (fail)
                refine hK.out _ _ HAE.out (fun _ => ?_)
                clear hK K
                exact HT _ _ (by kernel_rfl) (by kernel_rfl) _ _ _ _ we HAE.out
      · go_simp
        refine hK.out _ _ ((HA9.out.alloc (.cells #[.int .i64 1, .int .i64 0, .string ⟨#[]⟩, .int .i64 1, .int .i64 0, .string ⟨#[]⟩, .int .i64 1, .int .i64 0, .string ⟨#[]⟩, .int .i64 2, .int .i64 0, .string ⟨#[]⟩] 23)).drew) (fun _ => ?_)
        clear hK K
        refine wpAnyH_ready (rs := [0, 3]) (by kernel_rfl) (by simp) (AllReadyH.cons (o := { dst := some 34, op := Op.call { callee := Callee.value (Operand.func 18), args := #[], argTypes := #[] }, type := 24, pos := "law.go:24", after := #[], guard := none }) rfl (fun K hK => ?_) (AllReadyH.cons (o := { dst := some 37, op := Op.buildSlice 60 2 #[(0, Operand.tmp 35), (1, Operand.tmp 36)], type := 60, pos := "law.go:24", after := #[{ on := 1, ground := Ground.data }, { on := 2, ground := Ground.data }], guard := none }) rfl (fun K hK => ?_) AllReadyH.nil))
        · go_simp
          refine (point_any (w9.alloc (.cells #[.int .i64 1, .int .i64 0, .string ⟨#[]⟩, .int .i64 1, .int .i64 0, .string ⟨#[]⟩, .int .i64 1, .int .i64 0, .string ⟨#[]⟩, .int .i64 2, .int .i64 0, .string ⟨#[]⟩] 23)).drew).mono ?_
          rintro e wp ⟨q2, g2, rfl, hr, hb⟩
          have HAp1 := Lib.hid ((HA9.out.alloc (.cells #[.int .i64 1, .int .i64 0, .string ⟨#[]⟩, .int .i64 1, .int .i64 0, .string ⟨#[]⟩, .int .i64 1, .int .i64 0, .string ⟨#[]⟩, .int .i64 2, .int .i64 0, .string ⟨#[]⟩] 23)).drew.later hb)
          have HRp1 := Lib.hid hr
          have HYp1 := Lib.hid ((row4 w9 _ rfl).drew.later hb)
          clear hr hb
          go_wp2_with (fail)
          refine hK.out _ _ HAp1.out (fun _ => ?_)
          clear hK K
          refine wpAnyH_ready (rs := [3]) (by kernel_rfl) (by simp) (AllReadyH.cons (o := { dst := some 37, op := Op.buildSlice 60 2 #[(0, Operand.tmp 35), (1, Operand.tmp 36)], type := 60, pos := "law.go:24", after := #[{ on := 1, ground := Ground.data }, { on := 2, ground := Ground.data }], guard := none }) rfl (fun K hK => ?_) AllReadyH.nil)
          · go_simp
            refine hK.out _ _ ((HAp1.out.alloc (.cells #[.int .i64 3, .int .i64 2, .string ⟨#[]⟩, .int .i64 4, .int .i64 0, .string ⟨#[112, 111, 105, 110, 116]⟩] 23))) (fun _ => ?_)
            clear hK K
            refine wpAnyH_ready (rs := [4]) (by kernel_rfl) (by simp) (AllReadyH.cons (o := { dst := some 38, op := Op.call { callee := Callee.value (Operand.func 21), args := #[Operand.tmp 34, Operand.tmp 37], argTypes := #[24, 60] }, type := 60, pos := "law.go:24", after := #[{ on := 0, ground := Ground.data }, { on := 3, ground := Ground.data }, { on := 0, ground := Ground.chain }], guard := none }) rfl (fun K hK => ?_) AllReadyH.nil)
            · go_simp
              have HTT := Lib.hid (row2 wp _ rfl)
              refine (scal_ex g2 _ q2 (wp.alloc (.cells #[.int .i64 3, .int .i64 2, .string ⟨#[]⟩, .int .i64 4, .int .i64 0, .string ⟨#[112, 111, 105, 110, 116]⟩] 23)) (HRp1.out.alloc (.cells #[.int .i64 3, .int .i64 2, .string ⟨#[]⟩, .int .i64 4, .int .i64 0, .string ⟨#[112, 111, 105, 110, 116]⟩] 23)) (by first | exact HTT.out | (have h := HTT.out; simpa using h))).mono ?_
              rintro e ws ⟨As, cs, rfl, ht, hb⟩
              have HAs3 := Lib.hid ((HAp1.out.alloc (.cells #[.int .i64 3, .int .i64 2, .string ⟨#[]⟩, .int .i64 4, .int .i64 0, .string ⟨#[112, 111, 105, 110, 116]⟩] 23)).later hb)
              have HTs3 := Lib.hid ht
              have HYs3 := Lib.hid ((HYp1.out.alloc (.cells #[.int .i64 3, .int .i64 2, .string ⟨#[]⟩, .int .i64 4, .int .i64 0, .string ⟨#[112, 111, 105, 110, 116]⟩] 23)).later hb)
              clear ht hb
              go_wp2_with (fail)
              refine hK.out _ _ HAs3.out (fun _ => ?_)
              clear hK K
              refine wpAnyH_ready (rs := [10]) (by kernel_rfl) (by simp) (AllReadyH.cons (o := { dst := some 44, op := Op.call { callee := Callee.value (Operand.func 20), args := #[Operand.tmp 38, Operand.tmp 43], argTypes := #[60, 60] }, type := 4, pos := "law.go:24", after := #[{ on := 4, ground := Ground.data }, { on := 9, ground := Ground.data }, { on := 4, ground := Ground.chain }], guard := none }) rfl (fun K hK => ?_) AllReadyH.nil)
              · go_simp
                have HTT := Lib.hid HYs3.out
                refine (equal_ex As _ cs _ ws HTs3.out (by first | exact HTT.out | (have h := HTT.out; simpa using h))).mono ?_
                rintro e we ⟨rfl, hb⟩
                have HAE := Lib.hid (HAs3.out.later hb)
                clear hb
                go_wp2_with (fail)
                refine hK.out _ _ HAE.out (fun _ => ?_)
                clear hK K
                exact HT _ _ (by kernel_rfl) (by kernel_rfl) _ _ _ _ we HAE.out
        · go_simp
          refine hK.out _ _ (((HA9.out.alloc (.cells #[.int .i64 1, .int .i64 0, .string ⟨#[]⟩, .int .i64 1, .int .i64 0, .string ⟨#[]⟩, .int .i64 1, .int .i64 0, .string ⟨#[]⟩, .int .i64 2, .int .i64 0, .string ⟨#[]⟩] 23)).alloc (.cells #[.int .i64 3, .int .i64 2, .string ⟨#[]⟩, .int .i64 4, .int .i64 0, .string ⟨#[112, 111, 105, 110, 116]⟩] 23)).drew) (fun _ => ?_)
          clear hK K
          refine wpAnyH_ready (rs := [0]) (by kernel_rfl) (by simp) (AllReadyH.cons (o := { dst := some 34, op := Op.call { callee := Callee.value (Operand.func 18), args := #[], argTypes := #[] }, type := 24, pos := "law.go:24", after := #[], guard := none }) rfl (fun K hK => ?_) AllReadyH.nil)
          · go_simp
            refine (point_any ((w9.alloc (.cells #[.int .i64 1, .int .i64 0, .string ⟨#[]⟩, .int .i64 1, .int .i64 0, .string ⟨#[]⟩, .int .i64 1, .int .i64 0, .string ⟨#[]⟩, .int .i64 2, .int .i64 0, .string ⟨#[]⟩] 23)).alloc (.cells #[.int .i64 3, .int .i64 2, .string ⟨#[]⟩, .int .i64 4, .int .i64 0, .string ⟨#[112, 111, 105, 110, 116]⟩] 23)).drew).mono ?_
            rintro e wp ⟨q2, g2, rfl, hr, hb⟩
            have HAp2 := Lib.hid (((HA9.out.alloc (.cells #[.int .i64 1, .int .i64 0, .string ⟨#[]⟩, .int .i64 1, .int .i64 0, .string ⟨#[]⟩, .int .i64 1, .int .i64 0, .string ⟨#[]⟩, .int .i64 2, .int .i64 0, .string ⟨#[]⟩] 23)).alloc (.cells #[.int .i64 3, .int .i64 2, .string ⟨#[]⟩, .int .i64 4, .int .i64 0, .string ⟨#[112, 111, 105, 110, 116]⟩] 23)).drew.later hb)
            have HRp2 := Lib.hid hr
            have HXp2 := Lib.hid ((row2 (w9.alloc (.cells #[.int .i64 1, .int .i64 0, .string ⟨#[]⟩, .int .i64 1, .int .i64 0, .string ⟨#[]⟩, .int .i64 1, .int .i64 0, .string ⟨#[]⟩, .int .i64 2, .int .i64 0, .string ⟨#[]⟩] 23)) _ rfl).drew.later hb)
            have HYp2 := Lib.hid (((row4 w9 _ rfl).alloc (.cells #[.int .i64 3, .int .i64 2, .string ⟨#[]⟩, .int .i64 4, .int .i64 0, .string ⟨#[112, 111, 105, 110, 116]⟩] 23)).drew.later hb)
            clear hr hb
            go_wp2_with (fail)
            refine hK.out _ _ HAp2.out (fun _ => ?_)
            clear hK K
            refine wpAnyH_ready (rs := [4]) (by kernel_rfl) (by simp) (AllReadyH.cons (o := { dst := some 38, op := Op.call { callee := Callee.value (Operand.func 21), args := #[Operand.tmp 34, Operand.tmp 37], argTypes := #[24, 60] }, type := 60, pos := "law.go:24", after := #[{ on := 0, ground := Ground.data }, { on := 3, ground := Ground.data }, { on := 0, ground := Ground.chain }], guard := none }) rfl (fun K hK => ?_) AllReadyH.nil)
            · go_simp
              have HTT := Lib.hid HXp2.out
              refine (scal_ex g2 _ q2 wp HRp2.out (by first | exact HTT.out | (have h := HTT.out; simpa using h))).mono ?_
              rintro e ws ⟨As, cs, rfl, ht, hb⟩
              have HAs3 := Lib.hid (HAp2.out.later hb)
              have HTs3 := Lib.hid ht
              have HYs3 := Lib.hid (HYp2.out.later hb)
              clear ht hb
              go_wp2_with (fail)
              refine hK.out _ _ HAs3.out (fun _ => ?_)
              clear hK K
              refine wpAnyH_ready (rs := [10]) (by kernel_rfl) (by simp) (AllReadyH.cons (o := { dst := some 44, op := Op.call { callee := Callee.value (Operand.func 20), args := #[Operand.tmp 38, Operand.tmp 43], argTypes := #[60, 60] }, type := 4, pos := "law.go:24", after := #[{ on := 4, ground := Ground.data }, { on := 9, ground := Ground.data }, { on := 4, ground := Ground.chain }], guard := none }) rfl (fun K hK => ?_) AllReadyH.nil)
              · go_simp
                have HTT := Lib.hid HYs3.out
                refine (equal_ex As _ cs _ ws HTs3.out (by first | exact HTT.out | (have h := HTT.out; simpa using h))).mono ?_
                rintro e we ⟨rfl, hb⟩
                have HAE := Lib.hid (HAs3.out.later hb)
                clear hb
                go_wp2_with (fail)
                refine hK.out _ _ HAE.out (fun _ => ?_)
                clear hK K
                exact HT _ _ (by kernel_rfl) (by kernel_rfl) _ _ _ _ we HAE.out
end Go.Proofs.YtnpcfmoiiecadaaDoor
