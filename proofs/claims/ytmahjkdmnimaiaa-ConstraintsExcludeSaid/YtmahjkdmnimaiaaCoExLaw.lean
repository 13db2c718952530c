/- What is proved: the law ConstraintsExclude, over the example's contract. -/
import Derived.Test.YtmahjkdmnimaiaaCoAwake
set_option linter.unusedVariables false
namespace Go.Proofs.Ytmahjkdmnimaiaa
open Go.RowKit Go.Shelf

/-- two types, each in a variable -/
structure Px (w : World) (a b : TyV) (W : World) : Prop where
  below : Below w.heap.size w W
  size : w.heap.size + 2 ≤ W.heap.size
  ta : TCells W w.heap.size 0 a
  tb : TCells W (w.heap.size + 1) 0 b
theorem Px.later {w : World} {a b : TyV} {W W' : World} (h : Px w a b W) (hb : Below W.heap.size W W') : Px w a b W' :=
  ⟨h.below.trans (hb.mono (by have := h.size; omega)), by have := h.size; have := hb.size; omega, h.ta.below hb (by have := h.size; omega), h.tb.below hb (by have := h.size; omega)⟩
theorem Px.cells {w : World} {a b : TyV} {W : World} (h : Px w a b W) : W.cell? ⟨w.heap.size, 0, none⟩ = some (.int .i64 a.kind) ∧ W.cell? ⟨w.heap.size, 1, none⟩ = some (.int .i64 a.len) ∧ W.cell? ⟨w.heap.size, 2, none⟩ = some (.string a.nm) ∧ W.cell? ⟨w.heap.size + 1, 0, none⟩ = some (.int .i64 b.kind) ∧ W.cell? ⟨w.heap.size + 1, 1, none⟩ = some (.int .i64 b.len) ∧ W.cell? ⟨w.heap.size + 1, 2, none⟩ = some (.string b.nm) :=
  ⟨h.ta.now.1, h.ta.now.2.1, h.ta.now.2.2, h.tb.now.1, h.tb.now.2.1, h.tb.now.2.2⟩
theorem Px.start (w : World) (a b : TyV) : Px w a b (((w.alloc (.cells #[.int .i64 a.kind, .int .i64 a.len, .string a.nm] 23)).alloc (.cells #[.int .i64 b.kind, .int .i64 b.len, .string b.nm] 23))) := by
  have z1 : (w.alloc (.cells #[.int .i64 a.kind, .int .i64 a.len, .string a.nm] 23)).heap.size = w.heap.size + 1 := by simp
  have b1 := (Below.refl w.heap.size w).alloc (Nat.le_refl _) (.cells #[.int .i64 a.kind, .int .i64 a.len, .string a.nm] 23)
  have b2 := (Below.refl _ (w.alloc (.cells #[.int .i64 a.kind, .int .i64 a.len, .string a.nm] 23))).alloc (Nat.le_refl _) (.cells #[.int .i64 b.kind, .int .i64 b.len, .string b.nm] 23)
  have t1 : TCells (w.alloc (.cells #[.int .i64 a.kind, .int .i64 a.len, .string a.nm] 23)) w.heap.size 0 a := TCells.of_box
  have t2 : TCells ((w.alloc (.cells #[.int .i64 a.kind, .int .i64 a.len, .string a.nm] 23)).alloc (.cells #[.int .i64 b.kind, .int .i64 b.len, .string b.nm] 23)) (w.alloc (.cells #[.int .i64 a.kind, .int .i64 a.len, .string a.nm] 23)).heap.size 0 b := TCells.of_box
  rw [z1] at t2
  exact ⟨b1.alloc (by omega) _, by simp, t1.below b2 (by omega), t2⟩

set_option maxRecDepth 100000 in
set_option maxHeartbeats 8000000 in
theorem law_exclude (a b : TyV) (w : World) : Calls Try.prog 3 #[.agg #[.int .i64 a.kind, .int .i64 a.len, .string a.nm], .agg #[.int .i64 b.kind, .int .i64 b.len, .string b.nm]] w fun e w' => e = .returned (.bool true) ∧ Below w.heap.size w w' := by
  have HAW := Lib.hid (fun W => awake_any W)
  obtain ⟨v, HV⟩ : ∃ v, Hid (exclB a b = v) := ⟨_, Lib.hid rfl⟩
  have HV2 := Lib.hid (show exclB b a = v by rw [exclB_symm]; exact HV.out)
  have HX := Lib.hid (Px.start w a b)
  have HX0 := Lib.hid (show Px w a b (((w.alloc (.cells #[.int .i64 a.kind, .int .i64 a.len, .string a.nm] 23)).alloc (.cells #[.int .i64 b.kind, .int .i64 b.len, .string b.nm] 23))).drew from Px.later HX.out (Below.refl _ _).drew)
  have HK0 := Lib.hid HX0.out.cells
  cases v
  all_goals
    go_enter Try.func3, Try.ntmps3
    go_wp2_with (fail)
    go_region_held3 (fun w' => w'.cell? ⟨w.heap.size, 0, none⟩ = some (.int .i64 a.kind) ∧ w'.cell? ⟨w.heap.size, 1, none⟩ = some (.int .i64 a.len) ∧ w'.cell? ⟨w.heap.size, 2, none⟩ = some (.string a.nm) ∧ w'.cell? ⟨w.heap.size + 1, 0, none⟩ = some (.int .i64 b.kind) ∧ w'.cell? ⟨w.heap.size + 1, 1, none⟩ = some (.int .i64 b.len) ∧ w'.cell? ⟨w.heap.size + 1, 2, none⟩ = some (.string b.nm)) (first | (with_reducible exact HK6.out) | (with_reducible exact HK5.out) | (with_reducible exact HK4.out) | (with_reducible exact HK3.out) | (with_reducible exact HK2.out) | (with_reducible exact HK1.out) | (with_reducible exact HK0.out) | go_keep) (first | (go_at_call 9; have HPx := HX5.out; refine (HAW.out _).mono ?_; rintro e w6 ⟨rfl, hb⟩; have HX6 := Lib.hid (Px.later HX5.out hb); have HK6 := Lib.hid HX6.out.cells; clear hb HPx) | (go_at_call 7; have HPx := HX4.out; refine (excl_f a a false (exclB_self a) _).mono ?_; rintro e w5 ⟨rfl, hb⟩; have HX5 := Lib.hid (Px.later HX4.out hb); have HK5 := Lib.hid HX5.out.cells; clear hb HPx) | (go_at_call 7; have HPx := HX3.out; refine (excl_f b a _ HV2.out _).mono ?_; rintro e w4 ⟨rfl, hb⟩; have HX4 := Lib.hid (Px.later HX3.out hb); have HK4 := Lib.hid HX4.out.cells; clear hb HPx) | (go_at_call 7; have HPx := HX2.out; refine (excl_f a b _ HV.out _).mono ?_; rintro e w3 ⟨rfl, hb⟩; have HX3 := Lib.hid (Px.later HX2.out hb); have HK3 := Lib.hid HX3.out.cells; clear hb HPx) | (go_at_call 8; have HPx := HX1.out; refine (r_excl_f a b _ HV.out _).mono ?_; rintro e w2 ⟨rfl, hb⟩; have HX2 := Lib.hid (Px.later HX1.out hb); have HK2 := Lib.hid HX2.out.cells; clear hb HPx) | (go_at_call 7; have HPx := HX0.out; refine (excl_f a b _ HV.out _).mono ?_; rintro e w1 ⟨rfl, hb⟩; have HX1 := Lib.hid (Px.later HX0.out hb); have HK1 := Lib.hid HX1.out.cells; clear hb HPx))
    go_wp2_with (fail)
    go_ret
    exact ⟨rfl, HX6.out.below⟩
end Go.Proofs.Ytmahjkdmnimaiaa
