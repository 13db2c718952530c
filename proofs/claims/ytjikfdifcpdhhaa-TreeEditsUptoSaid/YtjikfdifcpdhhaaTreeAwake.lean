/- What is proved: the chapter's examples hold. -/
import Derived.Test.YtjikfdifcpdhhaaExample
import Derived.Deep.RegionHeld3
set_option linter.unusedVariables false
namespace Go.Proofs.Ytjikfdifcpdhhaa
open Go.RowKit Go.Shelf

theorem drewN_below (w : World) (n : Nat) : Below w.heap.size w (w.drewN n) := by
  induction n with
  | zero => exact Below.refl _ _
  | succ n ih => exact ih.drew
/-- the example in memory, in a variable; the path that was answered -/
structure Aw (w : World) (a b N : Nat) (A : Option Addr) (W : World) : Prop where
  tree : InT W.heap.size W (exT a b)
  box : NBox W N (exT a b)
  path : IRow W.heap.size W A [0, 0]
  below : Below w.heap.size w W
theorem Aw.later {w : World} {a b N : Nat} {A : Option Addr} {W W' : World} (h : Aw w a b N A W) (hb : Below W.heap.size W W') : Aw w a b N A W' :=
  ⟨InT.mono hb.size _ (InT.below hb _ h.tree), h.box.below hb (Array.getElem?_eq_some_iff.1 h.box).1, IRow.later h.path hb, h.below.trans (hb.mono h.below.size)⟩
theorem Aw.cells {w : World} {a b N : Nat} {A : Option Addr} {W : World} (h : Aw w a b N A W) : W.cell? ⟨N, 0, none⟩ = some (.int .i64 29) ∧ W.cell? ⟨N, 1, none⟩ = some (.string ⟨#[43]⟩) ∧ W.cell? ⟨N, 2, none⟩ = some (.int .i64 0) ∧ W.cell? ⟨N, 3, none⟩ = some (.int .i64 6) ∧ W.cell? ⟨N, 4, none⟩ = some (.slice (some ⟨b, 0, none⟩) 2 2) := h.box.cells
abbrev exV (b : Nat) : Value := .agg #[.int .i64 29, .string ⟨#[43]⟩, .int .i64 0, .int .i64 6, .slice (some ⟨b, 0, none⟩) 2 2]
theorem ex_cnt_le (a b : Nat) : NT.cnt (exT a b) ≤ 1000000000 := by rw [ex_cnt]; decide

theorem ex_path_any (a b : Nat) (w : World) (hin : InT w.heap.size w (exT a b)) : Calls Try.prog 22 #[.agg #[.int .i64 29, .string ⟨#[43]⟩, .int .i64 0, .int .i64 6, .slice (some ⟨b, 0, none⟩) 2 2], .int .i64 2] w fun e w' => ∃ A c, e = .returned (.tuple #[.slice A 2 c, .bool true]) ∧ IRow w'.heap.size w' A [0, 0] ∧ Below w.heap.size w w' := by
  refine (path_any (exT a b) 2 w hin (ex_cnt_le a b) (by decide) (by decide)).mono ?_
  rintro e w' ⟨A, c, rfl, hr, hb⟩
  rw [ex_path] at hr
  exact ⟨A, c, by rw [ex_path, ex_isnum]; rfl, hr.ints, hb⟩
theorem ex_number_any (a b B : Nat) (w : World) (hin : InT w.heap.size w (exT a b)) (hr : IRow w.heap.size w (some ⟨B, 0, none⟩) [1]) : Calls Try.prog 24 #[.agg #[.int .i64 29, .string ⟨#[43]⟩, .int .i64 0, .int .i64 6, .slice (some ⟨b, 0, none⟩) 2 2], .slice (some ⟨B, 0, none⟩) 1 1] w fun e w' => e = .returned (.tuple #[.int .i64 3, .bool true]) ∧ Below w.heap.size w w' := by
  refine (number_any (exT a b) (some ⟨B, 0, none⟩) 1 [1] w hin hr (ex_cnt_le a b) (by decide)).mono ?_
  rintro e w' ⟨rfl, hb⟩
  exact ⟨by rw [ex_num]; rfl, hb⟩
theorem ex_find_any (a b : Nat) (w : World) (hin : InT w.heap.size w (exT a b)) : Calls Try.prog 26 #[.agg #[.int .i64 29, .string ⟨#[43]⟩, .int .i64 0, .int .i64 6, .slice (some ⟨b, 0, none⟩) 2 2], .int .i64 1] w fun e w' => e = .returned (.tuple #[.int .i64 2, .bool true]) ∧ Below w.heap.size w w' :=
  find_any (exT a b) 1 w hin (ex_cnt_le a b) 2 true (by rw [ex_has, ex_fnd]; rfl) (ex_has a b)
theorem ex_expr_any (a b : Nat) (w : World) (hin : InT w.heap.size w (exT a b)) : Calls Try.prog 14 #[.agg #[.int .i64 29, .string ⟨#[43]⟩, .int .i64 0, .int .i64 6, .slice (some ⟨b, 0, none⟩) 2 2]] w fun e w' => e = .returned (.bool true) ∧ Below w.heap.size w w' := by
  have h := expression_f (exT a b) w hin (ex_cnt_le a b) (ex_i64 a b)
  rw [ex_expr] at h
  exact h
theorem ex_valid_any (a b : Nat) (w : World) (hin : InT w.heap.size w (exT a b)) : Calls Try.prog 12 #[.agg #[.int .i64 29, .string ⟨#[43]⟩, .int .i64 0, .int .i64 6, .slice (some ⟨b, 0, none⟩) 2 2]] w fun e w' => e = .returned (.bool false) ∧ Below w.heap.size w w' := by
  have h := valid_f (exT a b) w hin (ex_cnt_le a b) (ex_i64 a b)
  rw [ex_valid] at h
  exact h
theorem ex_count_any (a b : Nat) (w : World) (hin : InT w.heap.size w (exT a b)) : Calls Try.prog 28 #[.agg #[.int .i64 29, .string ⟨#[43]⟩, .int .i64 0, .int .i64 6, .slice (some ⟨b, 0, none⟩) 2 2]] w fun e w' => e = .returned (.int .i64 4) ∧ Below w.heap.size w w' := by
  have h := count_any (exT a b) w hin (ex_cnt_le a b)
  rw [ex_cnt] at h
  exact h
theorem ex_levels_any (a b : Nat) (w : World) (hin : InT w.heap.size w (exT a b)) : Calls Try.prog 30 #[.agg #[.int .i64 29, .string ⟨#[43]⟩, .int .i64 0, .int .i64 6, .slice (some ⟨b, 0, none⟩) 2 2]] w fun e w' => e = .returned (.int .i64 3) ∧ Below w.heap.size w w' := by
  have h := levels_any (exT a b) w hin (ex_cnt_le a b)
  rw [ex_lev] at h
  exact h
theorem ex_ints_any (A B : Option Addr) (c d : Nat) (w : World) (ha : IRow w.heap.size w A [0, 0]) (hb : IRow w.heap.size w B [0, 0]) : Calls Try.prog 33 #[.slice A 2 c, .slice B 2 d] w fun e w' => e = .returned (.bool true) ∧ Below w.heap.size w w' := by
  refine (intsEq_any A B c d [0, 0] [0, 0] w ha hb (by decide) (by decide)).mono ?_
  rintro e w' ⟨rfl, n, rfl⟩
  exact ⟨rfl, drewN_below w n⟩
theorem ex_list_any (w : World) : Calls Try.prog 18 #[.int .i64 11] w fun e w' => e = .returned (.bool true) ∧ Below w.heap.size w w' := by
  refine (list_any 11 w).mono ?_
  rintro e w' ⟨rfl, rfl⟩
  exact ⟨by rw [ex_list], Below.refl _ _⟩
theorem ex_bare_any (a b : Nat) (w : World) (hin : InT w.heap.size w (exT a b)) : Calls Try.prog 38 #[.agg #[.int .i64 29, .string ⟨#[43]⟩, .int .i64 0, .int .i64 6, .slice (some ⟨b, 0, none⟩) 2 2]] w fun e w' => ∃ m : NT, e = .returned (.agg #[.int .i64 m.kind, .string m.text, .int .i64 m.lo, .int .i64 m.hi, .slice m.A m.kids.length m.c]) ∧ InT w'.heap.size w' m ∧ NT.sameB (exT a b) m = true ∧ Below w.heap.size w w' := by
  refine (bare_any (exT a b) w hin (ex_cnt_le a b)).mono ?_
  rintro e w' ⟨m, rfl, hs, hm, hb⟩
  exact ⟨m, rfl, fresh_inT hm, (same_bare _ _ hs).1, hb⟩
theorem ex_same_any (a b : Nat) (m : NT) (w : World) (hin : InT w.heap.size w (exT a b)) (hm : InT w.heap.size w m) (hs : NT.sameB (exT a b) m = true) : Calls Try.prog 36 #[.agg #[.int .i64 29, .string ⟨#[43]⟩, .int .i64 0, .int .i64 6, .slice (some ⟨b, 0, none⟩) 2 2], .agg #[.int .i64 m.kind, .string m.text, .int .i64 m.lo, .int .i64 m.hi, .slice m.A m.kids.length m.c]] w fun e w' => e = .returned (.bool true) ∧ Below w.heap.size w w' := by
  have h := same_any (exT a b) m w hin hm (ex_cnt_le a b)
  rw [hs] at h
  exact h
theorem irow_new (w : World) (l : List Int) (cs : Array Value) (hcs : cs.toList = l.map (Value.int .i64)) : IRow (w.alloc (.cells cs 3)).heap.size (w.alloc (.cells cs 3)) (some ⟨w.heap.size, 0, none⟩) l := fun h0 => by
  refine ⟨w.heap.size, 0, rfl, by simp, fun i hi => ?_⟩
  have hb := heap_alloc_new w (.cells cs 3)
  have e : cs[i]? = some (.int .i64 l[i]) := by
    rw [← Array.getElem?_toList, hcs, List.getElem?_map, List.getElem?_eq_getElem hi]
    rfl
  rw [Nat.zero_add, Lib.cell_of_heap hb i, e]

set_option maxHeartbeats 4000000 in
set_option maxRecDepth 100000 in
theorem awake_any (w : World) : Calls Try.prog 11 #[] w fun e w' => e = .returned (.bool true) ∧ Below w.heap.size w w' := by
  go_enter Try.func11, Try.ntmps11
  go_wp2_with (fail)
  refine (example_any w).mono ?_
  rintro e w1 ⟨a, b, rfl, hin, hb1⟩
  have HI1 := Lib.hid hin
  have HB1 := Lib.hid hb1
  clear hin hb1
  go_wp2_with (fail)
  have hal := (Below.refl w1.heap.size w1).alloc (Nat.le_refl _) (.cells #[.int .i64 29, .string ⟨#[43]⟩, .int .i64 0, .int .i64 6, .slice (some ⟨b, 0, none⟩) 2 2] 24)
  have HI2 := Lib.hid (InT.mono hal.size _ (InT.below hal _ HI1.out))
  have HN2 := Lib.hid (show NBox (w1.alloc (.cells #[.int .i64 29, .string ⟨#[43]⟩, .int .i64 0, .int .i64 6, .slice (some ⟨b, 0, none⟩) 2 2] 24)) w1.heap.size (exT a b) from heap_alloc_new w1 _)
  have HB2 := Lib.hid (HB1.out.trans (hal.mono HB1.out.size))
  have hz : w1.heap.size < (w1.alloc (.cells #[.int .i64 29, .string ⟨#[43]⟩, .int .i64 0, .int .i64 6, .slice (some ⟨b, 0, none⟩) 2 2] 24)).heap.size := by simp
  clear hal
  generalize (w1.alloc (.cells #[.int .i64 29, .string ⟨#[43]⟩, .int .i64 0, .int .i64 6, .slice (some ⟨b, 0, none⟩) 2 2] 24)) = w2 at *
  refine (ex_path_any a b w2 HI2.out).mono ?_
  rintro e w3 ⟨A, c, rfl, hp, hb3⟩
  have HA3 : Hid (Aw w a b w1.heap.size A w3) := ⟨InT.mono hb3.size _ (InT.below hb3 _ HI2.out), HN2.out.below hb3 hz, hp, HB2.out.trans (hb3.mono HB2.out.size)⟩
  obtain ⟨c0, c1, c2, c3, c4⟩ := HA3.out.cells
  clear hp hb3 hz
  go_wp2_with (fail)
  have HA4 := Lib.hid (HA3.out.later ((Below.refl w3.heap.size w3).alloc (Nat.le_refl _) (.cells #[.int .i64 1] 3)))
  refine (ex_number_any a b w3.heap.size _ HA4.out.tree (irow_new w3 [1] _ rfl)).mono ?_
  rintro e w5 ⟨rfl, hb5⟩
  have HA5 := Lib.hid (HA4.out.later hb5)
  clear c0 c1 c2 c3 c4 hb5 HA4
  obtain ⟨c0, c1, c2, c3, c4⟩ := HA5.out.cells
  go_wp2_with (fail)
  refine (ex_find_any a b w5 HA5.out.tree).mono ?_
  rintro e w6 ⟨rfl, hb6⟩
  have HA6 := Lib.hid (HA5.out.later hb6)
  clear c0 c1 c2 c3 c4 hb6
  obtain ⟨c0, c1, c2, c3, c4⟩ := HA6.out.cells
  go_wp2_with (fail)
  have HD := Lib.hid (show Aw w a b w1.heap.size A w6.drew from HA6.out.later (Below.refl w6.heap.size w6).drew)
  go_region_held3 (fun w' => w'.cell? ⟨w1.heap.size, 0, none⟩ = some (.int .i64 29) ∧ w'.cell? ⟨w1.heap.size, 1, none⟩ = some (.string ⟨#[43]⟩) ∧ w'.cell? ⟨w1.heap.size, 2, none⟩ = some (.int .i64 0) ∧ w'.cell? ⟨w1.heap.size, 3, none⟩ = some (.int .i64 6) ∧ w'.cell? ⟨w1.heap.size, 4, none⟩ = some (.slice (some ⟨b, 0, none⟩) 2 2)) (first | exact HS14.out | exact HS13.out | exact HS12.out | exact HS11.out | exact HY10.out | exact HS10.out | exact HS9.out | exact HS8.out | exact HS7.out | go_keep) ((first | (go_at_call 14; refine (ex_expr_any a b _ HD.out.tree).mono ?_; rintro e w7 ⟨rfl, hb⟩; have HA7 := Lib.hid (HD.out.later hb); have HS7 := Lib.hid HA7.out.cells; clear hb) | (go_at_call 12; refine (ex_valid_any a b _ HA7.out.tree).mono ?_; rintro e w8 ⟨rfl, hb⟩; have HA8 := Lib.hid (HA7.out.later hb); have HS8 := Lib.hid HA8.out.cells; clear hb) | (go_at_call 28; refine (ex_count_any a b _ HA8.out.tree).mono ?_; rintro e w9 ⟨rfl, hb⟩; have HA9 := Lib.hid (HA8.out.later hb); have HS9 := Lib.hid HA9.out.cells; clear hb) | (go_at_call 30; refine (ex_levels_any a b _ HA9.out.tree).mono ?_; rintro e w10 ⟨rfl, hb⟩; have HA10 := Lib.hid (HA9.out.later hb); have HS10 := Lib.hid HA10.out.cells; have HX10 := Lib.hid (HA10.out.later ((Below.refl w10.heap.size w10).alloc (Nat.le_refl _) (.cells #[.int .i64 0, .int .i64 0] 3))); have HY10 := Lib.hid HX10.out.cells; clear hb) | (go_at_call 33; refine (ex_ints_any A (some ⟨w10.heap.size, 0, none⟩) c 2 _ HX10.out.path (irow_new w10 [0, 0] _ rfl)).mono ?_; rintro e w11 ⟨rfl, hb⟩; have HA11 := Lib.hid (HX10.out.later hb); have HS11 := Lib.hid HA11.out.cells; clear hb) | (go_at_call 18; refine (ex_list_any _).mono ?_; rintro e w12 ⟨rfl, hb⟩; have HA12 := Lib.hid (HA11.out.later hb); have HS12 := Lib.hid HA12.out.cells; clear hb) | (go_at_call 38; refine (ex_bare_any a b _ HA12.out.tree).mono ?_; rintro e w13 ⟨m, rfl, hm, hs, hb⟩; have HA13 := Lib.hid (HA12.out.later hb); have HS13 := Lib.hid HA13.out.cells; have HM := Lib.hid hm; have HS := Lib.hid hs; clear hm hs; clear hb) | (go_at_call 36; refine (ex_same_any a b m _ HA13.out.tree HM.out HS.out).mono ?_; rintro e w14 ⟨rfl, hb⟩; have HA14 := Lib.hid (HA13.out.later hb); have HS14 := Lib.hid HA14.out.cells; clear hb)))
  go_wp2_with (fail)
  go_ret
  exact ⟨rfl, HA14.out.below⟩
end Go.Proofs.Ytjikfdifcpdhhaa
