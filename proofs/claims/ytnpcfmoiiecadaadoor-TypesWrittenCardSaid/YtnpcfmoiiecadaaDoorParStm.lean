/- What is proved: the reference's parser: expression; branch; statements. -/
import Derived.Test.YtnpcfmoiiecadaaDoorParBin
set_option linter.unusedVariables false
namespace Go.Proofs.YtnpcfmoiiecadaaDoor.Par
open Go.RowKit
open Lx (Tok)

theorem ex_ok {B0 bp : Nat} {E : Env} (hfin : E.Fin) {R : Rec} (hex : ExOK B0 bp E R) : ExOK B0 bp E (stp E R) := by
  intro lvl p w m q h1 h7 hm h
  have hm' : exS E R lvl p = some (m, q) := hm
  have hc : lvl = 3 ∨ lvl = 7 ∨ lvlB lvl := by unfold lvlB; omega
  rcases hc with rfl | rfl | hl
  · cases hx : isW E p (⟨#[110, 111, 116]⟩ : ByteArray) with
    | true =>
      simp only [exS, hx, if_true, Option.map_eq_some_iff] at hm'
      obtain ⟨⟨x1, q1⟩, hy, he⟩ := hm'
      cases he
      exact ex_not h hex hx x1 _ hy
    | false =>
      simp only [exS, hx, Bool.false_eq_true, if_false, if_true] at hm'
      exact ex3_no h hex hx m q hm'
  · cases hx : isW E p (⟨#[45]⟩ : ByteArray) with
    | true =>
      simp only [exS, hx, if_true, Nat.reduceEqDiff, if_false, Option.map_eq_some_iff] at hm'
      obtain ⟨⟨x1, q1⟩, hy, he⟩ := hm'
      cases he
      exact ex_neg h hex hx x1 _ hy
    | false =>
      simp only [exS, hx, Bool.false_eq_true, if_false, Nat.reduceEqDiff, if_true] at hm'
      exact ex7_no h hex hfin hx m q hm'
  · have n3 : ¬ lvl = 3 := by unfold lvlB at hl; omega
    have n7 : ¬ lvl = 7 := by unfold lvlB at hl; omega
    simp only [exS, if_neg n3, if_neg n7] at hm'
    cases hr : R.ex (lvl + 1) p with
    | none => rw [hr] at hm'; simp at hm'
    | some y =>
      rw [hr] at hm'
      have hb : binL E R lvl p.k (fuel E) y.1 y.2 = some (m, q) := by simpa using hm'
      have hw : IntKind.i64.wrap (((lvl + 1 : Nat)) : Int) = ((lvl + 1 : Nat) : Int) := IntWalk.i64_in _ ⟨by omega, by omega⟩
      have q3 : (((lvl : Nat) : Int) == 3) = false := by simp; omega
      have q7 : (((lvl : Nat) : Int) == 7) = false := by simp; omega
      have h6 : lvl ≤ 6 := by unfold lvlB at hl; omega
      by_cases h4 : lvl = 4
      · exact bin_once h hex lvl (lvl + 1) hl h6 h4 (by simp; omega) q3 q7 rfl (by omega) hw y.1 y.2 hr m q hb
      · exact bin_many h hex lvl (lvl + 1) hl h6 h4 (by simp; omega) q3 q7 rfl (by omega) hw y.1 y.2 hr m q hb
set_option maxHeartbeats 4000000 in
set_option maxRecDepth 100000 in
theorem br_none {B0 bp : Nat} {E : Env} {w : World} {p : St} (h : PIs B0 bp E w p) {R : Rec} (hex : ExOK B0 bp E R) (hbk : BlkOK B0 bp E R) (hbr : BrOK B0 bp E R) (h5 : knd E p ≠ 5) (c1 : NT) (q1 : St) (hc : R.ex 1 (rd E p) = some (c1, q1)) (b1 : NT) (q2 : St) (hb : R.blk q1 = some (b1, q2)) (he : isW E q2 (⟨#[101, 108, 115, 101]⟩ : ByteArray) = false) :
    Calls Tryd.prog 71 #[ptr bp] w fun e w' => Got B0 bp w.heap.size E w (mkN E q2 p.k 14 (⟨#[]⟩ : ByteArray) [c1, b1, mkN E q2 q2.k 0 (⟨#[]⟩ : ByteArray) []]) (q2) e w' := by
  have HF := Lib.hid h.ok.1
  have HB0 := Lib.hid h.b0
  have HP := Lib.hid h
  clear h
  unfold ptr at *
  go_enter Tryd.func71, Tryd.ntmps71
  have hb0 := (Below.refl w.heap.size w).alloc (Nat.le_refl _) (.cells #[.int .i64 0, .string ⟨#[]⟩, .int .i64 0, .int .i64 0, .slice none 0 0] 31)
  have hz0 : ZB (w.alloc (.cells #[.int .i64 0, .string ⟨#[]⟩, .int .i64 0, .int .i64 0, .slice none 0 0] 31)) w.heap.size := heap_alloc_new w _
  have hs0 : (w.alloc (.cells #[.int .i64 0, .string ⟨#[]⟩, .int .i64 0, .int .i64 0, .slice none 0 0] 31)).heap.size = w.heap.size + 1 := World.size_alloc _ _
  have HP0 := Lib.hid (HP.out.later hb0)
  have HF0 := Lib.hid (Fr.of_below hb0 HB0.out)
  have HZ0 := Lib.hid hz0
  have HS0 := Lib.hid (show w.heap.size + 1 ≤ (w.alloc (.cells #[.int .i64 0, .string ⟨#[]⟩, .int .i64 0, .int .i64 0, .slice none 0 0] 31)).heap.size by rw [hs0]; omega)
  have c0 := HP0.out.c2
  clear hb0 hz0 hs0
  go_wp2_with (fail)
  clear c0
  generalize (w.alloc (.cells #[.int .i64 0, .string ⟨#[]⟩, .int .i64 0, .int .i64 0, .slice none 0 0] 31)) = w0 at *
  refine (read_any HP0.out h5).mono ?_
  rintro e w1 ⟨rfl, hp1, hf1⟩
  have HP1 := Lib.hid hp1
  clear hp1
  have HF1 := Lib.hid (HF0.out.trans hf1)
  have HZ1 := Lib.hid (HZ0.out.fr hf1)
  have HS1 := Lib.hid (Nat.le_trans HS0.out hf1.below.size)
  clear HF0 HZ0
  clear hf1
  have c1 := HP1.out.c2
  go_wp2_with (fail)
  clear c1
  refine (hex 1 _ _ _ _ (by decide) (by decide) hc HP1.out).mono ?_
  rintro e w2 ⟨x, rfl, hst2, hin2, hp2, hf2⟩
  have HP2 := Lib.hid hp2
  have HST_x := Lib.hid hst2
  have HIN_x_2 := Lib.hid (InF.mono hin2 HS1.out)
  clear hp2 hst2 hin2
  have HF2 := Lib.hid (HF1.out.trans hf2)
  have HZ2 := Lib.hid (HZ1.out.fr hf2)
  have HS2 := Lib.hid (Nat.le_trans HS1.out hf2.below.size)
  clear HF1 HZ1
  clear hf2
  have c2 := HP2.out.c2
  have cA := (HP2.out.later ((Below.refl w2.heap.size w2).alloc (by simp) (.cells #[.int .i64 x.kind, .string x.text, .int .i64 x.lo, .int .i64 x.hi, .slice x.A x.kids.length x.c] 31))).c2
  go_wp2_with (fail)
  clear c2 cA
  have hbA : Below w2.heap.size w2 (w2.alloc (.cells #[.int .i64 x.kind, .string x.text, .int .i64 x.lo, .int .i64 x.hi, .slice x.A x.kids.length x.c] 31)) := ((Below.refl w2.heap.size w2).alloc (by simp) (.cells #[.int .i64 x.kind, .string x.text, .int .i64 x.lo, .int .i64 x.hi, .slice x.A x.kids.length x.c] 31))
  have hnb0 : (w2.alloc (.cells #[.int .i64 x.kind, .string x.text, .int .i64 x.lo, .int .i64 x.hi, .slice x.A x.kids.length x.c] 31)).heap[w2.heap.size]? = some (.cells #[.int .i64 x.kind, .string x.text, .int .i64 x.lo, .int .i64 x.hi, .slice x.A x.kids.length x.c] 31 (0, 0)) := by
    have hx := heap_alloc_new w2 (.cells #[.int .i64 x.kind, .string x.text, .int .i64 x.lo, .int .i64 x.hi, .slice x.A x.kids.length x.c] 31)
    exact hx
  have HP3 := Lib.hid (HP2.out.later hbA)
  have hf3 := Fr.of_below hbA HP2.out.b0
  have HNV_x_3 := Lib.hid (show NV (w2.alloc (.cells #[.int .i64 x.kind, .string x.text, .int .i64 x.lo, .int .i64 x.hi, .slice x.A x.kids.length x.c] 31)) (w2.heap.size) x from hnb0)
  have HF3 := Lib.hid (HF2.out.trans hf3)
  have HZ3 := Lib.hid (HZ2.out.fr hf3)
  have HS3 := Lib.hid (Nat.le_trans HS2.out hf3.below.size)
  have HIN_x_3 := Lib.hid (HIN_x_2.out.fr hf3)
  clear HF2 HZ2 HIN_x_2
  clear hbA hf3 hnb0
  generalize (w2.alloc (.cells #[.int .i64 x.kind, .string x.text, .int .i64 x.lo, .int .i64 x.hi, .slice x.A x.kids.length x.c] 31)) = w3 at *
  refine (hbk _ _ _ _ hb HP3.out).mono ?_
  rintro e w4 ⟨y, rfl, hst4, hin4, hp4, hf4⟩
  have HP4 := Lib.hid hp4
  have HST_y := Lib.hid hst4
  have HIN_y_4 := Lib.hid (InF.mono hin4 HS3.out)
  clear hp4 hst4 hin4
  have HF4 := Lib.hid (HF3.out.trans hf4)
  have HZ4 := Lib.hid (HZ3.out.fr hf4)
  have HS4 := Lib.hid (Nat.le_trans HS3.out hf4.below.size)
  have HIN_x_4 := Lib.hid (HIN_x_3.out.fr hf4)
  have HNV_x_4 := Lib.hid (HNV_x_3.out.fr hf4)
  clear HF3 HZ3 HIN_x_3 HNV_x_3
  clear hf4
  have c4 := HP4.out.c2
  obtain ⟨b0_x, b1_x, b2_x, b3_x, b4_x⟩ := HNV_x_4.out.cells
  have cA := (HP4.out.later ((Below.refl w4.heap.size w4).alloc (by simp) (.cells #[.int .i64 y.kind, .string y.text, .int .i64 y.lo, .int .i64 y.hi, .slice y.A y.kids.length y.c] 31))).c2
  go_wp2_with (fail)
  clear b0_x b1_x b2_x b3_x b4_x
  clear c4 cA
  have hbA : Below w4.heap.size w4 (w4.alloc (.cells #[.int .i64 y.kind, .string y.text, .int .i64 y.lo, .int .i64 y.hi, .slice y.A y.kids.length y.c] 31)) := ((Below.refl w4.heap.size w4).alloc (by simp) (.cells #[.int .i64 y.kind, .string y.text, .int .i64 y.lo, .int .i64 y.hi, .slice y.A y.kids.length y.c] 31))
  have hnb0 : (w4.alloc (.cells #[.int .i64 y.kind, .string y.text, .int .i64 y.lo, .int .i64 y.hi, .slice y.A y.kids.length y.c] 31)).heap[w4.heap.size]? = some (.cells #[.int .i64 y.kind, .string y.text, .int .i64 y.lo, .int .i64 y.hi, .slice y.A y.kids.length y.c] 31 (0, 0)) := by
    have hx := heap_alloc_new w4 (.cells #[.int .i64 y.kind, .string y.text, .int .i64 y.lo, .int .i64 y.hi, .slice y.A y.kids.length y.c] 31)
    exact hx
  have HP5 := Lib.hid (HP4.out.later hbA)
  have hf5 := Fr.of_below hbA HP4.out.b0
  have HNV_y_5 := Lib.hid (show NV (w4.alloc (.cells #[.int .i64 y.kind, .string y.text, .int .i64 y.lo, .int .i64 y.hi, .slice y.A y.kids.length y.c] 31)) (w4.heap.size) y from hnb0)
  have HF5 := Lib.hid (HF4.out.trans hf5)
  have HZ5 := Lib.hid (HZ4.out.fr hf5)
  have HS5 := Lib.hid (Nat.le_trans HS4.out hf5.below.size)
  have HIN_x_5 := Lib.hid (HIN_x_4.out.fr hf5)
  have HIN_y_5 := Lib.hid (HIN_y_4.out.fr hf5)
  have HNV_x_5 := Lib.hid (HNV_x_4.out.fr hf5)
  clear HF4 HZ4 HIN_x_4 HIN_y_4 HNV_x_4
  clear hbA hf5 hnb0
  generalize (w4.alloc (.cells #[.int .i64 y.kind, .string y.text, .int .i64 y.lo, .int .i64 y.hi, .slice y.A y.kids.length y.c] 31)) = w5 at *
  refine (node_leaf HP5.out (w.heap.size + 1) q2.k 0 (⟨#[]⟩ : ByteArray) HP5.out.ok.1).mono ?_
  rintro e w6 ⟨z, rfl, hst6, hin6, hp6, hf6⟩
  have HP6 := Lib.hid hp6
  have HST_z := Lib.hid hst6
  have HIN_z_6 := Lib.hid hin6
  clear hp6 hst6 hin6
  have HF6 := Lib.hid (HF5.out.trans hf6)
  have HZ6 := Lib.hid (HZ5.out.fr hf6)
  have HS6 := Lib.hid (Nat.le_trans HS5.out hf6.below.size)
  have HIN_x_6 := Lib.hid (HIN_x_5.out.fr hf6)
  have HIN_y_6 := Lib.hid (HIN_y_5.out.fr hf6)
  have HNV_x_6 := Lib.hid (HNV_x_5.out.fr hf6)
  have HNV_y_6 := Lib.hid (HNV_y_5.out.fr hf6)
  clear HF5 HZ5 HIN_x_5 HIN_y_5 HNV_x_5 HNV_y_5
  clear hf6
  have c6 := HP6.out.c2
  obtain ⟨b0_x, b1_x, b2_x, b3_x, b4_x⟩ := HNV_x_6.out.cells
  obtain ⟨b0_y, b1_y, b2_y, b3_y, b4_y⟩ := HNV_y_6.out.cells
  have cA := (HP6.out.later ((Below.refl w6.heap.size w6).alloc (by simp) (.cells #[.int .i64 z.kind, .string z.text, .int .i64 z.lo, .int .i64 z.hi, .slice z.A z.kids.length z.c] 31))).c2
  go_wp2_with (fail)
  clear b0_x b1_x b2_x b3_x b4_x
  clear b0_y b1_y b2_y b3_y b4_y
  clear c6 cA
  have hbA : Below w6.heap.size w6 (w6.alloc (.cells #[.int .i64 z.kind, .string z.text, .int .i64 z.lo, .int .i64 z.hi, .slice z.A z.kids.length z.c] 31)) := ((Below.refl w6.heap.size w6).alloc (by simp) (.cells #[.int .i64 z.kind, .string z.text, .int .i64 z.lo, .int .i64 z.hi, .slice z.A z.kids.length z.c] 31))
  have hnb0 : (w6.alloc (.cells #[.int .i64 z.kind, .string z.text, .int .i64 z.lo, .int .i64 z.hi, .slice z.A z.kids.length z.c] 31)).heap[w6.heap.size]? = some (.cells #[.int .i64 z.kind, .string z.text, .int .i64 z.lo, .int .i64 z.hi, .slice z.A z.kids.length z.c] 31 (0, 0)) := by
    have hx := heap_alloc_new w6 (.cells #[.int .i64 z.kind, .string z.text, .int .i64 z.lo, .int .i64 z.hi, .slice z.A z.kids.length z.c] 31)
    exact hx
  have HP7 := Lib.hid (HP6.out.later hbA)
  have hf7 := Fr.of_below hbA HP6.out.b0
  have HNV_z_7 := Lib.hid (show NV (w6.alloc (.cells #[.int .i64 z.kind, .string z.text, .int .i64 z.lo, .int .i64 z.hi, .slice z.A z.kids.length z.c] 31)) (w6.heap.size) z from hnb0)
  have HF7 := Lib.hid (HF6.out.trans hf7)
  have HZ7 := Lib.hid (HZ6.out.fr hf7)
  have HS7 := Lib.hid (Nat.le_trans HS6.out hf7.below.size)
  have HIN_x_7 := Lib.hid (HIN_x_6.out.fr hf7)
  have HIN_y_7 := Lib.hid (HIN_y_6.out.fr hf7)
  have HIN_z_7 := Lib.hid (HIN_z_6.out.fr hf7)
  have HNV_x_7 := Lib.hid (HNV_x_6.out.fr hf7)
  have HNV_y_7 := Lib.hid (HNV_y_6.out.fr hf7)
  clear HF6 HZ6 HIN_x_6 HIN_y_6 HIN_z_6 HNV_x_6 HNV_y_6
  clear hbA hf7 hnb0
  generalize (w6.alloc (.cells #[.int .i64 z.kind, .string z.text, .int .i64 z.lo, .int .i64 z.hi, .slice z.A z.kids.length z.c] 31)) = w7 at *
  refine (accept_no HP7.out he).mono ?_
  rintro e w8 ⟨rfl, hp8, hf8⟩
  have HP8 := Lib.hid hp8
  clear hp8
  have HF8 := Lib.hid (HF7.out.trans hf8)
  have HZ8 := Lib.hid (HZ7.out.fr hf8)
  have HS8 := Lib.hid (Nat.le_trans HS7.out hf8.below.size)
  have HIN_x_8 := Lib.hid (HIN_x_7.out.fr hf8)
  have HIN_y_8 := Lib.hid (HIN_y_7.out.fr hf8)
  have HIN_z_8 := Lib.hid (HIN_z_7.out.fr hf8)
  have HNV_x_8 := Lib.hid (HNV_x_7.out.fr hf8)
  have HNV_y_8 := Lib.hid (HNV_y_7.out.fr hf8)
  have HNV_z_8 := Lib.hid (HNV_z_7.out.fr hf8)
  clear HF7 HZ7 HIN_x_7 HIN_y_7 HIN_z_7 HNV_x_7 HNV_y_7 HNV_z_7
  clear hf8
  have c8 := HP8.out.c2
  obtain ⟨b0_x, b1_x, b2_x, b3_x, b4_x⟩ := HNV_x_8.out.cells
  obtain ⟨b0_y, b1_y, b2_y, b3_y, b4_y⟩ := HNV_y_8.out.cells
  obtain ⟨b0_z, b1_z, b2_z, b3_z, b4_z⟩ := HNV_z_8.out.cells
  go_wp2_with (fail)
  clear b0_x b1_x b2_x b3_x b4_x
  clear b0_y b1_y b2_y b3_y b4_y
  clear b0_z b1_z b2_z b3_z b4_z
  clear c8
  have hbA : Below w8.heap.size w8 (w8.alloc (.cells #[.int .i64 x.kind, .string x.text, .int .i64 x.lo, .int .i64 x.hi, .slice x.A x.kids.length x.c, .int .i64 y.kind, .string y.text, .int .i64 y.lo, .int .i64 y.hi, .slice y.A y.kids.length y.c, .int .i64 z.kind, .string z.text, .int .i64 z.lo, .int .i64 z.hi, .slice z.A z.kids.length z.c] 31)) := ((Below.refl w8.heap.size w8).alloc (by simp) (.cells #[.int .i64 x.kind, .string x.text, .int .i64 x.lo, .int .i64 x.hi, .slice x.A x.kids.length x.c, .int .i64 y.kind, .string y.text, .int .i64 y.lo, .int .i64 y.hi, .slice y.A y.kids.length y.c, .int .i64 z.kind, .string z.text, .int .i64 z.lo, .int .i64 z.hi, .slice z.A z.kids.length z.c] 31))
  have hnb0 : (w8.alloc (.cells #[.int .i64 x.kind, .string x.text, .int .i64 x.lo, .int .i64 x.hi, .slice x.A x.kids.length x.c, .int .i64 y.kind, .string y.text, .int .i64 y.lo, .int .i64 y.hi, .slice y.A y.kids.length y.c, .int .i64 z.kind, .string z.text, .int .i64 z.lo, .int .i64 z.hi, .slice z.A z.kids.length z.c] 31)).heap[w8.heap.size]? = some (.cells #[.int .i64 x.kind, .string x.text, .int .i64 x.lo, .int .i64 x.hi, .slice x.A x.kids.length x.c, .int .i64 y.kind, .string y.text, .int .i64 y.lo, .int .i64 y.hi, .slice y.A y.kids.length y.c, .int .i64 z.kind, .string z.text, .int .i64 z.lo, .int .i64 z.hi, .slice z.A z.kids.length z.c] 31 (0, 0)) := by
    have hx := heap_alloc_new w8 (.cells #[.int .i64 x.kind, .string x.text, .int .i64 x.lo, .int .i64 x.hi, .slice x.A x.kids.length x.c, .int .i64 y.kind, .string y.text, .int .i64 y.lo, .int .i64 y.hi, .slice y.A y.kids.length y.c, .int .i64 z.kind, .string z.text, .int .i64 z.lo, .int .i64 z.hi, .slice z.A z.kids.length z.c] 31)
    exact hx
  have HP9 := Lib.hid (HP8.out.later hbA)
  have hf9 := Fr.of_below hbA HP8.out.b0
  have HK_9 := Lib.hid (kin_block (lo := w.heap.size + 1) (c := 3) (ks := [x, y, z]) hnb0 (fun j _ => by simp [ncl]) (by have := HS8.out; omega) (Nat.le_refl _) (fun k hk => by
    simp only [List.mem_cons, List.not_mem_nil, or_false] at hk
    rcases hk with rfl | rfl | rfl
    · exact HIN_x_8.out.fr hf9
    · exact HIN_y_8.out.fr hf9
    · exact HIN_z_8.out.fr hf9))
  have HF9 := Lib.hid (HF8.out.trans hf9)
  have HZ9 := Lib.hid (HZ8.out.fr hf9)
  have HS9 := Lib.hid (Nat.le_trans HS8.out hf9.below.size)
  have HIN_x_9 := Lib.hid (HIN_x_8.out.fr hf9)
  have HIN_y_9 := Lib.hid (HIN_y_8.out.fr hf9)
  have HIN_z_9 := Lib.hid (HIN_z_8.out.fr hf9)
  have HNV_x_9 := Lib.hid (HNV_x_8.out.fr hf9)
  have HNV_y_9 := Lib.hid (HNV_y_8.out.fr hf9)
  have HNV_z_9 := Lib.hid (HNV_z_8.out.fr hf9)
  clear HF8 HZ8 HIN_x_8 HIN_y_8 HIN_z_8 HNV_x_8 HNV_y_8 HNV_z_8
  clear hbA hf9 hnb0
  generalize (w8.alloc (.cells #[.int .i64 x.kind, .string x.text, .int .i64 x.lo, .int .i64 x.hi, .slice x.A x.kids.length x.c, .int .i64 y.kind, .string y.text, .int .i64 y.lo, .int .i64 y.hi, .slice y.A y.kids.length y.c, .int .i64 z.kind, .string z.text, .int .i64 z.lo, .int .i64 z.hi, .slice z.A z.kids.length z.c] 31)) = w9 at *
  refine (node_kids HP9.out p.k 14 (⟨#[]⟩ : ByteArray) _ 3 [x, y, z] [c1, b1, (mkN E q2 q2.k 0 (⟨#[]⟩ : ByteArray) [])] HF.out HK_9.out (by simp only [List.map_cons, List.map_nil, HST_x.out, HST_y.out, HST_z.out])).mono ?_
  rintro e w10 ⟨m, rfl, hst10, hin10, hp10, hf10⟩
  have HP10 := Lib.hid hp10
  have HST_m := Lib.hid hst10
  have HIN_m_10 := Lib.hid hin10
  clear hp10 hst10 hin10
  have HF10 := Lib.hid (HF9.out.trans hf10)
  have HZ10 := Lib.hid (HZ9.out.fr hf10)
  have HS10 := Lib.hid (Nat.le_trans HS9.out hf10.below.size)
  have HIN_x_10 := Lib.hid (HIN_x_9.out.fr hf10)
  have HIN_y_10 := Lib.hid (HIN_y_9.out.fr hf10)
  have HIN_z_10 := Lib.hid (HIN_z_9.out.fr hf10)
  have HNV_x_10 := Lib.hid (HNV_x_9.out.fr hf10)
  have HNV_y_10 := Lib.hid (HNV_y_9.out.fr hf10)
  have HNV_z_10 := Lib.hid (HNV_z_9.out.fr hf10)
  clear HF9 HZ9 HIN_x_9 HIN_y_9 HIN_z_9 HNV_x_9 HNV_y_9 HNV_z_9
  clear hf10
  obtain ⟨z0, z1, z2, z3, z4⟩ := HZ10.out.cells
  have y0 := HZ10.out.frozen 0
  have y1 := HZ10.out.frozen 1
  have y2 := HZ10.out.frozen 2
  have y3 := HZ10.out.frozen 3
  have y4 := HZ10.out.frozen 4
  obtain ⟨b0_x, b1_x, b2_x, b3_x, b4_x⟩ := HNV_x_10.out.cells
  obtain ⟨b0_y, b1_y, b2_y, b3_y, b4_y⟩ := HNV_y_10.out.cells
  obtain ⟨b0_z, b1_z, b2_z, b3_z, b4_z⟩ := HNV_z_10.out.cells
  go_wp2_with (fail)
  clear b0_x b1_x b2_x b3_x b4_x
  clear b0_y b1_y b2_y b3_y b4_y
  clear b0_z b1_z b2_z b3_z b4_z
  obtain ⟨hV, hin, hp, hf⟩ := got_put (w := w) (w2 := w10) (n := m) HB0.out HZ10.out (Nat.le_refl _) HIN_m_10.out HP10.out HF10.out
  clear z0 z1 z2 z3 z4 y0 y1 y2 y3 y4
  dsimp only [putN] at hV hin hp hf
  generalize (((((w10.setCell ⟨w.heap.size, 0, none⟩ (.int .i64 m.kind)).setCell ⟨w.heap.size, 1, none⟩ (.string m.text)).setCell ⟨w.heap.size, 2, none⟩ (.int .i64 m.lo)).setCell ⟨w.heap.size, 3, none⟩ (.int .i64 m.hi)).setCell ⟨w.heap.size, 4, none⟩ (.slice m.A m.kids.length m.c)) = V at *
  have v0 := Lib.cell_of_heap hV 0
  have v1 := Lib.cell_of_heap hV 1
  have v2 := Lib.cell_of_heap hV 2
  have v3 := Lib.cell_of_heap hV 3
  have v4 := Lib.cell_of_heap hV 4
  exact bodyPost_ret (v := .agg #[.int .i64 m.kind, .string m.text, .int .i64 m.lo, .int .i64 m.hi, .slice m.A m.kids.length m.c]) (by simp [results, Tryd.results71, go_sem, v0, v1, v2, v3, v4]) rfl ⟨m, rfl, HST_m.out, hin, hp, hf⟩
set_option maxHeartbeats 4000000 in
set_option maxRecDepth 100000 in
theorem st_var {B0 bp : Nat} {E : Env} {w : World} {p : St} (h : PIs B0 bp E w p) {R : Rec} (hex : ExOK B0 bp E R) (hbk : BlkOK B0 bp E R) (hbr : BrOK B0 bp E R) (h1 : isW E p (⟨#[118, 97, 114]⟩ : ByteArray) = true) (x1 : NT) (q1 : St) (hx : R.ex 1 (exq E (opt E (nam E (rd E p)).2).2 (⟨#[61]⟩ : ByteArray)) = some (x1, q1)) :
    Calls Tryd.prog 65 #[ptr bp] w fun e w' => Got B0 bp w.heap.size E w (mkN E (exq E q1 (⟨#[59]⟩ : ByteArray)) p.k 12 (nam E (rd E p)).1 [(opt E (nam E (rd E p)).2).1, x1]) (exq E q1 (⟨#[59]⟩ : ByteArray)) e w' := by
  have HF := Lib.hid h.ok.1
  have HB0 := Lib.hid h.b0
  have HP := Lib.hid h
  clear h
  unfold ptr at *
  go_enter Tryd.func65, Tryd.ntmps65
  have hb0 := (Below.refl w.heap.size w).alloc (Nat.le_refl _) (.cells #[.int .i64 0, .string ⟨#[]⟩, .int .i64 0, .int .i64 0, .slice none 0 0] 31)
  have hz0 : ZB (w.alloc (.cells #[.int .i64 0, .string ⟨#[]⟩, .int .i64 0, .int .i64 0, .slice none 0 0] 31)) w.heap.size := heap_alloc_new w _
  have hs0 : (w.alloc (.cells #[.int .i64 0, .string ⟨#[]⟩, .int .i64 0, .int .i64 0, .slice none 0 0] 31)).heap.size = w.heap.size + 1 := World.size_alloc _ _
  have HP0 := Lib.hid (HP.out.later hb0)
  have HF0 := Lib.hid (Fr.of_below hb0 HB0.out)
  have HZ0 := Lib.hid hz0
  have HS0 := Lib.hid (show w.heap.size + 1 ≤ (w.alloc (.cells #[.int .i64 0, .string ⟨#[]⟩, .int .i64 0, .int .i64 0, .slice none 0 0] 31)).heap.size by rw [hs0]; omega)
  have c0 := HP0.out.c2
  clear hb0 hz0 hs0
  go_wp2_with (fail)
  clear c0
  generalize (w.alloc (.cells #[.int .i64 0, .string ⟨#[]⟩, .int .i64 0, .int .i64 0, .slice none 0 0] 31)) = w0 at *
  refine (accept_yes HP0.out h1).mono ?_
  rintro e w1 ⟨rfl, hp1, hf1⟩
  have HP1 := Lib.hid hp1
  clear hp1
  have HF1 := Lib.hid (HF0.out.trans hf1)
  have HZ1 := Lib.hid (HZ0.out.fr hf1)
  have HS1 := Lib.hid (Nat.le_trans HS0.out hf1.below.size)
  clear HF0 HZ0
  clear hf1
  have c1 := HP1.out.c2
  go_wp2_with (fail)
  clear c1
  refine (name_any HP1.out).mono ?_
  rintro e w2 ⟨rfl, hp2, hf2⟩
  have HP2 := Lib.hid hp2
  clear hp2
  have HF2 := Lib.hid (HF1.out.trans hf2)
  have HZ2 := Lib.hid (HZ1.out.fr hf2)
  have HS2 := Lib.hid (Nat.le_trans HS1.out hf2.below.size)
  clear HF1 HZ1
  clear hf2
  have c2 := HP2.out.c2
  go_wp2_with (fail)
  clear c2
  refine (opt_any HP2.out).mono ?_
  rintro e w3 ⟨t, rfl, hst3, hin3, hp3, hf3⟩
  have HP3 := Lib.hid hp3
  have HST_t := Lib.hid hst3
  have HIN_t_3 := Lib.hid (InF.mono hin3 HS2.out)
  clear hp3 hst3 hin3
  have HF3 := Lib.hid (HF2.out.trans hf3)
  have HZ3 := Lib.hid (HZ2.out.fr hf3)
  have HS3 := Lib.hid (Nat.le_trans HS2.out hf3.below.size)
  clear HF2 HZ2
  clear hf3
  have c3 := HP3.out.c2
  have cA := (HP3.out.later ((Below.refl w3.heap.size w3).alloc (by simp) (.cells #[.int .i64 t.kind, .string t.text, .int .i64 t.lo, .int .i64 t.hi, .slice t.A t.kids.length t.c] 31))).c2
  go_wp2_with (fail)
  clear c3 cA
  have hbA : Below w3.heap.size w3 (w3.alloc (.cells #[.int .i64 t.kind, .string t.text, .int .i64 t.lo, .int .i64 t.hi, .slice t.A t.kids.length t.c] 31)) := ((Below.refl w3.heap.size w3).alloc (by simp) (.cells #[.int .i64 t.kind, .string t.text, .int .i64 t.lo, .int .i64 t.hi, .slice t.A t.kids.length t.c] 31))
  have hnb0 : (w3.alloc (.cells #[.int .i64 t.kind, .string t.text, .int .i64 t.lo, .int .i64 t.hi, .slice t.A t.kids.length t.c] 31)).heap[w3.heap.size]? = some (.cells #[.int .i64 t.kind, .string t.text, .int .i64 t.lo, .int .i64 t.hi, .slice t.A t.kids.length t.c] 31 (0, 0)) := by
    have hx := heap_alloc_new w3 (.cells #[.int .i64 t.kind, .string t.text, .int .i64 t.lo, .int .i64 t.hi, .slice t.A t.kids.length t.c] 31)
    exact hx
  have HP4 := Lib.hid (HP3.out.later hbA)
  have hf4 := Fr.of_below hbA HP3.out.b0
  have HNV_t_4 := Lib.hid (show NV (w3.alloc (.cells #[.int .i64 t.kind, .string t.text, .int .i64 t.lo, .int .i64 t.hi, .slice t.A t.kids.length t.c] 31)) (w3.heap.size) t from hnb0)
  have HF4 := Lib.hid (HF3.out.trans hf4)
  have HZ4 := Lib.hid (HZ3.out.fr hf4)
  have HS4 := Lib.hid (Nat.le_trans HS3.out hf4.below.size)
  have HIN_t_4 := Lib.hid (HIN_t_3.out.fr hf4)
  clear HF3 HZ3 HIN_t_3
  clear hbA hf4 hnb0
  generalize (w3.alloc (.cells #[.int .i64 t.kind, .string t.text, .int .i64 t.lo, .int .i64 t.hi, .slice t.A t.kids.length t.c] 31)) = w4 at *
  refine (expect_any HP4.out (⟨#[61]⟩ : ByteArray)).mono ?_
  rintro e w5 ⟨rfl, hp5, hf5⟩
  have HP5 := Lib.hid hp5
  clear hp5
  have HF5 := Lib.hid (HF4.out.trans hf5)
  have HZ5 := Lib.hid (HZ4.out.fr hf5)
  have HS5 := Lib.hid (Nat.le_trans HS4.out hf5.below.size)
  have HIN_t_5 := Lib.hid (HIN_t_4.out.fr hf5)
  have HNV_t_5 := Lib.hid (HNV_t_4.out.fr hf5)
  clear HF4 HZ4 HIN_t_4 HNV_t_4
  clear hf5
  have c5 := HP5.out.c2
  obtain ⟨b0_t, b1_t, b2_t, b3_t, b4_t⟩ := HNV_t_5.out.cells
  go_wp2_with (fail)
  clear b0_t b1_t b2_t b3_t b4_t
  clear c5
  refine (hex 1 _ _ _ _ (by decide) (by decide) hx HP5.out).mono ?_
  rintro e w6 ⟨x, rfl, hst6, hin6, hp6, hf6⟩
  have HP6 := Lib.hid hp6
  have HST_x := Lib.hid hst6
  have HIN_x_6 := Lib.hid (InF.mono hin6 HS5.out)
  clear hp6 hst6 hin6
  have HF6 := Lib.hid (HF5.out.trans hf6)
  have HZ6 := Lib.hid (HZ5.out.fr hf6)
  have HS6 := Lib.hid (Nat.le_trans HS5.out hf6.below.size)
  have HIN_t_6 := Lib.hid (HIN_t_5.out.fr hf6)
  have HNV_t_6 := Lib.hid (HNV_t_5.out.fr hf6)
  clear HF5 HZ5 HIN_t_5 HNV_t_5
  clear hf6
  have c6 := HP6.out.c2
  obtain ⟨b0_t, b1_t, b2_t, b3_t, b4_t⟩ := HNV_t_6.out.cells
  have cA := (HP6.out.later ((Below.refl w6.heap.size w6).alloc (by simp) (.cells #[.int .i64 x.kind, .string x.text, .int .i64 x.lo, .int .i64 x.hi, .slice x.A x.kids.length x.c] 31))).c2
  go_wp2_with (fail)
  clear b0_t b1_t b2_t b3_t b4_t
  clear c6 cA
  have hbA : Below w6.heap.size w6 (w6.alloc (.cells #[.int .i64 x.kind, .string x.text, .int .i64 x.lo, .int .i64 x.hi, .slice x.A x.kids.length x.c] 31)) := ((Below.refl w6.heap.size w6).alloc (by simp) (.cells #[.int .i64 x.kind, .string x.text, .int .i64 x.lo, .int .i64 x.hi, .slice x.A x.kids.length x.c] 31))
  have hnb0 : (w6.alloc (.cells #[.int .i64 x.kind, .string x.text, .int .i64 x.lo, .int .i64 x.hi, .slice x.A x.kids.length x.c] 31)).heap[w6.heap.size]? = some (.cells #[.int .i64 x.kind, .string x.text, .int .i64 x.lo, .int .i64 x.hi, .slice x.A x.kids.length x.c] 31 (0, 0)) := by
    have hx := heap_alloc_new w6 (.cells #[.int .i64 x.kind, .string x.text, .int .i64 x.lo, .int .i64 x.hi, .slice x.A x.kids.length x.c] 31)
    exact hx
  have HP7 := Lib.hid (HP6.out.later hbA)
  have hf7 := Fr.of_below hbA HP6.out.b0
  have HNV_x_7 := Lib.hid (show NV (w6.alloc (.cells #[.int .i64 x.kind, .string x.text, .int .i64 x.lo, .int .i64 x.hi, .slice x.A x.kids.length x.c] 31)) (w6.heap.size) x from hnb0)
  have HF7 := Lib.hid (HF6.out.trans hf7)
  have HZ7 := Lib.hid (HZ6.out.fr hf7)
  have HS7 := Lib.hid (Nat.le_trans HS6.out hf7.below.size)
  have HIN_t_7 := Lib.hid (HIN_t_6.out.fr hf7)
  have HIN_x_7 := Lib.hid (HIN_x_6.out.fr hf7)
  have HNV_t_7 := Lib.hid (HNV_t_6.out.fr hf7)
  clear HF6 HZ6 HIN_t_6 HIN_x_6 HNV_t_6
  clear hbA hf7 hnb0
  generalize (w6.alloc (.cells #[.int .i64 x.kind, .string x.text, .int .i64 x.lo, .int .i64 x.hi, .slice x.A x.kids.length x.c] 31)) = w7 at *
  refine (expect_any HP7.out (⟨#[59]⟩ : ByteArray)).mono ?_
  rintro e w8 ⟨rfl, hp8, hf8⟩
  have HP8 := Lib.hid hp8
  clear hp8
  have HF8 := Lib.hid (HF7.out.trans hf8)
  have HZ8 := Lib.hid (HZ7.out.fr hf8)
  have HS8 := Lib.hid (Nat.le_trans HS7.out hf8.below.size)
  have HIN_t_8 := Lib.hid (HIN_t_7.out.fr hf8)
  have HIN_x_8 := Lib.hid (HIN_x_7.out.fr hf8)
  have HNV_t_8 := Lib.hid (HNV_t_7.out.fr hf8)
  have HNV_x_8 := Lib.hid (HNV_x_7.out.fr hf8)
  clear HF7 HZ7 HIN_t_7 HIN_x_7 HNV_t_7 HNV_x_7
  clear hf8
  have c8 := HP8.out.c2
  obtain ⟨b0_t, b1_t, b2_t, b3_t, b4_t⟩ := HNV_t_8.out.cells
  obtain ⟨b0_x, b1_x, b2_x, b3_x, b4_x⟩ := HNV_x_8.out.cells
  go_wp2_with (fail)
  clear b0_t b1_t b2_t b3_t b4_t
  clear b0_x b1_x b2_x b3_x b4_x
  clear c8
  have hbA : Below w8.heap.size w8 (w8.alloc (.cells #[.int .i64 t.kind, .string t.text, .int .i64 t.lo, .int .i64 t.hi, .slice t.A t.kids.length t.c, .int .i64 x.kind, .string x.text, .int .i64 x.lo, .int .i64 x.hi, .slice x.A x.kids.length x.c] 31)) := ((Below.refl w8.heap.size w8).alloc (by simp) (.cells #[.int .i64 t.kind, .string t.text, .int .i64 t.lo, .int .i64 t.hi, .slice t.A t.kids.length t.c, .int .i64 x.kind, .string x.text, .int .i64 x.lo, .int .i64 x.hi, .slice x.A x.kids.length x.c] 31))
  have hnb0 : (w8.alloc (.cells #[.int .i64 t.kind, .string t.text, .int .i64 t.lo, .int .i64 t.hi, .slice t.A t.kids.length t.c, .int .i64 x.kind, .string x.text, .int .i64 x.lo, .int .i64 x.hi, .slice x.A x.kids.length x.c] 31)).heap[w8.heap.size]? = some (.cells #[.int .i64 t.kind, .string t.text, .int .i64 t.lo, .int .i64 t.hi, .slice t.A t.kids.length t.c, .int .i64 x.kind, .string x.text, .int .i64 x.lo, .int .i64 x.hi, .slice x.A x.kids.length x.c] 31 (0, 0)) := by
    have hx := heap_alloc_new w8 (.cells #[.int .i64 t.kind, .string t.text, .int .i64 t.lo, .int .i64 t.hi, .slice t.A t.kids.length t.c, .int .i64 x.kind, .string x.text, .int .i64 x.lo, .int .i64 x.hi, .slice x.A x.kids.length x.c] 31)
    exact hx
  have HP9 := Lib.hid (HP8.out.later hbA)
  have hf9 := Fr.of_below hbA HP8.out.b0
  have HK_9 := Lib.hid (kin_block (lo := w.heap.size + 1) (c := 2) (ks := [t, x]) hnb0 (fun j _ => by simp [ncl]) (by have := HS8.out; omega) (Nat.le_refl _) (fun k hk => by
    simp only [List.mem_cons, List.not_mem_nil, or_false] at hk
    rcases hk with rfl | rfl
    · exact HIN_t_8.out.fr hf9
    · exact HIN_x_8.out.fr hf9))
  have HF9 := Lib.hid (HF8.out.trans hf9)
  have HZ9 := Lib.hid (HZ8.out.fr hf9)
  have HS9 := Lib.hid (Nat.le_trans HS8.out hf9.below.size)
  have HIN_t_9 := Lib.hid (HIN_t_8.out.fr hf9)
  have HIN_x_9 := Lib.hid (HIN_x_8.out.fr hf9)
  have HNV_t_9 := Lib.hid (HNV_t_8.out.fr hf9)
  have HNV_x_9 := Lib.hid (HNV_x_8.out.fr hf9)
  clear HF8 HZ8 HIN_t_8 HIN_x_8 HNV_t_8 HNV_x_8
  clear hbA hf9 hnb0
  generalize (w8.alloc (.cells #[.int .i64 t.kind, .string t.text, .int .i64 t.lo, .int .i64 t.hi, .slice t.A t.kids.length t.c, .int .i64 x.kind, .string x.text, .int .i64 x.lo, .int .i64 x.hi, .slice x.A x.kids.length x.c] 31)) = w9 at *
  refine (node_kids HP9.out p.k 12 (nam E (rd E p)).1 _ 2 [t, x] [(opt E (nam E (rd E p)).2).1, x1] HF.out HK_9.out (by simp only [List.map_cons, List.map_nil, HST_t.out, HST_x.out])).mono ?_
  rintro e w10 ⟨m, rfl, hst10, hin10, hp10, hf10⟩
  have HP10 := Lib.hid hp10
  have HST_m := Lib.hid hst10
  have HIN_m_10 := Lib.hid hin10
  clear hp10 hst10 hin10
  have HF10 := Lib.hid (HF9.out.trans hf10)
  have HZ10 := Lib.hid (HZ9.out.fr hf10)
  have HS10 := Lib.hid (Nat.le_trans HS9.out hf10.below.size)
  have HIN_t_10 := Lib.hid (HIN_t_9.out.fr hf10)
  have HIN_x_10 := Lib.hid (HIN_x_9.out.fr hf10)
  have HNV_t_10 := Lib.hid (HNV_t_9.out.fr hf10)
  have HNV_x_10 := Lib.hid (HNV_x_9.out.fr hf10)
  clear HF9 HZ9 HIN_t_9 HIN_x_9 HNV_t_9 HNV_x_9
  clear hf10
  obtain ⟨z0, z1, z2, z3, z4⟩ := HZ10.out.cells
  have y0 := HZ10.out.frozen 0
  have y1 := HZ10.out.frozen 1
  have y2 := HZ10.out.frozen 2
  have y3 := HZ10.out.frozen 3
  have y4 := HZ10.out.frozen 4
  obtain ⟨b0_t, b1_t, b2_t, b3_t, b4_t⟩ := HNV_t_10.out.cells
  obtain ⟨b0_x, b1_x, b2_x, b3_x, b4_x⟩ := HNV_x_10.out.cells
  go_wp2_with (fail)
  clear b0_t b1_t b2_t b3_t b4_t
  clear b0_x b1_x b2_x b3_x b4_x
  obtain ⟨hV, hin, hp, hf⟩ := got_put (w := w) (w2 := w10) (n := m) HB0.out HZ10.out (Nat.le_refl _) HIN_m_10.out HP10.out HF10.out
  clear z0 z1 z2 z3 z4 y0 y1 y2 y3 y4
  dsimp only [putN] at hV hin hp hf
  generalize (((((w10.setCell ⟨w.heap.size, 0, none⟩ (.int .i64 m.kind)).setCell ⟨w.heap.size, 1, none⟩ (.string m.text)).setCell ⟨w.heap.size, 2, none⟩ (.int .i64 m.lo)).setCell ⟨w.heap.size, 3, none⟩ (.int .i64 m.hi)).setCell ⟨w.heap.size, 4, none⟩ (.slice m.A m.kids.length m.c)) = V at *
  have v0 := Lib.cell_of_heap hV 0
  have v1 := Lib.cell_of_heap hV 1
  have v2 := Lib.cell_of_heap hV 2
  have v3 := Lib.cell_of_heap hV 3
  have v4 := Lib.cell_of_heap hV 4
  exact bodyPost_ret (v := .agg #[.int .i64 m.kind, .string m.text, .int .i64 m.lo, .int .i64 m.hi, .slice m.A m.kids.length m.c]) (by simp [results, Tryd.results65, go_sem, v0, v1, v2, v3, v4]) rfl ⟨m, rfl, HST_m.out, hin, hp, hf⟩
set_option maxHeartbeats 4000000 in
set_option maxRecDepth 100000 in
theorem st_if {B0 bp : Nat} {E : Env} {w : World} {p : St} (h : PIs B0 bp E w p) {R : Rec} (hex : ExOK B0 bp E R) (hbk : BlkOK B0 bp E R) (hbr : BrOK B0 bp E R)  (n0 : isW E p (⟨#[118, 97, 114]⟩ : ByteArray) = false) (h1 : isW E p (⟨#[105, 102]⟩ : ByteArray) = true) (m : NT) (q : St) (hx : R.br p = some (m, q)) :
    Calls Tryd.prog 65 #[ptr bp] w fun e w' => Got B0 bp w.heap.size E w (m) (q) e w' := by
  have HF := Lib.hid h.ok.1
  have HB0 := Lib.hid h.b0
  have HP := Lib.hid h
  clear h
  unfold ptr at *
  go_enter Tryd.func65, Tryd.ntmps65
  have hb0 := (Below.refl w.heap.size w).alloc (Nat.le_refl _) (.cells #[.int .i64 0, .string ⟨#[]⟩, .int .i64 0, .int .i64 0, .slice none 0 0] 31)
  have hz0 : ZB (w.alloc (.cells #[.int .i64 0, .string ⟨#[]⟩, .int .i64 0, .int .i64 0, .slice none 0 0] 31)) w.heap.size := heap_alloc_new w _
  have hs0 : (w.alloc (.cells #[.int .i64 0, .string ⟨#[]⟩, .int .i64 0, .int .i64 0, .slice none 0 0] 31)).heap.size = w.heap.size + 1 := World.size_alloc _ _
  have HP0 := Lib.hid (HP.out.later hb0)
  have HF0 := Lib.hid (Fr.of_below hb0 HB0.out)
  have HZ0 := Lib.hid hz0
  have HS0 := Lib.hid (show w.heap.size + 1 ≤ (w.alloc (.cells #[.int .i64 0, .string ⟨#[]⟩, .int .i64 0, .int .i64 0, .slice none 0 0] 31)).heap.size by rw [hs0]; omega)
  have c0 := HP0.out.c2
  clear hb0 hz0 hs0
  go_wp2_with (fail)
  clear c0
  generalize (w.alloc (.cells #[.int .i64 0, .string ⟨#[]⟩, .int .i64 0, .int .i64 0, .slice none 0 0] 31)) = w0 at *
  refine (accept_no HP0.out n0).mono ?_
  rintro e w1 ⟨rfl, hp1, hf1⟩
  have HP1 := Lib.hid hp1
  clear hp1
  have HF1 := Lib.hid (HF0.out.trans hf1)
  have HZ1 := Lib.hid (HZ0.out.fr hf1)
  have HS1 := Lib.hid (Nat.le_trans HS0.out hf1.below.size)
  clear HF0 HZ0
  clear hf1
  have c1 := HP1.out.c2
  go_wp2_with (fail)
  clear c1
  refine (is_at HP1.out h1).mono ?_
  rintro e w2 ⟨rfl, hb2⟩
  have hf2 := Fr.of_below hb2 HP1.out.b0
  have HP2 := Lib.hid (HP1.out.later hb2)
  clear hb2
  have HF2 := Lib.hid (HF1.out.trans hf2)
  have HZ2 := Lib.hid (HZ1.out.fr hf2)
  have HS2 := Lib.hid (Nat.le_trans HS1.out hf2.below.size)
  clear HF1 HZ1
  clear hf2
  have c2 := HP2.out.c2
  go_wp2_with (fail)
  clear c2
  refine (hbr _ _ _ _ hx h1 HP2.out).mono ?_
  rintro e w3 ⟨x, rfl, hst3, hin3, hp3, hf3⟩
  have HP3 := Lib.hid hp3
  have HST_x := Lib.hid hst3
  have HIN_x_3 := Lib.hid (InF.mono hin3 HS2.out)
  clear hp3 hst3 hin3
  have HF3 := Lib.hid (HF2.out.trans hf3)
  have HZ3 := Lib.hid (HZ2.out.fr hf3)
  have HS3 := Lib.hid (Nat.le_trans HS2.out hf3.below.size)
  clear HF2 HZ2
  clear hf3
  obtain ⟨z0, z1, z2, z3, z4⟩ := HZ3.out.cells
  have y0 := HZ3.out.frozen 0
  have y1 := HZ3.out.frozen 1
  have y2 := HZ3.out.frozen 2
  have y3 := HZ3.out.frozen 3
  have y4 := HZ3.out.frozen 4
  go_wp2_with (fail)
  obtain ⟨hV, hin, hp, hf⟩ := got_put (w := w) (w2 := w3) (n := x) HB0.out HZ3.out (Nat.le_refl _) HIN_x_3.out HP3.out HF3.out
  clear z0 z1 z2 z3 z4 y0 y1 y2 y3 y4
  dsimp only [putN] at hV hin hp hf
  generalize (((((w3.setCell ⟨w.heap.size, 0, none⟩ (.int .i64 x.kind)).setCell ⟨w.heap.size, 1, none⟩ (.string x.text)).setCell ⟨w.heap.size, 2, none⟩ (.int .i64 x.lo)).setCell ⟨w.heap.size, 3, none⟩ (.int .i64 x.hi)).setCell ⟨w.heap.size, 4, none⟩ (.slice x.A x.kids.length x.c)) = V at *
  have v0 := Lib.cell_of_heap hV 0
  have v1 := Lib.cell_of_heap hV 1
  have v2 := Lib.cell_of_heap hV 2
  have v3 := Lib.cell_of_heap hV 3
  have v4 := Lib.cell_of_heap hV 4
  exact bodyPost_ret (v := .agg #[.int .i64 x.kind, .string x.text, .int .i64 x.lo, .int .i64 x.hi, .slice x.A x.kids.length x.c]) (by simp [results, Tryd.results65, go_sem, v0, v1, v2, v3, v4]) rfl ⟨x, rfl, HST_x.out, hin, hp, hf⟩
set_option maxHeartbeats 4000000 in
set_option maxRecDepth 100000 in
theorem st_while {B0 bp : Nat} {E : Env} {w : World} {p : St} (h : PIs B0 bp E w p) {R : Rec} (hex : ExOK B0 bp E R) (hbk : BlkOK B0 bp E R) (hbr : BrOK B0 bp E R)  (n0 : isW E p (⟨#[118, 97, 114]⟩ : ByteArray) = false) (n1 : isW E p (⟨#[105, 102]⟩ : ByteArray) = false) (h1 : isW E p (⟨#[119, 104, 105, 108, 101]⟩ : ByteArray) = true) (c1 : NT) (q1 : St) (hc : R.ex 1 (rd E p) = some (c1, q1)) (b1 : NT) (q2 : St) (hb : R.blk q1 = some (b1, q2)) :
    Calls Tryd.prog 65 #[ptr bp] w fun e w' => Got B0 bp w.heap.size E w (mkN E q2 p.k 15 (⟨#[]⟩ : ByteArray) [c1, b1]) (q2) e w' := by
  have HF := Lib.hid h.ok.1
  have HB0 := Lib.hid h.b0
  have HP := Lib.hid h
  clear h
  unfold ptr at *
  go_enter Tryd.func65, Tryd.ntmps65
  have hb0 := (Below.refl w.heap.size w).alloc (Nat.le_refl _) (.cells #[.int .i64 0, .string ⟨#[]⟩, .int .i64 0, .int .i64 0, .slice none 0 0] 31)
  have hz0 : ZB (w.alloc (.cells #[.int .i64 0, .string ⟨#[]⟩, .int .i64 0, .int .i64 0, .slice none 0 0] 31)) w.heap.size := heap_alloc_new w _
  have hs0 : (w.alloc (.cells #[.int .i64 0, .string ⟨#[]⟩, .int .i64 0, .int .i64 0, .slice none 0 0] 31)).heap.size = w.heap.size + 1 := World.size_alloc _ _
  have HP0 := Lib.hid (HP.out.later hb0)
  have HF0 := Lib.hid (Fr.of_below hb0 HB0.out)
  have HZ0 := Lib.hid hz0
  have HS0 := Lib.hid (show w.heap.size + 1 ≤ (w.alloc (.cells #[.int .i64 0, .string ⟨#[]⟩, .int .i64 0, .int .i64 0, .slice none 0 0] 31)).heap.size by rw [hs0]; omega)
  have c0 := HP0.out.c2
  clear hb0 hz0 hs0
  go_wp2_with (fail)
  clear c0
  generalize (w.alloc (.cells #[.int .i64 0, .string ⟨#[]⟩, .int .i64 0, .int .i64 0, .slice none 0 0] 31)) = w0 at *
  refine (accept_no HP0.out n0).mono ?_
  rintro e w1 ⟨rfl, hp1, hf1⟩
  have HP1 := Lib.hid hp1
  clear hp1
  have HF1 := Lib.hid (HF0.out.trans hf1)
  have HZ1 := Lib.hid (HZ0.out.fr hf1)
  have HS1 := Lib.hid (Nat.le_trans HS0.out hf1.below.size)
  clear HF0 HZ0
  clear hf1
  have c1 := HP1.out.c2
  go_wp2_with (fail)
  clear c1
  refine (is_at HP1.out n1).mono ?_
  rintro e w2 ⟨rfl, hb2⟩
  have hf2 := Fr.of_below hb2 HP1.out.b0
  have HP2 := Lib.hid (HP1.out.later hb2)
  clear hb2
  have HF2 := Lib.hid (HF1.out.trans hf2)
  have HZ2 := Lib.hid (HZ1.out.fr hf2)
  have HS2 := Lib.hid (Nat.le_trans HS1.out hf2.below.size)
  clear HF1 HZ1
  clear hf2
  have c2 := HP2.out.c2
  go_wp2_with (fail)
  clear c2
  refine (accept_yes HP2.out h1).mono ?_
  rintro e w3 ⟨rfl, hp3, hf3⟩
  have HP3 := Lib.hid hp3
  clear hp3
  have HF3 := Lib.hid (HF2.out.trans hf3)
  have HZ3 := Lib.hid (HZ2.out.fr hf3)
  have HS3 := Lib.hid (Nat.le_trans HS2.out hf3.below.size)
  clear HF2 HZ2
  clear hf3
  have c3 := HP3.out.c2
  go_wp2_with (fail)
  clear c3
  refine (hex 1 _ _ _ _ (by decide) (by decide) hc HP3.out).mono ?_
  rintro e w4 ⟨x, rfl, hst4, hin4, hp4, hf4⟩
  have HP4 := Lib.hid hp4
  have HST_x := Lib.hid hst4
  have HIN_x_4 := Lib.hid (InF.mono hin4 HS3.out)
  clear hp4 hst4 hin4
  have HF4 := Lib.hid (HF3.out.trans hf4)
  have HZ4 := Lib.hid (HZ3.out.fr hf4)
  have HS4 := Lib.hid (Nat.le_trans HS3.out hf4.below.size)
  clear HF3 HZ3
  clear hf4
  have c4 := HP4.out.c2
  have cA := (HP4.out.later ((Below.refl w4.heap.size w4).alloc (by simp) (.cells #[.int .i64 x.kind, .string x.text, .int .i64 x.lo, .int .i64 x.hi, .slice x.A x.kids.length x.c] 31))).c2
  go_wp2_with (fail)
  clear c4 cA
  have hbA : Below w4.heap.size w4 (w4.alloc (.cells #[.int .i64 x.kind, .string x.text, .int .i64 x.lo, .int .i64 x.hi, .slice x.A x.kids.length x.c] 31)) := ((Below.refl w4.heap.size w4).alloc (by simp) (.cells #[.int .i64 x.kind, .string x.text, .int .i64 x.lo, .int .i64 x.hi, .slice x.A x.kids.length x.c] 31))
  have hnb0 : (w4.alloc (.cells #[.int .i64 x.kind, .string x.text, .int .i64 x.lo, .int .i64 x.hi, .slice x.A x.kids.length x.c] 31)).heap[w4.heap.size]? = some (.cells #[.int .i64 x.kind, .string x.text, .int .i64 x.lo, .int .i64 x.hi, .slice x.A x.kids.length x.c] 31 (0, 0)) := by
    have hx := heap_alloc_new w4 (.cells #[.int .i64 x.kind, .string x.text, .int .i64 x.lo, .int .i64 x.hi, .slice x.A x.kids.length x.c] 31)
    exact hx
  have HP5 := Lib.hid (HP4.out.later hbA)
  have hf5 := Fr.of_below hbA HP4.out.b0
  have HNV_x_5 := Lib.hid (show NV (w4.alloc (.cells #[.int .i64 x.kind, .string x.text, .int .i64 x.lo, .int .i64 x.hi, .slice x.A x.kids.length x.c] 31)) (w4.heap.size) x from hnb0)
  have HF5 := Lib.hid (HF4.out.trans hf5)
  have HZ5 := Lib.hid (HZ4.out.fr hf5)
  have HS5 := Lib.hid (Nat.le_trans HS4.out hf5.below.size)
  have HIN_x_5 := Lib.hid (HIN_x_4.out.fr hf5)
  clear HF4 HZ4 HIN_x_4
  clear hbA hf5 hnb0
  generalize (w4.alloc (.cells #[.int .i64 x.kind, .string x.text, .int .i64 x.lo, .int .i64 x.hi, .slice x.A x.kids.length x.c] 31)) = w5 at *
  refine (hbk _ _ _ _ hb HP5.out).mono ?_
  rintro e w6 ⟨y, rfl, hst6, hin6, hp6, hf6⟩
  have HP6 := Lib.hid hp6
  have HST_y := Lib.hid hst6
  have HIN_y_6 := Lib.hid (InF.mono hin6 HS5.out)
  clear hp6 hst6 hin6
  have HF6 := Lib.hid (HF5.out.trans hf6)
  have HZ6 := Lib.hid (HZ5.out.fr hf6)
  have HS6 := Lib.hid (Nat.le_trans HS5.out hf6.below.size)
  have HIN_x_6 := Lib.hid (HIN_x_5.out.fr hf6)
  have HNV_x_6 := Lib.hid (HNV_x_5.out.fr hf6)
  clear HF5 HZ5 HIN_x_5 HNV_x_5
  clear hf6
  have c6 := HP6.out.c2
  obtain ⟨b0_x, b1_x, b2_x, b3_x, b4_x⟩ := HNV_x_6.out.cells
  have cA := (HP6.out.later ((Below.refl w6.heap.size w6).alloc (by simp) (.cells #[.int .i64 y.kind, .string y.text, .int .i64 y.lo, .int .i64 y.hi, .slice y.A y.kids.length y.c] 31))).c2
  obtain ⟨f0_x, f1_x, f2_x, f3_x, f4_x⟩ := (HNV_x_6.out.fr (Fr.of_below (B0 := B0) ((Below.refl w6.heap.size w6).alloc (by simp) (.cells #[.int .i64 y.kind, .string y.text, .int .i64 y.lo, .int .i64 y.hi, .slice y.A y.kids.length y.c] 31)) HP6.out.b0)).cells
  go_wp2_with (fail)
  clear b0_x b1_x b2_x b3_x b4_x
  clear c6 cA
  clear f0_x f1_x f2_x f3_x f4_x
  have hbA : Below w6.heap.size w6 ((w6.alloc (.cells #[.int .i64 y.kind, .string y.text, .int .i64 y.lo, .int .i64 y.hi, .slice y.A y.kids.length y.c] 31)).alloc (.cells #[.int .i64 x.kind, .string x.text, .int .i64 x.lo, .int .i64 x.hi, .slice x.A x.kids.length x.c, .int .i64 y.kind, .string y.text, .int .i64 y.lo, .int .i64 y.hi, .slice y.A y.kids.length y.c] 31)) := (((Below.refl w6.heap.size w6).alloc (by simp) (.cells #[.int .i64 y.kind, .string y.text, .int .i64 y.lo, .int .i64 y.hi, .slice y.A y.kids.length y.c] 31)).alloc (by simp) (.cells #[.int .i64 x.kind, .string x.text, .int .i64 x.lo, .int .i64 x.hi, .slice x.A x.kids.length x.c, .int .i64 y.kind, .string y.text, .int .i64 y.lo, .int .i64 y.hi, .slice y.A y.kids.length y.c] 31))
  have hnb0 : ((w6.alloc (.cells #[.int .i64 y.kind, .string y.text, .int .i64 y.lo, .int .i64 y.hi, .slice y.A y.kids.length y.c] 31)).alloc (.cells #[.int .i64 x.kind, .string x.text, .int .i64 x.lo, .int .i64 x.hi, .slice x.A x.kids.length x.c, .int .i64 y.kind, .string y.text, .int .i64 y.lo, .int .i64 y.hi, .slice y.A y.kids.length y.c] 31)).heap[w6.heap.size]? = some (.cells #[.int .i64 y.kind, .string y.text, .int .i64 y.lo, .int .i64 y.hi, .slice y.A y.kids.length y.c] 31 (0, 0)) := by
    have hx := heap_alloc_new w6 (.cells #[.int .i64 y.kind, .string y.text, .int .i64 y.lo, .int .i64 y.hi, .slice y.A y.kids.length y.c] 31)
    have hx := (heap_alloc_old (w6.alloc (.cells #[.int .i64 y.kind, .string y.text, .int .i64 y.lo, .int .i64 y.hi, .slice y.A y.kids.length y.c] 31)) (.cells #[.int .i64 x.kind, .string x.text, .int .i64 x.lo, .int .i64 x.hi, .slice x.A x.kids.length x.c, .int .i64 y.kind, .string y.text, .int .i64 y.lo, .int .i64 y.hi, .slice y.A y.kids.length y.c] 31) (by simp)).trans hx
    exact hx
  have hnb1 : ((w6.alloc (.cells #[.int .i64 y.kind, .string y.text, .int .i64 y.lo, .int .i64 y.hi, .slice y.A y.kids.length y.c] 31)).alloc (.cells #[.int .i64 x.kind, .string x.text, .int .i64 x.lo, .int .i64 x.hi, .slice x.A x.kids.length x.c, .int .i64 y.kind, .string y.text, .int .i64 y.lo, .int .i64 y.hi, .slice y.A y.kids.length y.c] 31)).heap[w6.heap.size + 1]? = some (.cells #[.int .i64 x.kind, .string x.text, .int .i64 x.lo, .int .i64 x.hi, .slice x.A x.kids.length x.c, .int .i64 y.kind, .string y.text, .int .i64 y.lo, .int .i64 y.hi, .slice y.A y.kids.length y.c] 31 (0, 0)) := by
    have hx := heap_alloc_new (w6.alloc (.cells #[.int .i64 y.kind, .string y.text, .int .i64 y.lo, .int .i64 y.hi, .slice y.A y.kids.length y.c] 31)) (.cells #[.int .i64 x.kind, .string x.text, .int .i64 x.lo, .int .i64 x.hi, .slice x.A x.kids.length x.c, .int .i64 y.kind, .string y.text, .int .i64 y.lo, .int .i64 y.hi, .slice y.A y.kids.length y.c] 31)
    rw [World.size_alloc] at hx
    exact hx
  have HP7 := Lib.hid (HP6.out.later hbA)
  have hf7 := Fr.of_below hbA HP6.out.b0
  have HNV_y_7 := Lib.hid (show NV ((w6.alloc (.cells #[.int .i64 y.kind, .string y.text, .int .i64 y.lo, .int .i64 y.hi, .slice y.A y.kids.length y.c] 31)).alloc (.cells #[.int .i64 x.kind, .string x.text, .int .i64 x.lo, .int .i64 x.hi, .slice x.A x.kids.length x.c, .int .i64 y.kind, .string y.text, .int .i64 y.lo, .int .i64 y.hi, .slice y.A y.kids.length y.c] 31)) (w6.heap.size) y from hnb0)
  have HK_7 := Lib.hid (kin_block (lo := w.heap.size + 1) (c := 2) (ks := [x, y]) hnb1 (fun j _ => by simp [ncl]) (by have := HS6.out; omega) (Nat.le_refl _) (fun k hk => by
    simp only [List.mem_cons, List.not_mem_nil, or_false] at hk
    rcases hk with rfl | rfl
    · exact HIN_x_6.out.fr hf7
    · exact HIN_y_6.out.fr hf7))
  have HF7 := Lib.hid (HF6.out.trans hf7)
  have HZ7 := Lib.hid (HZ6.out.fr hf7)
  have HS7 := Lib.hid (Nat.le_trans HS6.out hf7.below.size)
  have HIN_x_7 := Lib.hid (HIN_x_6.out.fr hf7)
  have HIN_y_7 := Lib.hid (HIN_y_6.out.fr hf7)
  have HNV_x_7 := Lib.hid (HNV_x_6.out.fr hf7)
  clear HF6 HZ6 HIN_x_6 HIN_y_6 HNV_x_6
  clear hbA hf7 hnb0 hnb1
  generalize ((w6.alloc (.cells #[.int .i64 y.kind, .string y.text, .int .i64 y.lo, .int .i64 y.hi, .slice y.A y.kids.length y.c] 31)).alloc (.cells #[.int .i64 x.kind, .string x.text, .int .i64 x.lo, .int .i64 x.hi, .slice x.A x.kids.length x.c, .int .i64 y.kind, .string y.text, .int .i64 y.lo, .int .i64 y.hi, .slice y.A y.kids.length y.c] 31)) = w7 at *
  refine (node_kids HP7.out p.k 15 (⟨#[]⟩ : ByteArray) _ 2 [x, y] [c1, b1] HF.out HK_7.out (by simp only [List.map_cons, List.map_nil, HST_x.out, HST_y.out])).mono ?_
  rintro e w8 ⟨m, rfl, hst8, hin8, hp8, hf8⟩
  have HP8 := Lib.hid hp8
  have HST_m := Lib.hid hst8
  have HIN_m_8 := Lib.hid hin8
  clear hp8 hst8 hin8
  have HF8 := Lib.hid (HF7.out.trans hf8)
  have HZ8 := Lib.hid (HZ7.out.fr hf8)
  have HS8 := Lib.hid (Nat.le_trans HS7.out hf8.below.size)
  have HIN_x_8 := Lib.hid (HIN_x_7.out.fr hf8)
  have HIN_y_8 := Lib.hid (HIN_y_7.out.fr hf8)
  have HNV_x_8 := Lib.hid (HNV_x_7.out.fr hf8)
  have HNV_y_8 := Lib.hid (HNV_y_7.out.fr hf8)
  clear HF7 HZ7 HIN_x_7 HIN_y_7 HNV_x_7 HNV_y_7
  clear hf8
  obtain ⟨z0, z1, z2, z3, z4⟩ := HZ8.out.cells
  have y0 := HZ8.out.frozen 0
  have y1 := HZ8.out.frozen 1
  have y2 := HZ8.out.frozen 2
  have y3 := HZ8.out.frozen 3
  have y4 := HZ8.out.frozen 4
  obtain ⟨b0_x, b1_x, b2_x, b3_x, b4_x⟩ := HNV_x_8.out.cells
  obtain ⟨b0_y, b1_y, b2_y, b3_y, b4_y⟩ := HNV_y_8.out.cells
  go_wp2_with (fail)
  clear b0_x b1_x b2_x b3_x b4_x
  clear b0_y b1_y b2_y b3_y b4_y
  obtain ⟨hV, hin, hp, hf⟩ := got_put (w := w) (w2 := w8) (n := m) HB0.out HZ8.out (Nat.le_refl _) HIN_m_8.out HP8.out HF8.out
  clear z0 z1 z2 z3 z4 y0 y1 y2 y3 y4
  dsimp only [putN] at hV hin hp hf
  generalize (((((w8.setCell ⟨w.heap.size, 0, none⟩ (.int .i64 m.kind)).setCell ⟨w.heap.size, 1, none⟩ (.string m.text)).setCell ⟨w.heap.size, 2, none⟩ (.int .i64 m.lo)).setCell ⟨w.heap.size, 3, none⟩ (.int .i64 m.hi)).setCell ⟨w.heap.size, 4, none⟩ (.slice m.A m.kids.length m.c)) = V at *
  have v0 := Lib.cell_of_heap hV 0
  have v1 := Lib.cell_of_heap hV 1
  have v2 := Lib.cell_of_heap hV 2
  have v3 := Lib.cell_of_heap hV 3
  have v4 := Lib.cell_of_heap hV 4
  exact bodyPost_ret (v := .agg #[.int .i64 m.kind, .string m.text, .int .i64 m.lo, .int .i64 m.hi, .slice m.A m.kids.length m.c]) (by simp [results, Tryd.results65, go_sem, v0, v1, v2, v3, v4]) rfl ⟨m, rfl, HST_m.out, hin, hp, hf⟩
set_option maxHeartbeats 4000000 in
set_option maxRecDepth 100000 in
theorem st_for {B0 bp : Nat} {E : Env} {w : World} {p : St} (h : PIs B0 bp E w p) {R : Rec} (hex : ExOK B0 bp E R) (hbk : BlkOK B0 bp E R) (hbr : BrOK B0 bp E R)  (n0 : isW E p (⟨#[118, 97, 114]⟩ : ByteArray) = false) (n1 : isW E p (⟨#[105, 102]⟩ : ByteArray) = false) (n2 : isW E p (⟨#[119, 104, 105, 108, 101]⟩ : ByteArray) = false) (h1 : isW E p (⟨#[102, 111, 114]⟩ : ByteArray) = true) (x1 : NT) (q1 : St) (hx : R.ex 1 (exq E (nam E (rd E p)).2 (⟨#[61]⟩ : ByteArray)) = some (x1, q1)) (y1 : NT) (q2 : St) (hyy : R.ex 1 (exq E q1 (⟨#[116, 111]⟩ : ByteArray)) = some (y1, q2)) (b1 : NT) (q3 : St) (hb : R.blk q2 = some (b1, q3)) :
    Calls Tryd.prog 65 #[ptr bp] w fun e w' => Got B0 bp w.heap.size E w (mkN E q3 p.k 16 (nam E (rd E p)).1 [x1, y1, b1]) (q3) e w' := by
  have HF := Lib.hid h.ok.1
  have HB0 := Lib.hid h.b0
  have HP := Lib.hid h
  clear h
  unfold ptr at *
  go_enter Tryd.func65, Tryd.ntmps65
  have hb0 := (Below.refl w.heap.size w).alloc (Nat.le_refl _) (.cells #[.int .i64 0, .string ⟨#[]⟩, .int .i64 0, .int .i64 0, .slice none 0 0] 31)
  have hz0 : ZB (w.alloc (.cells #[.int .i64 0, .string ⟨#[]⟩, .int .i64 0, .int .i64 0, .slice none 0 0] 31)) w.heap.size := heap_alloc_new w _
  have hs0 : (w.alloc (.cells #[.int .i64 0, .string ⟨#[]⟩, .int .i64 0, .int .i64 0, .slice none 0 0] 31)).heap.size = w.heap.size + 1 := World.size_alloc _ _
  have HP0 := Lib.hid (HP.out.later hb0)
  have HF0 := Lib.hid (Fr.of_below hb0 HB0.out)
  have HZ0 := Lib.hid hz0
  have HS0 := Lib.hid (show w.heap.size + 1 ≤ (w.alloc (.cells #[.int .i64 0, .string ⟨#[]⟩, .int .i64 0, .int .i64 0, .slice none 0 0] 31)).heap.size by rw [hs0]; omega)
  have c0 := HP0.out.c2
  clear hb0 hz0 hs0
  go_wp2_with (fail)
  clear c0
  generalize (w.alloc (.cells #[.int .i64 0, .string ⟨#[]⟩, .int .i64 0, .int .i64 0, .slice none 0 0] 31)) = w0 at *
  refine (accept_no HP0.out n0).mono ?_
  rintro e w1 ⟨rfl, hp1, hf1⟩
  have HP1 := Lib.hid hp1
  clear hp1
  have HF1 := Lib.hid (HF0.out.trans hf1)
  have HZ1 := Lib.hid (HZ0.out.fr hf1)
  have HS1 := Lib.hid (Nat.le_trans HS0.out hf1.below.size)
  clear HF0 HZ0
  clear hf1
  have c1 := HP1.out.c2
  go_wp2_with (fail)
  clear c1
  refine (is_at HP1.out n1).mono ?_
  rintro e w2 ⟨rfl, hb2⟩
  have hf2 := Fr.of_below hb2 HP1.out.b0
  have HP2 := Lib.hid (HP1.out.later hb2)
  clear hb2
  have HF2 := Lib.hid (HF1.out.trans hf2)
  have HZ2 := Lib.hid (HZ1.out.fr hf2)
  have HS2 := Lib.hid (Nat.le_trans HS1.out hf2.below.size)
  clear HF1 HZ1
  clear hf2
  have c2 := HP2.out.c2
  go_wp2_with (fail)
  clear c2
  refine (accept_no HP2.out n2).mono ?_
  rintro e w3 ⟨rfl, hp3, hf3⟩
  have HP3 := Lib.hid hp3
  clear hp3
  have HF3 := Lib.hid (HF2.out.trans hf3)
  have HZ3 := Lib.hid (HZ2.out.fr hf3)
  have HS3 := Lib.hid (Nat.le_trans HS2.out hf3.below.size)
  clear HF2 HZ2
  clear hf3
  have c3 := HP3.out.c2
  go_wp2_with (fail)
  clear c3
  refine (accept_yes HP3.out h1).mono ?_
  rintro e w4 ⟨rfl, hp4, hf4⟩
  have HP4 := Lib.hid hp4
  clear hp4
  have HF4 := Lib.hid (HF3.out.trans hf4)
  have HZ4 := Lib.hid (HZ3.out.fr hf4)
  have HS4 := Lib.hid (Nat.le_trans HS3.out hf4.below.size)
  clear HF3 HZ3
  clear hf4
  have c4 := HP4.out.c2
  go_wp2_with (fail)
  clear c4
  refine (name_any HP4.out).mono ?_
  rintro e w5 ⟨rfl, hp5, hf5⟩
  have HP5 := Lib.hid hp5
  clear hp5
  have HF5 := Lib.hid (HF4.out.trans hf5)
  have HZ5 := Lib.hid (HZ4.out.fr hf5)
  have HS5 := Lib.hid (Nat.le_trans HS4.out hf5.below.size)
  clear HF4 HZ4
  clear hf5
  have c5 := HP5.out.c2
  go_wp2_with (fail)
  clear c5
  refine (expect_any HP5.out (⟨#[61]⟩ : ByteArray)).mono ?_
  rintro e w6 ⟨rfl, hp6, hf6⟩
  have HP6 := Lib.hid hp6
  clear hp6
  have HF6 := Lib.hid (HF5.out.trans hf6)
  have HZ6 := Lib.hid (HZ5.out.fr hf6)
  have HS6 := Lib.hid (Nat.le_trans HS5.out hf6.below.size)
  clear HF5 HZ5
  clear hf6
  have c6 := HP6.out.c2
  go_wp2_with (fail)
  clear c6
  refine (hex 1 _ _ _ _ (by decide) (by decide) hx HP6.out).mono ?_
  rintro e w7 ⟨x, rfl, hst7, hin7, hp7, hf7⟩
  have HP7 := Lib.hid hp7
  have HST_x := Lib.hid hst7
  have HIN_x_7 := Lib.hid (InF.mono hin7 HS6.out)
  clear hp7 hst7 hin7
  have HF7 := Lib.hid (HF6.out.trans hf7)
  have HZ7 := Lib.hid (HZ6.out.fr hf7)
  have HS7 := Lib.hid (Nat.le_trans HS6.out hf7.below.size)
  clear HF6 HZ6
  clear hf7
  have c7 := HP7.out.c2
  have cA := (HP7.out.later ((Below.refl w7.heap.size w7).alloc (by simp) (.cells #[.int .i64 x.kind, .string x.text, .int .i64 x.lo, .int .i64 x.hi, .slice x.A x.kids.length x.c] 31))).c2
  go_wp2_with (fail)
  clear c7 cA
  have hbA : Below w7.heap.size w7 (w7.alloc (.cells #[.int .i64 x.kind, .string x.text, .int .i64 x.lo, .int .i64 x.hi, .slice x.A x.kids.length x.c] 31)) := ((Below.refl w7.heap.size w7).alloc (by simp) (.cells #[.int .i64 x.kind, .string x.text, .int .i64 x.lo, .int .i64 x.hi, .slice x.A x.kids.length x.c] 31))
  have hnb0 : (w7.alloc (.cells #[.int .i64 x.kind, .string x.text, .int .i64 x.lo, .int .i64 x.hi, .slice x.A x.kids.length x.c] 31)).heap[w7.heap.size]? = some (.cells #[.int .i64 x.kind, .string x.text, .int .i64 x.lo, .int .i64 x.hi, .slice x.A x.kids.length x.c] 31 (0, 0)) := by
    have hx := heap_alloc_new w7 (.cells #[.int .i64 x.kind, .string x.text, .int .i64 x.lo, .int .i64 x.hi, .slice x.A x.kids.length x.c] 31)
    exact hx
  have HP8 := Lib.hid (HP7.out.later hbA)
  have hf8 := Fr.of_below hbA HP7.out.b0
  have HNV_x_8 := Lib.hid (show NV (w7.alloc (.cells #[.int .i64 x.kind, .string x.text, .int .i64 x.lo, .int .i64 x.hi, .slice x.A x.kids.length x.c] 31)) (w7.heap.size) x from hnb0)
  have HF8 := Lib.hid (HF7.out.trans hf8)
  have HZ8 := Lib.hid (HZ7.out.fr hf8)
  have HS8 := Lib.hid (Nat.le_trans HS7.out hf8.below.size)
  have HIN_x_8 := Lib.hid (HIN_x_7.out.fr hf8)
  clear HF7 HZ7 HIN_x_7
  clear hbA hf8 hnb0
  generalize (w7.alloc (.cells #[.int .i64 x.kind, .string x.text, .int .i64 x.lo, .int .i64 x.hi, .slice x.A x.kids.length x.c] 31)) = w8 at *
  refine (expect_any HP8.out (⟨#[116, 111]⟩ : ByteArray)).mono ?_
  rintro e w9 ⟨rfl, hp9, hf9⟩
  have HP9 := Lib.hid hp9
  clear hp9
  have HF9 := Lib.hid (HF8.out.trans hf9)
  have HZ9 := Lib.hid (HZ8.out.fr hf9)
  have HS9 := Lib.hid (Nat.le_trans HS8.out hf9.below.size)
  have HIN_x_9 := Lib.hid (HIN_x_8.out.fr hf9)
  have HNV_x_9 := Lib.hid (HNV_x_8.out.fr hf9)
  clear HF8 HZ8 HIN_x_8 HNV_x_8
  clear hf9
  have c9 := HP9.out.c2
  obtain ⟨b0_x, b1_x, b2_x, b3_x, b4_x⟩ := HNV_x_9.out.cells
  go_wp2_with (fail)
  clear b0_x b1_x b2_x b3_x b4_x
  clear c9
  refine (hex 1 _ _ _ _ (by decide) (by decide) hyy HP9.out).mono ?_
  rintro e w10 ⟨y, rfl, hst10, hin10, hp10, hf10⟩
  have HP10 := Lib.hid hp10
  have HST_y := Lib.hid hst10
  have HIN_y_10 := Lib.hid (InF.mono hin10 HS9.out)
  clear hp10 hst10 hin10
  have HF10 := Lib.hid (HF9.out.trans hf10)
  have HZ10 := Lib.hid (HZ9.out.fr hf10)
  have HS10 := Lib.hid (Nat.le_trans HS9.out hf10.below.size)
  have HIN_x_10 := Lib.hid (HIN_x_9.out.fr hf10)
  have HNV_x_10 := Lib.hid (HNV_x_9.out.fr hf10)
  clear HF9 HZ9 HIN_x_9 HNV_x_9
  clear hf10
  have c10 := HP10.out.c2
  obtain ⟨b0_x, b1_x, b2_x, b3_x, b4_x⟩ := HNV_x_10.out.cells
  have cA := (HP10.out.later ((Below.refl w10.heap.size w10).alloc (by simp) (.cells #[.int .i64 y.kind, .string y.text, .int .i64 y.lo, .int .i64 y.hi, .slice y.A y.kids.length y.c] 31))).c2
  go_wp2_with (fail)
  clear b0_x b1_x b2_x b3_x b4_x
  clear c10 cA
  have hbA : Below w10.heap.size w10 (w10.alloc (.cells #[.int .i64 y.kind, .string y.text, .int .i64 y.lo, .int .i64 y.hi, .slice y.A y.kids.length y.c] 31)) := ((Below.refl w10.heap.size w10).alloc (by simp) (.cells #[.int .i64 y.kind, .string y.text, .int .i64 y.lo, .int .i64 y.hi, .slice y.A y.kids.length y.c] 31))
  have hnb0 : (w10.alloc (.cells #[.int .i64 y.kind, .string y.text, .int .i64 y.lo, .int .i64 y.hi, .slice y.A y.kids.length y.c] 31)).heap[w10.heap.size]? = some (.cells #[.int .i64 y.kind, .string y.text, .int .i64 y.lo, .int .i64 y.hi, .slice y.A y.kids.length y.c] 31 (0, 0)) := by
    have hx := heap_alloc_new w10 (.cells #[.int .i64 y.kind, .string y.text, .int .i64 y.lo, .int .i64 y.hi, .slice y.A y.kids.length y.c] 31)
    exact hx
  have HP11 := Lib.hid (HP10.out.later hbA)
  have hf11 := Fr.of_below hbA HP10.out.b0
  have HNV_y_11 := Lib.hid (show NV (w10.alloc (.cells #[.int .i64 y.kind, .string y.text, .int .i64 y.lo, .int .i64 y.hi, .slice y.A y.kids.length y.c] 31)) (w10.heap.size) y from hnb0)
  have HF11 := Lib.hid (HF10.out.trans hf11)
  have HZ11 := Lib.hid (HZ10.out.fr hf11)
  have HS11 := Lib.hid (Nat.le_trans HS10.out hf11.below.size)
  have HIN_x_11 := Lib.hid (HIN_x_10.out.fr hf11)
  have HIN_y_11 := Lib.hid (HIN_y_10.out.fr hf11)
  have HNV_x_11 := Lib.hid (HNV_x_10.out.fr hf11)
  clear HF10 HZ10 HIN_x_10 HIN_y_10 HNV_x_10
  clear hbA hf11 hnb0
  generalize (w10.alloc (.cells #[.int .i64 y.kind, .string y.text, .int .i64 y.lo, .int .i64 y.hi, .slice y.A y.kids.length y.c] 31)) = w11 at *
  refine (hbk _ _ _ _ hb HP11.out).mono ?_
  rintro e w12 ⟨z, rfl, hst12, hin12, hp12, hf12⟩
  have HP12 := Lib.hid hp12
  have HST_z := Lib.hid hst12
  have HIN_z_12 := Lib.hid (InF.mono hin12 HS11.out)
  clear hp12 hst12 hin12
  have HF12 := Lib.hid (HF11.out.trans hf12)
  have HZ12 := Lib.hid (HZ11.out.fr hf12)
  have HS12 := Lib.hid (Nat.le_trans HS11.out hf12.below.size)
  have HIN_x_12 := Lib.hid (HIN_x_11.out.fr hf12)
  have HIN_y_12 := Lib.hid (HIN_y_11.out.fr hf12)
  have HNV_x_12 := Lib.hid (HNV_x_11.out.fr hf12)
  have HNV_y_12 := Lib.hid (HNV_y_11.out.fr hf12)
  clear HF11 HZ11 HIN_x_11 HIN_y_11 HNV_x_11 HNV_y_11
  clear hf12
  have c12 := HP12.out.c2
  obtain ⟨b0_x, b1_x, b2_x, b3_x, b4_x⟩ := HNV_x_12.out.cells
  obtain ⟨b0_y, b1_y, b2_y, b3_y, b4_y⟩ := HNV_y_12.out.cells
  have cA := (HP12.out.later ((Below.refl w12.heap.size w12).alloc (by simp) (.cells #[.int .i64 z.kind, .string z.text, .int .i64 z.lo, .int .i64 z.hi, .slice z.A z.kids.length z.c] 31))).c2
  obtain ⟨f0_x, f1_x, f2_x, f3_x, f4_x⟩ := (HNV_x_12.out.fr (Fr.of_below (B0 := B0) ((Below.refl w12.heap.size w12).alloc (by simp) (.cells #[.int .i64 z.kind, .string z.text, .int .i64 z.lo, .int .i64 z.hi, .slice z.A z.kids.length z.c] 31)) HP12.out.b0)).cells
  obtain ⟨f0_y, f1_y, f2_y, f3_y, f4_y⟩ := (HNV_y_12.out.fr (Fr.of_below (B0 := B0) ((Below.refl w12.heap.size w12).alloc (by simp) (.cells #[.int .i64 z.kind, .string z.text, .int .i64 z.lo, .int .i64 z.hi, .slice z.A z.kids.length z.c] 31)) HP12.out.b0)).cells
  go_wp2_with (fail)
  clear b0_x b1_x b2_x b3_x b4_x
  clear b0_y b1_y b2_y b3_y b4_y
  clear c12 cA
  clear f0_x f1_x f2_x f3_x f4_x
  clear f0_y f1_y f2_y f3_y f4_y
  have hbA : Below w12.heap.size w12 ((w12.alloc (.cells #[.int .i64 z.kind, .string z.text, .int .i64 z.lo, .int .i64 z.hi, .slice z.A z.kids.length z.c] 31)).alloc (.cells #[.int .i64 x.kind, .string x.text, .int .i64 x.lo, .int .i64 x.hi, .slice x.A x.kids.length x.c, .int .i64 y.kind, .string y.text, .int .i64 y.lo, .int .i64 y.hi, .slice y.A y.kids.length y.c, .int .i64 z.kind, .string z.text, .int .i64 z.lo, .int .i64 z.hi, .slice z.A z.kids.length z.c] 31)) := (((Below.refl w12.heap.size w12).alloc (by simp) (.cells #[.int .i64 z.kind, .string z.text, .int .i64 z.lo, .int .i64 z.hi, .slice z.A z.kids.length z.c] 31)).alloc (by simp) (.cells #[.int .i64 x.kind, .string x.text, .int .i64 x.lo, .int .i64 x.hi, .slice x.A x.kids.length x.c, .int .i64 y.kind, .string y.text, .int .i64 y.lo, .int .i64 y.hi, .slice y.A y.kids.length y.c, .int .i64 z.kind, .string z.text, .int .i64 z.lo, .int .i64 z.hi, .slice z.A z.kids.length z.c] 31))
  have hnb0 : ((w12.alloc (.cells #[.int .i64 z.kind, .string z.text, .int .i64 z.lo, .int .i64 z.hi, .slice z.A z.kids.length z.c] 31)).alloc (.cells #[.int .i64 x.kind, .string x.text, .int .i64 x.lo, .int .i64 x.hi, .slice x.A x.kids.length x.c, .int .i64 y.kind, .string y.text, .int .i64 y.lo, .int .i64 y.hi, .slice y.A y.kids.length y.c, .int .i64 z.kind, .string z.text, .int .i64 z.lo, .int .i64 z.hi, .slice z.A z.kids.length z.c] 31)).heap[w12.heap.size]? = some (.cells #[.int .i64 z.kind, .string z.text, .int .i64 z.lo, .int .i64 z.hi, .slice z.A z.kids.length z.c] 31 (0, 0)) := by
    have hx := heap_alloc_new w12 (.cells #[.int .i64 z.kind, .string z.text, .int .i64 z.lo, .int .i64 z.hi, .slice z.A z.kids.length z.c] 31)
    have hx := (heap_alloc_old (w12.alloc (.cells #[.int .i64 z.kind, .string z.text, .int .i64 z.lo, .int .i64 z.hi, .slice z.A z.kids.length z.c] 31)) (.cells #[.int .i64 x.kind, .string x.text, .int .i64 x.lo, .int .i64 x.hi, .slice x.A x.kids.length x.c, .int .i64 y.kind, .string y.text, .int .i64 y.lo, .int .i64 y.hi, .slice y.A y.kids.length y.c, .int .i64 z.kind, .string z.text, .int .i64 z.lo, .int .i64 z.hi, .slice z.A z.kids.length z.c] 31) (by simp)).trans hx
    exact hx
  have hnb1 : ((w12.alloc (.cells #[.int .i64 z.kind, .string z.text, .int .i64 z.lo, .int .i64 z.hi, .slice z.A z.kids.length z.c] 31)).alloc (.cells #[.int .i64 x.kind, .string x.text, .int .i64 x.lo, .int .i64 x.hi, .slice x.A x.kids.length x.c, .int .i64 y.kind, .string y.text, .int .i64 y.lo, .int .i64 y.hi, .slice y.A y.kids.length y.c, .int .i64 z.kind, .string z.text, .int .i64 z.lo, .int .i64 z.hi, .slice z.A z.kids.length z.c] 31)).heap[w12.heap.size + 1]? = some (.cells #[.int .i64 x.kind, .string x.text, .int .i64 x.lo, .int .i64 x.hi, .slice x.A x.kids.length x.c, .int .i64 y.kind, .string y.text, .int .i64 y.lo, .int .i64 y.hi, .slice y.A y.kids.length y.c, .int .i64 z.kind, .string z.text, .int .i64 z.lo, .int .i64 z.hi, .slice z.A z.kids.length z.c] 31 (0, 0)) := by
    have hx := heap_alloc_new (w12.alloc (.cells #[.int .i64 z.kind, .string z.text, .int .i64 z.lo, .int .i64 z.hi, .slice z.A z.kids.length z.c] 31)) (.cells #[.int .i64 x.kind, .string x.text, .int .i64 x.lo, .int .i64 x.hi, .slice x.A x.kids.length x.c, .int .i64 y.kind, .string y.text, .int .i64 y.lo, .int .i64 y.hi, .slice y.A y.kids.length y.c, .int .i64 z.kind, .string z.text, .int .i64 z.lo, .int .i64 z.hi, .slice z.A z.kids.length z.c] 31)
    rw [World.size_alloc] at hx
    exact hx
  have HP13 := Lib.hid (HP12.out.later hbA)
  have hf13 := Fr.of_below hbA HP12.out.b0
  have HNV_z_13 := Lib.hid (show NV ((w12.alloc (.cells #[.int .i64 z.kind, .string z.text, .int .i64 z.lo, .int .i64 z.hi, .slice z.A z.kids.length z.c] 31)).alloc (.cells #[.int .i64 x.kind, .string x.text, .int .i64 x.lo, .int .i64 x.hi, .slice x.A x.kids.length x.c, .int .i64 y.kind, .string y.text, .int .i64 y.lo, .int .i64 y.hi, .slice y.A y.kids.length y.c, .int .i64 z.kind, .string z.text, .int .i64 z.lo, .int .i64 z.hi, .slice z.A z.kids.length z.c] 31)) (w12.heap.size) z from hnb0)
  have HK_13 := Lib.hid (kin_block (lo := w.heap.size + 1) (c := 3) (ks := [x, y, z]) hnb1 (fun j _ => by simp [ncl]) (by have := HS12.out; omega) (Nat.le_refl _) (fun k hk => by
    simp only [List.mem_cons, List.not_mem_nil, or_false] at hk
    rcases hk with rfl | rfl | rfl
    · exact HIN_x_12.out.fr hf13
    · exact HIN_y_12.out.fr hf13
    · exact HIN_z_12.out.fr hf13))
  have HF13 := Lib.hid (HF12.out.trans hf13)
  have HZ13 := Lib.hid (HZ12.out.fr hf13)
  have HS13 := Lib.hid (Nat.le_trans HS12.out hf13.below.size)
  have HIN_x_13 := Lib.hid (HIN_x_12.out.fr hf13)
  have HIN_y_13 := Lib.hid (HIN_y_12.out.fr hf13)
  have HIN_z_13 := Lib.hid (HIN_z_12.out.fr hf13)
  have HNV_x_13 := Lib.hid (HNV_x_12.out.fr hf13)
  have HNV_y_13 := Lib.hid (HNV_y_12.out.fr hf13)
  clear HF12 HZ12 HIN_x_12 HIN_y_12 HIN_z_12 HNV_x_12 HNV_y_12
  clear hbA hf13 hnb0 hnb1
  generalize ((w12.alloc (.cells #[.int .i64 z.kind, .string z.text, .int .i64 z.lo, .int .i64 z.hi, .slice z.A z.kids.length z.c] 31)).alloc (.cells #[.int .i64 x.kind, .string x.text, .int .i64 x.lo, .int .i64 x.hi, .slice x.A x.kids.length x.c, .int .i64 y.kind, .string y.text, .int .i64 y.lo, .int .i64 y.hi, .slice y.A y.kids.length y.c, .int .i64 z.kind, .string z.text, .int .i64 z.lo, .int .i64 z.hi, .slice z.A z.kids.length z.c] 31)) = w13 at *
  refine (node_kids HP13.out p.k 16 (nam E (rd E p)).1 _ 3 [x, y, z] [x1, y1, b1] HF.out HK_13.out (by simp only [List.map_cons, List.map_nil, HST_x.out, HST_y.out, HST_z.out])).mono ?_
  rintro e w14 ⟨m, rfl, hst14, hin14, hp14, hf14⟩
  have HP14 := Lib.hid hp14
  have HST_m := Lib.hid hst14
  have HIN_m_14 := Lib.hid hin14
  clear hp14 hst14 hin14
  have HF14 := Lib.hid (HF13.out.trans hf14)
  have HZ14 := Lib.hid (HZ13.out.fr hf14)
  have HS14 := Lib.hid (Nat.le_trans HS13.out hf14.below.size)
  have HIN_x_14 := Lib.hid (HIN_x_13.out.fr hf14)
  have HIN_y_14 := Lib.hid (HIN_y_13.out.fr hf14)
  have HIN_z_14 := Lib.hid (HIN_z_13.out.fr hf14)
  have HNV_x_14 := Lib.hid (HNV_x_13.out.fr hf14)
  have HNV_y_14 := Lib.hid (HNV_y_13.out.fr hf14)
  have HNV_z_14 := Lib.hid (HNV_z_13.out.fr hf14)
  clear HF13 HZ13 HIN_x_13 HIN_y_13 HIN_z_13 HNV_x_13 HNV_y_13 HNV_z_13
  clear hf14
  obtain ⟨z0, z1, z2, z3, z4⟩ := HZ14.out.cells
  have y0 := HZ14.out.frozen 0
  have y1 := HZ14.out.frozen 1
  have y2 := HZ14.out.frozen 2
  have y3 := HZ14.out.frozen 3
  have y4 := HZ14.out.frozen 4
  obtain ⟨b0_x, b1_x, b2_x, b3_x, b4_x⟩ := HNV_x_14.out.cells
  obtain ⟨b0_y, b1_y, b2_y, b3_y, b4_y⟩ := HNV_y_14.out.cells
  obtain ⟨b0_z, b1_z, b2_z, b3_z, b4_z⟩ := HNV_z_14.out.cells
  go_wp2_with (fail)
  clear b0_x b1_x b2_x b3_x b4_x
  clear b0_y b1_y b2_y b3_y b4_y
  clear b0_z b1_z b2_z b3_z b4_z
  obtain ⟨hV, hin, hp, hf⟩ := got_put (w := w) (w2 := w14) (n := m) HB0.out HZ14.out (Nat.le_refl _) HIN_m_14.out HP14.out HF14.out
  clear z0 z1 z2 z3 z4 y0 y1 y2 y3 y4
  dsimp only [putN] at hV hin hp hf
  generalize (((((w14.setCell ⟨w.heap.size, 0, none⟩ (.int .i64 m.kind)).setCell ⟨w.heap.size, 1, none⟩ (.string m.text)).setCell ⟨w.heap.size, 2, none⟩ (.int .i64 m.lo)).setCell ⟨w.heap.size, 3, none⟩ (.int .i64 m.hi)).setCell ⟨w.heap.size, 4, none⟩ (.slice m.A m.kids.length m.c)) = V at *
  have v0 := Lib.cell_of_heap hV 0
  have v1 := Lib.cell_of_heap hV 1
  have v2 := Lib.cell_of_heap hV 2
  have v3 := Lib.cell_of_heap hV 3
  have v4 := Lib.cell_of_heap hV 4
  exact bodyPost_ret (v := .agg #[.int .i64 m.kind, .string m.text, .int .i64 m.lo, .int .i64 m.hi, .slice m.A m.kids.length m.c]) (by simp [results, Tryd.results65, go_sem, v0, v1, v2, v3, v4]) rfl ⟨m, rfl, HST_m.out, hin, hp, hf⟩
set_option maxHeartbeats 4000000 in
set_option maxRecDepth 100000 in
theorem st_assert {B0 bp : Nat} {E : Env} {w : World} {p : St} (h : PIs B0 bp E w p) {R : Rec} (hex : ExOK B0 bp E R) (hbk : BlkOK B0 bp E R) (hbr : BrOK B0 bp E R)  (n0 : isW E p (⟨#[118, 97, 114]⟩ : ByteArray) = false) (n1 : isW E p (⟨#[105, 102]⟩ : ByteArray) = false) (n2 : isW E p (⟨#[119, 104, 105, 108, 101]⟩ : ByteArray) = false) (n3 : isW E p (⟨#[102, 111, 114]⟩ : ByteArray) = false) (n4 : isW E p (⟨#[114, 101, 116, 117, 114, 110]⟩ : ByteArray) = false) (h1 : isW E p (⟨#[97, 115, 115, 101, 114, 116]⟩ : ByteArray) = true) (x1 : NT) (q1 : St) (hx : R.ex 1 (rd E p) = some (x1, q1)) :
    Calls Tryd.prog 65 #[ptr bp] w fun e w' => Got B0 bp w.heap.size E w (mkN E (exq E q1 (⟨#[59]⟩ : ByteArray)) p.k 18 (⟨#[]⟩ : ByteArray) [x1]) (exq E q1 (⟨#[59]⟩ : ByteArray)) e w' := by
  have HF := Lib.hid h.ok.1
  have HB0 := Lib.hid h.b0
  have HP := Lib.hid h
  clear h
  unfold ptr at *
  go_enter Tryd.func65, Tryd.ntmps65
  have hb0 := (Below.refl w.heap.size w).alloc (Nat.le_refl _) (.cells #[.int .i64 0, .string ⟨#[]⟩, .int .i64 0, .int .i64 0, .slice none 0 0] 31)
  have hz0 : ZB (w.alloc (.cells #[.int .i64 0, .string ⟨#[]⟩, .int .i64 0, .int .i64 0, .slice none 0 0] 31)) w.heap.size := heap_alloc_new w _
  have hs0 : (w.alloc (.cells #[.int .i64 0, .string ⟨#[]⟩, .int .i64 0, .int .i64 0, .slice none 0 0] 31)).heap.size = w.heap.size + 1 := World.size_alloc _ _
  have HP0 := Lib.hid (HP.out.later hb0)
  have HF0 := Lib.hid (Fr.of_below hb0 HB0.out)
  have HZ0 := Lib.hid hz0
  have HS0 := Lib.hid (show w.heap.size + 1 ≤ (w.alloc (.cells #[.int .i64 0, .string ⟨#[]⟩, .int .i64 0, .int .i64 0, .slice none 0 0] 31)).heap.size by rw [hs0]; omega)
  have c0 := HP0.out.c2
  clear hb0 hz0 hs0
  go_wp2_with (fail)
  clear c0
  generalize (w.alloc (.cells #[.int .i64 0, .string ⟨#[]⟩, .int .i64 0, .int .i64 0, .slice none 0 0] 31)) = w0 at *
  refine (accept_no HP0.out n0).mono ?_
  rintro e w1 ⟨rfl, hp1, hf1⟩
  have HP1 := Lib.hid hp1
  clear hp1
  have HF1 := Lib.hid (HF0.out.trans hf1)
  have HZ1 := Lib.hid (HZ0.out.fr hf1)
  have HS1 := Lib.hid (Nat.le_trans HS0.out hf1.below.size)
  clear HF0 HZ0
  clear hf1
  have c1 := HP1.out.c2
  go_wp2_with (fail)
  clear c1
  refine (is_at HP1.out n1).mono ?_
  rintro e w2 ⟨rfl, hb2⟩
  have hf2 := Fr.of_below hb2 HP1.out.b0
  have HP2 := Lib.hid (HP1.out.later hb2)
  clear hb2
  have HF2 := Lib.hid (HF1.out.trans hf2)
  have HZ2 := Lib.hid (HZ1.out.fr hf2)
  have HS2 := Lib.hid (Nat.le_trans HS1.out hf2.below.size)
  clear HF1 HZ1
  clear hf2
  have c2 := HP2.out.c2
  go_wp2_with (fail)
  clear c2
  refine (accept_no HP2.out n2).mono ?_
  rintro e w3 ⟨rfl, hp3, hf3⟩
  have HP3 := Lib.hid hp3
  clear hp3
  have HF3 := Lib.hid (HF2.out.trans hf3)
  have HZ3 := Lib.hid (HZ2.out.fr hf3)
  have HS3 := Lib.hid (Nat.le_trans HS2.out hf3.below.size)
  clear HF2 HZ2
  clear hf3
  have c3 := HP3.out.c2
  go_wp2_with (fail)
  clear c3
  refine (accept_no HP3.out n3).mono ?_
  rintro e w4 ⟨rfl, hp4, hf4⟩
  have HP4 := Lib.hid hp4
  clear hp4
  have HF4 := Lib.hid (HF3.out.trans hf4)
  have HZ4 := Lib.hid (HZ3.out.fr hf4)
  have HS4 := Lib.hid (Nat.le_trans HS3.out hf4.below.size)
  clear HF3 HZ3
  clear hf4
  have c4 := HP4.out.c2
  go_wp2_with (fail)
  clear c4
  refine (accept_no HP4.out n4).mono ?_
  rintro e w5 ⟨rfl, hp5, hf5⟩
  have HP5 := Lib.hid hp5
  clear hp5
  have HF5 := Lib.hid (HF4.out.trans hf5)
  have HZ5 := Lib.hid (HZ4.out.fr hf5)
  have HS5 := Lib.hid (Nat.le_trans HS4.out hf5.below.size)
  clear HF4 HZ4
  clear hf5
  have c5 := HP5.out.c2
  go_wp2_with (fail)
  clear c5
  refine (accept_yes HP5.out h1).mono ?_
  rintro e w6 ⟨rfl, hp6, hf6⟩
  have HP6 := Lib.hid hp6
  clear hp6
  have HF6 := Lib.hid (HF5.out.trans hf6)
  have HZ6 := Lib.hid (HZ5.out.fr hf6)
  have HS6 := Lib.hid (Nat.le_trans HS5.out hf6.below.size)
  clear HF5 HZ5
  clear hf6
  have c6 := HP6.out.c2
  go_wp2_with (fail)
  clear c6
  refine (hex 1 _ _ _ _ (by decide) (by decide) hx HP6.out).mono ?_
  rintro e w7 ⟨x, rfl, hst7, hin7, hp7, hf7⟩
  have HP7 := Lib.hid hp7
  have HST_x := Lib.hid hst7
  have HIN_x_7 := Lib.hid (InF.mono hin7 HS6.out)
  clear hp7 hst7 hin7
  have HF7 := Lib.hid (HF6.out.trans hf7)
  have HZ7 := Lib.hid (HZ6.out.fr hf7)
  have HS7 := Lib.hid (Nat.le_trans HS6.out hf7.below.size)
  clear HF6 HZ6
  clear hf7
  have c7 := HP7.out.c2
  have cA := (HP7.out.later ((Below.refl w7.heap.size w7).alloc (by simp) (.cells #[.int .i64 x.kind, .string x.text, .int .i64 x.lo, .int .i64 x.hi, .slice x.A x.kids.length x.c] 31))).c2
  go_wp2_with (fail)
  clear c7 cA
  have hbA : Below w7.heap.size w7 (w7.alloc (.cells #[.int .i64 x.kind, .string x.text, .int .i64 x.lo, .int .i64 x.hi, .slice x.A x.kids.length x.c] 31)) := ((Below.refl w7.heap.size w7).alloc (by simp) (.cells #[.int .i64 x.kind, .string x.text, .int .i64 x.lo, .int .i64 x.hi, .slice x.A x.kids.length x.c] 31))
  have hnb0 : (w7.alloc (.cells #[.int .i64 x.kind, .string x.text, .int .i64 x.lo, .int .i64 x.hi, .slice x.A x.kids.length x.c] 31)).heap[w7.heap.size]? = some (.cells #[.int .i64 x.kind, .string x.text, .int .i64 x.lo, .int .i64 x.hi, .slice x.A x.kids.length x.c] 31 (0, 0)) := by
    have hx := heap_alloc_new w7 (.cells #[.int .i64 x.kind, .string x.text, .int .i64 x.lo, .int .i64 x.hi, .slice x.A x.kids.length x.c] 31)
    exact hx
  have HP8 := Lib.hid (HP7.out.later hbA)
  have hf8 := Fr.of_below hbA HP7.out.b0
  have HNV_x_8 := Lib.hid (show NV (w7.alloc (.cells #[.int .i64 x.kind, .string x.text, .int .i64 x.lo, .int .i64 x.hi, .slice x.A x.kids.length x.c] 31)) (w7.heap.size) x from hnb0)
  have HF8 := Lib.hid (HF7.out.trans hf8)
  have HZ8 := Lib.hid (HZ7.out.fr hf8)
  have HS8 := Lib.hid (Nat.le_trans HS7.out hf8.below.size)
  have HIN_x_8 := Lib.hid (HIN_x_7.out.fr hf8)
  clear HF7 HZ7 HIN_x_7
  clear hbA hf8 hnb0
  generalize (w7.alloc (.cells #[.int .i64 x.kind, .string x.text, .int .i64 x.lo, .int .i64 x.hi, .slice x.A x.kids.length x.c] 31)) = w8 at *
  refine (expect_any HP8.out (⟨#[59]⟩ : ByteArray)).mono ?_
  rintro e w9 ⟨rfl, hp9, hf9⟩
  have HP9 := Lib.hid hp9
  clear hp9
  have HF9 := Lib.hid (HF8.out.trans hf9)
  have HZ9 := Lib.hid (HZ8.out.fr hf9)
  have HS9 := Lib.hid (Nat.le_trans HS8.out hf9.below.size)
  have HIN_x_9 := Lib.hid (HIN_x_8.out.fr hf9)
  have HNV_x_9 := Lib.hid (HNV_x_8.out.fr hf9)
  clear HF8 HZ8 HIN_x_8 HNV_x_8
  clear hf9
  have c9 := HP9.out.c2
  obtain ⟨b0_x, b1_x, b2_x, b3_x, b4_x⟩ := HNV_x_9.out.cells
  go_wp2_with (fail)
  clear b0_x b1_x b2_x b3_x b4_x
  clear c9
  have hbA : Below w9.heap.size w9 (w9.alloc (.cells #[.int .i64 x.kind, .string x.text, .int .i64 x.lo, .int .i64 x.hi, .slice x.A x.kids.length x.c] 31)) := ((Below.refl w9.heap.size w9).alloc (by simp) (.cells #[.int .i64 x.kind, .string x.text, .int .i64 x.lo, .int .i64 x.hi, .slice x.A x.kids.length x.c] 31))
  have hnb0 : (w9.alloc (.cells #[.int .i64 x.kind, .string x.text, .int .i64 x.lo, .int .i64 x.hi, .slice x.A x.kids.length x.c] 31)).heap[w9.heap.size]? = some (.cells #[.int .i64 x.kind, .string x.text, .int .i64 x.lo, .int .i64 x.hi, .slice x.A x.kids.length x.c] 31 (0, 0)) := by
    have hx := heap_alloc_new w9 (.cells #[.int .i64 x.kind, .string x.text, .int .i64 x.lo, .int .i64 x.hi, .slice x.A x.kids.length x.c] 31)
    exact hx
  have HP10 := Lib.hid (HP9.out.later hbA)
  have hf10 := Fr.of_below hbA HP9.out.b0
  have HK_10 := Lib.hid (kin_block (lo := w.heap.size + 1) (c := 1) (ks := [x]) hnb0 (fun j _ => by simp [ncl]) (by have := HS9.out; omega) (Nat.le_refl _) (fun k hk => by
    simp only [List.mem_cons, List.not_mem_nil, or_false] at hk
    subst hk; exact HIN_x_9.out.fr hf10))
  have HF10 := Lib.hid (HF9.out.trans hf10)
  have HZ10 := Lib.hid (HZ9.out.fr hf10)
  have HS10 := Lib.hid (Nat.le_trans HS9.out hf10.below.size)
  have HIN_x_10 := Lib.hid (HIN_x_9.out.fr hf10)
  have HNV_x_10 := Lib.hid (HNV_x_9.out.fr hf10)
  clear HF9 HZ9 HIN_x_9 HNV_x_9
  clear hbA hf10 hnb0
  generalize (w9.alloc (.cells #[.int .i64 x.kind, .string x.text, .int .i64 x.lo, .int .i64 x.hi, .slice x.A x.kids.length x.c] 31)) = w10 at *
  refine (node_kids HP10.out p.k 18 (⟨#[]⟩ : ByteArray) _ 1 [x] [x1] HF.out HK_10.out (by simp only [List.map_cons, List.map_nil, HST_x.out])).mono ?_
  rintro e w11 ⟨m, rfl, hst11, hin11, hp11, hf11⟩
  have HP11 := Lib.hid hp11
  have HST_m := Lib.hid hst11
  have HIN_m_11 := Lib.hid hin11
  clear hp11 hst11 hin11
  have HF11 := Lib.hid (HF10.out.trans hf11)
  have HZ11 := Lib.hid (HZ10.out.fr hf11)
  have HS11 := Lib.hid (Nat.le_trans HS10.out hf11.below.size)
  have HIN_x_11 := Lib.hid (HIN_x_10.out.fr hf11)
  have HNV_x_11 := Lib.hid (HNV_x_10.out.fr hf11)
  clear HF10 HZ10 HIN_x_10 HNV_x_10
  clear hf11
  obtain ⟨z0, z1, z2, z3, z4⟩ := HZ11.out.cells
  have y0 := HZ11.out.frozen 0
  have y1 := HZ11.out.frozen 1
  have y2 := HZ11.out.frozen 2
  have y3 := HZ11.out.frozen 3
  have y4 := HZ11.out.frozen 4
  obtain ⟨b0_x, b1_x, b2_x, b3_x, b4_x⟩ := HNV_x_11.out.cells
  go_wp2_with (fail)
  clear b0_x b1_x b2_x b3_x b4_x
  obtain ⟨hV, hin, hp, hf⟩ := got_put (w := w) (w2 := w11) (n := m) HB0.out HZ11.out (Nat.le_refl _) HIN_m_11.out HP11.out HF11.out
  clear z0 z1 z2 z3 z4 y0 y1 y2 y3 y4
  dsimp only [putN] at hV hin hp hf
  generalize (((((w11.setCell ⟨w.heap.size, 0, none⟩ (.int .i64 m.kind)).setCell ⟨w.heap.size, 1, none⟩ (.string m.text)).setCell ⟨w.heap.size, 2, none⟩ (.int .i64 m.lo)).setCell ⟨w.heap.size, 3, none⟩ (.int .i64 m.hi)).setCell ⟨w.heap.size, 4, none⟩ (.slice m.A m.kids.length m.c)) = V at *
  have v0 := Lib.cell_of_heap hV 0
  have v1 := Lib.cell_of_heap hV 1
  have v2 := Lib.cell_of_heap hV 2
  have v3 := Lib.cell_of_heap hV 3
  have v4 := Lib.cell_of_heap hV 4
  exact bodyPost_ret (v := .agg #[.int .i64 m.kind, .string m.text, .int .i64 m.lo, .int .i64 m.hi, .slice m.A m.kids.length m.c]) (by simp [results, Tryd.results65, go_sem, v0, v1, v2, v3, v4]) rfl ⟨m, rfl, HST_m.out, hin, hp, hf⟩
set_option maxHeartbeats 4000000 in
set_option maxRecDepth 100000 in
theorem st_do {B0 bp : Nat} {E : Env} {w : World} {p : St} (h : PIs B0 bp E w p) {R : Rec} (hex : ExOK B0 bp E R) (hbk : BlkOK B0 bp E R) (hbr : BrOK B0 bp E R)  (n0 : isW E p (⟨#[118, 97, 114]⟩ : ByteArray) = false) (n1 : isW E p (⟨#[105, 102]⟩ : ByteArray) = false) (n2 : isW E p (⟨#[119, 104, 105, 108, 101]⟩ : ByteArray) = false) (n3 : isW E p (⟨#[102, 111, 114]⟩ : ByteArray) = false) (n4 : isW E p (⟨#[114, 101, 116, 117, 114, 110]⟩ : ByteArray) = false) (n5 : isW E p (⟨#[97, 115, 115, 101, 114, 116]⟩ : ByteArray) = false) (hk : knd E p = 0) (hb : ((bhd E p).toList == [40]) = true) (h5 : knd E (rd E p) ≠ 5) (ks : List NT) (q1 : St) (ha : args E R (rd E p) = some (ks, q1)) :
    Calls Tryd.prog 65 #[ptr bp] w fun e w' => Got B0 bp w.heap.size E w (mkN E (exq E q1 (⟨#[59]⟩ : ByteArray)) p.k 19 (wd E p.k) ks) (exq E q1 (⟨#[59]⟩ : ByteArray)) e w' := by
  have HF := Lib.hid h.ok.1
  have HB0 := Lib.hid h.b0
  have HP := Lib.hid h
  clear h
  unfold ptr at *
  go_enter Tryd.func65, Tryd.ntmps65
  have hb0 := (Below.refl w.heap.size w).alloc (Nat.le_refl _) (.cells #[.int .i64 0, .string ⟨#[]⟩, .int .i64 0, .int .i64 0, .slice none 0 0] 31)
  have hz0 : ZB (w.alloc (.cells #[.int .i64 0, .string ⟨#[]⟩, .int .i64 0, .int .i64 0, .slice none 0 0] 31)) w.heap.size := heap_alloc_new w _
  have hs0 : (w.alloc (.cells #[.int .i64 0, .string ⟨#[]⟩, .int .i64 0, .int .i64 0, .slice none 0 0] 31)).heap.size = w.heap.size + 1 := World.size_alloc _ _
  have HP0 := Lib.hid (HP.out.later hb0)
  have HF0 := Lib.hid (Fr.of_below hb0 HB0.out)
  have HZ0 := Lib.hid hz0
  have HS0 := Lib.hid (show w.heap.size + 1 ≤ (w.alloc (.cells #[.int .i64 0, .string ⟨#[]⟩, .int .i64 0, .int .i64 0, .slice none 0 0] 31)).heap.size by rw [hs0]; omega)
  have c0 := HP0.out.c2
  clear hb0 hz0 hs0
  go_wp2_with (fail)
  clear c0
  generalize (w.alloc (.cells #[.int .i64 0, .string ⟨#[]⟩, .int .i64 0, .int .i64 0, .slice none 0 0] 31)) = w0 at *
  refine (accept_no HP0.out n0).mono ?_
  rintro e w1 ⟨rfl, hp1, hf1⟩
  have HP1 := Lib.hid hp1
  clear hp1
  have HF1 := Lib.hid (HF0.out.trans hf1)
  have HZ1 := Lib.hid (HZ0.out.fr hf1)
  have HS1 := Lib.hid (Nat.le_trans HS0.out hf1.below.size)
  clear HF0 HZ0
  clear hf1
  have c1 := HP1.out.c2
  go_wp2_with (fail)
  clear c1
  refine (is_at HP1.out n1).mono ?_
  rintro e w2 ⟨rfl, hb2⟩
  have hf2 := Fr.of_below hb2 HP1.out.b0
  have HP2 := Lib.hid (HP1.out.later hb2)
  clear hb2
  have HF2 := Lib.hid (HF1.out.trans hf2)
  have HZ2 := Lib.hid (HZ1.out.fr hf2)
  have HS2 := Lib.hid (Nat.le_trans HS1.out hf2.below.size)
  clear HF1 HZ1
  clear hf2
  have c2 := HP2.out.c2
  go_wp2_with (fail)
  clear c2
  refine (accept_no HP2.out n2).mono ?_
  rintro e w3 ⟨rfl, hp3, hf3⟩
  have HP3 := Lib.hid hp3
  clear hp3
  have HF3 := Lib.hid (HF2.out.trans hf3)
  have HZ3 := Lib.hid (HZ2.out.fr hf3)
  have HS3 := Lib.hid (Nat.le_trans HS2.out hf3.below.size)
  clear HF2 HZ2
  clear hf3
  have c3 := HP3.out.c2
  go_wp2_with (fail)
  clear c3
  refine (accept_no HP3.out n3).mono ?_
  rintro e w4 ⟨rfl, hp4, hf4⟩
  have HP4 := Lib.hid hp4
  clear hp4
  have HF4 := Lib.hid (HF3.out.trans hf4)
  have HZ4 := Lib.hid (HZ3.out.fr hf4)
  have HS4 := Lib.hid (Nat.le_trans HS3.out hf4.below.size)
  clear HF3 HZ3
  clear hf4
  have c4 := HP4.out.c2
  go_wp2_with (fail)
  clear c4
  refine (accept_no HP4.out n4).mono ?_
  rintro e w5 ⟨rfl, hp5, hf5⟩
  have HP5 := Lib.hid hp5
  clear hp5
  have HF5 := Lib.hid (HF4.out.trans hf5)
  have HZ5 := Lib.hid (HZ4.out.fr hf5)
  have HS5 := Lib.hid (Nat.le_trans HS4.out hf5.below.size)
  clear HF4 HZ4
  clear hf5
  have c5 := HP5.out.c2
  go_wp2_with (fail)
  clear c5
  refine (accept_no HP5.out n5).mono ?_
  rintro e w6 ⟨rfl, hp6, hf6⟩
  have HP6 := Lib.hid hp6
  clear hp6
  have HF6 := Lib.hid (HF5.out.trans hf6)
  have HZ6 := Lib.hid (HZ5.out.fr hf6)
  have HS6 := Lib.hid (Nat.le_trans HS5.out hf6.below.size)
  clear HF5 HZ5
  clear hf6
  have c6 := HP6.out.c2
  go_wp2_with (fail)
  clear c6
  refine (kind_at HP6.out hk).mono ?_
  rintro e w7 ⟨rfl, hb7⟩
  have hf7 := Fr.of_below hb7 HP6.out.b0
  have HP7 := Lib.hid (HP6.out.later hb7)
  clear hb7
  have HF7 := Lib.hid (HF6.out.trans hf7)
  have HZ7 := Lib.hid (HZ6.out.fr hf7)
  have HS7 := Lib.hid (Nat.le_trans HS6.out hf7.below.size)
  clear HF6 HZ6
  clear hf7
  have c7 := HP7.out.c2
  go_wp2_with (fail)
  clear c7
  refine (behind_any HP7.out).mono ?_
  rintro e w8 ⟨rfl, hb8⟩
  have hf8 := Fr.of_below hb8 HP7.out.b0
  have HP8 := Lib.hid (HP7.out.later hb8)
  clear hb8
  have HF8 := Lib.hid (HF7.out.trans hf8)
  have HZ8 := Lib.hid (HZ7.out.fr hf8)
  have HS8 := Lib.hid (Nat.le_trans HS7.out hf8.below.size)
  clear HF7 HZ7
  clear hf8
  have c8 := HP8.out.c2
  go_wp2_with (fail)
  clear c8
  refine (read_any HP8.out (by rw [hk]; decide)).mono ?_
  rintro e w9 ⟨rfl, hp9, hf9⟩
  have HP9 := Lib.hid hp9
  clear hp9
  have HF9 := Lib.hid (HF8.out.trans hf9)
  have HZ9 := Lib.hid (HZ8.out.fr hf9)
  have HS9 := Lib.hid (Nat.le_trans HS8.out hf9.below.size)
  clear HF8 HZ8
  clear hf9
  have c9 := HP9.out.c2
  go_wp2_with (fail)
  clear c9
  refine (args_any HP9.out h5 hex ha).mono ?_
  rintro e w10 ⟨A, c, l, rfl, hstr, hkin, hp10, hf10⟩
  have HP10 := Lib.hid hp10
  have HSTR := Lib.hid hstr
  have HKA_10 := Lib.hid (hkin.mono HS9.out)
  clear hp10 hstr hkin
  have HF10 := Lib.hid (HF9.out.trans hf10)
  have HZ10 := Lib.hid (HZ9.out.fr hf10)
  have HS10 := Lib.hid (Nat.le_trans HS9.out hf10.below.size)
  clear HF9 HZ9
  clear hf10
  have c10 := HP10.out.c2
  go_wp2_with (fail)
  clear c10
  refine (expect_any HP10.out (⟨#[59]⟩ : ByteArray)).mono ?_
  rintro e w11 ⟨rfl, hp11, hf11⟩
  have HP11 := Lib.hid hp11
  clear hp11
  have HF11 := Lib.hid (HF10.out.trans hf11)
  have HZ11 := Lib.hid (HZ10.out.fr hf11)
  have HS11 := Lib.hid (Nat.le_trans HS10.out hf11.below.size)
  have HKA_11 := Lib.hid (HKA_10.out.fr hf11)
  clear HF10 HZ10
  clear hf11
  have c11 := HP11.out.c2
  go_wp2_with (fail)
  clear c11
  refine (node_kids HP11.out p.k 19 (wd E p.k) A c l ks HF.out HKA_11.out HSTR.out).mono ?_
  rintro e w12 ⟨m, rfl, hst12, hin12, hp12, hf12⟩
  have HP12 := Lib.hid hp12
  have HST_m := Lib.hid hst12
  have HIN_m_12 := Lib.hid hin12
  clear hp12 hst12 hin12
  have HF12 := Lib.hid (HF11.out.trans hf12)
  have HZ12 := Lib.hid (HZ11.out.fr hf12)
  have HS12 := Lib.hid (Nat.le_trans HS11.out hf12.below.size)
  have HKA_12 := Lib.hid (HKA_11.out.fr hf12)
  clear HF11 HZ11
  clear hf12
  obtain ⟨z0, z1, z2, z3, z4⟩ := HZ12.out.cells
  have y0 := HZ12.out.frozen 0
  have y1 := HZ12.out.frozen 1
  have y2 := HZ12.out.frozen 2
  have y3 := HZ12.out.frozen 3
  have y4 := HZ12.out.frozen 4
  go_wp2_with (fail)
  obtain ⟨hV, hin, hp, hf⟩ := got_put (w := w) (w2 := w12) (n := m) HB0.out HZ12.out (Nat.le_refl _) HIN_m_12.out HP12.out HF12.out
  clear z0 z1 z2 z3 z4 y0 y1 y2 y3 y4
  dsimp only [putN] at hV hin hp hf
  generalize (((((w12.setCell ⟨w.heap.size, 0, none⟩ (.int .i64 m.kind)).setCell ⟨w.heap.size, 1, none⟩ (.string m.text)).setCell ⟨w.heap.size, 2, none⟩ (.int .i64 m.lo)).setCell ⟨w.heap.size, 3, none⟩ (.int .i64 m.hi)).setCell ⟨w.heap.size, 4, none⟩ (.slice m.A m.kids.length m.c)) = V at *
  have v0 := Lib.cell_of_heap hV 0
  have v1 := Lib.cell_of_heap hV 1
  have v2 := Lib.cell_of_heap hV 2
  have v3 := Lib.cell_of_heap hV 3
  have v4 := Lib.cell_of_heap hV 4
  exact bodyPost_ret (v := .agg #[.int .i64 m.kind, .string m.text, .int .i64 m.lo, .int .i64 m.hi, .slice m.A m.kids.length m.c]) (by simp [results, Tryd.results65, go_sem, v0, v1, v2, v3, v4]) rfl ⟨m, rfl, HST_m.out, hin, hp, hf⟩
set_option maxHeartbeats 4000000 in
set_option maxRecDepth 100000 in
theorem st_assign {B0 bp : Nat} {E : Env} {w : World} {p : St} (h : PIs B0 bp E w p) {R : Rec} (hex : ExOK B0 bp E R) (hbk : BlkOK B0 bp E R) (hbr : BrOK B0 bp E R)  (n0 : isW E p (⟨#[118, 97, 114]⟩ : ByteArray) = false) (n1 : isW E p (⟨#[105, 102]⟩ : ByteArray) = false) (n2 : isW E p (⟨#[119, 104, 105, 108, 101]⟩ : ByteArray) = false) (n3 : isW E p (⟨#[102, 111, 114]⟩ : ByteArray) = false) (n4 : isW E p (⟨#[114, 101, 116, 117, 114, 110]⟩ : ByteArray) = false) (n5 : isW E p (⟨#[97, 115, 115, 101, 114, 116]⟩ : ByteArray) = false) (hk : knd E p = 0) (hb : ((bhd E p).toList == [40]) = false) (x1 : NT) (q1 : St) (hpl : place E R p = some (x1, q1)) (y1 : NT) (q2 : St) (hyy : R.ex 1 (exq E q1 (⟨#[61]⟩ : ByteArray)) = some (y1, q2)) :
    Calls Tryd.prog 65 #[ptr bp] w fun e w' => Got B0 bp w.heap.size E w (mkN E (exq E q2 (⟨#[59]⟩ : ByteArray)) p.k 13 (⟨#[]⟩ : ByteArray) [x1, y1]) (exq E q2 (⟨#[59]⟩ : ByteArray)) e w' := by
  have HF := Lib.hid h.ok.1
  have HB0 := Lib.hid h.b0
  have HP := Lib.hid h
  clear h
  unfold ptr at *
  go_enter Tryd.func65, Tryd.ntmps65
  have hb0 := (Below.refl w.heap.size w).alloc (Nat.le_refl _) (.cells #[.int .i64 0, .string ⟨#[]⟩, .int .i64 0, .int .i64 0, .slice none 0 0] 31)
  have hz0 : ZB (w.alloc (.cells #[.int .i64 0, .string ⟨#[]⟩, .int .i64 0, .int .i64 0, .slice none 0 0] 31)) w.heap.size := heap_alloc_new w _
  have hs0 : (w.alloc (.cells #[.int .i64 0, .string ⟨#[]⟩, .int .i64 0, .int .i64 0, .slice none 0 0] 31)).heap.size = w.heap.size + 1 := World.size_alloc _ _
  have HP0 := Lib.hid (HP.out.later hb0)
  have HF0 := Lib.hid (Fr.of_below hb0 HB0.out)
  have HZ0 := Lib.hid hz0
  have HS0 := Lib.hid (show w.heap.size + 1 ≤ (w.alloc (.cells #[.int .i64 0, .string ⟨#[]⟩, .int .i64 0, .int .i64 0, .slice none 0 0] 31)).heap.size by rw [hs0]; omega)
  have c0 := HP0.out.c2
  clear hb0 hz0 hs0
  go_wp2_with (fail)
  clear c0
  generalize (w.alloc (.cells #[.int .i64 0, .string ⟨#[]⟩, .int .i64 0, .int .i64 0, .slice none 0 0] 31)) = w0 at *
  refine (accept_no HP0.out n0).mono ?_
  rintro e w1 ⟨rfl, hp1, hf1⟩
  have HP1 := Lib.hid hp1
  clear hp1
  have HF1 := Lib.hid (HF0.out.trans hf1)
  have HZ1 := Lib.hid (HZ0.out.fr hf1)
  have HS1 := Lib.hid (Nat.le_trans HS0.out hf1.below.size)
  clear HF0 HZ0
  clear hf1
  have c1 := HP1.out.c2
  go_wp2_with (fail)
  clear c1
  refine (is_at HP1.out n1).mono ?_
  rintro e w2 ⟨rfl, hb2⟩
  have hf2 := Fr.of_below hb2 HP1.out.b0
  have HP2 := Lib.hid (HP1.out.later hb2)
  clear hb2
  have HF2 := Lib.hid (HF1.out.trans hf2)
  have HZ2 := Lib.hid (HZ1.out.fr hf2)
  have HS2 := Lib.hid (Nat.le_trans HS1.out hf2.below.size)
  clear HF1 HZ1
  clear hf2
  have c2 := HP2.out.c2
  go_wp2_with (fail)
  clear c2
  refine (accept_no HP2.out n2).mono ?_
  rintro e w3 ⟨rfl, hp3, hf3⟩
  have HP3 := Lib.hid hp3
  clear hp3
  have HF3 := Lib.hid (HF2.out.trans hf3)
  have HZ3 := Lib.hid (HZ2.out.fr hf3)
  have HS3 := Lib.hid (Nat.le_trans HS2.out hf3.below.size)
  clear HF2 HZ2
  clear hf3
  have c3 := HP3.out.c2
  go_wp2_with (fail)
  clear c3
  refine (accept_no HP3.out n3).mono ?_
  rintro e w4 ⟨rfl, hp4, hf4⟩
  have HP4 := Lib.hid hp4
  clear hp4
  have HF4 := Lib.hid (HF3.out.trans hf4)
  have HZ4 := Lib.hid (HZ3.out.fr hf4)
  have HS4 := Lib.hid (Nat.le_trans HS3.out hf4.below.size)
  clear HF3 HZ3
  clear hf4
  have c4 := HP4.out.c2
  go_wp2_with (fail)
  clear c4
  refine (accept_no HP4.out n4).mono ?_
  rintro e w5 ⟨rfl, hp5, hf5⟩
  have HP5 := Lib.hid hp5
  clear hp5
  have HF5 := Lib.hid (HF4.out.trans hf5)
  have HZ5 := Lib.hid (HZ4.out.fr hf5)
  have HS5 := Lib.hid (Nat.le_trans HS4.out hf5.below.size)
  clear HF4 HZ4
  clear hf5
  have c5 := HP5.out.c2
  go_wp2_with (fail)
  clear c5
  refine (accept_no HP5.out n5).mono ?_
  rintro e w6 ⟨rfl, hp6, hf6⟩
  have HP6 := Lib.hid hp6
  clear hp6
  have HF6 := Lib.hid (HF5.out.trans hf6)
  have HZ6 := Lib.hid (HZ5.out.fr hf6)
  have HS6 := Lib.hid (Nat.le_trans HS5.out hf6.below.size)
  clear HF5 HZ5
  clear hf6
  have c6 := HP6.out.c2
  go_wp2_with (fail)
  clear c6
  refine (kind_at HP6.out hk).mono ?_
  rintro e w7 ⟨rfl, hb7⟩
  have hf7 := Fr.of_below hb7 HP6.out.b0
  have HP7 := Lib.hid (HP6.out.later hb7)
  clear hb7
  have HF7 := Lib.hid (HF6.out.trans hf7)
  have HZ7 := Lib.hid (HZ6.out.fr hf7)
  have HS7 := Lib.hid (Nat.le_trans HS6.out hf7.below.size)
  clear HF6 HZ6
  clear hf7
  have c7 := HP7.out.c2
  go_wp2_with (fail)
  clear c7
  refine (behind_any HP7.out).mono ?_
  rintro e w8 ⟨rfl, hb8⟩
  have hf8 := Fr.of_below hb8 HP7.out.b0
  have HP8 := Lib.hid (HP7.out.later hb8)
  clear hb8
  have HF8 := Lib.hid (HF7.out.trans hf8)
  have HZ8 := Lib.hid (HZ7.out.fr hf8)
  have HS8 := Lib.hid (Nat.le_trans HS7.out hf8.below.size)
  clear HF7 HZ7
  clear hf8
  have c8 := HP8.out.c2
  go_wp2_with (fail)
  clear c8
  refine (kind_at HP8.out hk).mono ?_
  rintro e w9 ⟨rfl, hb9⟩
  have hf9 := Fr.of_below hb9 HP8.out.b0
  have HP9 := Lib.hid (HP8.out.later hb9)
  clear hb9
  have HF9 := Lib.hid (HF8.out.trans hf9)
  have HZ9 := Lib.hid (HZ8.out.fr hf9)
  have HS9 := Lib.hid (Nat.le_trans HS8.out hf9.below.size)
  clear HF8 HZ8
  clear hf9
  have c9 := HP9.out.c2
  go_wp2_with (fail)
  clear c9
  refine (place_any HP9.out hex hpl).mono ?_
  rintro e w10 ⟨x, rfl, hst10, hin10, hp10, hf10⟩
  have HP10 := Lib.hid hp10
  have HST_x := Lib.hid hst10
  have HIN_x_10 := Lib.hid (InF.mono hin10 HS9.out)
  clear hp10 hst10 hin10
  have HF10 := Lib.hid (HF9.out.trans hf10)
  have HZ10 := Lib.hid (HZ9.out.fr hf10)
  have HS10 := Lib.hid (Nat.le_trans HS9.out hf10.below.size)
  clear HF9 HZ9
  clear hf10
  have c10 := HP10.out.c2
  have cA := (HP10.out.later ((Below.refl w10.heap.size w10).alloc (by simp) (.cells #[.int .i64 x.kind, .string x.text, .int .i64 x.lo, .int .i64 x.hi, .slice x.A x.kids.length x.c] 31))).c2
  go_wp2_with (fail)
  clear c10 cA
  have hbA : Below w10.heap.size w10 (w10.alloc (.cells #[.int .i64 x.kind, .string x.text, .int .i64 x.lo, .int .i64 x.hi, .slice x.A x.kids.length x.c] 31)) := ((Below.refl w10.heap.size w10).alloc (by simp) (.cells #[.int .i64 x.kind, .string x.text, .int .i64 x.lo, .int .i64 x.hi, .slice x.A x.kids.length x.c] 31))
  have hnb0 : (w10.alloc (.cells #[.int .i64 x.kind, .string x.text, .int .i64 x.lo, .int .i64 x.hi, .slice x.A x.kids.length x.c] 31)).heap[w10.heap.size]? = some (.cells #[.int .i64 x.kind, .string x.text, .int .i64 x.lo, .int .i64 x.hi, .slice x.A x.kids.length x.c] 31 (0, 0)) := by
    have hx := heap_alloc_new w10 (.cells #[.int .i64 x.kind, .string x.text, .int .i64 x.lo, .int .i64 x.hi, .slice x.A x.kids.length x.c] 31)
    exact hx
  have HP11 := Lib.hid (HP10.out.later hbA)
  have hf11 := Fr.of_below hbA HP10.out.b0
  have HNV_x_11 := Lib.hid (show NV (w10.alloc (.cells #[.int .i64 x.kind, .string x.text, .int .i64 x.lo, .int .i64 x.hi, .slice x.A x.kids.length x.c] 31)) (w10.heap.size) x from hnb0)
  have HF11 := Lib.hid (HF10.out.trans hf11)
  have HZ11 := Lib.hid (HZ10.out.fr hf11)
  have HS11 := Lib.hid (Nat.le_trans HS10.out hf11.below.size)
  have HIN_x_11 := Lib.hid (HIN_x_10.out.fr hf11)
  clear HF10 HZ10 HIN_x_10
  clear hbA hf11 hnb0
  generalize (w10.alloc (.cells #[.int .i64 x.kind, .string x.text, .int .i64 x.lo, .int .i64 x.hi, .slice x.A x.kids.length x.c] 31)) = w11 at *
  refine (expect_any HP11.out (⟨#[61]⟩ : ByteArray)).mono ?_
  rintro e w12 ⟨rfl, hp12, hf12⟩
  have HP12 := Lib.hid hp12
  clear hp12
  have HF12 := Lib.hid (HF11.out.trans hf12)
  have HZ12 := Lib.hid (HZ11.out.fr hf12)
  have HS12 := Lib.hid (Nat.le_trans HS11.out hf12.below.size)
  have HIN_x_12 := Lib.hid (HIN_x_11.out.fr hf12)
  have HNV_x_12 := Lib.hid (HNV_x_11.out.fr hf12)
  clear HF11 HZ11 HIN_x_11 HNV_x_11
  clear hf12
  have c12 := HP12.out.c2
  obtain ⟨b0_x, b1_x, b2_x, b3_x, b4_x⟩ := HNV_x_12.out.cells
  go_wp2_with (fail)
  clear b0_x b1_x b2_x b3_x b4_x
  clear c12
  refine (hex 1 _ _ _ _ (by decide) (by decide) hyy HP12.out).mono ?_
  rintro e w13 ⟨y, rfl, hst13, hin13, hp13, hf13⟩
  have HP13 := Lib.hid hp13
  have HST_y := Lib.hid hst13
  have HIN_y_13 := Lib.hid (InF.mono hin13 HS12.out)
  clear hp13 hst13 hin13
  have HF13 := Lib.hid (HF12.out.trans hf13)
  have HZ13 := Lib.hid (HZ12.out.fr hf13)
  have HS13 := Lib.hid (Nat.le_trans HS12.out hf13.below.size)
  have HIN_x_13 := Lib.hid (HIN_x_12.out.fr hf13)
  have HNV_x_13 := Lib.hid (HNV_x_12.out.fr hf13)
  clear HF12 HZ12 HIN_x_12 HNV_x_12
  clear hf13
  have c13 := HP13.out.c2
  obtain ⟨b0_x, b1_x, b2_x, b3_x, b4_x⟩ := HNV_x_13.out.cells
  have cA := (HP13.out.later ((Below.refl w13.heap.size w13).alloc (by simp) (.cells #[.int .i64 y.kind, .string y.text, .int .i64 y.lo, .int .i64 y.hi, .slice y.A y.kids.length y.c] 31))).c2
  go_wp2_with (fail)
  clear b0_x b1_x b2_x b3_x b4_x
  clear c13 cA
  have hbA : Below w13.heap.size w13 (w13.alloc (.cells #[.int .i64 y.kind, .string y.text, .int .i64 y.lo, .int .i64 y.hi, .slice y.A y.kids.length y.c] 31)) := ((Below.refl w13.heap.size w13).alloc (by simp) (.cells #[.int .i64 y.kind, .string y.text, .int .i64 y.lo, .int .i64 y.hi, .slice y.A y.kids.length y.c] 31))
  have hnb0 : (w13.alloc (.cells #[.int .i64 y.kind, .string y.text, .int .i64 y.lo, .int .i64 y.hi, .slice y.A y.kids.length y.c] 31)).heap[w13.heap.size]? = some (.cells #[.int .i64 y.kind, .string y.text, .int .i64 y.lo, .int .i64 y.hi, .slice y.A y.kids.length y.c] 31 (0, 0)) := by
    have hx := heap_alloc_new w13 (.cells #[.int .i64 y.kind, .string y.text, .int .i64 y.lo, .int .i64 y.hi, .slice y.A y.kids.length y.c] 31)
    exact hx
  have HP14 := Lib.hid (HP13.out.later hbA)
  have hf14 := Fr.of_below hbA HP13.out.b0
  have HNV_y_14 := Lib.hid (show NV (w13.alloc (.cells #[.int .i64 y.kind, .string y.text, .int .i64 y.lo, .int .i64 y.hi, .slice y.A y.kids.length y.c] 31)) (w13.heap.size) y from hnb0)
  have HF14 := Lib.hid (HF13.out.trans hf14)
  have HZ14 := Lib.hid (HZ13.out.fr hf14)
  have HS14 := Lib.hid (Nat.le_trans HS13.out hf14.below.size)
  have HIN_x_14 := Lib.hid (HIN_x_13.out.fr hf14)
  have HIN_y_14 := Lib.hid (HIN_y_13.out.fr hf14)
  have HNV_x_14 := Lib.hid (HNV_x_13.out.fr hf14)
  clear HF13 HZ13 HIN_x_13 HIN_y_13 HNV_x_13
  clear hbA hf14 hnb0
  generalize (w13.alloc (.cells #[.int .i64 y.kind, .string y.text, .int .i64 y.lo, .int .i64 y.hi, .slice y.A y.kids.length y.c] 31)) = w14 at *
  refine (expect_any HP14.out (⟨#[59]⟩ : ByteArray)).mono ?_
  rintro e w15 ⟨rfl, hp15, hf15⟩
  have HP15 := Lib.hid hp15
  clear hp15
  have HF15 := Lib.hid (HF14.out.trans hf15)
  have HZ15 := Lib.hid (HZ14.out.fr hf15)
  have HS15 := Lib.hid (Nat.le_trans HS14.out hf15.below.size)
  have HIN_x_15 := Lib.hid (HIN_x_14.out.fr hf15)
  have HIN_y_15 := Lib.hid (HIN_y_14.out.fr hf15)
  have HNV_x_15 := Lib.hid (HNV_x_14.out.fr hf15)
  have HNV_y_15 := Lib.hid (HNV_y_14.out.fr hf15)
  clear HF14 HZ14 HIN_x_14 HIN_y_14 HNV_x_14 HNV_y_14
  clear hf15
  have c15 := HP15.out.c2
  obtain ⟨b0_x, b1_x, b2_x, b3_x, b4_x⟩ := HNV_x_15.out.cells
  obtain ⟨b0_y, b1_y, b2_y, b3_y, b4_y⟩ := HNV_y_15.out.cells
  go_wp2_with (fail)
  clear b0_x b1_x b2_x b3_x b4_x
  clear b0_y b1_y b2_y b3_y b4_y
  clear c15
  have hbA : Below w15.heap.size w15 (w15.alloc (.cells #[.int .i64 x.kind, .string x.text, .int .i64 x.lo, .int .i64 x.hi, .slice x.A x.kids.length x.c, .int .i64 y.kind, .string y.text, .int .i64 y.lo, .int .i64 y.hi, .slice y.A y.kids.length y.c] 31)) := ((Below.refl w15.heap.size w15).alloc (by simp) (.cells #[.int .i64 x.kind, .string x.text, .int .i64 x.lo, .int .i64 x.hi, .slice x.A x.kids.length x.c, .int .i64 y.kind, .string y.text, .int .i64 y.lo, .int .i64 y.hi, .slice y.A y.kids.length y.c] 31))
  have hnb0 : (w15.alloc (.cells #[.int .i64 x.kind, .string x.text, .int .i64 x.lo, .int .i64 x.hi, .slice x.A x.kids.length x.c, .int .i64 y.kind, .string y.text, .int .i64 y.lo, .int .i64 y.hi, .slice y.A y.kids.length y.c] 31)).heap[w15.heap.size]? = some (.cells #[.int .i64 x.kind, .string x.text, .int .i64 x.lo, .int .i64 x.hi, .slice x.A x.kids.length x.c, .int .i64 y.kind, .string y.text, .int .i64 y.lo, .int .i64 y.hi, .slice y.A y.kids.length y.c] 31 (0, 0)) := by
    have hx := heap_alloc_new w15 (.cells #[.int .i64 x.kind, .string x.text, .int .i64 x.lo, .int .i64 x.hi, .slice x.A x.kids.length x.c, .int .i64 y.kind, .string y.text, .int .i64 y.lo, .int .i64 y.hi, .slice y.A y.kids.length y.c] 31)
    exact hx
  have HP16 := Lib.hid (HP15.out.later hbA)
  have hf16 := Fr.of_below hbA HP15.out.b0
  have HK_16 := Lib.hid (kin_block (lo := w.heap.size + 1) (c := 2) (ks := [x, y]) hnb0 (fun j _ => by simp [ncl]) (by have := HS15.out; omega) (Nat.le_refl _) (fun k hk => by
    simp only [List.mem_cons, List.not_mem_nil, or_false] at hk
    rcases hk with rfl | rfl
    · exact HIN_x_15.out.fr hf16
    · exact HIN_y_15.out.fr hf16))
  have HF16 := Lib.hid (HF15.out.trans hf16)
  have HZ16 := Lib.hid (HZ15.out.fr hf16)
  have HS16 := Lib.hid (Nat.le_trans HS15.out hf16.below.size)
  have HIN_x_16 := Lib.hid (HIN_x_15.out.fr hf16)
  have HIN_y_16 := Lib.hid (HIN_y_15.out.fr hf16)
  have HNV_x_16 := Lib.hid (HNV_x_15.out.fr hf16)
  have HNV_y_16 := Lib.hid (HNV_y_15.out.fr hf16)
  clear HF15 HZ15 HIN_x_15 HIN_y_15 HNV_x_15 HNV_y_15
  clear hbA hf16 hnb0
  generalize (w15.alloc (.cells #[.int .i64 x.kind, .string x.text, .int .i64 x.lo, .int .i64 x.hi, .slice x.A x.kids.length x.c, .int .i64 y.kind, .string y.text, .int .i64 y.lo, .int .i64 y.hi, .slice y.A y.kids.length y.c] 31)) = w16 at *
  refine (node_kids HP16.out p.k 13 (⟨#[]⟩ : ByteArray) _ 2 [x, y] [x1, y1] HF.out HK_16.out (by simp only [List.map_cons, List.map_nil, HST_x.out, HST_y.out])).mono ?_
  rintro e w17 ⟨m, rfl, hst17, hin17, hp17, hf17⟩
  have HP17 := Lib.hid hp17
  have HST_m := Lib.hid hst17
  have HIN_m_17 := Lib.hid hin17
  clear hp17 hst17 hin17
  have HF17 := Lib.hid (HF16.out.trans hf17)
  have HZ17 := Lib.hid (HZ16.out.fr hf17)
  have HS17 := Lib.hid (Nat.le_trans HS16.out hf17.below.size)
  have HIN_x_17 := Lib.hid (HIN_x_16.out.fr hf17)
  have HIN_y_17 := Lib.hid (HIN_y_16.out.fr hf17)
  have HNV_x_17 := Lib.hid (HNV_x_16.out.fr hf17)
  have HNV_y_17 := Lib.hid (HNV_y_16.out.fr hf17)
  clear HF16 HZ16 HIN_x_16 HIN_y_16 HNV_x_16 HNV_y_16
  clear hf17
  obtain ⟨z0, z1, z2, z3, z4⟩ := HZ17.out.cells
  have y0 := HZ17.out.frozen 0
  have y1 := HZ17.out.frozen 1
  have y2 := HZ17.out.frozen 2
  have y3 := HZ17.out.frozen 3
  have y4 := HZ17.out.frozen 4
  obtain ⟨b0_x, b1_x, b2_x, b3_x, b4_x⟩ := HNV_x_17.out.cells
  obtain ⟨b0_y, b1_y, b2_y, b3_y, b4_y⟩ := HNV_y_17.out.cells
  go_wp2_with (fail)
  clear b0_x b1_x b2_x b3_x b4_x
  clear b0_y b1_y b2_y b3_y b4_y
  obtain ⟨hV, hin, hp, hf⟩ := got_put (w := w) (w2 := w17) (n := m) HB0.out HZ17.out (Nat.le_refl _) HIN_m_17.out HP17.out HF17.out
  clear z0 z1 z2 z3 z4 y0 y1 y2 y3 y4
  dsimp only [putN] at hV hin hp hf
  generalize (((((w17.setCell ⟨w.heap.size, 0, none⟩ (.int .i64 m.kind)).setCell ⟨w.heap.size, 1, none⟩ (.string m.text)).setCell ⟨w.heap.size, 2, none⟩ (.int .i64 m.lo)).setCell ⟨w.heap.size, 3, none⟩ (.int .i64 m.hi)).setCell ⟨w.heap.size, 4, none⟩ (.slice m.A m.kids.length m.c)) = V at *
  have v0 := Lib.cell_of_heap hV 0
  have v1 := Lib.cell_of_heap hV 1
  have v2 := Lib.cell_of_heap hV 2
  have v3 := Lib.cell_of_heap hV 3
  have v4 := Lib.cell_of_heap hV 4
  exact bodyPost_ret (v := .agg #[.int .i64 m.kind, .string m.text, .int .i64 m.lo, .int .i64 m.hi, .slice m.A m.kids.length m.c]) (by simp [results, Tryd.results65, go_sem, v0, v1, v2, v3, v4]) rfl ⟨m, rfl, HST_m.out, hin, hp, hf⟩
end Go.Proofs.YtnpcfmoiiecadaaDoor.Par
