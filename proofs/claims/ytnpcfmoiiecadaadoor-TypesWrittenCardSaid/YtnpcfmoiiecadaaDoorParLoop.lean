/- What is proved: the reference's parser: rows of nodes that grow. -/
import Derived.Test.YtnpcfmoiiecadaaDoorParKin
set_option linter.unusedVariables false
namespace Go.Proofs.YtnpcfmoiiecadaaDoor.Par
open Go.RowKit
open Lx (Tok)

set_option maxHeartbeats 4000000 in
set_option maxRecDepth 100000 in
theorem fld_int {B0 bp : Nat} {E : Env} {w : World} {p : St} (h : PIs B0 bp E w p)  (h1 : isW E (exq E (nam E p).2 (⟨#[58]⟩ : ByteArray)) (⟨#[105, 110, 116]⟩ : ByteArray) = true) (h5 : knd E (exq E (nam E p).2 (⟨#[58]⟩ : ByteArray)) ≠ 5) :
    Calls Tryd.prog 48 #[ptr bp] w fun e w' => Got B0 bp w.heap.size E w (mkN E (rd E (exq E (nam E p).2 (⟨#[58]⟩ : ByteArray))) p.k 4 (nam E p).1 [(mkN E (rd E (exq E (nam E p).2 (⟨#[58]⟩ : ByteArray))) (exq E (nam E p).2 (⟨#[58]⟩ : ByteArray)).k 9 (wd E (exq E (nam E p).2 (⟨#[58]⟩ : ByteArray)).k) [])]) (rd E (exq E (nam E p).2 (⟨#[58]⟩ : ByteArray))) e w' := by
  have HF := Lib.hid h.ok.1
  have HB0 := Lib.hid h.b0
  have HP := Lib.hid h
  clear h
  unfold ptr at *
  go_enter Tryd.func48, Tryd.ntmps48
  have hb0 := (Below.refl w.heap.size w).alloc (Nat.le_refl _) (.cells #[.int .i64 0, .string ⟨#[]⟩, .int .i64 0, .int .i64 0, .slice none 0 0] 31)
  have hz0 : ZB (w.alloc (.cells #[.int .i64 0, .string ⟨#[]⟩, .int .i64 0, .int .i64 0, .slice none 0 0] 31)) w.heap.size := heap_alloc_new w _
  have hs0 : (w.alloc (.cells #[.int .i64 0, .string ⟨#[]⟩, .int .i64 0, .int .i64 0, .slice none 0 0] 31)).heap.size = w.heap.size + 1 := World.size_alloc _ _
  have HP0 := Lib.hid (HP.out.later hb0)
  have HF0 := Lib.hid (Fr.of_below hb0 HB0.out)
  have HZ0 := Lib.hid hz0
  have HS0 := Lib.hid (show w.heap.size + 1 ≤ (w.alloc (.cells #[.int .i64 0, .string ⟨#[]⟩, .int .i64 0, .int .i64 0, .slice none 0 0] 31)).heap.size by rw [hs0]; omega)
  have c0 := HP0.out.c2
  clear hb0 hz0 hs0
  go_wp2_with (fail)
  clear c0
  generalize (w.alloc (.cells #[.int .i64 0, .string ⟨#[]⟩, .int .i64 0, .int .i64 0, .slice none 0 0] 31)) = w0 at *
  refine (name_any HP0.out).mono ?_
  rintro e w1 ⟨rfl, hp1, hf1⟩
  have HP1 := Lib.hid hp1
  clear hp1
  have HF1 := Lib.hid (HF0.out.trans hf1)
  have HZ1 := Lib.hid (HZ0.out.fr hf1)
  have HS1 := Lib.hid (Nat.le_trans HS0.out hf1.below.size)
  clear HF0 HZ0
  clear hf1
  have c1 := HP1.out.c2
  go_wp2_with (fail)
  clear c1
  refine (expect_any HP1.out (⟨#[58]⟩ : ByteArray)).mono ?_
  rintro e w2 ⟨rfl, hp2, hf2⟩
  have HP2 := Lib.hid hp2
  clear hp2
  have HF2 := Lib.hid (HF1.out.trans hf2)
  have HZ2 := Lib.hid (HZ1.out.fr hf2)
  have HS2 := Lib.hid (Nat.le_trans HS1.out hf2.below.size)
  clear HF1 HZ1
  clear hf2
  have c2 := HP2.out.c2
  go_wp2_with (fail)
  clear c2
  refine (is_at HP2.out h1).mono ?_
  rintro e w3 ⟨rfl, hb3⟩
  have hf3 := Fr.of_below hb3 HP2.out.b0
  have HP3 := Lib.hid (HP2.out.later hb3)
  clear hb3
  have HF3 := Lib.hid (HF2.out.trans hf3)
  have HZ3 := Lib.hid (HZ2.out.fr hf3)
  have HS3 := Lib.hid (Nat.le_trans HS2.out hf3.below.size)
  clear HF2 HZ2
  clear hf3
  have c3 := HP3.out.c2
  go_wp2_with (fail)
  clear c3
  refine (read_any HP3.out h5).mono ?_
  rintro e w4 ⟨rfl, hp4, hf4⟩
  have HP4 := Lib.hid hp4
  clear hp4
  have HF4 := Lib.hid (HF3.out.trans hf4)
  have HZ4 := Lib.hid (HZ3.out.fr hf4)
  have HS4 := Lib.hid (Nat.le_trans HS3.out hf4.below.size)
  clear HF3 HZ3
  clear hf4
  have c4 := HP4.out.c2
  go_wp2_with (fail)
  clear c4
  refine (node_leaf HP4.out (w.heap.size + 1) (exq E (nam E p).2 (⟨#[58]⟩ : ByteArray)).k 9 (wd E (exq E (nam E p).2 (⟨#[58]⟩ : ByteArray)).k) (show (exq E (nam E p).2 (⟨#[58]⟩ : ByteArray)).k < E.T.length from Nat.lt_of_succ_lt HP4.out.ok.1)).mono ?_
  rintro e w5 ⟨n, rfl, hst5, hin5, hp5, hf5⟩
  have HP5 := Lib.hid hp5
  have HST_n := Lib.hid hst5
  have HIN_n_5 := Lib.hid hin5
  clear hp5 hst5 hin5
  have HF5 := Lib.hid (HF4.out.trans hf5)
  have HZ5 := Lib.hid (HZ4.out.fr hf5)
  have HS5 := Lib.hid (Nat.le_trans HS4.out hf5.below.size)
  clear HF4 HZ4
  clear hf5
  have c5 := HP5.out.c2
  go_wp2_with (fail)
  clear c5
  have hbA : Below w5.heap.size w5 ((w5.alloc (.cells #[.int .i64 n.kind, .string n.text, .int .i64 n.lo, .int .i64 n.hi, .slice n.A n.kids.length n.c] 31)).alloc (.cells #[.int .i64 n.kind, .string n.text, .int .i64 n.lo, .int .i64 n.hi, .slice n.A n.kids.length n.c] 31)) := (((Below.refl w5.heap.size w5).alloc (by simp) (.cells #[.int .i64 n.kind, .string n.text, .int .i64 n.lo, .int .i64 n.hi, .slice n.A n.kids.length n.c] 31)).alloc (by simp) (.cells #[.int .i64 n.kind, .string n.text, .int .i64 n.lo, .int .i64 n.hi, .slice n.A n.kids.length n.c] 31))
  have hnb0 : ((w5.alloc (.cells #[.int .i64 n.kind, .string n.text, .int .i64 n.lo, .int .i64 n.hi, .slice n.A n.kids.length n.c] 31)).alloc (.cells #[.int .i64 n.kind, .string n.text, .int .i64 n.lo, .int .i64 n.hi, .slice n.A n.kids.length n.c] 31)).heap[w5.heap.size]? = some (.cells #[.int .i64 n.kind, .string n.text, .int .i64 n.lo, .int .i64 n.hi, .slice n.A n.kids.length n.c] 31 (0, 0)) := by
    have hx := heap_alloc_new w5 (.cells #[.int .i64 n.kind, .string n.text, .int .i64 n.lo, .int .i64 n.hi, .slice n.A n.kids.length n.c] 31)
    have hx := (heap_alloc_old (w5.alloc (.cells #[.int .i64 n.kind, .string n.text, .int .i64 n.lo, .int .i64 n.hi, .slice n.A n.kids.length n.c] 31)) (.cells #[.int .i64 n.kind, .string n.text, .int .i64 n.lo, .int .i64 n.hi, .slice n.A n.kids.length n.c] 31) (by simp)).trans hx
    exact hx
  have hnb1 : ((w5.alloc (.cells #[.int .i64 n.kind, .string n.text, .int .i64 n.lo, .int .i64 n.hi, .slice n.A n.kids.length n.c] 31)).alloc (.cells #[.int .i64 n.kind, .string n.text, .int .i64 n.lo, .int .i64 n.hi, .slice n.A n.kids.length n.c] 31)).heap[w5.heap.size + 1]? = some (.cells #[.int .i64 n.kind, .string n.text, .int .i64 n.lo, .int .i64 n.hi, .slice n.A n.kids.length n.c] 31 (0, 0)) := by
    have hx := heap_alloc_new (w5.alloc (.cells #[.int .i64 n.kind, .string n.text, .int .i64 n.lo, .int .i64 n.hi, .slice n.A n.kids.length n.c] 31)) (.cells #[.int .i64 n.kind, .string n.text, .int .i64 n.lo, .int .i64 n.hi, .slice n.A n.kids.length n.c] 31)
    rw [World.size_alloc] at hx
    exact hx
  have HP6 := Lib.hid (HP5.out.later hbA)
  have hf6 := Fr.of_below hbA HP5.out.b0
  have HNV_n_6 := Lib.hid (show NV ((w5.alloc (.cells #[.int .i64 n.kind, .string n.text, .int .i64 n.lo, .int .i64 n.hi, .slice n.A n.kids.length n.c] 31)).alloc (.cells #[.int .i64 n.kind, .string n.text, .int .i64 n.lo, .int .i64 n.hi, .slice n.A n.kids.length n.c] 31)) (w5.heap.size) n from hnb0)
  have HK_6 := Lib.hid (kin_block (lo := w.heap.size + 1) (c := 1) (ks := [n]) hnb1 (fun j _ => by simp [ncl]) (by have := HS5.out; omega) (Nat.le_refl _) (fun k hk => by
    simp only [List.mem_cons, List.not_mem_nil, or_false] at hk
    subst hk; exact HIN_n_5.out.fr hf6))
  have HF6 := Lib.hid (HF5.out.trans hf6)
  have HZ6 := Lib.hid (HZ5.out.fr hf6)
  have HS6 := Lib.hid (Nat.le_trans HS5.out hf6.below.size)
  have HIN_n_6 := Lib.hid (HIN_n_5.out.fr hf6)
  clear HF5 HZ5 HIN_n_5
  clear hbA hf6 hnb0 hnb1
  generalize ((w5.alloc (.cells #[.int .i64 n.kind, .string n.text, .int .i64 n.lo, .int .i64 n.hi, .slice n.A n.kids.length n.c] 31)).alloc (.cells #[.int .i64 n.kind, .string n.text, .int .i64 n.lo, .int .i64 n.hi, .slice n.A n.kids.length n.c] 31)) = w6 at *
  refine (node_kids HP6.out p.k 4 (nam E p).1 _ 1 [n] [(mkN E (rd E (exq E (nam E p).2 (⟨#[58]⟩ : ByteArray))) (exq E (nam E p).2 (⟨#[58]⟩ : ByteArray)).k 9 (wd E (exq E (nam E p).2 (⟨#[58]⟩ : ByteArray)).k) [])] HF.out HK_6.out (by simp only [List.map_cons, List.map_nil, HST_n.out])).mono ?_
  rintro e w7 ⟨m, rfl, hst7, hin7, hp7, hf7⟩
  have HP7 := Lib.hid hp7
  have HST_m := Lib.hid hst7
  have HIN_m_7 := Lib.hid hin7
  clear hp7 hst7 hin7
  have HF7 := Lib.hid (HF6.out.trans hf7)
  have HZ7 := Lib.hid (HZ6.out.fr hf7)
  have HS7 := Lib.hid (Nat.le_trans HS6.out hf7.below.size)
  have HIN_n_7 := Lib.hid (HIN_n_6.out.fr hf7)
  have HNV_n_7 := Lib.hid (HNV_n_6.out.fr hf7)
  clear HF6 HZ6 HIN_n_6 HNV_n_6
  clear hf7
  obtain ⟨z0, z1, z2, z3, z4⟩ := HZ7.out.cells
  have y0 := HZ7.out.frozen 0
  have y1 := HZ7.out.frozen 1
  have y2 := HZ7.out.frozen 2
  have y3 := HZ7.out.frozen 3
  have y4 := HZ7.out.frozen 4
  obtain ⟨b0_n, b1_n, b2_n, b3_n, b4_n⟩ := HNV_n_7.out.cells
  go_wp2_with (fail)
  clear b0_n b1_n b2_n b3_n b4_n
  obtain ⟨hV, hin, hp, hf⟩ := got_put (w := w) (w2 := w7) (n := m) HB0.out HZ7.out (Nat.le_refl _) HIN_m_7.out HP7.out HF7.out
  clear z0 z1 z2 z3 z4 y0 y1 y2 y3 y4
  dsimp only [putN] at hV hin hp hf
  generalize (((((w7.setCell ⟨w.heap.size, 0, none⟩ (.int .i64 m.kind)).setCell ⟨w.heap.size, 1, none⟩ (.string m.text)).setCell ⟨w.heap.size, 2, none⟩ (.int .i64 m.lo)).setCell ⟨w.heap.size, 3, none⟩ (.int .i64 m.hi)).setCell ⟨w.heap.size, 4, none⟩ (.slice m.A m.kids.length m.c)) = V at *
  have v0 := Lib.cell_of_heap hV 0
  have v1 := Lib.cell_of_heap hV 1
  have v2 := Lib.cell_of_heap hV 2
  have v3 := Lib.cell_of_heap hV 3
  have v4 := Lib.cell_of_heap hV 4
  exact bodyPost_ret (v := .agg #[.int .i64 m.kind, .string m.text, .int .i64 m.lo, .int .i64 m.hi, .slice m.A m.kids.length m.c]) (by simp [results, Tryd.results48, go_sem, v0, v1, v2, v3, v4]) rfl ⟨m, rfl, HST_m.out, hin, hp, hf⟩
set_option maxHeartbeats 4000000 in
set_option maxRecDepth 100000 in
theorem fld_bool {B0 bp : Nat} {E : Env} {w : World} {p : St} (h : PIs B0 bp E w p)  (h1 : isW E (exq E (nam E p).2 (⟨#[58]⟩ : ByteArray)) (⟨#[105, 110, 116]⟩ : ByteArray) = false) (h2 : isW E (exq E (nam E p).2 (⟨#[58]⟩ : ByteArray)) (⟨#[98, 111, 111, 108]⟩ : ByteArray) = true) (h5 : knd E (exq E (nam E p).2 (⟨#[58]⟩ : ByteArray)) ≠ 5) :
    Calls Tryd.prog 48 #[ptr bp] w fun e w' => Got B0 bp w.heap.size E w (mkN E (rd E (exq E (nam E p).2 (⟨#[58]⟩ : ByteArray))) p.k 4 (nam E p).1 [(mkN E (rd E (exq E (nam E p).2 (⟨#[58]⟩ : ByteArray))) (exq E (nam E p).2 (⟨#[58]⟩ : ByteArray)).k 9 (wd E (exq E (nam E p).2 (⟨#[58]⟩ : ByteArray)).k) [])]) (rd E (exq E (nam E p).2 (⟨#[58]⟩ : ByteArray))) e w' := by
  have HF := Lib.hid h.ok.1
  have HB0 := Lib.hid h.b0
  have HP := Lib.hid h
  clear h
  unfold ptr at *
  go_enter Tryd.func48, Tryd.ntmps48
  have hb0 := (Below.refl w.heap.size w).alloc (Nat.le_refl _) (.cells #[.int .i64 0, .string ⟨#[]⟩, .int .i64 0, .int .i64 0, .slice none 0 0] 31)
  have hz0 : ZB (w.alloc (.cells #[.int .i64 0, .string ⟨#[]⟩, .int .i64 0, .int .i64 0, .slice none 0 0] 31)) w.heap.size := heap_alloc_new w _
  have hs0 : (w.alloc (.cells #[.int .i64 0, .string ⟨#[]⟩, .int .i64 0, .int .i64 0, .slice none 0 0] 31)).heap.size = w.heap.size + 1 := World.size_alloc _ _
  have HP0 := Lib.hid (HP.out.later hb0)
  have HF0 := Lib.hid (Fr.of_below hb0 HB0.out)
  have HZ0 := Lib.hid hz0
  have HS0 := Lib.hid (show w.heap.size + 1 ≤ (w.alloc (.cells #[.int .i64 0, .string ⟨#[]⟩, .int .i64 0, .int .i64 0, .slice none 0 0] 31)).heap.size by rw [hs0]; omega)
  have c0 := HP0.out.c2
  clear hb0 hz0 hs0
  go_wp2_with (fail)
  clear c0
  generalize (w.alloc (.cells #[.int .i64 0, .string ⟨#[]⟩, .int .i64 0, .int .i64 0, .slice none 0 0] 31)) = w0 at *
  refine (name_any HP0.out).mono ?_
  rintro e w1 ⟨rfl, hp1, hf1⟩
  have HP1 := Lib.hid hp1
  clear hp1
  have HF1 := Lib.hid (HF0.out.trans hf1)
  have HZ1 := Lib.hid (HZ0.out.fr hf1)
  have HS1 := Lib.hid (Nat.le_trans HS0.out hf1.below.size)
  clear HF0 HZ0
  clear hf1
  have c1 := HP1.out.c2
  go_wp2_with (fail)
  clear c1
  refine (expect_any HP1.out (⟨#[58]⟩ : ByteArray)).mono ?_
  rintro e w2 ⟨rfl, hp2, hf2⟩
  have HP2 := Lib.hid hp2
  clear hp2
  have HF2 := Lib.hid (HF1.out.trans hf2)
  have HZ2 := Lib.hid (HZ1.out.fr hf2)
  have HS2 := Lib.hid (Nat.le_trans HS1.out hf2.below.size)
  clear HF1 HZ1
  clear hf2
  have c2 := HP2.out.c2
  go_wp2_with (fail)
  clear c2
  refine (is_at HP2.out h1).mono ?_
  rintro e w3 ⟨rfl, hb3⟩
  have hf3 := Fr.of_below hb3 HP2.out.b0
  have HP3 := Lib.hid (HP2.out.later hb3)
  clear hb3
  have HF3 := Lib.hid (HF2.out.trans hf3)
  have HZ3 := Lib.hid (HZ2.out.fr hf3)
  have HS3 := Lib.hid (Nat.le_trans HS2.out hf3.below.size)
  clear HF2 HZ2
  clear hf3
  have c3 := HP3.out.c2
  go_wp2_with (fail)
  clear c3
  refine (is_at HP3.out h2).mono ?_
  rintro e w4 ⟨rfl, hb4⟩
  have hf4 := Fr.of_below hb4 HP3.out.b0
  have HP4 := Lib.hid (HP3.out.later hb4)
  clear hb4
  have HF4 := Lib.hid (HF3.out.trans hf4)
  have HZ4 := Lib.hid (HZ3.out.fr hf4)
  have HS4 := Lib.hid (Nat.le_trans HS3.out hf4.below.size)
  clear HF3 HZ3
  clear hf4
  have c4 := HP4.out.c2
  go_wp2_with (fail)
  clear c4
  refine (read_any HP4.out h5).mono ?_
  rintro e w5 ⟨rfl, hp5, hf5⟩
  have HP5 := Lib.hid hp5
  clear hp5
  have HF5 := Lib.hid (HF4.out.trans hf5)
  have HZ5 := Lib.hid (HZ4.out.fr hf5)
  have HS5 := Lib.hid (Nat.le_trans HS4.out hf5.below.size)
  clear HF4 HZ4
  clear hf5
  have c5 := HP5.out.c2
  go_wp2_with (fail)
  clear c5
  refine (node_leaf HP5.out (w.heap.size + 1) (exq E (nam E p).2 (⟨#[58]⟩ : ByteArray)).k 9 (wd E (exq E (nam E p).2 (⟨#[58]⟩ : ByteArray)).k) (show (exq E (nam E p).2 (⟨#[58]⟩ : ByteArray)).k < E.T.length from Nat.lt_of_succ_lt HP5.out.ok.1)).mono ?_
  rintro e w6 ⟨n, rfl, hst6, hin6, hp6, hf6⟩
  have HP6 := Lib.hid hp6
  have HST_n := Lib.hid hst6
  have HIN_n_6 := Lib.hid hin6
  clear hp6 hst6 hin6
  have HF6 := Lib.hid (HF5.out.trans hf6)
  have HZ6 := Lib.hid (HZ5.out.fr hf6)
  have HS6 := Lib.hid (Nat.le_trans HS5.out hf6.below.size)
  clear HF5 HZ5
  clear hf6
  have c6 := HP6.out.c2
  go_wp2_with (fail)
  clear c6
  have hbA : Below w6.heap.size w6 ((w6.alloc (.cells #[.int .i64 n.kind, .string n.text, .int .i64 n.lo, .int .i64 n.hi, .slice n.A n.kids.length n.c] 31)).alloc (.cells #[.int .i64 n.kind, .string n.text, .int .i64 n.lo, .int .i64 n.hi, .slice n.A n.kids.length n.c] 31)) := (((Below.refl w6.heap.size w6).alloc (by simp) (.cells #[.int .i64 n.kind, .string n.text, .int .i64 n.lo, .int .i64 n.hi, .slice n.A n.kids.length n.c] 31)).alloc (by simp) (.cells #[.int .i64 n.kind, .string n.text, .int .i64 n.lo, .int .i64 n.hi, .slice n.A n.kids.length n.c] 31))
  have hnb0 : ((w6.alloc (.cells #[.int .i64 n.kind, .string n.text, .int .i64 n.lo, .int .i64 n.hi, .slice n.A n.kids.length n.c] 31)).alloc (.cells #[.int .i64 n.kind, .string n.text, .int .i64 n.lo, .int .i64 n.hi, .slice n.A n.kids.length n.c] 31)).heap[w6.heap.size]? = some (.cells #[.int .i64 n.kind, .string n.text, .int .i64 n.lo, .int .i64 n.hi, .slice n.A n.kids.length n.c] 31 (0, 0)) := by
    have hx := heap_alloc_new w6 (.cells #[.int .i64 n.kind, .string n.text, .int .i64 n.lo, .int .i64 n.hi, .slice n.A n.kids.length n.c] 31)
    have hx := (heap_alloc_old (w6.alloc (.cells #[.int .i64 n.kind, .string n.text, .int .i64 n.lo, .int .i64 n.hi, .slice n.A n.kids.length n.c] 31)) (.cells #[.int .i64 n.kind, .string n.text, .int .i64 n.lo, .int .i64 n.hi, .slice n.A n.kids.length n.c] 31) (by simp)).trans hx
    exact hx
  have hnb1 : ((w6.alloc (.cells #[.int .i64 n.kind, .string n.text, .int .i64 n.lo, .int .i64 n.hi, .slice n.A n.kids.length n.c] 31)).alloc (.cells #[.int .i64 n.kind, .string n.text, .int .i64 n.lo, .int .i64 n.hi, .slice n.A n.kids.length n.c] 31)).heap[w6.heap.size + 1]? = some (.cells #[.int .i64 n.kind, .string n.text, .int .i64 n.lo, .int .i64 n.hi, .slice n.A n.kids.length n.c] 31 (0, 0)) := by
    have hx := heap_alloc_new (w6.alloc (.cells #[.int .i64 n.kind, .string n.text, .int .i64 n.lo, .int .i64 n.hi, .slice n.A n.kids.length n.c] 31)) (.cells #[.int .i64 n.kind, .string n.text, .int .i64 n.lo, .int .i64 n.hi, .slice n.A n.kids.length n.c] 31)
    rw [World.size_alloc] at hx
    exact hx
  have HP7 := Lib.hid (HP6.out.later hbA)
  have hf7 := Fr.of_below hbA HP6.out.b0
  have HNV_n_7 := Lib.hid (show NV ((w6.alloc (.cells #[.int .i64 n.kind, .string n.text, .int .i64 n.lo, .int .i64 n.hi, .slice n.A n.kids.length n.c] 31)).alloc (.cells #[.int .i64 n.kind, .string n.text, .int .i64 n.lo, .int .i64 n.hi, .slice n.A n.kids.length n.c] 31)) (w6.heap.size) n from hnb0)
  have HK_7 := Lib.hid (kin_block (lo := w.heap.size + 1) (c := 1) (ks := [n]) hnb1 (fun j _ => by simp [ncl]) (by have := HS6.out; omega) (Nat.le_refl _) (fun k hk => by
    simp only [List.mem_cons, List.not_mem_nil, or_false] at hk
    subst hk; exact HIN_n_6.out.fr hf7))
  have HF7 := Lib.hid (HF6.out.trans hf7)
  have HZ7 := Lib.hid (HZ6.out.fr hf7)
  have HS7 := Lib.hid (Nat.le_trans HS6.out hf7.below.size)
  have HIN_n_7 := Lib.hid (HIN_n_6.out.fr hf7)
  clear HF6 HZ6 HIN_n_6
  clear hbA hf7 hnb0 hnb1
  generalize ((w6.alloc (.cells #[.int .i64 n.kind, .string n.text, .int .i64 n.lo, .int .i64 n.hi, .slice n.A n.kids.length n.c] 31)).alloc (.cells #[.int .i64 n.kind, .string n.text, .int .i64 n.lo, .int .i64 n.hi, .slice n.A n.kids.length n.c] 31)) = w7 at *
  refine (node_kids HP7.out p.k 4 (nam E p).1 _ 1 [n] [(mkN E (rd E (exq E (nam E p).2 (⟨#[58]⟩ : ByteArray))) (exq E (nam E p).2 (⟨#[58]⟩ : ByteArray)).k 9 (wd E (exq E (nam E p).2 (⟨#[58]⟩ : ByteArray)).k) [])] HF.out HK_7.out (by simp only [List.map_cons, List.map_nil, HST_n.out])).mono ?_
  rintro e w8 ⟨m, rfl, hst8, hin8, hp8, hf8⟩
  have HP8 := Lib.hid hp8
  have HST_m := Lib.hid hst8
  have HIN_m_8 := Lib.hid hin8
  clear hp8 hst8 hin8
  have HF8 := Lib.hid (HF7.out.trans hf8)
  have HZ8 := Lib.hid (HZ7.out.fr hf8)
  have HS8 := Lib.hid (Nat.le_trans HS7.out hf8.below.size)
  have HIN_n_8 := Lib.hid (HIN_n_7.out.fr hf8)
  have HNV_n_8 := Lib.hid (HNV_n_7.out.fr hf8)
  clear HF7 HZ7 HIN_n_7 HNV_n_7
  clear hf8
  obtain ⟨z0, z1, z2, z3, z4⟩ := HZ8.out.cells
  have y0 := HZ8.out.frozen 0
  have y1 := HZ8.out.frozen 1
  have y2 := HZ8.out.frozen 2
  have y3 := HZ8.out.frozen 3
  have y4 := HZ8.out.frozen 4
  obtain ⟨b0_n, b1_n, b2_n, b3_n, b4_n⟩ := HNV_n_8.out.cells
  go_wp2_with (fail)
  clear b0_n b1_n b2_n b3_n b4_n
  obtain ⟨hV, hin, hp, hf⟩ := got_put (w := w) (w2 := w8) (n := m) HB0.out HZ8.out (Nat.le_refl _) HIN_m_8.out HP8.out HF8.out
  clear z0 z1 z2 z3 z4 y0 y1 y2 y3 y4
  dsimp only [putN] at hV hin hp hf
  generalize (((((w8.setCell ⟨w.heap.size, 0, none⟩ (.int .i64 m.kind)).setCell ⟨w.heap.size, 1, none⟩ (.string m.text)).setCell ⟨w.heap.size, 2, none⟩ (.int .i64 m.lo)).setCell ⟨w.heap.size, 3, none⟩ (.int .i64 m.hi)).setCell ⟨w.heap.size, 4, none⟩ (.slice m.A m.kids.length m.c)) = V at *
  have v0 := Lib.cell_of_heap hV 0
  have v1 := Lib.cell_of_heap hV 1
  have v2 := Lib.cell_of_heap hV 2
  have v3 := Lib.cell_of_heap hV 3
  have v4 := Lib.cell_of_heap hV 4
  exact bodyPost_ret (v := .agg #[.int .i64 m.kind, .string m.text, .int .i64 m.lo, .int .i64 m.hi, .slice m.A m.kids.length m.c]) (by simp [results, Tryd.results48, go_sem, v0, v1, v2, v3, v4]) rfl ⟨m, rfl, HST_m.out, hin, hp, hf⟩
set_option maxHeartbeats 4000000 in
set_option maxRecDepth 100000 in
theorem fld_none {B0 bp : Nat} {E : Env} {w : World} {p : St} (h : PIs B0 bp E w p)  (hk : (exq E (nam E p).2 (⟨#[58]⟩ : ByteArray)).k < E.T.length) (h1 : isW E (exq E (nam E p).2 (⟨#[58]⟩ : ByteArray)) (⟨#[105, 110, 116]⟩ : ByteArray) = false) (h2 : isW E (exq E (nam E p).2 (⟨#[58]⟩ : ByteArray)) (⟨#[98, 111, 111, 108]⟩ : ByteArray) = false) :
    Calls Tryd.prog 48 #[ptr bp] w fun e w' => Got B0 bp w.heap.size E w (mkN E (rep E (exq E (nam E p).2 (⟨#[58]⟩ : ByteArray)) 4 (⟨#[116, 121, 112, 101]⟩ : ByteArray)) p.k 4 (nam E p).1 [(mkN E (rep E (exq E (nam E p).2 (⟨#[58]⟩ : ByteArray)) 4 (⟨#[116, 121, 112, 101]⟩ : ByteArray)) (exq E (nam E p).2 (⟨#[58]⟩ : ByteArray)).k 1 (⟨#[]⟩ : ByteArray) [])]) ((rep E (exq E (nam E p).2 (⟨#[58]⟩ : ByteArray)) 4 (⟨#[116, 121, 112, 101]⟩ : ByteArray))) e w' := by
  have HF := Lib.hid h.ok.1
  have HB0 := Lib.hid h.b0
  have HP := Lib.hid h
  clear h
  unfold ptr at *
  go_enter Tryd.func48, Tryd.ntmps48
  have hb0 := (Below.refl w.heap.size w).alloc (Nat.le_refl _) (.cells #[.int .i64 0, .string ⟨#[]⟩, .int .i64 0, .int .i64 0, .slice none 0 0] 31)
  have hz0 : ZB (w.alloc (.cells #[.int .i64 0, .string ⟨#[]⟩, .int .i64 0, .int .i64 0, .slice none 0 0] 31)) w.heap.size := heap_alloc_new w _
  have hs0 : (w.alloc (.cells #[.int .i64 0, .string ⟨#[]⟩, .int .i64 0, .int .i64 0, .slice none 0 0] 31)).heap.size = w.heap.size + 1 := World.size_alloc _ _
  have HP0 := Lib.hid (HP.out.later hb0)
  have HF0 := Lib.hid (Fr.of_below hb0 HB0.out)
  have HZ0 := Lib.hid hz0
  have HS0 := Lib.hid (show w.heap.size + 1 ≤ (w.alloc (.cells #[.int .i64 0, .string ⟨#[]⟩, .int .i64 0, .int .i64 0, .slice none 0 0] 31)).heap.size by rw [hs0]; omega)
  have c0 := HP0.out.c2
  clear hb0 hz0 hs0
  go_wp2_with (fail)
  clear c0
  generalize (w.alloc (.cells #[.int .i64 0, .string ⟨#[]⟩, .int .i64 0, .int .i64 0, .slice none 0 0] 31)) = w0 at *
  refine (name_any HP0.out).mono ?_
  rintro e w1 ⟨rfl, hp1, hf1⟩
  have HP1 := Lib.hid hp1
  clear hp1
  have HF1 := Lib.hid (HF0.out.trans hf1)
  have HZ1 := Lib.hid (HZ0.out.fr hf1)
  have HS1 := Lib.hid (Nat.le_trans HS0.out hf1.below.size)
  clear HF0 HZ0
  clear hf1
  have c1 := HP1.out.c2
  go_wp2_with (fail)
  clear c1
  refine (expect_any HP1.out (⟨#[58]⟩ : ByteArray)).mono ?_
  rintro e w2 ⟨rfl, hp2, hf2⟩
  have HP2 := Lib.hid hp2
  clear hp2
  have HF2 := Lib.hid (HF1.out.trans hf2)
  have HZ2 := Lib.hid (HZ1.out.fr hf2)
  have HS2 := Lib.hid (Nat.le_trans HS1.out hf2.below.size)
  clear HF1 HZ1
  clear hf2
  have c2 := HP2.out.c2
  go_wp2_with (fail)
  clear c2
  refine (is_at HP2.out h1).mono ?_
  rintro e w3 ⟨rfl, hb3⟩
  have hf3 := Fr.of_below hb3 HP2.out.b0
  have HP3 := Lib.hid (HP2.out.later hb3)
  clear hb3
  have HF3 := Lib.hid (HF2.out.trans hf3)
  have HZ3 := Lib.hid (HZ2.out.fr hf3)
  have HS3 := Lib.hid (Nat.le_trans HS2.out hf3.below.size)
  clear HF2 HZ2
  clear hf3
  have c3 := HP3.out.c2
  go_wp2_with (fail)
  clear c3
  refine (is_at HP3.out h2).mono ?_
  rintro e w4 ⟨rfl, hb4⟩
  have hf4 := Fr.of_below hb4 HP3.out.b0
  have HP4 := Lib.hid (HP3.out.later hb4)
  clear hb4
  have HF4 := Lib.hid (HF3.out.trans hf4)
  have HZ4 := Lib.hid (HZ3.out.fr hf4)
  have HS4 := Lib.hid (Nat.le_trans HS3.out hf4.below.size)
  clear HF3 HZ3
  clear hf4
  have c4 := HP4.out.c2
  go_wp2_with (fail)
  clear c4
  refine (report_any HP4.out 4 (⟨#[116, 121, 112, 101]⟩ : ByteArray)).mono ?_
  rintro e w5 ⟨rfl, hp5, hf5⟩
  have HP5 := Lib.hid hp5
  clear hp5
  have HF5 := Lib.hid (HF4.out.trans hf5)
  have HZ5 := Lib.hid (HZ4.out.fr hf5)
  have HS5 := Lib.hid (Nat.le_trans HS4.out hf5.below.size)
  clear HF4 HZ4
  clear hf5
  have c5 := HP5.out.c2
  go_wp2_with (fail)
  clear c5
  refine (node_leaf HP5.out (w.heap.size + 1) (exq E (nam E p).2 (⟨#[58]⟩ : ByteArray)).k 1 (⟨#[]⟩ : ByteArray) hk).mono ?_
  rintro e w6 ⟨n, rfl, hst6, hin6, hp6, hf6⟩
  have HP6 := Lib.hid hp6
  have HST_n := Lib.hid hst6
  have HIN_n_6 := Lib.hid hin6
  clear hp6 hst6 hin6
  have HF6 := Lib.hid (HF5.out.trans hf6)
  have HZ6 := Lib.hid (HZ5.out.fr hf6)
  have HS6 := Lib.hid (Nat.le_trans HS5.out hf6.below.size)
  clear HF5 HZ5
  clear hf6
  have c6 := HP6.out.c2
  go_wp2_with (fail)
  clear c6
  have hbA : Below w6.heap.size w6 ((w6.alloc (.cells #[.int .i64 n.kind, .string n.text, .int .i64 n.lo, .int .i64 n.hi, .slice n.A n.kids.length n.c] 31)).alloc (.cells #[.int .i64 n.kind, .string n.text, .int .i64 n.lo, .int .i64 n.hi, .slice n.A n.kids.length n.c] 31)) := (((Below.refl w6.heap.size w6).alloc (by simp) (.cells #[.int .i64 n.kind, .string n.text, .int .i64 n.lo, .int .i64 n.hi, .slice n.A n.kids.length n.c] 31)).alloc (by simp) (.cells #[.int .i64 n.kind, .string n.text, .int .i64 n.lo, .int .i64 n.hi, .slice n.A n.kids.length n.c] 31))
  have hnb0 : ((w6.alloc (.cells #[.int .i64 n.kind, .string n.text, .int .i64 n.lo, .int .i64 n.hi, .slice n.A n.kids.length n.c] 31)).alloc (.cells #[.int .i64 n.kind, .string n.text, .int .i64 n.lo, .int .i64 n.hi, .slice n.A n.kids.length n.c] 31)).heap[w6.heap.size]? = some (.cells #[.int .i64 n.kind, .string n.text, .int .i64 n.lo, .int .i64 n.hi, .slice n.A n.kids.length n.c] 31 (0, 0)) := by
    have hx := heap_alloc_new w6 (.cells #[.int .i64 n.kind, .string n.text, .int .i64 n.lo, .int .i64 n.hi, .slice n.A n.kids.length n.c] 31)
    have hx := (heap_alloc_old (w6.alloc (.cells #[.int .i64 n.kind, .string n.text, .int .i64 n.lo, .int .i64 n.hi, .slice n.A n.kids.length n.c] 31)) (.cells #[.int .i64 n.kind, .string n.text, .int .i64 n.lo, .int .i64 n.hi, .slice n.A n.kids.length n.c] 31) (by simp)).trans hx
    exact hx
  have hnb1 : ((w6.alloc (.cells #[.int .i64 n.kind, .string n.text, .int .i64 n.lo, .int .i64 n.hi, .slice n.A n.kids.length n.c] 31)).alloc (.cells #[.int .i64 n.kind, .string n.text, .int .i64 n.lo, .int .i64 n.hi, .slice n.A n.kids.length n.c] 31)).heap[w6.heap.size + 1]? = some (.cells #[.int .i64 n.kind, .string n.text, .int .i64 n.lo, .int .i64 n.hi, .slice n.A n.kids.length n.c] 31 (0, 0)) := by
    have hx := heap_alloc_new (w6.alloc (.cells #[.int .i64 n.kind, .string n.text, .int .i64 n.lo, .int .i64 n.hi, .slice n.A n.kids.length n.c] 31)) (.cells #[.int .i64 n.kind, .string n.text, .int .i64 n.lo, .int .i64 n.hi, .slice n.A n.kids.length n.c] 31)
    rw [World.size_alloc] at hx
    exact hx
  have HP7 := Lib.hid (HP6.out.later hbA)
  have hf7 := Fr.of_below hbA HP6.out.b0
  have HNV_n_7 := Lib.hid (show NV ((w6.alloc (.cells #[.int .i64 n.kind, .string n.text, .int .i64 n.lo, .int .i64 n.hi, .slice n.A n.kids.length n.c] 31)).alloc (.cells #[.int .i64 n.kind, .string n.text, .int .i64 n.lo, .int .i64 n.hi, .slice n.A n.kids.length n.c] 31)) (w6.heap.size) n from hnb0)
  have HK_7 := Lib.hid (kin_block (lo := w.heap.size + 1) (c := 1) (ks := [n]) hnb1 (fun j _ => by simp [ncl]) (by have := HS6.out; omega) (Nat.le_refl _) (fun k hk => by
    simp only [List.mem_cons, List.not_mem_nil, or_false] at hk
    subst hk; exact HIN_n_6.out.fr hf7))
  have HF7 := Lib.hid (HF6.out.trans hf7)
  have HZ7 := Lib.hid (HZ6.out.fr hf7)
  have HS7 := Lib.hid (Nat.le_trans HS6.out hf7.below.size)
  have HIN_n_7 := Lib.hid (HIN_n_6.out.fr hf7)
  clear HF6 HZ6 HIN_n_6
  clear hbA hf7 hnb0 hnb1
  generalize ((w6.alloc (.cells #[.int .i64 n.kind, .string n.text, .int .i64 n.lo, .int .i64 n.hi, .slice n.A n.kids.length n.c] 31)).alloc (.cells #[.int .i64 n.kind, .string n.text, .int .i64 n.lo, .int .i64 n.hi, .slice n.A n.kids.length n.c] 31)) = w7 at *
  refine (node_kids HP7.out p.k 4 (nam E p).1 _ 1 [n] [(mkN E (rep E (exq E (nam E p).2 (⟨#[58]⟩ : ByteArray)) 4 (⟨#[116, 121, 112, 101]⟩ : ByteArray)) (exq E (nam E p).2 (⟨#[58]⟩ : ByteArray)).k 1 (⟨#[]⟩ : ByteArray) [])] HF.out HK_7.out (by simp only [List.map_cons, List.map_nil, HST_n.out])).mono ?_
  rintro e w8 ⟨m, rfl, hst8, hin8, hp8, hf8⟩
  have HP8 := Lib.hid hp8
  have HST_m := Lib.hid hst8
  have HIN_m_8 := Lib.hid hin8
  clear hp8 hst8 hin8
  have HF8 := Lib.hid (HF7.out.trans hf8)
  have HZ8 := Lib.hid (HZ7.out.fr hf8)
  have HS8 := Lib.hid (Nat.le_trans HS7.out hf8.below.size)
  have HIN_n_8 := Lib.hid (HIN_n_7.out.fr hf8)
  have HNV_n_8 := Lib.hid (HNV_n_7.out.fr hf8)
  clear HF7 HZ7 HIN_n_7 HNV_n_7
  clear hf8
  obtain ⟨z0, z1, z2, z3, z4⟩ := HZ8.out.cells
  have y0 := HZ8.out.frozen 0
  have y1 := HZ8.out.frozen 1
  have y2 := HZ8.out.frozen 2
  have y3 := HZ8.out.frozen 3
  have y4 := HZ8.out.frozen 4
  obtain ⟨b0_n, b1_n, b2_n, b3_n, b4_n⟩ := HNV_n_8.out.cells
  go_wp2_with (fail)
  clear b0_n b1_n b2_n b3_n b4_n
  obtain ⟨hV, hin, hp, hf⟩ := got_put (w := w) (w2 := w8) (n := m) HB0.out HZ8.out (Nat.le_refl _) HIN_m_8.out HP8.out HF8.out
  clear z0 z1 z2 z3 z4 y0 y1 y2 y3 y4
  dsimp only [putN] at hV hin hp hf
  generalize (((((w8.setCell ⟨w.heap.size, 0, none⟩ (.int .i64 m.kind)).setCell ⟨w.heap.size, 1, none⟩ (.string m.text)).setCell ⟨w.heap.size, 2, none⟩ (.int .i64 m.lo)).setCell ⟨w.heap.size, 3, none⟩ (.int .i64 m.hi)).setCell ⟨w.heap.size, 4, none⟩ (.slice m.A m.kids.length m.c)) = V at *
  have v0 := Lib.cell_of_heap hV 0
  have v1 := Lib.cell_of_heap hV 1
  have v2 := Lib.cell_of_heap hV 2
  have v3 := Lib.cell_of_heap hV 3
  have v4 := Lib.cell_of_heap hV 4
  exact bodyPost_ret (v := .agg #[.int .i64 m.kind, .string m.text, .int .i64 m.lo, .int .i64 m.hi, .slice m.A m.kids.length m.c]) (by simp [results, Tryd.results48, go_sem, v0, v1, v2, v3, v4]) rfl ⟨m, rfl, HST_m.out, hin, hp, hf⟩
end Go.Proofs.YtnpcfmoiiecadaaDoor.Par
set_option linter.unusedVariables false
namespace Go.Proofs.YtnpcfmoiiecadaaDoor.Par
open Go.RowKit
open Lx (Tok)

theorem rep_k (E : Env) (p : St) (c : Int) (x : ByteArray) : (rep E p c x).k = p.k := by unfold rep; split <;> rfl
theorem fld_any {B0 bp : Nat} {E : Env} {w : World} {p : St} (h : PIs B0 bp E w p) (hk : (exq E (nam E p).2 (⟨#[58]⟩ : ByteArray)).k < E.T.length) :
    Calls Tryd.prog 48 #[ptr bp] w fun e w' => Got B0 bp w.heap.size E w (fld E p).1 (fld E p).2 e w' := by
  unfold fld
  cases h1 : isW E (exq E (nam E p).2 (⟨#[58]⟩ : ByteArray)) (⟨#[105, 110, 116]⟩ : ByteArray) with
  | true => simp only [h1, Bool.true_or, if_true]; exact fld_int h h1 (isW_not_end h1)
  | false =>
    cases h2 : isW E (exq E (nam E p).2 (⟨#[58]⟩ : ByteArray)) (⟨#[98, 111, 111, 108]⟩ : ByteArray) with
    | true => simp only [h1, h2, Bool.false_or, if_true]; exact fld_bool h h1 h2 (isW_not_end h2)
    | false => simp only [h1, h2, Bool.false_or, Bool.false_eq_true, if_false]; exact fld_none h hk h1 h2
set_option maxHeartbeats 4000000 in
set_option maxRecDepth 100000 in
theorem par_var {B0 bp : Nat} {E : Env} {w : World} {p : St} (h : PIs B0 bp E w p)  (h1 : isW E p (⟨#[118, 97, 114]⟩ : ByteArray) = true) :
    Calls Tryd.prog 62 #[ptr bp] w fun e w' => Got B0 bp w.heap.size E w (mkN E (opt E (nam E (rd E p)).2).2 p.k 8 (nam E (rd E p)).1 [(opt E (nam E (rd E p)).2).1]) ((opt E (nam E (rd E p)).2).2) e w' := by
  have HF := Lib.hid h.ok.1
  have HB0 := Lib.hid h.b0
  have HP := Lib.hid h
  clear h
  unfold ptr at *
  go_enter Tryd.func62, Tryd.ntmps62
  have hb0 := (Below.refl w.heap.size w).alloc (Nat.le_refl _) (.cells #[.int .i64 0, .string ⟨#[]⟩, .int .i64 0, .int .i64 0, .slice none 0 0] 31)
  have hz0 : ZB (w.alloc (.cells #[.int .i64 0, .string ⟨#[]⟩, .int .i64 0, .int .i64 0, .slice none 0 0] 31)) w.heap.size := heap_alloc_new w _
  have hs0 : (w.alloc (.cells #[.int .i64 0, .string ⟨#[]⟩, .int .i64 0, .int .i64 0, .slice none 0 0] 31)).heap.size = w.heap.size + 1 := World.size_alloc _ _
  have HP0 := Lib.hid (HP.out.later hb0)
  have HF0 := Lib.hid (Fr.of_below hb0 HB0.out)
  have HZ0 := Lib.hid hz0
  have HS0 := Lib.hid (show w.heap.size + 1 ≤ (w.alloc (.cells #[.int .i64 0, .string ⟨#[]⟩, .int .i64 0, .int .i64 0, .slice none 0 0] 31)).heap.size by rw [hs0]; omega)
  have c0 := HP0.out.c2
  clear hb0 hz0 hs0
  go_wp2_with (fail)
  clear c0
  generalize (w.alloc (.cells #[.int .i64 0, .string ⟨#[]⟩, .int .i64 0, .int .i64 0, .slice none 0 0] 31)) = w0 at *
  refine (accept_yes HP0.out h1).mono ?_
  rintro e w1 ⟨rfl, hp1, hf1⟩
  have HP1 := Lib.hid hp1
  clear hp1
  have HF1 := Lib.hid (HF0.out.trans hf1)
  have HZ1 := Lib.hid (HZ0.out.fr hf1)
  have HS1 := Lib.hid (Nat.le_trans HS0.out hf1.below.size)
  clear HF0 HZ0
  clear hf1
  have c1 := HP1.out.c2
  go_wp2_with (fail)
  clear c1
  refine (name_any HP1.out).mono ?_
  rintro e w2 ⟨rfl, hp2, hf2⟩
  have HP2 := Lib.hid hp2
  clear hp2
  have HF2 := Lib.hid (HF1.out.trans hf2)
  have HZ2 := Lib.hid (HZ1.out.fr hf2)
  have HS2 := Lib.hid (Nat.le_trans HS1.out hf2.below.size)
  clear HF1 HZ1
  clear hf2
  have c2 := HP2.out.c2
  go_wp2_with (fail)
  clear c2
  refine (opt_any HP2.out).mono ?_
  rintro e w3 ⟨n, rfl, hst3, hin3, hp3, hf3⟩
  have HP3 := Lib.hid hp3
  have HST_n := Lib.hid hst3
  have HIN_n_3 := Lib.hid (InF.mono hin3 HS2.out)
  clear hp3 hst3 hin3
  have HF3 := Lib.hid (HF2.out.trans hf3)
  have HZ3 := Lib.hid (HZ2.out.fr hf3)
  have HS3 := Lib.hid (Nat.le_trans HS2.out hf3.below.size)
  clear HF2 HZ2
  clear hf3
  have c3 := HP3.out.c2
  go_wp2_with (fail)
  clear c3
  have hbA : Below w3.heap.size w3 ((w3.alloc (.cells #[.int .i64 n.kind, .string n.text, .int .i64 n.lo, .int .i64 n.hi, .slice n.A n.kids.length n.c] 31)).alloc (.cells #[.int .i64 n.kind, .string n.text, .int .i64 n.lo, .int .i64 n.hi, .slice n.A n.kids.length n.c] 31)) := (((Below.refl w3.heap.size w3).alloc (by simp) (.cells #[.int .i64 n.kind, .string n.text, .int .i64 n.lo, .int .i64 n.hi, .slice n.A n.kids.length n.c] 31)).alloc (by simp) (.cells #[.int .i64 n.kind, .string n.text, .int .i64 n.lo, .int .i64 n.hi, .slice n.A n.kids.length n.c] 31))
  have hnb0 : ((w3.alloc (.cells #[.int .i64 n.kind, .string n.text, .int .i64 n.lo, .int .i64 n.hi, .slice n.A n.kids.length n.c] 31)).alloc (.cells #[.int .i64 n.kind, .string n.text, .int .i64 n.lo, .int .i64 n.hi, .slice n.A n.kids.length n.c] 31)).heap[w3.heap.size]? = some (.cells #[.int .i64 n.kind, .string n.text, .int .i64 n.lo, .int .i64 n.hi, .slice n.A n.kids.length n.c] 31 (0, 0)) := by
    have hx := heap_alloc_new w3 (.cells #[.int .i64 n.kind, .string n.text, .int .i64 n.lo, .int .i64 n.hi, .slice n.A n.kids.length n.c] 31)
    have hx := (heap_alloc_old (w3.alloc (.cells #[.int .i64 n.kind, .string n.text, .int .i64 n.lo, .int .i64 n.hi, .slice n.A n.kids.length n.c] 31)) (.cells #[.int .i64 n.kind, .string n.text, .int .i64 n.lo, .int .i64 n.hi, .slice n.A n.kids.length n.c] 31) (by simp)).trans hx
    exact hx
  have hnb1 : ((w3.alloc (.cells #[.int .i64 n.kind, .string n.text, .int .i64 n.lo, .int .i64 n.hi, .slice n.A n.kids.length n.c] 31)).alloc (.cells #[.int .i64 n.kind, .string n.text, .int .i64 n.lo, .int .i64 n.hi, .slice n.A n.kids.length n.c] 31)).heap[w3.heap.size + 1]? = some (.cells #[.int .i64 n.kind, .string n.text, .int .i64 n.lo, .int .i64 n.hi, .slice n.A n.kids.length n.c] 31 (0, 0)) := by
    have hx := heap_alloc_new (w3.alloc (.cells #[.int .i64 n.kind, .string n.text, .int .i64 n.lo, .int .i64 n.hi, .slice n.A n.kids.length n.c] 31)) (.cells #[.int .i64 n.kind, .string n.text, .int .i64 n.lo, .int .i64 n.hi, .slice n.A n.kids.length n.c] 31)
    rw [World.size_alloc] at hx
    exact hx
  have HP4 := Lib.hid (HP3.out.later hbA)
  have hf4 := Fr.of_below hbA HP3.out.b0
  have HNV_n_4 := Lib.hid (show NV ((w3.alloc (.cells #[.int .i64 n.kind, .string n.text, .int .i64 n.lo, .int .i64 n.hi, .slice n.A n.kids.length n.c] 31)).alloc (.cells #[.int .i64 n.kind, .string n.text, .int .i64 n.lo, .int .i64 n.hi, .slice n.A n.kids.length n.c] 31)) (w3.heap.size) n from hnb0)
  have HK_4 := Lib.hid (kin_block (lo := w.heap.size + 1) (c := 1) (ks := [n]) hnb1 (fun j _ => by simp [ncl]) (by have := HS3.out; omega) (Nat.le_refl _) (fun k hk => by
    simp only [List.mem_cons, List.not_mem_nil, or_false] at hk
    subst hk; exact HIN_n_3.out.fr hf4))
  have HF4 := Lib.hid (HF3.out.trans hf4)
  have HZ4 := Lib.hid (HZ3.out.fr hf4)
  have HS4 := Lib.hid (Nat.le_trans HS3.out hf4.below.size)
  have HIN_n_4 := Lib.hid (HIN_n_3.out.fr hf4)
  clear HF3 HZ3 HIN_n_3
  clear hbA hf4 hnb0 hnb1
  generalize ((w3.alloc (.cells #[.int .i64 n.kind, .string n.text, .int .i64 n.lo, .int .i64 n.hi, .slice n.A n.kids.length n.c] 31)).alloc (.cells #[.int .i64 n.kind, .string n.text, .int .i64 n.lo, .int .i64 n.hi, .slice n.A n.kids.length n.c] 31)) = w4 at *
  refine (node_kids HP4.out p.k 8 (nam E (rd E p)).1 _ 1 [n] [(opt E (nam E (rd E p)).2).1] HF.out HK_4.out (by simp only [List.map_cons, List.map_nil, HST_n.out])).mono ?_
  rintro e w5 ⟨m, rfl, hst5, hin5, hp5, hf5⟩
  have HP5 := Lib.hid hp5
  have HST_m := Lib.hid hst5
  have HIN_m_5 := Lib.hid hin5
  clear hp5 hst5 hin5
  have HF5 := Lib.hid (HF4.out.trans hf5)
  have HZ5 := Lib.hid (HZ4.out.fr hf5)
  have HS5 := Lib.hid (Nat.le_trans HS4.out hf5.below.size)
  have HIN_n_5 := Lib.hid (HIN_n_4.out.fr hf5)
  have HNV_n_5 := Lib.hid (HNV_n_4.out.fr hf5)
  clear HF4 HZ4 HIN_n_4 HNV_n_4
  clear hf5
  obtain ⟨z0, z1, z2, z3, z4⟩ := HZ5.out.cells
  have y0 := HZ5.out.frozen 0
  have y1 := HZ5.out.frozen 1
  have y2 := HZ5.out.frozen 2
  have y3 := HZ5.out.frozen 3
  have y4 := HZ5.out.frozen 4
  obtain ⟨b0_n, b1_n, b2_n, b3_n, b4_n⟩ := HNV_n_5.out.cells
  go_wp2_with (fail)
  clear b0_n b1_n b2_n b3_n b4_n
  obtain ⟨hV, hin, hp, hf⟩ := got_put (w := w) (w2 := w5) (n := m) HB0.out HZ5.out (Nat.le_refl _) HIN_m_5.out HP5.out HF5.out
  clear z0 z1 z2 z3 z4 y0 y1 y2 y3 y4
  dsimp only [putN] at hV hin hp hf
  generalize (((((w5.setCell ⟨w.heap.size, 0, none⟩ (.int .i64 m.kind)).setCell ⟨w.heap.size, 1, none⟩ (.string m.text)).setCell ⟨w.heap.size, 2, none⟩ (.int .i64 m.lo)).setCell ⟨w.heap.size, 3, none⟩ (.int .i64 m.hi)).setCell ⟨w.heap.size, 4, none⟩ (.slice m.A m.kids.length m.c)) = V at *
  have v0 := Lib.cell_of_heap hV 0
  have v1 := Lib.cell_of_heap hV 1
  have v2 := Lib.cell_of_heap hV 2
  have v3 := Lib.cell_of_heap hV 3
  have v4 := Lib.cell_of_heap hV 4
  exact bodyPost_ret (v := .agg #[.int .i64 m.kind, .string m.text, .int .i64 m.lo, .int .i64 m.hi, .slice m.A m.kids.length m.c]) (by simp [results, Tryd.results62, go_sem, v0, v1, v2, v3, v4]) rfl ⟨m, rfl, HST_m.out, hin, hp, hf⟩
set_option maxHeartbeats 4000000 in
set_option maxRecDepth 100000 in
theorem par_val {B0 bp : Nat} {E : Env} {w : World} {p : St} (h : PIs B0 bp E w p)  (h1 : isW E p (⟨#[118, 97, 114]⟩ : ByteArray) = false) :
    Calls Tryd.prog 62 #[ptr bp] w fun e w' => Got B0 bp w.heap.size E w (mkN E (opt E (nam E p).2).2 p.k 7 (nam E p).1 [(opt E (nam E p).2).1]) ((opt E (nam E p).2).2) e w' := by
  have HF := Lib.hid h.ok.1
  have HB0 := Lib.hid h.b0
  have HP := Lib.hid h
  clear h
  unfold ptr at *
  go_enter Tryd.func62, Tryd.ntmps62
  have hb0 := (Below.refl w.heap.size w).alloc (Nat.le_refl _) (.cells #[.int .i64 0, .string ⟨#[]⟩, .int .i64 0, .int .i64 0, .slice none 0 0] 31)
  have hz0 : ZB (w.alloc (.cells #[.int .i64 0, .string ⟨#[]⟩, .int .i64 0, .int .i64 0, .slice none 0 0] 31)) w.heap.size := heap_alloc_new w _
  have hs0 : (w.alloc (.cells #[.int .i64 0, .string ⟨#[]⟩, .int .i64 0, .int .i64 0, .slice none 0 0] 31)).heap.size = w.heap.size + 1 := World.size_alloc _ _
  have HP0 := Lib.hid (HP.out.later hb0)
  have HF0 := Lib.hid (Fr.of_below hb0 HB0.out)
  have HZ0 := Lib.hid hz0
  have HS0 := Lib.hid (show w.heap.size + 1 ≤ (w.alloc (.cells #[.int .i64 0, .string ⟨#[]⟩, .int .i64 0, .int .i64 0, .slice none 0 0] 31)).heap.size by rw [hs0]; omega)
  have c0 := HP0.out.c2
  clear hb0 hz0 hs0
  go_wp2_with (fail)
  clear c0
  generalize (w.alloc (.cells #[.int .i64 0, .string ⟨#[]⟩, .int .i64 0, .int .i64 0, .slice none 0 0] 31)) = w0 at *
  refine (accept_no HP0.out h1).mono ?_
  rintro e w1 ⟨rfl, hp1, hf1⟩
  have HP1 := Lib.hid hp1
  clear hp1
  have HF1 := Lib.hid (HF0.out.trans hf1)
  have HZ1 := Lib.hid (HZ0.out.fr hf1)
  have HS1 := Lib.hid (Nat.le_trans HS0.out hf1.below.size)
  clear HF0 HZ0
  clear hf1
  have c1 := HP1.out.c2
  go_wp2_with (fail)
  clear c1
  refine (name_any HP1.out).mono ?_
  rintro e w2 ⟨rfl, hp2, hf2⟩
  have HP2 := Lib.hid hp2
  clear hp2
  have HF2 := Lib.hid (HF1.out.trans hf2)
  have HZ2 := Lib.hid (HZ1.out.fr hf2)
  have HS2 := Lib.hid (Nat.le_trans HS1.out hf2.below.size)
  clear HF1 HZ1
  clear hf2
  have c2 := HP2.out.c2
  go_wp2_with (fail)
  clear c2
  refine (opt_any HP2.out).mono ?_
  rintro e w3 ⟨n, rfl, hst3, hin3, hp3, hf3⟩
  have HP3 := Lib.hid hp3
  have HST_n := Lib.hid hst3
  have HIN_n_3 := Lib.hid (InF.mono hin3 HS2.out)
  clear hp3 hst3 hin3
  have HF3 := Lib.hid (HF2.out.trans hf3)
  have HZ3 := Lib.hid (HZ2.out.fr hf3)
  have HS3 := Lib.hid (Nat.le_trans HS2.out hf3.below.size)
  clear HF2 HZ2
  clear hf3
  have c3 := HP3.out.c2
  go_wp2_with (fail)
  clear c3
  have hbA : Below w3.heap.size w3 ((w3.alloc (.cells #[.int .i64 n.kind, .string n.text, .int .i64 n.lo, .int .i64 n.hi, .slice n.A n.kids.length n.c] 31)).alloc (.cells #[.int .i64 n.kind, .string n.text, .int .i64 n.lo, .int .i64 n.hi, .slice n.A n.kids.length n.c] 31)) := (((Below.refl w3.heap.size w3).alloc (by simp) (.cells #[.int .i64 n.kind, .string n.text, .int .i64 n.lo, .int .i64 n.hi, .slice n.A n.kids.length n.c] 31)).alloc (by simp) (.cells #[.int .i64 n.kind, .string n.text, .int .i64 n.lo, .int .i64 n.hi, .slice n.A n.kids.length n.c] 31))
  have hnb0 : ((w3.alloc (.cells #[.int .i64 n.kind, .string n.text, .int .i64 n.lo, .int .i64 n.hi, .slice n.A n.kids.length n.c] 31)).alloc (.cells #[.int .i64 n.kind, .string n.text, .int .i64 n.lo, .int .i64 n.hi, .slice n.A n.kids.length n.c] 31)).heap[w3.heap.size]? = some (.cells #[.int .i64 n.kind, .string n.text, .int .i64 n.lo, .int .i64 n.hi, .slice n.A n.kids.length n.c] 31 (0, 0)) := by
    have hx := heap_alloc_new w3 (.cells #[.int .i64 n.kind, .string n.text, .int .i64 n.lo, .int .i64 n.hi, .slice n.A n.kids.length n.c] 31)
    have hx := (heap_alloc_old (w3.alloc (.cells #[.int .i64 n.kind, .string n.text, .int .i64 n.lo, .int .i64 n.hi, .slice n.A n.kids.length n.c] 31)) (.cells #[.int .i64 n.kind, .string n.text, .int .i64 n.lo, .int .i64 n.hi, .slice n.A n.kids.length n.c] 31) (by simp)).trans hx
    exact hx
  have hnb1 : ((w3.alloc (.cells #[.int .i64 n.kind, .string n.text, .int .i64 n.lo, .int .i64 n.hi, .slice n.A n.kids.length n.c] 31)).alloc (.cells #[.int .i64 n.kind, .string n.text, .int .i64 n.lo, .int .i64 n.hi, .slice n.A n.kids.length n.c] 31)).heap[w3.heap.size + 1]? = some (.cells #[.int .i64 n.kind, .string n.text, .int .i64 n.lo, .int .i64 n.hi, .slice n.A n.kids.length n.c] 31 (0, 0)) := by
    have hx := heap_alloc_new (w3.alloc (.cells #[.int .i64 n.kind, .string n.text, .int .i64 n.lo, .int .i64 n.hi, .slice n.A n.kids.length n.c] 31)) (.cells #[.int .i64 n.kind, .string n.text, .int .i64 n.lo, .int .i64 n.hi, .slice n.A n.kids.length n.c] 31)
    rw [World.size_alloc] at hx
    exact hx
  have HP4 := Lib.hid (HP3.out.later hbA)
  have hf4 := Fr.of_below hbA HP3.out.b0
  have HNV_n_4 := Lib.hid (show NV ((w3.alloc (.cells #[.int .i64 n.kind, .string n.text, .int .i64 n.lo, .int .i64 n.hi, .slice n.A n.kids.length n.c] 31)).alloc (.cells #[.int .i64 n.kind, .string n.text, .int .i64 n.lo, .int .i64 n.hi, .slice n.A n.kids.length n.c] 31)) (w3.heap.size) n from hnb0)
  have HK_4 := Lib.hid (kin_block (lo := w.heap.size + 1) (c := 1) (ks := [n]) hnb1 (fun j _ => by simp [ncl]) (by have := HS3.out; omega) (Nat.le_refl _) (fun k hk => by
    simp only [List.mem_cons, List.not_mem_nil, or_false] at hk
    subst hk; exact HIN_n_3.out.fr hf4))
  have HF4 := Lib.hid (HF3.out.trans hf4)
  have HZ4 := Lib.hid (HZ3.out.fr hf4)
  have HS4 := Lib.hid (Nat.le_trans HS3.out hf4.below.size)
  have HIN_n_4 := Lib.hid (HIN_n_3.out.fr hf4)
  clear HF3 HZ3 HIN_n_3
  clear hbA hf4 hnb0 hnb1
  generalize ((w3.alloc (.cells #[.int .i64 n.kind, .string n.text, .int .i64 n.lo, .int .i64 n.hi, .slice n.A n.kids.length n.c] 31)).alloc (.cells #[.int .i64 n.kind, .string n.text, .int .i64 n.lo, .int .i64 n.hi, .slice n.A n.kids.length n.c] 31)) = w4 at *
  refine (node_kids HP4.out p.k 7 (nam E p).1 _ 1 [n] [(opt E (nam E p).2).1] HF.out HK_4.out (by simp only [List.map_cons, List.map_nil, HST_n.out])).mono ?_
  rintro e w5 ⟨m, rfl, hst5, hin5, hp5, hf5⟩
  have HP5 := Lib.hid hp5
  have HST_m := Lib.hid hst5
  have HIN_m_5 := Lib.hid hin5
  clear hp5 hst5 hin5
  have HF5 := Lib.hid (HF4.out.trans hf5)
  have HZ5 := Lib.hid (HZ4.out.fr hf5)
  have HS5 := Lib.hid (Nat.le_trans HS4.out hf5.below.size)
  have HIN_n_5 := Lib.hid (HIN_n_4.out.fr hf5)
  have HNV_n_5 := Lib.hid (HNV_n_4.out.fr hf5)
  clear HF4 HZ4 HIN_n_4 HNV_n_4
  clear hf5
  obtain ⟨z0, z1, z2, z3, z4⟩ := HZ5.out.cells
  have y0 := HZ5.out.frozen 0
  have y1 := HZ5.out.frozen 1
  have y2 := HZ5.out.frozen 2
  have y3 := HZ5.out.frozen 3
  have y4 := HZ5.out.frozen 4
  obtain ⟨b0_n, b1_n, b2_n, b3_n, b4_n⟩ := HNV_n_5.out.cells
  go_wp2_with (fail)
  clear b0_n b1_n b2_n b3_n b4_n
  obtain ⟨hV, hin, hp, hf⟩ := got_put (w := w) (w2 := w5) (n := m) HB0.out HZ5.out (Nat.le_refl _) HIN_m_5.out HP5.out HF5.out
  clear z0 z1 z2 z3 z4 y0 y1 y2 y3 y4
  dsimp only [putN] at hV hin hp hf
  generalize (((((w5.setCell ⟨w.heap.size, 0, none⟩ (.int .i64 m.kind)).setCell ⟨w.heap.size, 1, none⟩ (.string m.text)).setCell ⟨w.heap.size, 2, none⟩ (.int .i64 m.lo)).setCell ⟨w.heap.size, 3, none⟩ (.int .i64 m.hi)).setCell ⟨w.heap.size, 4, none⟩ (.slice m.A m.kids.length m.c)) = V at *
  have v0 := Lib.cell_of_heap hV 0
  have v1 := Lib.cell_of_heap hV 1
  have v2 := Lib.cell_of_heap hV 2
  have v3 := Lib.cell_of_heap hV 3
  have v4 := Lib.cell_of_heap hV 4
  exact bodyPost_ret (v := .agg #[.int .i64 m.kind, .string m.text, .int .i64 m.lo, .int .i64 m.hi, .slice m.A m.kids.length m.c]) (by simp [results, Tryd.results62, go_sem, v0, v1, v2, v3, v4]) rfl ⟨m, rfl, HST_m.out, hin, hp, hf⟩
theorem par_any {B0 bp : Nat} {E : Env} {w : World} {p : St} (h : PIs B0 bp E w p) :
    Calls Tryd.prog 62 #[ptr bp] w fun e w' => Got B0 bp w.heap.size E w (par E p).1 (par E p).2 e w' := by
  unfold par
  cases h1 : isW E p (⟨#[118, 97, 114]⟩ : ByteArray) with
  | true => exact par_var h h1
  | false => exact par_val h h1
set_option maxHeartbeats 4000000 in
set_option maxRecDepth 100000 in
theorem place_index {B0 bp : Nat} {E : Env} {w : World} {p : St} (h : PIs B0 bp E w p) {R : Rec} (hex : ExOK B0 bp E R) (y : NT) (q : St) (h1 : isW E (var_ E p).2 (⟨#[91]⟩ : ByteArray) = true) (hy : R.ex 1 (rd E (var_ E p).2) = some (y, q)) :
    Calls Tryd.prog 75 #[ptr bp] w fun e w' => Got B0 bp w.heap.size E w (mkN E (exq E q (⟨#[93]⟩ : ByteArray)) p.k 21 (⟨#[]⟩ : ByteArray) [(var_ E p).1, y]) (exq E q (⟨#[93]⟩ : ByteArray)) e w' := by
  have HF := Lib.hid h.ok.1
  have HB0 := Lib.hid h.b0
  have HP := Lib.hid h
  clear h
  unfold ptr at *
  go_enter Tryd.func75, Tryd.ntmps75
  have hb0 := (Below.refl w.heap.size w).alloc (Nat.le_refl _) (.cells #[.int .i64 0, .string ⟨#[]⟩, .int .i64 0, .int .i64 0, .slice none 0 0] 31)
  have hz0 : ZB (w.alloc (.cells #[.int .i64 0, .string ⟨#[]⟩, .int .i64 0, .int .i64 0, .slice none 0 0] 31)) w.heap.size := heap_alloc_new w _
  have hs0 : (w.alloc (.cells #[.int .i64 0, .string ⟨#[]⟩, .int .i64 0, .int .i64 0, .slice none 0 0] 31)).heap.size = w.heap.size + 1 := World.size_alloc _ _
  have HP0 := Lib.hid (HP.out.later hb0)
  have HF0 := Lib.hid (Fr.of_below hb0 HB0.out)
  have HZ0 := Lib.hid hz0
  have HS0 := Lib.hid (show w.heap.size + 1 ≤ (w.alloc (.cells #[.int .i64 0, .string ⟨#[]⟩, .int .i64 0, .int .i64 0, .slice none 0 0] 31)).heap.size by rw [hs0]; omega)
  have c0 := HP0.out.c2
  clear hb0 hz0 hs0
  go_wp2_with (fail)
  clear c0
  generalize (w.alloc (.cells #[.int .i64 0, .string ⟨#[]⟩, .int .i64 0, .int .i64 0, .slice none 0 0] 31)) = w0 at *
  refine (variable_any HP0.out).mono ?_
  rintro e w1 ⟨x, rfl, hst1, hin1, hp1, hf1⟩
  have HP1 := Lib.hid hp1
  have HST_x := Lib.hid hst1
  have HIN_x_1 := Lib.hid (InF.mono hin1 HS0.out)
  clear hp1 hst1 hin1
  have HF1 := Lib.hid (HF0.out.trans hf1)
  have HZ1 := Lib.hid (HZ0.out.fr hf1)
  have HS1 := Lib.hid (Nat.le_trans HS0.out hf1.below.size)
  clear HF0 HZ0
  clear hf1
  have c1 := HP1.out.c2
  go_wp2_with (fail)
  clear c1
  have hbA : Below w1.heap.size w1 (w1.alloc (.cells #[.int .i64 x.kind, .string x.text, .int .i64 x.lo, .int .i64 x.hi, .slice x.A x.kids.length x.c] 31)) := ((Below.refl w1.heap.size w1).alloc (by simp) (.cells #[.int .i64 x.kind, .string x.text, .int .i64 x.lo, .int .i64 x.hi, .slice x.A x.kids.length x.c] 31))
  have hnb0 : (w1.alloc (.cells #[.int .i64 x.kind, .string x.text, .int .i64 x.lo, .int .i64 x.hi, .slice x.A x.kids.length x.c] 31)).heap[w1.heap.size]? = some (.cells #[.int .i64 x.kind, .string x.text, .int .i64 x.lo, .int .i64 x.hi, .slice x.A x.kids.length x.c] 31 (0, 0)) := by
    have hx := heap_alloc_new w1 (.cells #[.int .i64 x.kind, .string x.text, .int .i64 x.lo, .int .i64 x.hi, .slice x.A x.kids.length x.c] 31)
    exact hx
  have HP2 := Lib.hid (HP1.out.later hbA)
  have hf2 := Fr.of_below hbA HP1.out.b0
  have HNV_x_2 := Lib.hid (show NV (w1.alloc (.cells #[.int .i64 x.kind, .string x.text, .int .i64 x.lo, .int .i64 x.hi, .slice x.A x.kids.length x.c] 31)) (w1.heap.size) x from hnb0)
  have HF2 := Lib.hid (HF1.out.trans hf2)
  have HZ2 := Lib.hid (HZ1.out.fr hf2)
  have HS2 := Lib.hid (Nat.le_trans HS1.out hf2.below.size)
  have HIN_x_2 := Lib.hid (HIN_x_1.out.fr hf2)
  clear HF1 HZ1 HIN_x_1
  clear hbA hf2 hnb0
  generalize (w1.alloc (.cells #[.int .i64 x.kind, .string x.text, .int .i64 x.lo, .int .i64 x.hi, .slice x.A x.kids.length x.c] 31)) = w2 at *
  refine (accept_yes HP2.out h1).mono ?_
  rintro e w3 ⟨rfl, hp3, hf3⟩
  have HP3 := Lib.hid hp3
  clear hp3
  have HF3 := Lib.hid (HF2.out.trans hf3)
  have HZ3 := Lib.hid (HZ2.out.fr hf3)
  have HS3 := Lib.hid (Nat.le_trans HS2.out hf3.below.size)
  have HIN_x_3 := Lib.hid (HIN_x_2.out.fr hf3)
  have HNV_x_3 := Lib.hid (HNV_x_2.out.fr hf3)
  clear HF2 HZ2 HIN_x_2 HNV_x_2
  clear hf3
  have c3 := HP3.out.c2
  obtain ⟨b0_x, b1_x, b2_x, b3_x, b4_x⟩ := HNV_x_3.out.cells
  go_wp2_with (fail)
  clear b0_x b1_x b2_x b3_x b4_x
  clear c3
  refine (hex 1 _ _ _ _ (by decide) (by decide) hy HP3.out).mono ?_
  rintro e w4 ⟨z, rfl, hst4, hin4, hp4, hf4⟩
  have HP4 := Lib.hid hp4
  have HST_z := Lib.hid hst4
  have HIN_z_4 := Lib.hid (InF.mono hin4 HS3.out)
  clear hp4 hst4 hin4
  have HF4 := Lib.hid (HF3.out.trans hf4)
  have HZ4 := Lib.hid (HZ3.out.fr hf4)
  have HS4 := Lib.hid (Nat.le_trans HS3.out hf4.below.size)
  have HIN_x_4 := Lib.hid (HIN_x_3.out.fr hf4)
  have HNV_x_4 := Lib.hid (HNV_x_3.out.fr hf4)
  clear HF3 HZ3 HIN_x_3 HNV_x_3
  clear hf4
  have c4 := HP4.out.c2
  obtain ⟨b0_x, b1_x, b2_x, b3_x, b4_x⟩ := HNV_x_4.out.cells
  go_wp2_with (fail)
  clear b0_x b1_x b2_x b3_x b4_x
  clear c4
  have hbA : Below w4.heap.size w4 (w4.alloc (.cells #[.int .i64 z.kind, .string z.text, .int .i64 z.lo, .int .i64 z.hi, .slice z.A z.kids.length z.c] 31)) := ((Below.refl w4.heap.size w4).alloc (by simp) (.cells #[.int .i64 z.kind, .string z.text, .int .i64 z.lo, .int .i64 z.hi, .slice z.A z.kids.length z.c] 31))
  have hnb0 : (w4.alloc (.cells #[.int .i64 z.kind, .string z.text, .int .i64 z.lo, .int .i64 z.hi, .slice z.A z.kids.length z.c] 31)).heap[w4.heap.size]? = some (.cells #[.int .i64 z.kind, .string z.text, .int .i64 z.lo, .int .i64 z.hi, .slice z.A z.kids.length z.c] 31 (0, 0)) := by
    have hx := heap_alloc_new w4 (.cells #[.int .i64 z.kind, .string z.text, .int .i64 z.lo, .int .i64 z.hi, .slice z.A z.kids.length z.c] 31)
    exact hx
  have HP5 := Lib.hid (HP4.out.later hbA)
  have hf5 := Fr.of_below hbA HP4.out.b0
  have HNV_z_5 := Lib.hid (show NV (w4.alloc (.cells #[.int .i64 z.kind, .string z.text, .int .i64 z.lo, .int .i64 z.hi, .slice z.A z.kids.length z.c] 31)) (w4.heap.size) z from hnb0)
  have HF5 := Lib.hid (HF4.out.trans hf5)
  have HZ5 := Lib.hid (HZ4.out.fr hf5)
  have HS5 := Lib.hid (Nat.le_trans HS4.out hf5.below.size)
  have HIN_x_5 := Lib.hid (HIN_x_4.out.fr hf5)
  have HIN_z_5 := Lib.hid (HIN_z_4.out.fr hf5)
  have HNV_x_5 := Lib.hid (HNV_x_4.out.fr hf5)
  clear HF4 HZ4 HIN_x_4 HIN_z_4 HNV_x_4
  clear hbA hf5 hnb0
  generalize (w4.alloc (.cells #[.int .i64 z.kind, .string z.text, .int .i64 z.lo, .int .i64 z.hi, .slice z.A z.kids.length z.c] 31)) = w5 at *
  refine (expect_any HP5.out (⟨#[93]⟩ : ByteArray)).mono ?_
  rintro e w6 ⟨rfl, hp6, hf6⟩
  have HP6 := Lib.hid hp6
  clear hp6
  have HF6 := Lib.hid (HF5.out.trans hf6)
  have HZ6 := Lib.hid (HZ5.out.fr hf6)
  have HS6 := Lib.hid (Nat.le_trans HS5.out hf6.below.size)
  have HIN_x_6 := Lib.hid (HIN_x_5.out.fr hf6)
  have HIN_z_6 := Lib.hid (HIN_z_5.out.fr hf6)
  have HNV_x_6 := Lib.hid (HNV_x_5.out.fr hf6)
  have HNV_z_6 := Lib.hid (HNV_z_5.out.fr hf6)
  clear HF5 HZ5 HIN_x_5 HIN_z_5 HNV_x_5 HNV_z_5
  clear hf6
  have c6 := HP6.out.c2
  obtain ⟨b0_x, b1_x, b2_x, b3_x, b4_x⟩ := HNV_x_6.out.cells
  obtain ⟨b0_z, b1_z, b2_z, b3_z, b4_z⟩ := HNV_z_6.out.cells
  go_wp2_with (fail)
  clear b0_x b1_x b2_x b3_x b4_x
  clear b0_z b1_z b2_z b3_z b4_z
  clear c6
  have hbA : Below w6.heap.size w6 (w6.alloc (.cells #[.int .i64 x.kind, .string x.text, .int .i64 x.lo, .int .i64 x.hi, .slice x.A x.kids.length x.c, .int .i64 z.kind, .string z.text, .int .i64 z.lo, .int .i64 z.hi, .slice z.A z.kids.length z.c] 31)) := ((Below.refl w6.heap.size w6).alloc (by simp) (.cells #[.int .i64 x.kind, .string x.text, .int .i64 x.lo, .int .i64 x.hi, .slice x.A x.kids.length x.c, .int .i64 z.kind, .string z.text, .int .i64 z.lo, .int .i64 z.hi, .slice z.A z.kids.length z.c] 31))
  have hnb0 : (w6.alloc (.cells #[.int .i64 x.kind, .string x.text, .int .i64 x.lo, .int .i64 x.hi, .slice x.A x.kids.length x.c, .int .i64 z.kind, .string z.text, .int .i64 z.lo, .int .i64 z.hi, .slice z.A z.kids.length z.c] 31)).heap[w6.heap.size]? = some (.cells #[.int .i64 x.kind, .string x.text, .int .i64 x.lo, .int .i64 x.hi, .slice x.A x.kids.length x.c, .int .i64 z.kind, .string z.text, .int .i64 z.lo, .int .i64 z.hi, .slice z.A z.kids.length z.c] 31 (0, 0)) := by
    have hx := heap_alloc_new w6 (.cells #[.int .i64 x.kind, .string x.text, .int .i64 x.lo, .int .i64 x.hi, .slice x.A x.kids.length x.c, .int .i64 z.kind, .string z.text, .int .i64 z.lo, .int .i64 z.hi, .slice z.A z.kids.length z.c] 31)
    exact hx
  have HP7 := Lib.hid (HP6.out.later hbA)
  have hf7 := Fr.of_below hbA HP6.out.b0
  have HK_7 := Lib.hid (kin_block (lo := w.heap.size + 1) (c := 2) (ks := [x, z]) hnb0 (fun j _ => by simp [ncl]) (by have := HS6.out; omega) (Nat.le_refl _) (fun k hk => by
    simp only [List.mem_cons, List.not_mem_nil, or_false] at hk
    rcases hk with rfl | rfl
    · exact HIN_x_6.out.fr hf7
    · exact HIN_z_6.out.fr hf7))
  have HF7 := Lib.hid (HF6.out.trans hf7)
  have HZ7 := Lib.hid (HZ6.out.fr hf7)
  have HS7 := Lib.hid (Nat.le_trans HS6.out hf7.below.size)
  have HIN_x_7 := Lib.hid (HIN_x_6.out.fr hf7)
  have HIN_z_7 := Lib.hid (HIN_z_6.out.fr hf7)
  have HNV_x_7 := Lib.hid (HNV_x_6.out.fr hf7)
  have HNV_z_7 := Lib.hid (HNV_z_6.out.fr hf7)
  clear HF6 HZ6 HIN_x_6 HIN_z_6 HNV_x_6 HNV_z_6
  clear hbA hf7 hnb0
  generalize (w6.alloc (.cells #[.int .i64 x.kind, .string x.text, .int .i64 x.lo, .int .i64 x.hi, .slice x.A x.kids.length x.c, .int .i64 z.kind, .string z.text, .int .i64 z.lo, .int .i64 z.hi, .slice z.A z.kids.length z.c] 31)) = w7 at *
  refine (node_kids HP7.out p.k 21 (⟨#[]⟩ : ByteArray) _ 2 [x, z] [(var_ E p).1, y] HF.out HK_7.out (by simp only [List.map_cons, List.map_nil, HST_x.out, HST_z.out])).mono ?_
  rintro e w8 ⟨m, rfl, hst8, hin8, hp8, hf8⟩
  have HP8 := Lib.hid hp8
  have HST_m := Lib.hid hst8
  have HIN_m_8 := Lib.hid hin8
  clear hp8 hst8 hin8
  have HF8 := Lib.hid (HF7.out.trans hf8)
  have HZ8 := Lib.hid (HZ7.out.fr hf8)
  have HS8 := Lib.hid (Nat.le_trans HS7.out hf8.below.size)
  have HIN_x_8 := Lib.hid (HIN_x_7.out.fr hf8)
  have HIN_z_8 := Lib.hid (HIN_z_7.out.fr hf8)
  have HNV_x_8 := Lib.hid (HNV_x_7.out.fr hf8)
  have HNV_z_8 := Lib.hid (HNV_z_7.out.fr hf8)
  clear HF7 HZ7 HIN_x_7 HIN_z_7 HNV_x_7 HNV_z_7
  clear hf8
  obtain ⟨z0, z1, z2, z3, z4⟩ := HZ8.out.cells
  have y0 := HZ8.out.frozen 0
  have y1 := HZ8.out.frozen 1
  have y2 := HZ8.out.frozen 2
  have y3 := HZ8.out.frozen 3
  have y4 := HZ8.out.frozen 4
  obtain ⟨b0_x, b1_x, b2_x, b3_x, b4_x⟩ := HNV_x_8.out.cells
  obtain ⟨b0_z, b1_z, b2_z, b3_z, b4_z⟩ := HNV_z_8.out.cells
  go_wp2_with (fail)
  clear b0_x b1_x b2_x b3_x b4_x
  clear b0_z b1_z b2_z b3_z b4_z
  obtain ⟨hV, hin, hp, hf⟩ := got_put (w := w) (w2 := w8) (n := m) HB0.out HZ8.out (Nat.le_refl _) HIN_m_8.out HP8.out HF8.out
  clear z0 z1 z2 z3 z4 y0 y1 y2 y3 y4
  dsimp only [putN] at hV hin hp hf
  generalize (((((w8.setCell ⟨w.heap.size, 0, none⟩ (.int .i64 m.kind)).setCell ⟨w.heap.size, 1, none⟩ (.string m.text)).setCell ⟨w.heap.size, 2, none⟩ (.int .i64 m.lo)).setCell ⟨w.heap.size, 3, none⟩ (.int .i64 m.hi)).setCell ⟨w.heap.size, 4, none⟩ (.slice m.A m.kids.length m.c)) = V at *
  have v0 := Lib.cell_of_heap hV 0
  have v1 := Lib.cell_of_heap hV 1
  have v2 := Lib.cell_of_heap hV 2
  have v3 := Lib.cell_of_heap hV 3
  have v4 := Lib.cell_of_heap hV 4
  exact bodyPost_ret (v := .agg #[.int .i64 m.kind, .string m.text, .int .i64 m.lo, .int .i64 m.hi, .slice m.A m.kids.length m.c]) (by simp [results, Tryd.results75, go_sem, v0, v1, v2, v3, v4]) rfl ⟨m, rfl, HST_m.out, hin, hp, hf⟩
set_option maxHeartbeats 4000000 in
set_option maxRecDepth 100000 in
theorem place_member {B0 bp : Nat} {E : Env} {w : World} {p : St} (h : PIs B0 bp E w p)  (h1 : isW E (var_ E p).2 (⟨#[91]⟩ : ByteArray) = false) (h2 : isW E (var_ E p).2 (⟨#[46]⟩ : ByteArray) = true) :
    Calls Tryd.prog 75 #[ptr bp] w fun e w' => Got B0 bp w.heap.size E w (mkN E (nam E (rd E (var_ E p).2)).2 p.k 22 (nam E (rd E (var_ E p).2)).1 [(var_ E p).1]) ((nam E (rd E (var_ E p).2)).2) e w' := by
  have HF := Lib.hid h.ok.1
  have HB0 := Lib.hid h.b0
  have HP := Lib.hid h
  clear h
  unfold ptr at *
  go_enter Tryd.func75, Tryd.ntmps75
  have hb0 := (Below.refl w.heap.size w).alloc (Nat.le_refl _) (.cells #[.int .i64 0, .string ⟨#[]⟩, .int .i64 0, .int .i64 0, .slice none 0 0] 31)
  have hz0 : ZB (w.alloc (.cells #[.int .i64 0, .string ⟨#[]⟩, .int .i64 0, .int .i64 0, .slice none 0 0] 31)) w.heap.size := heap_alloc_new w _
  have hs0 : (w.alloc (.cells #[.int .i64 0, .string ⟨#[]⟩, .int .i64 0, .int .i64 0, .slice none 0 0] 31)).heap.size = w.heap.size + 1 := World.size_alloc _ _
  have HP0 := Lib.hid (HP.out.later hb0)
  have HF0 := Lib.hid (Fr.of_below hb0 HB0.out)
  have HZ0 := Lib.hid hz0
  have HS0 := Lib.hid (show w.heap.size + 1 ≤ (w.alloc (.cells #[.int .i64 0, .string ⟨#[]⟩, .int .i64 0, .int .i64 0, .slice none 0 0] 31)).heap.size by rw [hs0]; omega)
  have c0 := HP0.out.c2
  clear hb0 hz0 hs0
  go_wp2_with (fail)
  clear c0
  generalize (w.alloc (.cells #[.int .i64 0, .string ⟨#[]⟩, .int .i64 0, .int .i64 0, .slice none 0 0] 31)) = w0 at *
  refine (variable_any HP0.out).mono ?_
  rintro e w1 ⟨x, rfl, hst1, hin1, hp1, hf1⟩
  have HP1 := Lib.hid hp1
  have HST_x := Lib.hid hst1
  have HIN_x_1 := Lib.hid (InF.mono hin1 HS0.out)
  clear hp1 hst1 hin1
  have HF1 := Lib.hid (HF0.out.trans hf1)
  have HZ1 := Lib.hid (HZ0.out.fr hf1)
  have HS1 := Lib.hid (Nat.le_trans HS0.out hf1.below.size)
  clear HF0 HZ0
  clear hf1
  have c1 := HP1.out.c2
  go_wp2_with (fail)
  clear c1
  have hbA : Below w1.heap.size w1 (w1.alloc (.cells #[.int .i64 x.kind, .string x.text, .int .i64 x.lo, .int .i64 x.hi, .slice x.A x.kids.length x.c] 31)) := ((Below.refl w1.heap.size w1).alloc (by simp) (.cells #[.int .i64 x.kind, .string x.text, .int .i64 x.lo, .int .i64 x.hi, .slice x.A x.kids.length x.c] 31))
  have hnb0 : (w1.alloc (.cells #[.int .i64 x.kind, .string x.text, .int .i64 x.lo, .int .i64 x.hi, .slice x.A x.kids.length x.c] 31)).heap[w1.heap.size]? = some (.cells #[.int .i64 x.kind, .string x.text, .int .i64 x.lo, .int .i64 x.hi, .slice x.A x.kids.length x.c] 31 (0, 0)) := by
    have hx := heap_alloc_new w1 (.cells #[.int .i64 x.kind, .string x.text, .int .i64 x.lo, .int .i64 x.hi, .slice x.A x.kids.length x.c] 31)
    exact hx
  have HP2 := Lib.hid (HP1.out.later hbA)
  have hf2 := Fr.of_below hbA HP1.out.b0
  have HNV_x_2 := Lib.hid (show NV (w1.alloc (.cells #[.int .i64 x.kind, .string x.text, .int .i64 x.lo, .int .i64 x.hi, .slice x.A x.kids.length x.c] 31)) (w1.heap.size) x from hnb0)
  have HF2 := Lib.hid (HF1.out.trans hf2)
  have HZ2 := Lib.hid (HZ1.out.fr hf2)
  have HS2 := Lib.hid (Nat.le_trans HS1.out hf2.below.size)
  have HIN_x_2 := Lib.hid (HIN_x_1.out.fr hf2)
  clear HF1 HZ1 HIN_x_1
  clear hbA hf2 hnb0
  generalize (w1.alloc (.cells #[.int .i64 x.kind, .string x.text, .int .i64 x.lo, .int .i64 x.hi, .slice x.A x.kids.length x.c] 31)) = w2 at *
  refine (accept_no HP2.out h1).mono ?_
  rintro e w3 ⟨rfl, hp3, hf3⟩
  have HP3 := Lib.hid hp3
  clear hp3
  have HF3 := Lib.hid (HF2.out.trans hf3)
  have HZ3 := Lib.hid (HZ2.out.fr hf3)
  have HS3 := Lib.hid (Nat.le_trans HS2.out hf3.below.size)
  have HIN_x_3 := Lib.hid (HIN_x_2.out.fr hf3)
  have HNV_x_3 := Lib.hid (HNV_x_2.out.fr hf3)
  clear HF2 HZ2 HIN_x_2 HNV_x_2
  clear hf3
  have c3 := HP3.out.c2
  obtain ⟨b0_x, b1_x, b2_x, b3_x, b4_x⟩ := HNV_x_3.out.cells
  go_wp2_with (fail)
  clear b0_x b1_x b2_x b3_x b4_x
  clear c3
  refine (accept_yes HP3.out h2).mono ?_
  rintro e w4 ⟨rfl, hp4, hf4⟩
  have HP4 := Lib.hid hp4
  clear hp4
  have HF4 := Lib.hid (HF3.out.trans hf4)
  have HZ4 := Lib.hid (HZ3.out.fr hf4)
  have HS4 := Lib.hid (Nat.le_trans HS3.out hf4.below.size)
  have HIN_x_4 := Lib.hid (HIN_x_3.out.fr hf4)
  have HNV_x_4 := Lib.hid (HNV_x_3.out.fr hf4)
  clear HF3 HZ3 HIN_x_3 HNV_x_3
  clear hf4
  have c4 := HP4.out.c2
  obtain ⟨b0_x, b1_x, b2_x, b3_x, b4_x⟩ := HNV_x_4.out.cells
  go_wp2_with (fail)
  clear b0_x b1_x b2_x b3_x b4_x
  clear c4
  refine (name_any HP4.out).mono ?_
  rintro e w5 ⟨rfl, hp5, hf5⟩
  have HP5 := Lib.hid hp5
  clear hp5
  have HF5 := Lib.hid (HF4.out.trans hf5)
  have HZ5 := Lib.hid (HZ4.out.fr hf5)
  have HS5 := Lib.hid (Nat.le_trans HS4.out hf5.below.size)
  have HIN_x_5 := Lib.hid (HIN_x_4.out.fr hf5)
  have HNV_x_5 := Lib.hid (HNV_x_4.out.fr hf5)
  clear HF4 HZ4 HIN_x_4 HNV_x_4
  clear hf5
  have c5 := HP5.out.c2
  obtain ⟨b0_x, b1_x, b2_x, b3_x, b4_x⟩ := HNV_x_5.out.cells
  go_wp2_with (fail)
  clear b0_x b1_x b2_x b3_x b4_x
  clear c5
  have hbA : Below w5.heap.size w5 (w5.alloc (.cells #[.int .i64 x.kind, .string x.text, .int .i64 x.lo, .int .i64 x.hi, .slice x.A x.kids.length x.c] 31)) := ((Below.refl w5.heap.size w5).alloc (by simp) (.cells #[.int .i64 x.kind, .string x.text, .int .i64 x.lo, .int .i64 x.hi, .slice x.A x.kids.length x.c] 31))
  have hnb0 : (w5.alloc (.cells #[.int .i64 x.kind, .string x.text, .int .i64 x.lo, .int .i64 x.hi, .slice x.A x.kids.length x.c] 31)).heap[w5.heap.size]? = some (.cells #[.int .i64 x.kind, .string x.text, .int .i64 x.lo, .int .i64 x.hi, .slice x.A x.kids.length x.c] 31 (0, 0)) := by
    have hx := heap_alloc_new w5 (.cells #[.int .i64 x.kind, .string x.text, .int .i64 x.lo, .int .i64 x.hi, .slice x.A x.kids.length x.c] 31)
    exact hx
  have HP6 := Lib.hid (HP5.out.later hbA)
  have hf6 := Fr.of_below hbA HP5.out.b0
  have HK_6 := Lib.hid (kin_block (lo := w.heap.size + 1) (c := 1) (ks := [x]) hnb0 (fun j _ => by simp [ncl]) (by have := HS5.out; omega) (Nat.le_refl _) (fun k hk => by
    simp only [List.mem_cons, List.not_mem_nil, or_false] at hk
    subst hk; exact HIN_x_5.out.fr hf6))
  have HF6 := Lib.hid (HF5.out.trans hf6)
  have HZ6 := Lib.hid (HZ5.out.fr hf6)
  have HS6 := Lib.hid (Nat.le_trans HS5.out hf6.below.size)
  have HIN_x_6 := Lib.hid (HIN_x_5.out.fr hf6)
  have HNV_x_6 := Lib.hid (HNV_x_5.out.fr hf6)
  clear HF5 HZ5 HIN_x_5 HNV_x_5
  clear hbA hf6 hnb0
  generalize (w5.alloc (.cells #[.int .i64 x.kind, .string x.text, .int .i64 x.lo, .int .i64 x.hi, .slice x.A x.kids.length x.c] 31)) = w6 at *
  refine (node_kids HP6.out p.k 22 (nam E (rd E (var_ E p).2)).1 _ 1 [x] [(var_ E p).1] HF.out HK_6.out (by simp only [List.map_cons, List.map_nil, HST_x.out])).mono ?_
  rintro e w7 ⟨m, rfl, hst7, hin7, hp7, hf7⟩
  have HP7 := Lib.hid hp7
  have HST_m := Lib.hid hst7
  have HIN_m_7 := Lib.hid hin7
  clear hp7 hst7 hin7
  have HF7 := Lib.hid (HF6.out.trans hf7)
  have HZ7 := Lib.hid (HZ6.out.fr hf7)
  have HS7 := Lib.hid (Nat.le_trans HS6.out hf7.below.size)
  have HIN_x_7 := Lib.hid (HIN_x_6.out.fr hf7)
  have HNV_x_7 := Lib.hid (HNV_x_6.out.fr hf7)
  clear HF6 HZ6 HIN_x_6 HNV_x_6
  clear hf7
  obtain ⟨z0, z1, z2, z3, z4⟩ := HZ7.out.cells
  have y0 := HZ7.out.frozen 0
  have y1 := HZ7.out.frozen 1
  have y2 := HZ7.out.frozen 2
  have y3 := HZ7.out.frozen 3
  have y4 := HZ7.out.frozen 4
  obtain ⟨b0_x, b1_x, b2_x, b3_x, b4_x⟩ := HNV_x_7.out.cells
  go_wp2_with (fail)
  clear b0_x b1_x b2_x b3_x b4_x
  obtain ⟨hV, hin, hp, hf⟩ := got_put (w := w) (w2 := w7) (n := m) HB0.out HZ7.out (Nat.le_refl _) HIN_m_7.out HP7.out HF7.out
  clear z0 z1 z2 z3 z4 y0 y1 y2 y3 y4
  dsimp only [putN] at hV hin hp hf
  generalize (((((w7.setCell ⟨w.heap.size, 0, none⟩ (.int .i64 m.kind)).setCell ⟨w.heap.size, 1, none⟩ (.string m.text)).setCell ⟨w.heap.size, 2, none⟩ (.int .i64 m.lo)).setCell ⟨w.heap.size, 3, none⟩ (.int .i64 m.hi)).setCell ⟨w.heap.size, 4, none⟩ (.slice m.A m.kids.length m.c)) = V at *
  have v0 := Lib.cell_of_heap hV 0
  have v1 := Lib.cell_of_heap hV 1
  have v2 := Lib.cell_of_heap hV 2
  have v3 := Lib.cell_of_heap hV 3
  have v4 := Lib.cell_of_heap hV 4
  exact bodyPost_ret (v := .agg #[.int .i64 m.kind, .string m.text, .int .i64 m.lo, .int .i64 m.hi, .slice m.A m.kids.length m.c]) (by simp [results, Tryd.results75, go_sem, v0, v1, v2, v3, v4]) rfl ⟨m, rfl, HST_m.out, hin, hp, hf⟩
set_option maxHeartbeats 4000000 in
set_option maxRecDepth 100000 in
theorem place_name {B0 bp : Nat} {E : Env} {w : World} {p : St} (h : PIs B0 bp E w p)  (h1 : isW E (var_ E p).2 (⟨#[91]⟩ : ByteArray) = false) (h2 : isW E (var_ E p).2 (⟨#[46]⟩ : ByteArray) = false) :
    Calls Tryd.prog 75 #[ptr bp] w fun e w' => Got B0 bp w.heap.size E w ((var_ E p).1) ((var_ E p).2) e w' := by
  have HF := Lib.hid h.ok.1
  have HB0 := Lib.hid h.b0
  have HP := Lib.hid h
  clear h
  unfold ptr at *
  go_enter Tryd.func75, Tryd.ntmps75
  have hb0 := (Below.refl w.heap.size w).alloc (Nat.le_refl _) (.cells #[.int .i64 0, .string ⟨#[]⟩, .int .i64 0, .int .i64 0, .slice none 0 0] 31)
  have hz0 : ZB (w.alloc (.cells #[.int .i64 0, .string ⟨#[]⟩, .int .i64 0, .int .i64 0, .slice none 0 0] 31)) w.heap.size := heap_alloc_new w _
  have hs0 : (w.alloc (.cells #[.int .i64 0, .string ⟨#[]⟩, .int .i64 0, .int .i64 0, .slice none 0 0] 31)).heap.size = w.heap.size + 1 := World.size_alloc _ _
  have HP0 := Lib.hid (HP.out.later hb0)
  have HF0 := Lib.hid (Fr.of_below hb0 HB0.out)
  have HZ0 := Lib.hid hz0
  have HS0 := Lib.hid (show w.heap.size + 1 ≤ (w.alloc (.cells #[.int .i64 0, .string ⟨#[]⟩, .int .i64 0, .int .i64 0, .slice none 0 0] 31)).heap.size by rw [hs0]; omega)
  have c0 := HP0.out.c2
  clear hb0 hz0 hs0
  go_wp2_with (fail)
  clear c0
  generalize (w.alloc (.cells #[.int .i64 0, .string ⟨#[]⟩, .int .i64 0, .int .i64 0, .slice none 0 0] 31)) = w0 at *
  refine (variable_any HP0.out).mono ?_
  rintro e w1 ⟨x, rfl, hst1, hin1, hp1, hf1⟩
  have HP1 := Lib.hid hp1
  have HST_x := Lib.hid hst1
  have HIN_x_1 := Lib.hid (InF.mono hin1 HS0.out)
  clear hp1 hst1 hin1
  have HF1 := Lib.hid (HF0.out.trans hf1)
  have HZ1 := Lib.hid (HZ0.out.fr hf1)
  have HS1 := Lib.hid (Nat.le_trans HS0.out hf1.below.size)
  clear HF0 HZ0
  clear hf1
  have c1 := HP1.out.c2
  go_wp2_with (fail)
  clear c1
  have hbA : Below w1.heap.size w1 (w1.alloc (.cells #[.int .i64 x.kind, .string x.text, .int .i64 x.lo, .int .i64 x.hi, .slice x.A x.kids.length x.c] 31)) := ((Below.refl w1.heap.size w1).alloc (by simp) (.cells #[.int .i64 x.kind, .string x.text, .int .i64 x.lo, .int .i64 x.hi, .slice x.A x.kids.length x.c] 31))
  have hnb0 : (w1.alloc (.cells #[.int .i64 x.kind, .string x.text, .int .i64 x.lo, .int .i64 x.hi, .slice x.A x.kids.length x.c] 31)).heap[w1.heap.size]? = some (.cells #[.int .i64 x.kind, .string x.text, .int .i64 x.lo, .int .i64 x.hi, .slice x.A x.kids.length x.c] 31 (0, 0)) := by
    have hx := heap_alloc_new w1 (.cells #[.int .i64 x.kind, .string x.text, .int .i64 x.lo, .int .i64 x.hi, .slice x.A x.kids.length x.c] 31)
    exact hx
  have HP2 := Lib.hid (HP1.out.later hbA)
  have hf2 := Fr.of_below hbA HP1.out.b0
  have HNV_x_2 := Lib.hid (show NV (w1.alloc (.cells #[.int .i64 x.kind, .string x.text, .int .i64 x.lo, .int .i64 x.hi, .slice x.A x.kids.length x.c] 31)) (w1.heap.size) x from hnb0)
  have HF2 := Lib.hid (HF1.out.trans hf2)
  have HZ2 := Lib.hid (HZ1.out.fr hf2)
  have HS2 := Lib.hid (Nat.le_trans HS1.out hf2.below.size)
  have HIN_x_2 := Lib.hid (HIN_x_1.out.fr hf2)
  clear HF1 HZ1 HIN_x_1
  clear hbA hf2 hnb0
  generalize (w1.alloc (.cells #[.int .i64 x.kind, .string x.text, .int .i64 x.lo, .int .i64 x.hi, .slice x.A x.kids.length x.c] 31)) = w2 at *
  refine (accept_no HP2.out h1).mono ?_
  rintro e w3 ⟨rfl, hp3, hf3⟩
  have HP3 := Lib.hid hp3
  clear hp3
  have HF3 := Lib.hid (HF2.out.trans hf3)
  have HZ3 := Lib.hid (HZ2.out.fr hf3)
  have HS3 := Lib.hid (Nat.le_trans HS2.out hf3.below.size)
  have HIN_x_3 := Lib.hid (HIN_x_2.out.fr hf3)
  have HNV_x_3 := Lib.hid (HNV_x_2.out.fr hf3)
  clear HF2 HZ2 HIN_x_2 HNV_x_2
  clear hf3
  have c3 := HP3.out.c2
  obtain ⟨b0_x, b1_x, b2_x, b3_x, b4_x⟩ := HNV_x_3.out.cells
  go_wp2_with (fail)
  clear b0_x b1_x b2_x b3_x b4_x
  clear c3
  refine (accept_no HP3.out h2).mono ?_
  rintro e w4 ⟨rfl, hp4, hf4⟩
  have HP4 := Lib.hid hp4
  clear hp4
  have HF4 := Lib.hid (HF3.out.trans hf4)
  have HZ4 := Lib.hid (HZ3.out.fr hf4)
  have HS4 := Lib.hid (Nat.le_trans HS3.out hf4.below.size)
  have HIN_x_4 := Lib.hid (HIN_x_3.out.fr hf4)
  have HNV_x_4 := Lib.hid (HNV_x_3.out.fr hf4)
  clear HF3 HZ3 HIN_x_3 HNV_x_3
  clear hf4
  obtain ⟨z0, z1, z2, z3, z4⟩ := HZ4.out.cells
  have y0 := HZ4.out.frozen 0
  have y1 := HZ4.out.frozen 1
  have y2 := HZ4.out.frozen 2
  have y3 := HZ4.out.frozen 3
  have y4 := HZ4.out.frozen 4
  obtain ⟨b0_x, b1_x, b2_x, b3_x, b4_x⟩ := HNV_x_4.out.cells
  go_wp2_with (fail)
  clear b0_x b1_x b2_x b3_x b4_x
  obtain ⟨hV, hin, hp, hf⟩ := got_put (w := w) (w2 := w4) (n := x) HB0.out HZ4.out (Nat.le_refl _) HIN_x_4.out HP4.out HF4.out
  clear z0 z1 z2 z3 z4 y0 y1 y2 y3 y4
  dsimp only [putN] at hV hin hp hf
  generalize (((((w4.setCell ⟨w.heap.size, 0, none⟩ (.int .i64 x.kind)).setCell ⟨w.heap.size, 1, none⟩ (.string x.text)).setCell ⟨w.heap.size, 2, none⟩ (.int .i64 x.lo)).setCell ⟨w.heap.size, 3, none⟩ (.int .i64 x.hi)).setCell ⟨w.heap.size, 4, none⟩ (.slice x.A x.kids.length x.c)) = V at *
  have v0 := Lib.cell_of_heap hV 0
  have v1 := Lib.cell_of_heap hV 1
  have v2 := Lib.cell_of_heap hV 2
  have v3 := Lib.cell_of_heap hV 3
  have v4 := Lib.cell_of_heap hV 4
  exact bodyPost_ret (v := .agg #[.int .i64 x.kind, .string x.text, .int .i64 x.lo, .int .i64 x.hi, .slice x.A x.kids.length x.c]) (by simp [results, Tryd.results75, go_sem, v0, v1, v2, v3, v4]) rfl ⟨x, rfl, HST_x.out, hin, hp, hf⟩
theorem place_any {B0 bp : Nat} {E : Env} {w : World} {p : St} (h : PIs B0 bp E w p) {R : Rec} (hex : ExOK B0 bp E R) {m : NT} {q : St} (hm : place E R p = some (m, q)) :
    Calls Tryd.prog 75 #[ptr bp] w fun e w' => Got B0 bp w.heap.size E w m q e w' := by
  unfold place at hm
  cases h1 : isW E (var_ E p).2 (⟨#[91]⟩ : ByteArray) with
  | true =>
    simp only [h1, if_true, Option.map_eq_some_iff] at hm
    obtain ⟨⟨y, q'⟩, hy, he⟩ := hm
    cases he
    exact place_index h hex y q' h1 hy
  | false =>
    cases h2 : isW E (var_ E p).2 (⟨#[46]⟩ : ByteArray) with
    | true =>
      simp only [h1, h2, if_true, Bool.false_eq_true, if_false, Option.some.injEq] at hm
      cases hm
      exact place_member h h1 h2
    | false =>
      simp only [h1, h2, Bool.false_eq_true, if_false, Option.some.injEq] at hm
      cases hm
      exact place_name h h1 h2
end Go.Proofs.YtnpcfmoiiecadaaDoor.Par
set_option linter.unusedVariables false
namespace Go.Proofs.YtnpcfmoiiecadaaDoor.Par
open Go.RowKit
open Lx (Tok)

def bhd (E : Env) (p : St) : ByteArray := if p.k + 1 < E.T.length then wd E (p.k + 1) else (⟨#[]⟩ : ByteArray)
theorem bhd_eq (E : Env) (p : St) (x : ByteArray) (hx : eqS (⟨#[]⟩ : ByteArray) x = false) : behindW E p x = eqS (bhd E p) x := by
  unfold behindW bhd
  by_cases h : p.k + 1 < E.T.length
  · simp [h]
  · simp [h, hx]

set_option maxHeartbeats 1000000 in
theorem behind_any {B0 bp : Nat} {E : Env} {w : World} {p : St} (h : PIs B0 bp E w p) :
    Calls Tryd.prog 73 #[.pointer (some ⟨bp, 0, none⟩)] w fun e w' => e = .returned (.string (bhd E p)) ∧ Below w.heap.size w w' := by
  obtain ⟨v, hb, ho⟩ := h.box
  obtain ⟨b, off, ht⟩ := h.tok
  have c0 : w.cell? ⟨bp, 0, none⟩ = some (.string E.s) := Lib.cell_of_heap hb 0
  have c1 : w.cell? ⟨bp, 1, none⟩ = some (.slice E.A E.T.length E.c) := Lib.cell_of_heap hb 1
  have c2 : w.cell? ⟨bp, 2, none⟩ = some (.int .i64 (p.k : Int)) := Lib.cell_of_heap hb 2
  rw [ht.A] at c1
  obtain ⟨k1, hk1⟩ : ∃ k1 : Nat, k1 = p.k + 1 := ⟨_, rfl⟩
  have hkk : (p.k : Int) + 1 = (k1 : Int) := by omega
  have hwm : IntKind.i64.wrap (k1 : Int) = (k1 : Int) := by
    have h1 := h.ok.1
    have h2 := h.eok.len
    exact IntWalk.i64_in _ ⟨by omega, by omega⟩
  unfold bhd
  rw [← hk1]
  by_cases hlt : k1 < E.T.length
  · rw [if_pos hlt]
    obtain ⟨t0, t1, t2, t3⟩ := ht.cells k1 hlt
    have hk : (k1 : Int) < (E.T.length : Int) := by omega
    have hk0 : (0 : Int) ≤ (k1 : Int) := by omega
    have hge : decide ((E.T.length : Int) ≤ (k1 : Int)) = false := by simp; omega
    have hge2 : ¬ E.T.length ≤ k1 := by omega
    have HB := Lib.hid (h.eok.bd k1 hlt)
    have HS := Lib.hid h.eok.size
    have HL := Lib.hid (show bp < w.heap.size from h.lt)
    have HM := Lib.hid ht.ty.lt
    have HC := Lib.hid (show w.cell? ⟨bp, 0, none⟩ = some (.string E.s) ∧ w.cell? ⟨bp, 1, none⟩ = some (.slice (some ⟨b, off, none⟩) E.T.length E.c) ∧ w.cell? ⟨bp, 2, none⟩ = some (.int .i64 (p.k : Int)) ∧ w.cell? ⟨b, off + k1 * 4, none⟩ = some (.int .i64 (tk E k1).kind) ∧ w.cell? ⟨b, off + k1 * 4 + 1, none⟩ = some (.int .i64 (tk E k1).lo) ∧ w.cell? ⟨b, off + k1 * 4 + 2, none⟩ = some (.int .i64 (tk E k1).at_) ∧ w.cell? ⟨b, off + k1 * 4 + 3, none⟩ = some (.int .i64 (tk E k1).hi) from ⟨c0, c1, c2, t0, t1, t2, t3⟩)
    clear ht ho hb h hk1
    unfold wd
    generalize tk E k1 = t at *
    go_enter Tryd.func73, Tryd.ntmps73
    go_wp2_with (fail)
    go_quiet (fail)
    go_wp2_with (fail)
    have HD := Lib.hid (below_drew w nq)
    have HC2 := Lib.hid (show (w.drewN nq).cell? ⟨bp, 0, none⟩ = some (.string E.s) ∧ (w.drewN nq).cell? ⟨bp, 1, none⟩ = some (.slice (some ⟨b, off, none⟩) E.T.length E.c) ∧ (w.drewN nq).cell? ⟨bp, 2, none⟩ = some (.int .i64 (p.k : Int)) ∧ (w.drewN nq).cell? ⟨b, off + k1 * 4, none⟩ = some (.int .i64 t.kind) ∧ (w.drewN nq).cell? ⟨b, off + k1 * 4 + 1, none⟩ = some (.int .i64 t.lo) ∧ (w.drewN nq).cell? ⟨b, off + k1 * 4 + 2, none⟩ = some (.int .i64 t.at_) ∧ (w.drewN nq).cell? ⟨b, off + k1 * 4 + 3, none⟩ = some (.int .i64 t.hi) from HC.out)
    have HL2 := Lib.hid (show bp < (w.drewN nq).heap.size from HL.out)
    have HM2 := Lib.hid (show b < (w.drewN nq).heap.size from HM.out)
    clear c0 c1 c2 t0 t1 t2 t3 HC HL HM hge hge2
    generalize w.drewN nq = w2 at *
    obtain ⟨c0, c1, c2, t0, t1, t2, t3⟩ := HC2.out
    go_region_held3 (fun w' => w'.cell? ⟨bp, 0, none⟩ = some (.string E.s) ∧ w'.cell? ⟨bp, 1, none⟩ = some (.slice (some ⟨b, off, none⟩) E.T.length E.c) ∧ w'.cell? ⟨bp, 2, none⟩ = some (.int .i64 (p.k : Int)) ∧ w'.cell? ⟨b, off + k1 * 4, none⟩ = some (.int .i64 t.kind) ∧ w'.cell? ⟨b, off + k1 * 4 + 1, none⟩ = some (.int .i64 t.lo) ∧ w'.cell? ⟨b, off + k1 * 4 + 2, none⟩ = some (.int .i64 t.at_) ∧ w'.cell? ⟨b, off + k1 * 4 + 3, none⟩ = some (.int .i64 t.hi)) (first | with_reducible exact HT1.out | go_keep) ((first | (go_at_call 54; refine (word_any E.s t _ HS.out HB.out.1 HB.out.2.1 HB.out.2.2).mono ?_; rintro e wa ⟨rfl, hb⟩; have HA1 := Lib.hid ((Below.refl w2.heap.size w2).drew.trans hb); have HT1 := Lib.hid (show wa.cell? ⟨bp, 0, none⟩ = some (.string E.s) ∧ wa.cell? ⟨bp, 1, none⟩ = some (.slice (some ⟨b, off, none⟩) E.T.length E.c) ∧ wa.cell? ⟨bp, 2, none⟩ = some (.int .i64 (p.k : Int)) ∧ wa.cell? ⟨b, off + k1 * 4, none⟩ = some (.int .i64 t.kind) ∧ wa.cell? ⟨b, off + k1 * 4 + 1, none⟩ = some (.int .i64 t.lo) ∧ wa.cell? ⟨b, off + k1 * 4 + 2, none⟩ = some (.int .i64 t.at_) ∧ wa.cell? ⟨b, off + k1 * 4 + 3, none⟩ = some (.int .i64 t.hi) from ⟨(HA1.out.cell (p := ⟨bp, 0, none⟩) HL2.out).trans HC2.out.1, (HA1.out.cell (p := ⟨bp, 1, none⟩) HL2.out).trans HC2.out.2.1, (HA1.out.cell (p := ⟨bp, 2, none⟩) HL2.out).trans HC2.out.2.2.1, (HA1.out.cell (p := ⟨b, _, none⟩) HM2.out).trans HC2.out.2.2.2.1, (HA1.out.cell (p := ⟨b, _, none⟩) HM2.out).trans HC2.out.2.2.2.2.1, (HA1.out.cell (p := ⟨b, _, none⟩) HM2.out).trans HC2.out.2.2.2.2.2.1, (HA1.out.cell (p := ⟨b, _, none⟩) HM2.out).trans HC2.out.2.2.2.2.2.2⟩); clear hb)))
    go_wp2_with (fail)
    go_ret
    exact ⟨rfl, HD.out.trans (HA1.out.mono HD.out.size)⟩
  · rw [if_neg hlt]
    have hge : decide ((E.T.length : Int) ≤ (k1 : Int)) = true := by simp; omega
    have hge2 : E.T.length ≤ k1 := by omega
    clear ht ho hb h hk1 hlt
    go_enter Tryd.func73, Tryd.ntmps73
    go_wp2_with (fail)
    go_quiet (fail)
    go_wp2_with (fail)
    go_ret
    exact ⟨rfl, below_drew _ _⟩
end Go.Proofs.YtnpcfmoiiecadaaDoor.Par
set_option linter.unusedVariables false
namespace Go.Proofs.YtnpcfmoiiecadaaDoor.Par
open Go.RowKit
open Lx (Tok)

theorem infoNd : (Tryd.prog.info? 31).map (fun i => (i.zero, i.size, i.bytes)) = some (some (.agg #[.int .i64 0, .string ⟨#[]⟩, .int .i64 0, .int .i64 0, .slice none 0 0]), 5, 64) := by kernel_rfl
/-- a row of one's own that holds these nodes, which don't use it -/
structure LIn (lo : Nat) (w : World) (v : Value) (l : List NT) : Prop where
  own : w.ownsRow lo 31 5 v l.length (ncl l)
  kids : ∀ k ∈ l, InS (fun b => (NB w b ∧ lo ≤ b) ∧ some b ≠ v.ownBlock) w k
theorem LIn.fr {B0 lo : Nat} {w w' : World} {v : Value} {l : List NT} (h : LIn lo w v l) (f : Fr B0 w w') : LIn lo w' v l :=
  ⟨own_far (g0 := 0) h.own (fun b hb => NB.fr hb f), fun k hk => InS.mono (fun b hb => ⟨⟨hb.1.1.of_eq (NB.fr hb.1.1 f), hb.1.2⟩, hb.2⟩) k (InS.keep (fun b hb => NB.fr hb.1.1 f) k (h.kids k hk))⟩
theorem LIn.kin {lo : Nat} {w : World} {v : Value} {l : List NT} (h : LIn lo w v l) : ∃ A c, v = .slice A l.length c ∧ KIn lo w A c l := by
  have hk : ∀ k ∈ l, InF lo w k := fun k hk => InS.mono (fun b hb => hb.1) k (h.kids k hk)
  rcases h.own.2 with ⟨rfl, h0⟩ | ⟨g, cap, cur, rfl, h2, h3, h4, h5, h6, h7⟩
  · have : l = [] := List.eq_nil_of_length_eq_zero h0
    subst this
    exact ⟨none, 0, rfl, KIn.nil _ _ _ _⟩
  · refine ⟨some ⟨g, 0, none⟩, cap, rfl, kin_block h3 (fun j hj => ?_) h2 h4 hk⟩
    have e : cur.toList.take (l.length * 5) = ncl l := h7
    rw [← e, List.getElem?_take]
    rw [ncl_len] at hj
    simp [hj]
/-- a row of one node that a literal makes -/
theorem LIn.one {lo : Nat} {w : World} {g : Nat} {n : NT} (hb : w.heap[g]? = some (.cells #[.int .i64 n.kind, .string n.text, .int .i64 n.lo, .int .i64 n.hi, .slice n.A n.kids.length n.c] 31 (0, 0))) (hlo : lo ≤ g) (hn : InS (fun b => (NB w b ∧ lo ≤ b) ∧ b ≠ g) w n) : LIn lo w (.slice (some ⟨g, 0, none⟩) 1 1) [n] :=
  ⟨⟨rfl, .inr ⟨g, 1, _, rfl, hlo, hb, Nat.le_refl _, by decide, rfl, rfl⟩⟩, fun k hk => by
    simp only [List.mem_cons, List.not_mem_nil, or_false] at hk
    subst hk
    exact InS.mono (fun b hb => ⟨hb.1, fun e => hb.2 (Option.some.inj e)⟩) _ hn⟩
/-- an empty row that a literal makes -/
theorem LIn.empty {lo : Nat} {w : World} {g : Nat} (hb : w.heap[g]? = some (.cells #[] 31 (0, 0))) (hlo : lo ≤ g) : LIn lo w (.slice (some ⟨g, 0, none⟩) 0 0) [] :=
  ⟨⟨rfl, .inr ⟨g, 0, _, rfl, hlo, hb, Nat.le_refl _, by decide, rfl, rfl⟩⟩, fun k hk => by cases hk⟩
/-- old blocks are not the new ones -/
theorem InF.ne {lo : Nat} {w : World} {n : NT} {S : Nat → Prop} (h : InF lo w n) (hs : ∀ b, NB w b → lo ≤ b → S b) : InS (fun b => (NB w b ∧ lo ≤ b) ∧ S b) w n := InS.mono (fun b hb => ⟨hb, hs b hb.1 hb.2⟩) n h
/-- one more node -/
theorem LIn.push {lo : Nat} {wa w3 : World} {v : Value} {l : List NT} {n : NT} {g cap : Nat} (h : LIn lo wa v l) (hn : InS (fun b => (NB wa b ∧ lo ≤ b) ∧ some b ≠ v.ownBlock) wa n)
    (hg : wa.grownBy w3 v.ownBlock) (hown : w3.ownsRow lo 31 5 (.slice (some ⟨g, 0, none⟩) (l.length + 1) cap) (l.length + 1) (ncl l ++ ncl [n])) (hsel : v.ownBlock = some g ∨ g = wa.heap.size) :
    LIn lo w3 (.slice (some ⟨g, 0, none⟩) (l.length + 1) cap) (l ++ [n]) := by
  refine ⟨?_, fun k hk => ?_⟩
  · rw [show (l ++ [n]).length = l.length + 1 from by simp, ncl_append]; exact hown
  · have hk' : InS (fun b => (NB wa b ∧ lo ≤ b) ∧ some b ≠ v.ownBlock) wa k := by
      rcases List.mem_append.1 hk with hk | hk
      · exact h.kids k hk
      · simp only [List.mem_cons, List.not_mem_nil, or_false] at hk
        subst hk; exact hn
    have hkeep : ∀ b, (NB wa b ∧ lo ≤ b) ∧ some b ≠ v.ownBlock → w3.heap[b]? = wa.heap[b]? := fun b hb => hg.block b hb.1.1.lt hb.2
    exact InS.mono (fun b hb => ⟨⟨hb.1.1.of_eq (hkeep b hb), hb.1.2⟩, fun e => by
      have e' : b = g := Option.some.inj e
      rcases hsel with h1 | h1
      · exact hb.2 (by rw [h1, e'])
      · have := hb.1.1.lt; omega⟩) k (InS.keep hkeep k hk')
theorem PIs.grownN {B0 bp lo n : Nat} {E : Env} {wa w3 : World} {p : St} {v : Value} {xs : List Value} (h : PIs B0 bp E wa p) (ho : wa.ownsRow lo 31 5 v n xs) (hg : wa.grownBy w3 v.ownBlock) : PIs B0 bp E w3 p := by
  have key : ∀ t b, TyB t wa b → t ≠ 31 → w3.heap[b]? = wa.heap[b]? := fun t b hb hne => hg.block b hb.lt (fun e => by
    obtain ⟨cs, fr, e1⟩ := hb
    obtain ⟨cs', fr', e2⟩ := (own_ty ho b e.symm).1
    rw [e2] at e1; cases e1; exact hne rfl)
  obtain ⟨v', h1, h2⟩ := h.box
  obtain ⟨b, off, ht⟩ := h.tok
  exact ⟨h.base, ⟨v', (key _ bp ⟨_, _, h1⟩ (by decide)).trans h1, own_far (g0 := 0) h2 (fun b hb => key _ b hb (by decide))⟩, ⟨b, off, ht.keep (key _ b ht.ty (by decide))⟩, h.eok, h.ok⟩
theorem Fr.grownN {B0 lo n : Nat} {w wa w3 : World} {v : Value} {xs : List Value} (h : Fr B0 w wa) (hB : B0 ≤ w.heap.size) (hlo : w.heap.size ≤ lo) (ho : wa.ownsRow lo 31 5 v n xs) (hg : wa.grownBy w3 v.ownBlock) : Fr B0 w w3 :=
  ⟨h.below.grown hg (Nat.le_trans hB h.below.size) (fun k e => by have := (own_ty ho k e).2; omega), fun b hb hm => (hg.block b (Nat.lt_of_lt_of_le hb h.below.size) (fun e => by have := (own_ty ho b e.symm).2; omega)).trans (h.keep b hb hm)⟩
theorem ZB.grownN {lo n b : Nat} {wa w3 : World} {v : Value} {xs : List Value} (h : ZB wa b) (hlo : b < lo) (ho : wa.ownsRow lo 31 5 v n xs) (hg : wa.grownBy w3 v.ownBlock) : ZB w3 b :=
  (hg.block b (Array.getElem?_eq_some_iff.1 h).1 (fun e => by have := (own_ty ho b e.symm).2; omega)).trans h
end Go.Proofs.YtnpcfmoiiecadaaDoor.Par
