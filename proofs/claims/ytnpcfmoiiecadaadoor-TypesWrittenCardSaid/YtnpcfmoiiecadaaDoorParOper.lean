/- What is proved: the reference's parser: operand. -/
import Derived.Test.YtnpcfmoiiecadaaDoorParArgs
set_option linter.unusedVariables false
namespace Go.Proofs.YtnpcfmoiiecadaaDoor.Par
open Go.RowKit
open Lx (Tok)

theorem KIn.mono {lo lo' : Nat} {w : World} {A : Option Addr} {c : Nat} {ks : List NT} (h : KIn lo w A c ks) (hl : lo' ≤ lo) : KIn lo' w A c ks :=
  ⟨h.row.mono (fun b hb => ⟨hb.1, Nat.le_trans hl hb.2⟩), h.cap, fun k hk => (h.kids k hk).mono hl⟩
theorem isW_eq {E : Env} {p : St} {x y : ByteArray} (hx : isW E p x = true) (hy : eqS x y = false) : isW E p y = false := by
  unfold isW eqS at *
  simp only [Bool.and_eq_true] at hx
  rw [eq_of_beq hx.2, hy, Bool.and_false]
set_option maxHeartbeats 4000000 in
set_option maxRecDepth 100000 in
theorem op_num {B0 bp : Nat} {E : Env} {w : World} {p : St} (h : PIs B0 bp E w p)  (hk : knd E p = 2) :
    Calls Tryd.prog 83 #[ptr bp] w fun e w' => Got B0 bp w.heap.size E w (mkN E (rd E p) p.k 24 (dig (wd E p.k)) []) ((rd E p)) e w' := by
  have HF := Lib.hid h.ok.1
  have HB0 := Lib.hid h.b0
  have HP := Lib.hid h
  clear h
  unfold ptr at *
  go_enter Tryd.func83, Tryd.ntmps83
  have hb0 := (Below.refl w.heap.size w).alloc (Nat.le_refl _) (.cells #[.int .i64 0, .string ⟨#[]⟩, .int .i64 0, .int .i64 0, .slice none 0 0] 31)
  have hz0 : ZB (w.alloc (.cells #[.int .i64 0, .string ⟨#[]⟩, .int .i64 0, .int .i64 0, .slice none 0 0] 31)) w.heap.size := heap_alloc_new w _
  have hs0 : (w.alloc (.cells #[.int .i64 0, .string ⟨#[]⟩, .int .i64 0, .int .i64 0, .slice none 0 0] 31)).heap.size = w.heap.size + 1 := World.size_alloc _ _
  have HP0 := Lib.hid (HP.out.later hb0)
  have HF0 := Lib.hid (Fr.of_below hb0 HB0.out)
  have HZ0 := Lib.hid hz0
  have HS0 := Lib.hid (show w.heap.size + 1 ≤ (w.alloc (.cells #[.int .i64 0, .string ⟨#[]⟩, .int .i64 0, .int .i64 0, .slice none 0 0] 31)).heap.size by rw [hs0]; omega)
  have c0 := HP0.out.c2
  clear hb0 hz0 hs0
  go_wp2_with (fail)
  clear c0
  generalize (w.alloc (.cells #[.int .i64 0, .string ⟨#[]⟩, .int .i64 0, .int .i64 0, .slice none 0 0] 31)) = w0 at *
  refine (kind_at HP0.out hk).mono ?_
  rintro e w1 ⟨rfl, hb1⟩
  have hf1 := Fr.of_below hb1 HP0.out.b0
  have HP1 := Lib.hid (HP0.out.later hb1)
  clear hb1
  have HF1 := Lib.hid (HF0.out.trans hf1)
  have HZ1 := Lib.hid (HZ0.out.fr hf1)
  have HS1 := Lib.hid (Nat.le_trans HS0.out hf1.below.size)
  clear HF0 HZ0
  clear hf1
  have c1 := HP1.out.c2
  go_wp2_with (fail)
  clear c1
  refine (read_any HP1.out (by rw [hk]; decide)).mono ?_
  rintro e w2 ⟨rfl, hp2, hf2⟩
  have HP2 := Lib.hid hp2
  clear hp2
  have HF2 := Lib.hid (HF1.out.trans hf2)
  have HZ2 := Lib.hid (HZ1.out.fr hf2)
  have HS2 := Lib.hid (Nat.le_trans HS1.out hf2.below.size)
  clear HF1 HZ1
  clear hf2
  have c2 := HP2.out.c2
  go_wp2_with (fail)
  clear c2
  refine (digits_any (wd E p.k) _ (wd_size HP.out.eok _)).mono ?_
  rintro e w3 ⟨rfl, hb3⟩
  have hf3 := Fr.of_below hb3 HP2.out.b0
  have HP3 := Lib.hid (HP2.out.later hb3)
  clear hb3
  have HF3 := Lib.hid (HF2.out.trans hf3)
  have HZ3 := Lib.hid (HZ2.out.fr hf3)
  have HS3 := Lib.hid (Nat.le_trans HS2.out hf3.below.size)
  clear HF2 HZ2
  clear hf3
  have c3 := HP3.out.c2
  go_wp2_with (fail)
  clear c3
  refine (node_leaf HP3.out (w.heap.size + 1) p.k 24 (dig (wd E p.k)) HF.out).mono ?_
  rintro e w4 ⟨n, rfl, hst4, hin4, hp4, hf4⟩
  have HP4 := Lib.hid hp4
  have HST_n := Lib.hid hst4
  have HIN_n_4 := Lib.hid hin4
  clear hp4 hst4 hin4
  have HF4 := Lib.hid (HF3.out.trans hf4)
  have HZ4 := Lib.hid (HZ3.out.fr hf4)
  have HS4 := Lib.hid (Nat.le_trans HS3.out hf4.below.size)
  clear HF3 HZ3
  clear hf4
  obtain ⟨z0, z1, z2, z3, z4⟩ := HZ4.out.cells
  have y0 := HZ4.out.frozen 0
  have y1 := HZ4.out.frozen 1
  have y2 := HZ4.out.frozen 2
  have y3 := HZ4.out.frozen 3
  have y4 := HZ4.out.frozen 4
  go_wp2_with (fail)
  obtain ⟨hV, hin, hp, hf⟩ := got_put (w := w) (w2 := w4) (n := n) HB0.out HZ4.out (Nat.le_refl _) HIN_n_4.out HP4.out HF4.out
  clear z0 z1 z2 z3 z4 y0 y1 y2 y3 y4
  dsimp only [putN] at hV hin hp hf
  generalize (((((w4.setCell ⟨w.heap.size, 0, none⟩ (.int .i64 n.kind)).setCell ⟨w.heap.size, 1, none⟩ (.string n.text)).setCell ⟨w.heap.size, 2, none⟩ (.int .i64 n.lo)).setCell ⟨w.heap.size, 3, none⟩ (.int .i64 n.hi)).setCell ⟨w.heap.size, 4, none⟩ (.slice n.A n.kids.length n.c)) = V at *
  have v0 := Lib.cell_of_heap hV 0
  have v1 := Lib.cell_of_heap hV 1
  have v2 := Lib.cell_of_heap hV 2
  have v3 := Lib.cell_of_heap hV 3
  have v4 := Lib.cell_of_heap hV 4
  exact bodyPost_ret (v := .agg #[.int .i64 n.kind, .string n.text, .int .i64 n.lo, .int .i64 n.hi, .slice n.A n.kids.length n.c]) (by simp [results, Tryd.results83, go_sem, v0, v1, v2, v3, v4]) rfl ⟨n, rfl, HST_n.out, hin, hp, hf⟩
set_option maxHeartbeats 4000000 in
set_option maxRecDepth 100000 in
theorem op_true {B0 bp : Nat} {E : Env} {w : World} {p : St} (h : PIs B0 bp E w p)  (kd : Int) (hk : knd E p = kd) (h2 : (kd == 2) = false) (ht : isW E p (⟨#[116, 114, 117, 101]⟩ : ByteArray) = true) :
    Calls Tryd.prog 83 #[ptr bp] w fun e w' => Got B0 bp w.heap.size E w (mkN E (rd E p) p.k 25 (wd E p.k) []) ((rd E p)) e w' := by
  have HF := Lib.hid h.ok.1
  have HB0 := Lib.hid h.b0
  have HP := Lib.hid h
  clear h
  unfold ptr at *
  go_enter Tryd.func83, Tryd.ntmps83
  have hb0 := (Below.refl w.heap.size w).alloc (Nat.le_refl _) (.cells #[.int .i64 0, .string ⟨#[]⟩, .int .i64 0, .int .i64 0, .slice none 0 0] 31)
  have hz0 : ZB (w.alloc (.cells #[.int .i64 0, .string ⟨#[]⟩, .int .i64 0, .int .i64 0, .slice none 0 0] 31)) w.heap.size := heap_alloc_new w _
  have hs0 : (w.alloc (.cells #[.int .i64 0, .string ⟨#[]⟩, .int .i64 0, .int .i64 0, .slice none 0 0] 31)).heap.size = w.heap.size + 1 := World.size_alloc _ _
  have HP0 := Lib.hid (HP.out.later hb0)
  have HF0 := Lib.hid (Fr.of_below hb0 HB0.out)
  have HZ0 := Lib.hid hz0
  have HS0 := Lib.hid (show w.heap.size + 1 ≤ (w.alloc (.cells #[.int .i64 0, .string ⟨#[]⟩, .int .i64 0, .int .i64 0, .slice none 0 0] 31)).heap.size by rw [hs0]; omega)
  have c0 := HP0.out.c2
  clear hb0 hz0 hs0
  go_wp2_with (fail)
  clear c0
  generalize (w.alloc (.cells #[.int .i64 0, .string ⟨#[]⟩, .int .i64 0, .int .i64 0, .slice none 0 0] 31)) = w0 at *
  refine (kind_at HP0.out hk).mono ?_
  rintro e w1 ⟨rfl, hb1⟩
  have hf1 := Fr.of_below hb1 HP0.out.b0
  have HP1 := Lib.hid (HP0.out.later hb1)
  clear hb1
  have HF1 := Lib.hid (HF0.out.trans hf1)
  have HZ1 := Lib.hid (HZ0.out.fr hf1)
  have HS1 := Lib.hid (Nat.le_trans HS0.out hf1.below.size)
  clear HF0 HZ0
  clear hf1
  have c1 := HP1.out.c2
  go_wp2_with (fail)
  clear c1
  refine (is_at HP1.out ht).mono ?_
  rintro e w2 ⟨rfl, hb2⟩
  have hf2 := Fr.of_below hb2 HP1.out.b0
  have HP2 := Lib.hid (HP1.out.later hb2)
  clear hb2
  have HF2 := Lib.hid (HF1.out.trans hf2)
  have HZ2 := Lib.hid (HZ1.out.fr hf2)
  have HS2 := Lib.hid (Nat.le_trans HS1.out hf2.below.size)
  clear HF1 HZ1
  clear hf2
  have c2 := HP2.out.c2
  go_wp2_with (fail)
  clear c2
  refine (read_any HP2.out (isW_not_end ht)).mono ?_
  rintro e w3 ⟨rfl, hp3, hf3⟩
  have HP3 := Lib.hid hp3
  clear hp3
  have HF3 := Lib.hid (HF2.out.trans hf3)
  have HZ3 := Lib.hid (HZ2.out.fr hf3)
  have HS3 := Lib.hid (Nat.le_trans HS2.out hf3.below.size)
  clear HF2 HZ2
  clear hf3
  have c3 := HP3.out.c2
  go_wp2_with (fail)
  clear c3
  refine (node_leaf HP3.out (w.heap.size + 1) p.k 25 (wd E p.k) HF.out).mono ?_
  rintro e w4 ⟨n, rfl, hst4, hin4, hp4, hf4⟩
  have HP4 := Lib.hid hp4
  have HST_n := Lib.hid hst4
  have HIN_n_4 := Lib.hid hin4
  clear hp4 hst4 hin4
  have HF4 := Lib.hid (HF3.out.trans hf4)
  have HZ4 := Lib.hid (HZ3.out.fr hf4)
  have HS4 := Lib.hid (Nat.le_trans HS3.out hf4.below.size)
  clear HF3 HZ3
  clear hf4
  obtain ⟨z0, z1, z2, z3, z4⟩ := HZ4.out.cells
  have y0 := HZ4.out.frozen 0
  have y1 := HZ4.out.frozen 1
  have y2 := HZ4.out.frozen 2
  have y3 := HZ4.out.frozen 3
  have y4 := HZ4.out.frozen 4
  go_wp2_with (fail)
  obtain ⟨hV, hin, hp, hf⟩ := got_put (w := w) (w2 := w4) (n := n) HB0.out HZ4.out (Nat.le_refl _) HIN_n_4.out HP4.out HF4.out
  clear z0 z1 z2 z3 z4 y0 y1 y2 y3 y4
  dsimp only [putN] at hV hin hp hf
  generalize (((((w4.setCell ⟨w.heap.size, 0, none⟩ (.int .i64 n.kind)).setCell ⟨w.heap.size, 1, none⟩ (.string n.text)).setCell ⟨w.heap.size, 2, none⟩ (.int .i64 n.lo)).setCell ⟨w.heap.size, 3, none⟩ (.int .i64 n.hi)).setCell ⟨w.heap.size, 4, none⟩ (.slice n.A n.kids.length n.c)) = V at *
  have v0 := Lib.cell_of_heap hV 0
  have v1 := Lib.cell_of_heap hV 1
  have v2 := Lib.cell_of_heap hV 2
  have v3 := Lib.cell_of_heap hV 3
  have v4 := Lib.cell_of_heap hV 4
  exact bodyPost_ret (v := .agg #[.int .i64 n.kind, .string n.text, .int .i64 n.lo, .int .i64 n.hi, .slice n.A n.kids.length n.c]) (by simp [results, Tryd.results83, go_sem, v0, v1, v2, v3, v4]) rfl ⟨n, rfl, HST_n.out, hin, hp, hf⟩
set_option maxHeartbeats 4000000 in
set_option maxRecDepth 100000 in
theorem op_false {B0 bp : Nat} {E : Env} {w : World} {p : St} (h : PIs B0 bp E w p)  (kd : Int) (hk : knd E p = kd) (h2 : (kd == 2) = false) (ht : isW E p (⟨#[116, 114, 117, 101]⟩ : ByteArray) = false) (hf : isW E p (⟨#[102, 97, 108, 115, 101]⟩ : ByteArray) = true) :
    Calls Tryd.prog 83 #[ptr bp] w fun e w' => Got B0 bp w.heap.size E w (mkN E (rd E p) p.k 25 (wd E p.k) []) ((rd E p)) e w' := by
  have HF := Lib.hid h.ok.1
  have HB0 := Lib.hid h.b0
  have HP := Lib.hid h
  clear h
  unfold ptr at *
  go_enter Tryd.func83, Tryd.ntmps83
  have hb0 := (Below.refl w.heap.size w).alloc (Nat.le_refl _) (.cells #[.int .i64 0, .string ⟨#[]⟩, .int .i64 0, .int .i64 0, .slice none 0 0] 31)
  have hz0 : ZB (w.alloc (.cells #[.int .i64 0, .string ⟨#[]⟩, .int .i64 0, .int .i64 0, .slice none 0 0] 31)) w.heap.size := heap_alloc_new w _
  have hs0 : (w.alloc (.cells #[.int .i64 0, .string ⟨#[]⟩, .int .i64 0, .int .i64 0, .slice none 0 0] 31)).heap.size = w.heap.size + 1 := World.size_alloc _ _
  have HP0 := Lib.hid (HP.out.later hb0)
  have HF0 := Lib.hid (Fr.of_below hb0 HB0.out)
  have HZ0 := Lib.hid hz0
  have HS0 := Lib.hid (show w.heap.size + 1 ≤ (w.alloc (.cells #[.int .i64 0, .string ⟨#[]⟩, .int .i64 0, .int .i64 0, .slice none 0 0] 31)).heap.size by rw [hs0]; omega)
  have c0 := HP0.out.c2
  clear hb0 hz0 hs0
  go_wp2_with (fail)
  clear c0
  generalize (w.alloc (.cells #[.int .i64 0, .string ⟨#[]⟩, .int .i64 0, .int .i64 0, .slice none 0 0] 31)) = w0 at *
  refine (kind_at HP0.out hk).mono ?_
  rintro e w1 ⟨rfl, hb1⟩
  have hf1 := Fr.of_below hb1 HP0.out.b0
  have HP1 := Lib.hid (HP0.out.later hb1)
  clear hb1
  have HF1 := Lib.hid (HF0.out.trans hf1)
  have HZ1 := Lib.hid (HZ0.out.fr hf1)
  have HS1 := Lib.hid (Nat.le_trans HS0.out hf1.below.size)
  clear HF0 HZ0
  clear hf1
  have c1 := HP1.out.c2
  go_wp2_with (fail)
  clear c1
  refine (is_at HP1.out ht).mono ?_
  rintro e w2 ⟨rfl, hb2⟩
  have hf2 := Fr.of_below hb2 HP1.out.b0
  have HP2 := Lib.hid (HP1.out.later hb2)
  clear hb2
  have HF2 := Lib.hid (HF1.out.trans hf2)
  have HZ2 := Lib.hid (HZ1.out.fr hf2)
  have HS2 := Lib.hid (Nat.le_trans HS1.out hf2.below.size)
  clear HF1 HZ1
  clear hf2
  have c2 := HP2.out.c2
  go_wp2_with (fail)
  clear c2
  refine (is_at HP2.out hf).mono ?_
  rintro e w3 ⟨rfl, hb3⟩
  have hf3 := Fr.of_below hb3 HP2.out.b0
  have HP3 := Lib.hid (HP2.out.later hb3)
  clear hb3
  have HF3 := Lib.hid (HF2.out.trans hf3)
  have HZ3 := Lib.hid (HZ2.out.fr hf3)
  have HS3 := Lib.hid (Nat.le_trans HS2.out hf3.below.size)
  clear HF2 HZ2
  clear hf3
  have c3 := HP3.out.c2
  go_wp2_with (fail)
  clear c3
  refine (read_any HP3.out (isW_not_end hf)).mono ?_
  rintro e w4 ⟨rfl, hp4, hf4⟩
  have HP4 := Lib.hid hp4
  clear hp4
  have HF4 := Lib.hid (HF3.out.trans hf4)
  have HZ4 := Lib.hid (HZ3.out.fr hf4)
  have HS4 := Lib.hid (Nat.le_trans HS3.out hf4.below.size)
  clear HF3 HZ3
  clear hf4
  have c4 := HP4.out.c2
  go_wp2_with (fail)
  clear c4
  refine (node_leaf HP4.out (w.heap.size + 1) p.k 25 (wd E p.k) HF.out).mono ?_
  rintro e w5 ⟨n, rfl, hst5, hin5, hp5, hf5⟩
  have HP5 := Lib.hid hp5
  have HST_n := Lib.hid hst5
  have HIN_n_5 := Lib.hid hin5
  clear hp5 hst5 hin5
  have HF5 := Lib.hid (HF4.out.trans hf5)
  have HZ5 := Lib.hid (HZ4.out.fr hf5)
  have HS5 := Lib.hid (Nat.le_trans HS4.out hf5.below.size)
  clear HF4 HZ4
  clear hf5
  obtain ⟨z0, z1, z2, z3, z4⟩ := HZ5.out.cells
  have y0 := HZ5.out.frozen 0
  have y1 := HZ5.out.frozen 1
  have y2 := HZ5.out.frozen 2
  have y3 := HZ5.out.frozen 3
  have y4 := HZ5.out.frozen 4
  go_wp2_with (fail)
  obtain ⟨hV, hin, hp, hf⟩ := got_put (w := w) (w2 := w5) (n := n) HB0.out HZ5.out (Nat.le_refl _) HIN_n_5.out HP5.out HF5.out
  clear z0 z1 z2 z3 z4 y0 y1 y2 y3 y4
  dsimp only [putN] at hV hin hp hf
  generalize (((((w5.setCell ⟨w.heap.size, 0, none⟩ (.int .i64 n.kind)).setCell ⟨w.heap.size, 1, none⟩ (.string n.text)).setCell ⟨w.heap.size, 2, none⟩ (.int .i64 n.lo)).setCell ⟨w.heap.size, 3, none⟩ (.int .i64 n.hi)).setCell ⟨w.heap.size, 4, none⟩ (.slice n.A n.kids.length n.c)) = V at *
  have v0 := Lib.cell_of_heap hV 0
  have v1 := Lib.cell_of_heap hV 1
  have v2 := Lib.cell_of_heap hV 2
  have v3 := Lib.cell_of_heap hV 3
  have v4 := Lib.cell_of_heap hV 4
  exact bodyPost_ret (v := .agg #[.int .i64 n.kind, .string n.text, .int .i64 n.lo, .int .i64 n.hi, .slice n.A n.kids.length n.c]) (by simp [results, Tryd.results83, go_sem, v0, v1, v2, v3, v4]) rfl ⟨n, rfl, HST_n.out, hin, hp, hf⟩
set_option maxHeartbeats 4000000 in
set_option maxRecDepth 100000 in
theorem op_call {B0 bp : Nat} {E : Env} {w : World} {p : St} (h : PIs B0 bp E w p) {R : Rec} (hex : ExOK B0 bp E R) (hk : knd E p = 0) (ht : isW E p (⟨#[116, 114, 117, 101]⟩ : ByteArray) = false) (hf : isW E p (⟨#[102, 97, 108, 115, 101]⟩ : ByteArray) = false) (hb : ((bhd E p).toList == [40]) = true) (h5 : knd E (rd E p) ≠ 5) (ks : List NT) (q : St) (ha : args E R (rd E p) = some (ks, q)) :
    Calls Tryd.prog 83 #[ptr bp] w fun e w' => Got B0 bp w.heap.size E w (mkN E q p.k 27 (wd E p.k) ks) (q) e w' := by
  have HF := Lib.hid h.ok.1
  have HB0 := Lib.hid h.b0
  have HP := Lib.hid h
  clear h
  unfold ptr at *
  go_enter Tryd.func83, Tryd.ntmps83
  have hb0 := (Below.refl w.heap.size w).alloc (Nat.le_refl _) (.cells #[.int .i64 0, .string ⟨#[]⟩, .int .i64 0, .int .i64 0, .slice none 0 0] 31)
  have hz0 : ZB (w.alloc (.cells #[.int .i64 0, .string ⟨#[]⟩, .int .i64 0, .int .i64 0, .slice none 0 0] 31)) w.heap.size := heap_alloc_new w _
  have hs0 : (w.alloc (.cells #[.int .i64 0, .string ⟨#[]⟩, .int .i64 0, .int .i64 0, .slice none 0 0] 31)).heap.size = w.heap.size + 1 := World.size_alloc _ _
  have HP0 := Lib.hid (HP.out.later hb0)
  have HF0 := Lib.hid (Fr.of_below hb0 HB0.out)
  have HZ0 := Lib.hid hz0
  have HS0 := Lib.hid (show w.heap.size + 1 ≤ (w.alloc (.cells #[.int .i64 0, .string ⟨#[]⟩, .int .i64 0, .int .i64 0, .slice none 0 0] 31)).heap.size by rw [hs0]; omega)
  have c0 := HP0.out.c2
  clear hb0 hz0 hs0
  go_wp2_with (fail)
  clear c0
  generalize (w.alloc (.cells #[.int .i64 0, .string ⟨#[]⟩, .int .i64 0, .int .i64 0, .slice none 0 0] 31)) = w0 at *
  refine (kind_at HP0.out hk).mono ?_
  rintro e w1 ⟨rfl, hb1⟩
  have hf1 := Fr.of_below hb1 HP0.out.b0
  have HP1 := Lib.hid (HP0.out.later hb1)
  clear hb1
  have HF1 := Lib.hid (HF0.out.trans hf1)
  have HZ1 := Lib.hid (HZ0.out.fr hf1)
  have HS1 := Lib.hid (Nat.le_trans HS0.out hf1.below.size)
  clear HF0 HZ0
  clear hf1
  have c1 := HP1.out.c2
  go_wp2_with (fail)
  clear c1
  refine (is_at HP1.out ht).mono ?_
  rintro e w2 ⟨rfl, hb2⟩
  have hf2 := Fr.of_below hb2 HP1.out.b0
  have HP2 := Lib.hid (HP1.out.later hb2)
  clear hb2
  have HF2 := Lib.hid (HF1.out.trans hf2)
  have HZ2 := Lib.hid (HZ1.out.fr hf2)
  have HS2 := Lib.hid (Nat.le_trans HS1.out hf2.below.size)
  clear HF1 HZ1
  clear hf2
  have c2 := HP2.out.c2
  go_wp2_with (fail)
  clear c2
  refine (is_at HP2.out hf).mono ?_
  rintro e w3 ⟨rfl, hb3⟩
  have hf3 := Fr.of_below hb3 HP2.out.b0
  have HP3 := Lib.hid (HP2.out.later hb3)
  clear hb3
  have HF3 := Lib.hid (HF2.out.trans hf3)
  have HZ3 := Lib.hid (HZ2.out.fr hf3)
  have HS3 := Lib.hid (Nat.le_trans HS2.out hf3.below.size)
  clear HF2 HZ2
  clear hf3
  have c3 := HP3.out.c2
  go_wp2_with (fail)
  clear c3
  refine (kind_at HP3.out hk).mono ?_
  rintro e w4 ⟨rfl, hb4⟩
  have hf4 := Fr.of_below hb4 HP3.out.b0
  have HP4 := Lib.hid (HP3.out.later hb4)
  clear hb4
  have HF4 := Lib.hid (HF3.out.trans hf4)
  have HZ4 := Lib.hid (HZ3.out.fr hf4)
  have HS4 := Lib.hid (Nat.le_trans HS3.out hf4.below.size)
  clear HF3 HZ3
  clear hf4
  have c4 := HP4.out.c2
  go_wp2_with (fail)
  clear c4
  refine (behind_any HP4.out).mono ?_
  rintro e w5 ⟨rfl, hb5⟩
  have hf5 := Fr.of_below hb5 HP4.out.b0
  have HP5 := Lib.hid (HP4.out.later hb5)
  clear hb5
  have HF5 := Lib.hid (HF4.out.trans hf5)
  have HZ5 := Lib.hid (HZ4.out.fr hf5)
  have HS5 := Lib.hid (Nat.le_trans HS4.out hf5.below.size)
  clear HF4 HZ4
  clear hf5
  have c5 := HP5.out.c2
  go_wp2_with (fail)
  clear c5
  refine (read_any HP5.out (by rw [hk]; decide)).mono ?_
  rintro e w6 ⟨rfl, hp6, hf6⟩
  have HP6 := Lib.hid hp6
  clear hp6
  have HF6 := Lib.hid (HF5.out.trans hf6)
  have HZ6 := Lib.hid (HZ5.out.fr hf6)
  have HS6 := Lib.hid (Nat.le_trans HS5.out hf6.below.size)
  clear HF5 HZ5
  clear hf6
  have c6 := HP6.out.c2
  go_wp2_with (fail)
  clear c6
  refine (args_any HP6.out h5 hex ha).mono ?_
  rintro e w7 ⟨A, c, l, rfl, hstr, hkin, hp7, hf7⟩
  have HP7 := Lib.hid hp7
  have HSTR := Lib.hid hstr
  have HKA_7 := Lib.hid (hkin.mono HS6.out)
  clear hp7 hstr hkin
  have HF7 := Lib.hid (HF6.out.trans hf7)
  have HZ7 := Lib.hid (HZ6.out.fr hf7)
  have HS7 := Lib.hid (Nat.le_trans HS6.out hf7.below.size)
  clear HF6 HZ6
  clear hf7
  have c7 := HP7.out.c2
  go_wp2_with (fail)
  clear c7
  refine (node_kids HP7.out p.k 27 (wd E p.k) A c l ks HF.out HKA_7.out HSTR.out).mono ?_
  rintro e w8 ⟨m, rfl, hst8, hin8, hp8, hf8⟩
  have HP8 := Lib.hid hp8
  have HST_m := Lib.hid hst8
  have HIN_m_8 := Lib.hid hin8
  clear hp8 hst8 hin8
  have HF8 := Lib.hid (HF7.out.trans hf8)
  have HZ8 := Lib.hid (HZ7.out.fr hf8)
  have HS8 := Lib.hid (Nat.le_trans HS7.out hf8.below.size)
  have HKA_8 := Lib.hid (HKA_7.out.fr hf8)
  clear HF7 HZ7
  clear hf8
  obtain ⟨z0, z1, z2, z3, z4⟩ := HZ8.out.cells
  have y0 := HZ8.out.frozen 0
  have y1 := HZ8.out.frozen 1
  have y2 := HZ8.out.frozen 2
  have y3 := HZ8.out.frozen 3
  have y4 := HZ8.out.frozen 4
  go_wp2_with (fail)
  obtain ⟨hV, hin, hp, hf⟩ := got_put (w := w) (w2 := w8) (n := m) HB0.out HZ8.out (Nat.le_refl _) HIN_m_8.out HP8.out HF8.out
  clear z0 z1 z2 z3 z4 y0 y1 y2 y3 y4
  dsimp only [putN] at hV hin hp hf
  generalize (((((w8.setCell ⟨w.heap.size, 0, none⟩ (.int .i64 m.kind)).setCell ⟨w.heap.size, 1, none⟩ (.string m.text)).setCell ⟨w.heap.size, 2, none⟩ (.int .i64 m.lo)).setCell ⟨w.heap.size, 3, none⟩ (.int .i64 m.hi)).setCell ⟨w.heap.size, 4, none⟩ (.slice m.A m.kids.length m.c)) = V at *
  have v0 := Lib.cell_of_heap hV 0
  have v1 := Lib.cell_of_heap hV 1
  have v2 := Lib.cell_of_heap hV 2
  have v3 := Lib.cell_of_heap hV 3
  have v4 := Lib.cell_of_heap hV 4
  exact bodyPost_ret (v := .agg #[.int .i64 m.kind, .string m.text, .int .i64 m.lo, .int .i64 m.hi, .slice m.A m.kids.length m.c]) (by simp [results, Tryd.results83, go_sem, v0, v1, v2, v3, v4]) rfl ⟨m, rfl, HST_m.out, hin, hp, hf⟩
set_option maxHeartbeats 4000000 in
set_option maxRecDepth 100000 in
theorem op_name {B0 bp : Nat} {E : Env} {w : World} {p : St} (h : PIs B0 bp E w p) {R : Rec} (hex : ExOK B0 bp E R) (hk : knd E p = 0) (ht : isW E p (⟨#[116, 114, 117, 101]⟩ : ByteArray) = false) (hf : isW E p (⟨#[102, 97, 108, 115, 101]⟩ : ByteArray) = false) (hb : ((bhd E p).toList == [40]) = false) (m : NT) (q : St) (hpl : place E R p = some (m, q)) :
    Calls Tryd.prog 83 #[ptr bp] w fun e w' => Got B0 bp w.heap.size E w (m) (q) e w' := by
  have HF := Lib.hid h.ok.1
  have HB0 := Lib.hid h.b0
  have HP := Lib.hid h
  clear h
  unfold ptr at *
  go_enter Tryd.func83, Tryd.ntmps83
  have hb0 := (Below.refl w.heap.size w).alloc (Nat.le_refl _) (.cells #[.int .i64 0, .string ⟨#[]⟩, .int .i64 0, .int .i64 0, .slice none 0 0] 31)
  have hz0 : ZB (w.alloc (.cells #[.int .i64 0, .string ⟨#[]⟩, .int .i64 0, .int .i64 0, .slice none 0 0] 31)) w.heap.size := heap_alloc_new w _
  have hs0 : (w.alloc (.cells #[.int .i64 0, .string ⟨#[]⟩, .int .i64 0, .int .i64 0, .slice none 0 0] 31)).heap.size = w.heap.size + 1 := World.size_alloc _ _
  have HP0 := Lib.hid (HP.out.later hb0)
  have HF0 := Lib.hid (Fr.of_below hb0 HB0.out)
  have HZ0 := Lib.hid hz0
  have HS0 := Lib.hid (show w.heap.size + 1 ≤ (w.alloc (.cells #[.int .i64 0, .string ⟨#[]⟩, .int .i64 0, .int .i64 0, .slice none 0 0] 31)).heap.size by rw [hs0]; omega)
  have c0 := HP0.out.c2
  clear hb0 hz0 hs0
  go_wp2_with (fail)
  clear c0
  generalize (w.alloc (.cells #[.int .i64 0, .string ⟨#[]⟩, .int .i64 0, .int .i64 0, .slice none 0 0] 31)) = w0 at *
  refine (kind_at HP0.out hk).mono ?_
  rintro e w1 ⟨rfl, hb1⟩
  have hf1 := Fr.of_below hb1 HP0.out.b0
  have HP1 := Lib.hid (HP0.out.later hb1)
  clear hb1
  have HF1 := Lib.hid (HF0.out.trans hf1)
  have HZ1 := Lib.hid (HZ0.out.fr hf1)
  have HS1 := Lib.hid (Nat.le_trans HS0.out hf1.below.size)
  clear HF0 HZ0
  clear hf1
  have c1 := HP1.out.c2
  go_wp2_with (fail)
  clear c1
  refine (is_at HP1.out ht).mono ?_
  rintro e w2 ⟨rfl, hb2⟩
  have hf2 := Fr.of_below hb2 HP1.out.b0
  have HP2 := Lib.hid (HP1.out.later hb2)
  clear hb2
  have HF2 := Lib.hid (HF1.out.trans hf2)
  have HZ2 := Lib.hid (HZ1.out.fr hf2)
  have HS2 := Lib.hid (Nat.le_trans HS1.out hf2.below.size)
  clear HF1 HZ1
  clear hf2
  have c2 := HP2.out.c2
  go_wp2_with (fail)
  clear c2
  refine (is_at HP2.out hf).mono ?_
  rintro e w3 ⟨rfl, hb3⟩
  have hf3 := Fr.of_below hb3 HP2.out.b0
  have HP3 := Lib.hid (HP2.out.later hb3)
  clear hb3
  have HF3 := Lib.hid (HF2.out.trans hf3)
  have HZ3 := Lib.hid (HZ2.out.fr hf3)
  have HS3 := Lib.hid (Nat.le_trans HS2.out hf3.below.size)
  clear HF2 HZ2
  clear hf3
  have c3 := HP3.out.c2
  go_wp2_with (fail)
  clear c3
  refine (kind_at HP3.out hk).mono ?_
  rintro e w4 ⟨rfl, hb4⟩
  have hf4 := Fr.of_below hb4 HP3.out.b0
  have HP4 := Lib.hid (HP3.out.later hb4)
  clear hb4
  have HF4 := Lib.hid (HF3.out.trans hf4)
  have HZ4 := Lib.hid (HZ3.out.fr hf4)
  have HS4 := Lib.hid (Nat.le_trans HS3.out hf4.below.size)
  clear HF3 HZ3
  clear hf4
  have c4 := HP4.out.c2
  go_wp2_with (fail)
  clear c4
  refine (behind_any HP4.out).mono ?_
  rintro e w5 ⟨rfl, hb5⟩
  have hf5 := Fr.of_below hb5 HP4.out.b0
  have HP5 := Lib.hid (HP4.out.later hb5)
  clear hb5
  have HF5 := Lib.hid (HF4.out.trans hf5)
  have HZ5 := Lib.hid (HZ4.out.fr hf5)
  have HS5 := Lib.hid (Nat.le_trans HS4.out hf5.below.size)
  clear HF4 HZ4
  clear hf5
  have c5 := HP5.out.c2
  go_wp2_with (fail)
  clear c5
  refine (kind_at HP5.out hk).mono ?_
  rintro e w6 ⟨rfl, hb6⟩
  have hf6 := Fr.of_below hb6 HP5.out.b0
  have HP6 := Lib.hid (HP5.out.later hb6)
  clear hb6
  have HF6 := Lib.hid (HF5.out.trans hf6)
  have HZ6 := Lib.hid (HZ5.out.fr hf6)
  have HS6 := Lib.hid (Nat.le_trans HS5.out hf6.below.size)
  clear HF5 HZ5
  clear hf6
  have c6 := HP6.out.c2
  go_wp2_with (fail)
  clear c6
  refine (place_any HP6.out hex hpl).mono ?_
  rintro e w7 ⟨n, rfl, hst7, hin7, hp7, hf7⟩
  have HP7 := Lib.hid hp7
  have HST_n := Lib.hid hst7
  have HIN_n_7 := Lib.hid (InF.mono hin7 HS6.out)
  clear hp7 hst7 hin7
  have HF7 := Lib.hid (HF6.out.trans hf7)
  have HZ7 := Lib.hid (HZ6.out.fr hf7)
  have HS7 := Lib.hid (Nat.le_trans HS6.out hf7.below.size)
  clear HF6 HZ6
  clear hf7
  obtain ⟨z0, z1, z2, z3, z4⟩ := HZ7.out.cells
  have y0 := HZ7.out.frozen 0
  have y1 := HZ7.out.frozen 1
  have y2 := HZ7.out.frozen 2
  have y3 := HZ7.out.frozen 3
  have y4 := HZ7.out.frozen 4
  go_wp2_with (fail)
  obtain ⟨hV, hin, hp, hf⟩ := got_put (w := w) (w2 := w7) (n := n) HB0.out HZ7.out (Nat.le_refl _) HIN_n_7.out HP7.out HF7.out
  clear z0 z1 z2 z3 z4 y0 y1 y2 y3 y4
  dsimp only [putN] at hV hin hp hf
  generalize (((((w7.setCell ⟨w.heap.size, 0, none⟩ (.int .i64 n.kind)).setCell ⟨w.heap.size, 1, none⟩ (.string n.text)).setCell ⟨w.heap.size, 2, none⟩ (.int .i64 n.lo)).setCell ⟨w.heap.size, 3, none⟩ (.int .i64 n.hi)).setCell ⟨w.heap.size, 4, none⟩ (.slice n.A n.kids.length n.c)) = V at *
  have v0 := Lib.cell_of_heap hV 0
  have v1 := Lib.cell_of_heap hV 1
  have v2 := Lib.cell_of_heap hV 2
  have v3 := Lib.cell_of_heap hV 3
  have v4 := Lib.cell_of_heap hV 4
  exact bodyPost_ret (v := .agg #[.int .i64 n.kind, .string n.text, .int .i64 n.lo, .int .i64 n.hi, .slice n.A n.kids.length n.c]) (by simp [results, Tryd.results83, go_sem, v0, v1, v2, v3, v4]) rfl ⟨n, rfl, HST_n.out, hin, hp, hf⟩
set_option maxHeartbeats 4000000 in
set_option maxRecDepth 100000 in
theorem op_list {B0 bp : Nat} {E : Env} {w : World} {p : St} (h : PIs B0 bp E w p) {R : Rec} (hex : ExOK B0 bp E R) (kd : Int) (hk : knd E p = kd) (h2 : (kd == 2) = false) (h0 : (kd == 0) = false) (ht : isW E p (⟨#[116, 114, 117, 101]⟩ : ByteArray) = false) (hf : isW E p (⟨#[102, 97, 108, 115, 101]⟩ : ByteArray) = false) (hl : isW E p (⟨#[91]⟩ : ByteArray) = true) (x1 : NT) (q1 : St) (hx1 : R.ex 1 (rd E p) = some (x1, q1)) (m : NT) (q : St) (hmo : (more E (R.ex 1) (fuel E) [x1] q1).map (fun y => (mkN E (exq E y.2 (⟨#[93]⟩ : ByteArray)) p.k 26 (⟨#[]⟩ : ByteArray) y.1, exq E y.2 (⟨#[93]⟩ : ByteArray))) = some (m, q)) :
    Calls Tryd.prog 83 #[ptr bp] w fun e w' => Got B0 bp w.heap.size E w (m) (q) e w' := by
  have HF := Lib.hid h.ok.1
  have HB0 := Lib.hid h.b0
  have HP := Lib.hid h
  obtain ⟨i0, hi0, hz0', hz1, hz2⟩ := info_parts infoNd
  have HE := Lib.hid h.eok
  clear h
  unfold ptr at *
  go_enter Tryd.func83, Tryd.ntmps83
  have hb0 := (Below.refl w.heap.size w).alloc (Nat.le_refl _) (.cells #[.int .i64 0, .string ⟨#[]⟩, .int .i64 0, .int .i64 0, .slice none 0 0] 31)
  have hz0 : ZB (w.alloc (.cells #[.int .i64 0, .string ⟨#[]⟩, .int .i64 0, .int .i64 0, .slice none 0 0] 31)) w.heap.size := heap_alloc_new w _
  have hs0 : (w.alloc (.cells #[.int .i64 0, .string ⟨#[]⟩, .int .i64 0, .int .i64 0, .slice none 0 0] 31)).heap.size = w.heap.size + 1 := World.size_alloc _ _
  have HP0 := Lib.hid (HP.out.later hb0)
  have HF0 := Lib.hid (Fr.of_below hb0 HB0.out)
  have HZ0 := Lib.hid hz0
  have HS0 := Lib.hid (show w.heap.size + 1 ≤ (w.alloc (.cells #[.int .i64 0, .string ⟨#[]⟩, .int .i64 0, .int .i64 0, .slice none 0 0] 31)).heap.size by rw [hs0]; omega)
  have c0 := HP0.out.c2
  clear hb0 hz0 hs0
  go_wp2_with (fail)
  clear c0
  generalize (w.alloc (.cells #[.int .i64 0, .string ⟨#[]⟩, .int .i64 0, .int .i64 0, .slice none 0 0] 31)) = w0 at *
  refine (kind_at HP0.out hk).mono ?_
  rintro e w1 ⟨rfl, hb1⟩
  have hf1 := Fr.of_below hb1 HP0.out.b0
  have HP1 := Lib.hid (HP0.out.later hb1)
  clear hb1
  have HF1 := Lib.hid (HF0.out.trans hf1)
  have HZ1 := Lib.hid (HZ0.out.fr hf1)
  have HS1 := Lib.hid (Nat.le_trans HS0.out hf1.below.size)
  clear HF0 HZ0
  clear hf1
  have c1 := HP1.out.c2
  go_wp2_with (fail)
  clear c1
  refine (is_at HP1.out ht).mono ?_
  rintro e w2 ⟨rfl, hb2⟩
  have hf2 := Fr.of_below hb2 HP1.out.b0
  have HP2 := Lib.hid (HP1.out.later hb2)
  clear hb2
  have HF2 := Lib.hid (HF1.out.trans hf2)
  have HZ2 := Lib.hid (HZ1.out.fr hf2)
  have HS2 := Lib.hid (Nat.le_trans HS1.out hf2.below.size)
  clear HF1 HZ1
  clear hf2
  have c2 := HP2.out.c2
  go_wp2_with (fail)
  clear c2
  refine (is_at HP2.out hf).mono ?_
  rintro e w3 ⟨rfl, hb3⟩
  have hf3 := Fr.of_below hb3 HP2.out.b0
  have HP3 := Lib.hid (HP2.out.later hb3)
  clear hb3
  have HF3 := Lib.hid (HF2.out.trans hf3)
  have HZ3 := Lib.hid (HZ2.out.fr hf3)
  have HS3 := Lib.hid (Nat.le_trans HS2.out hf3.below.size)
  clear HF2 HZ2
  clear hf3
  have c3 := HP3.out.c2
  go_wp2_with (fail)
  clear c3
  refine (kind_at HP3.out hk).mono ?_
  rintro e w4 ⟨rfl, hb4⟩
  have hf4 := Fr.of_below hb4 HP3.out.b0
  have HP4 := Lib.hid (HP3.out.later hb4)
  clear hb4
  have HF4 := Lib.hid (HF3.out.trans hf4)
  have HZ4 := Lib.hid (HZ3.out.fr hf4)
  have HS4 := Lib.hid (Nat.le_trans HS3.out hf4.below.size)
  clear HF3 HZ3
  clear hf4
  have c4 := HP4.out.c2
  go_wp2_with (fail)
  clear c4
  refine (kind_at HP4.out hk).mono ?_
  rintro e w5 ⟨rfl, hb5⟩
  have hf5 := Fr.of_below hb5 HP4.out.b0
  have HP5 := Lib.hid (HP4.out.later hb5)
  clear hb5
  have HF5 := Lib.hid (HF4.out.trans hf5)
  have HZ5 := Lib.hid (HZ4.out.fr hf5)
  have HS5 := Lib.hid (Nat.le_trans HS4.out hf5.below.size)
  clear HF4 HZ4
  clear hf5
  have c5 := HP5.out.c2
  go_wp2_with (fail)
  clear c5
  refine (accept_yes HP5.out hl).mono ?_
  rintro e w6 ⟨rfl, hp6, hf6⟩
  have HP6 := Lib.hid hp6
  clear hp6
  have HF6 := Lib.hid (HF5.out.trans hf6)
  have HZ6 := Lib.hid (HZ5.out.fr hf6)
  have HS6 := Lib.hid (Nat.le_trans HS5.out hf6.below.size)
  clear HF5 HZ5
  clear hf6
  have c6 := HP6.out.c2
  go_wp2_with (fail)
  clear c6
  refine (hex 1 _ _ x1 q1 (by decide) (by decide) hx1 HP6.out).mono ?_
  rintro e w7 ⟨n, rfl, hst7, hin7, hp7, hf7⟩
  have HP7 := Lib.hid hp7
  have HST_n := Lib.hid hst7
  have HIN_n_7 := Lib.hid (InF.mono hin7 HS6.out)
  clear hp7 hst7 hin7
  have HF7 := Lib.hid (HF6.out.trans hf7)
  have HZ7 := Lib.hid (HZ6.out.fr hf7)
  have HS7 := Lib.hid (Nat.le_trans HS6.out hf7.below.size)
  clear HF6 HZ6
  clear hf7
  have c7 := HP7.out.c2
  go_wp2_with (fail)
  clear c7
  have hba := (Below.refl w7.heap.size w7).alloc (Nat.le_refl _) (.cells #[.int .i64 n.kind, .string n.text, .int .i64 n.lo, .int .i64 n.hi, .slice n.A n.kids.length n.c] 31)
  have hnb : (w7.alloc (.cells #[.int .i64 n.kind, .string n.text, .int .i64 n.lo, .int .i64 n.hi, .slice n.A n.kids.length n.c] 31)).heap[w7.heap.size]? = some (.cells #[.int .i64 n.kind, .string n.text, .int .i64 n.lo, .int .i64 n.hi, .slice n.A n.kids.length n.c] 31 (0, 0)) := heap_alloc_new w7 _
  have hfc : Fr B0 w7 (w7.alloc (.cells #[.int .i64 n.kind, .string n.text, .int .i64 n.lo, .int .i64 n.hi, .slice n.A n.kids.length n.c] 31)) := Fr.of_below hba HP7.out.b0
  have HCOL := Lib.hid (show Col B0 bp (w.heap.size + 1) E w (w7.alloc (.cells #[.int .i64 n.kind, .string n.text, .int .i64 n.lo, .int .i64 n.hi, .slice n.A n.kids.length n.c] 31)) (.slice (some ⟨w7.heap.size, 0, none⟩) 1 1) [n] [x1] (q1) from
    ⟨LIn.one hnb HS7.out (HIN_n_7.out.alloc _), by rw [List.map_cons, List.map_nil, HST_n.out], HP7.out.later hba, HF7.out.trans hfc⟩)
  have HZ5 := Lib.hid (HZ7.out.fr hfc)
  have HS5 := Lib.hid (Nat.le_trans HS7.out hba.size)
  clear hba hnb hfc HF7 HZ7
  have HMO := Lib.hid hmo
  clear hmo
  go_loopw [6] (fun v wr => ∃ (f : Nat) (l ms : List NT) (st : St), Hid (Col B0 bp (w.heap.size + 1) E w wr v l ms st) ∧ Hid ((more E (R.ex 1) f ms st).map (fun y => (mkN E (exq E y.2 (⟨#[93]⟩ : ByteArray)) p.k 26 (⟨#[]⟩ : ByteArray) y.1, exq E y.2 (⟨#[93]⟩ : ByteArray))) = some (m, q)) ∧ l.length + f ≤ E.T.length + 2 ∧ Hid (ZB wr w.heap.size) ∧ Hid ((w.heap.size + 1) ≤ wr.heap.size) ∧ slLen v = l.length) (fun v _ => E.T.length + 2 - slLen v)
  case atStart => exact ⟨fuel E, [n], [x1], q1, HCOL, HMO, by simp only [fuel, List.length_cons, List.length_nil]; omega, HZ5, HS5, rfl⟩
  case round =>
    obtain ⟨f, l, ms, st, hcol, hmo, hlen, hz, hsw, hsl⟩ := hrel
    obtain ⟨f', rfl⟩ : ∃ f', f = f' + 1 := by
      cases f with
      | zero => have h9 := hmo.out; simp [more] at h9
      | succ f' => exact ⟨f', rfl⟩
    have hlT := HE.out.len
    obtain ⟨A, c, rfl, hkin⟩ := hcol.out.row.kin
    have HKIN := Lib.hid hkin
    clear hkin hsl
    cases hx : isW E st (⟨#[44]⟩ : ByteArray) with
    | true =>
      have HX := Lib.hid hx
      obtain ⟨x9, q9, hx9, hr9⟩ : ∃ x9 q9, R.ex 1 (rd E st) = some (x9, q9) ∧ (more E (R.ex 1) f' (ms ++ [x9]) q9).map (fun y => (mkN E (exq E y.2 (⟨#[93]⟩ : ByteArray)) p.k 26 (⟨#[]⟩ : ByteArray) y.1, exq E y.2 (⟨#[93]⟩ : ByteArray))) = some (m, q) := by
        have h9 := hmo.out
        simp only [more, hx, if_true] at h9
        cases hr : R.ex 1 (rd E st) with
        | none => rw [hr] at h9; simp at h9
        | some y => rw [hr] at h9; exact ⟨y.1, y.2, rfl, by simpa using h9⟩
      have HX9 := Lib.hid hx9
      have HMX := Lib.hid hr9
      clear hx hmo hx9 hr9
      go_wp2_with (fail)
      refine (accept_yes hcol.out.par HX.out).mono ?_
      rintro e wa ⟨rfl, hpa, hfa⟩
      have HPA := Lib.hid hpa
      have HFA := Lib.hid hfa
      clear hpa hfa
      go_wp2_with (fail)
      refine (hex 1 _ _ x9 q9 (by decide) (by decide) HX9.out HPA.out).mono ?_
      rintro e wb ⟨n, rfl, hst, hin, hpb, hfb⟩
      have HST := Lib.hid hst
      have HIN := Lib.hid hin
      have HPB := Lib.hid hpb
      have HFB := Lib.hid hfb
      have HOW := Lib.hid ((hcol.out.row.fr HFA.out).fr HFB.out).own
      have HLB := Lib.hid (show (w.heap.size + 1) ≤ wb.heap.size from Nat.le_trans (Nat.le_trans hsw.out HFA.out.below.size) HFB.out.below.size)
      clear hst hin hpb hfb
      go_wp2_with (at_builtin; refine wpList_append_lies _ rfl _ _ 29 rfl (w.heap.size + 1) 31 i0 _ 5 64 Tryd.underlying29 hi0 hz0' hz1 hz2 rfl (by decide) _ _ _ rfl (HOW.out.alloc _) ⟨wb.heap.size, 0, none⟩ 1 1 (ncl [n]) rfl rfl (World.news_of_block (cs := #[.int .i64 n.kind, .string n.text, .int .i64 n.lo, .int .i64 n.hi, .slice n.A n.kids.length n.c]) (heap_alloc_new wb _)) (ncl_one n) (by decide) ?c3 ?c4 ?c5 (wb.heap.size + 1) (World.size_alloc _ _) ?_)
      case c3 => unfold maxLen; omega
      case c4 => omega
      case c5 => rw [World.size_alloc]; have := HLB.out; omega
      intro g cap w3 hown hgr hsel hgl
      obtain ⟨hc', hz', hs'⟩ := hcol.out.push HB0.out (by omega) hsw.out HFA.out HST.out HIN.out HPB.out HFB.out hgr hown hsel
      have HC' := Lib.hid hc'
      have HZ' := Lib.hid (hz' w.heap.size (by omega) hz.out)
      have HS' := Lib.hid (Nat.le_trans hsw.out hs')
      clear hown hgr hsel hgl hc' hz' hs'
      go_wp2_with (fail)
      exact ⟨⟨f', l ++ [n], _, _, HC', HMX, by simp only [List.length_append, List.length_cons, List.length_nil]; omega, HZ', HS', by simp [slLen]⟩, by simp only [slLen]; omega⟩
    | false =>
      have hfin : (fun y => (mkN E (exq E y.2 (⟨#[93]⟩ : ByteArray)) p.k 26 (⟨#[]⟩ : ByteArray) y.1, exq E y.2 (⟨#[93]⟩ : ByteArray))) (ms, st) = (m, q) := by
        have h9 := hmo.out
        simp only [more, hx, Bool.false_eq_true, if_false, Option.map_some, Option.some.injEq] at h9
        exact h9
      simp only [Prod.mk.injEq] at hfin
      have HFIN := Lib.hid hfin
      have HX := Lib.hid hx
      clear hx hmo hfin
      go_wp2_with (fail)
      refine (accept_no hcol.out.par HX.out).mono ?_
      rintro e wa ⟨rfl, hpa, hfa⟩
      have HPA := Lib.hid hpa
      have HFA := Lib.hid hfa
      clear hpa hfa
      go_wp2_with (fail)
      refine (expect_any HPA.out (⟨#[93]⟩ : ByteArray)).mono ?_
      rintro e wb ⟨rfl, hpb, hfb⟩
      have HPB := Lib.hid hpb
      have HFB := Lib.hid (HFA.out.trans hfb)
      clear hpb hfb
      go_wp2_with (fail)
      refine (node_kids (lo := w.heap.size + 1) HPB.out p.k 26 (⟨#[]⟩ : ByteArray) A c l ms HF.out (HKIN.out.fr HFB.out) hcol.out.strips).mono ?_
      rintro e wc ⟨x, rfl, hst, hin, hpc, hfc⟩
      have HSX := Lib.hid (hst.trans HFIN.out.1)
      have HIX := Lib.hid hin
      have HPC := Lib.hid (show PIs B0 bp E wc q by rw [← HFIN.out.2]; exact hpc)
      have HFC := Lib.hid ((hcol.out.frame.trans HFB.out).trans hfc)
      have HZC := Lib.hid ((hz.out.fr HFB.out).fr hfc)
      clear hst hin hpc hfc
      obtain ⟨z0, z1, z2, z3, z4⟩ := HZC.out.cells
      have y0 := HZC.out.frozen 0
      have y1 := HZC.out.frozen 1
      have y2 := HZC.out.frozen 2
      have y3 := HZC.out.frozen 3
      have y4 := HZC.out.frozen 4
      go_wp2_with (fail)
      obtain ⟨hV, hin, hp, hf⟩ := got_put (w := w) (w2 := wc) (n := x) HB0.out HZC.out (Nat.le_refl _) HIX.out HPC.out HFC.out
      clear z0 z1 z2 z3 z4 y0 y1 y2 y3 y4
      dsimp only [putN] at hV hin hp hf
      generalize (((((wc.setCell ⟨w.heap.size, 0, none⟩ (.int .i64 x.kind)).setCell ⟨w.heap.size, 1, none⟩ (.string x.text)).setCell ⟨w.heap.size, 2, none⟩ (.int .i64 x.lo)).setCell ⟨w.heap.size, 3, none⟩ (.int .i64 x.hi)).setCell ⟨w.heap.size, 4, none⟩ (.slice x.A x.kids.length x.c)) = V at *
      have v0 := Lib.cell_of_heap hV 0
      have v1 := Lib.cell_of_heap hV 1
      have v2 := Lib.cell_of_heap hV 2
      have v3 := Lib.cell_of_heap hV 3
      have v4 := Lib.cell_of_heap hV 4
      exact bodyPost_ret (v := .agg #[.int .i64 x.kind, .string x.text, .int .i64 x.lo, .int .i64 x.hi, .slice x.A x.kids.length x.c]) (by simp [results, Tryd.results83, go_sem, v0, v1, v2, v3, v4]) rfl ⟨x, rfl, HSX.out, hin, hp, hf⟩
set_option maxHeartbeats 4000000 in
set_option maxRecDepth 100000 in
theorem op_len {B0 bp : Nat} {E : Env} {w : World} {p : St} (h : PIs B0 bp E w p)  (kd : Int) (hk : knd E p = kd) (h2 : (kd == 2) = false) (h0 : (kd == 0) = false) (ht : isW E p (⟨#[116, 114, 117, 101]⟩ : ByteArray) = false) (hf : isW E p (⟨#[102, 97, 108, 115, 101]⟩ : ByteArray) = false) (hl : isW E p (⟨#[91]⟩ : ByteArray) = false) (hn : isW E p (⟨#[108, 101, 110]⟩ : ByteArray) = true) :
    Calls Tryd.prog 83 #[ptr bp] w fun e w' => Got B0 bp w.heap.size E w (mkN E (exq E (var_ E (exq E (rd E p) (⟨#[40]⟩ : ByteArray))).2 (⟨#[41]⟩ : ByteArray)) p.k 23 (⟨#[]⟩ : ByteArray) [(var_ E (exq E (rd E p) (⟨#[40]⟩ : ByteArray))).1]) (exq E (var_ E (exq E (rd E p) (⟨#[40]⟩ : ByteArray))).2 (⟨#[41]⟩ : ByteArray)) e w' := by
  have HF := Lib.hid h.ok.1
  have HB0 := Lib.hid h.b0
  have HP := Lib.hid h
  clear h
  unfold ptr at *
  go_enter Tryd.func83, Tryd.ntmps83
  have hb0 := (Below.refl w.heap.size w).alloc (Nat.le_refl _) (.cells #[.int .i64 0, .string ⟨#[]⟩, .int .i64 0, .int .i64 0, .slice none 0 0] 31)
  have hz0 : ZB (w.alloc (.cells #[.int .i64 0, .string ⟨#[]⟩, .int .i64 0, .int .i64 0, .slice none 0 0] 31)) w.heap.size := heap_alloc_new w _
  have hs0 : (w.alloc (.cells #[.int .i64 0, .string ⟨#[]⟩, .int .i64 0, .int .i64 0, .slice none 0 0] 31)).heap.size = w.heap.size + 1 := World.size_alloc _ _
  have HP0 := Lib.hid (HP.out.later hb0)
  have HF0 := Lib.hid (Fr.of_below hb0 HB0.out)
  have HZ0 := Lib.hid hz0
  have HS0 := Lib.hid (show w.heap.size + 1 ≤ (w.alloc (.cells #[.int .i64 0, .string ⟨#[]⟩, .int .i64 0, .int .i64 0, .slice none 0 0] 31)).heap.size by rw [hs0]; omega)
  have c0 := HP0.out.c2
  clear hb0 hz0 hs0
  go_wp2_with (fail)
  clear c0
  generalize (w.alloc (.cells #[.int .i64 0, .string ⟨#[]⟩, .int .i64 0, .int .i64 0, .slice none 0 0] 31)) = w0 at *
  refine (kind_at HP0.out hk).mono ?_
  rintro e w1 ⟨rfl, hb1⟩
  have hf1 := Fr.of_below hb1 HP0.out.b0
  have HP1 := Lib.hid (HP0.out.later hb1)
  clear hb1
  have HF1 := Lib.hid (HF0.out.trans hf1)
  have HZ1 := Lib.hid (HZ0.out.fr hf1)
  have HS1 := Lib.hid (Nat.le_trans HS0.out hf1.below.size)
  clear HF0 HZ0
  clear hf1
  have c1 := HP1.out.c2
  go_wp2_with (fail)
  clear c1
  refine (is_at HP1.out ht).mono ?_
  rintro e w2 ⟨rfl, hb2⟩
  have hf2 := Fr.of_below hb2 HP1.out.b0
  have HP2 := Lib.hid (HP1.out.later hb2)
  clear hb2
  have HF2 := Lib.hid (HF1.out.trans hf2)
  have HZ2 := Lib.hid (HZ1.out.fr hf2)
  have HS2 := Lib.hid (Nat.le_trans HS1.out hf2.below.size)
  clear HF1 HZ1
  clear hf2
  have c2 := HP2.out.c2
  go_wp2_with (fail)
  clear c2
  refine (is_at HP2.out hf).mono ?_
  rintro e w3 ⟨rfl, hb3⟩
  have hf3 := Fr.of_below hb3 HP2.out.b0
  have HP3 := Lib.hid (HP2.out.later hb3)
  clear hb3
  have HF3 := Lib.hid (HF2.out.trans hf3)
  have HZ3 := Lib.hid (HZ2.out.fr hf3)
  have HS3 := Lib.hid (Nat.le_trans HS2.out hf3.below.size)
  clear HF2 HZ2
  clear hf3
  have c3 := HP3.out.c2
  go_wp2_with (fail)
  clear c3
  refine (kind_at HP3.out hk).mono ?_
  rintro e w4 ⟨rfl, hb4⟩
  have hf4 := Fr.of_below hb4 HP3.out.b0
  have HP4 := Lib.hid (HP3.out.later hb4)
  clear hb4
  have HF4 := Lib.hid (HF3.out.trans hf4)
  have HZ4 := Lib.hid (HZ3.out.fr hf4)
  have HS4 := Lib.hid (Nat.le_trans HS3.out hf4.below.size)
  clear HF3 HZ3
  clear hf4
  have c4 := HP4.out.c2
  go_wp2_with (fail)
  clear c4
  refine (kind_at HP4.out hk).mono ?_
  rintro e w5 ⟨rfl, hb5⟩
  have hf5 := Fr.of_below hb5 HP4.out.b0
  have HP5 := Lib.hid (HP4.out.later hb5)
  clear hb5
  have HF5 := Lib.hid (HF4.out.trans hf5)
  have HZ5 := Lib.hid (HZ4.out.fr hf5)
  have HS5 := Lib.hid (Nat.le_trans HS4.out hf5.below.size)
  clear HF4 HZ4
  clear hf5
  have c5 := HP5.out.c2
  go_wp2_with (fail)
  clear c5
  refine (accept_no HP5.out hl).mono ?_
  rintro e w6 ⟨rfl, hp6, hf6⟩
  have HP6 := Lib.hid hp6
  clear hp6
  have HF6 := Lib.hid (HF5.out.trans hf6)
  have HZ6 := Lib.hid (HZ5.out.fr hf6)
  have HS6 := Lib.hid (Nat.le_trans HS5.out hf6.below.size)
  clear HF5 HZ5
  clear hf6
  have c6 := HP6.out.c2
  go_wp2_with (fail)
  clear c6
  refine (accept_yes HP6.out hn).mono ?_
  rintro e w7 ⟨rfl, hp7, hf7⟩
  have HP7 := Lib.hid hp7
  clear hp7
  have HF7 := Lib.hid (HF6.out.trans hf7)
  have HZ7 := Lib.hid (HZ6.out.fr hf7)
  have HS7 := Lib.hid (Nat.le_trans HS6.out hf7.below.size)
  clear HF6 HZ6
  clear hf7
  have c7 := HP7.out.c2
  go_wp2_with (fail)
  clear c7
  refine (expect_any HP7.out (⟨#[40]⟩ : ByteArray)).mono ?_
  rintro e w8 ⟨rfl, hp8, hf8⟩
  have HP8 := Lib.hid hp8
  clear hp8
  have HF8 := Lib.hid (HF7.out.trans hf8)
  have HZ8 := Lib.hid (HZ7.out.fr hf8)
  have HS8 := Lib.hid (Nat.le_trans HS7.out hf8.below.size)
  clear HF7 HZ7
  clear hf8
  have c8 := HP8.out.c2
  go_wp2_with (fail)
  clear c8
  refine (variable_any HP8.out).mono ?_
  rintro e w9 ⟨x, rfl, hst9, hin9, hp9, hf9⟩
  have HP9 := Lib.hid hp9
  have HST_x := Lib.hid hst9
  have HIN_x_9 := Lib.hid (InF.mono hin9 HS8.out)
  clear hp9 hst9 hin9
  have HF9 := Lib.hid (HF8.out.trans hf9)
  have HZ9 := Lib.hid (HZ8.out.fr hf9)
  have HS9 := Lib.hid (Nat.le_trans HS8.out hf9.below.size)
  clear HF8 HZ8
  clear hf9
  have c9 := HP9.out.c2
  go_wp2_with (fail)
  clear c9
  have hbA : Below w9.heap.size w9 (w9.alloc (.cells #[.int .i64 x.kind, .string x.text, .int .i64 x.lo, .int .i64 x.hi, .slice x.A x.kids.length x.c] 31)) := ((Below.refl w9.heap.size w9).alloc (by simp) (.cells #[.int .i64 x.kind, .string x.text, .int .i64 x.lo, .int .i64 x.hi, .slice x.A x.kids.length x.c] 31))
  have hnb0 : (w9.alloc (.cells #[.int .i64 x.kind, .string x.text, .int .i64 x.lo, .int .i64 x.hi, .slice x.A x.kids.length x.c] 31)).heap[w9.heap.size]? = some (.cells #[.int .i64 x.kind, .string x.text, .int .i64 x.lo, .int .i64 x.hi, .slice x.A x.kids.length x.c] 31 (0, 0)) := by
    have hx := heap_alloc_new w9 (.cells #[.int .i64 x.kind, .string x.text, .int .i64 x.lo, .int .i64 x.hi, .slice x.A x.kids.length x.c] 31)
    exact hx
  have HP10 := Lib.hid (HP9.out.later hbA)
  have hf10 := Fr.of_below hbA HP9.out.b0
  have HNV_x_10 := Lib.hid (show NV (w9.alloc (.cells #[.int .i64 x.kind, .string x.text, .int .i64 x.lo, .int .i64 x.hi, .slice x.A x.kids.length x.c] 31)) (w9.heap.size) x from hnb0)
  have HF10 := Lib.hid (HF9.out.trans hf10)
  have HZ10 := Lib.hid (HZ9.out.fr hf10)
  have HS10 := Lib.hid (Nat.le_trans HS9.out hf10.below.size)
  have HIN_x_10 := Lib.hid (HIN_x_9.out.fr hf10)
  clear HF9 HZ9 HIN_x_9
  clear hbA hf10 hnb0
  generalize (w9.alloc (.cells #[.int .i64 x.kind, .string x.text, .int .i64 x.lo, .int .i64 x.hi, .slice x.A x.kids.length x.c] 31)) = w10 at *
  refine (expect_any HP10.out (⟨#[41]⟩ : ByteArray)).mono ?_
  rintro e w11 ⟨rfl, hp11, hf11⟩
  have HP11 := Lib.hid hp11
  clear hp11
  have HF11 := Lib.hid (HF10.out.trans hf11)
  have HZ11 := Lib.hid (HZ10.out.fr hf11)
  have HS11 := Lib.hid (Nat.le_trans HS10.out hf11.below.size)
  have HIN_x_11 := Lib.hid (HIN_x_10.out.fr hf11)
  have HNV_x_11 := Lib.hid (HNV_x_10.out.fr hf11)
  clear HF10 HZ10 HIN_x_10 HNV_x_10
  clear hf11
  have c11 := HP11.out.c2
  obtain ⟨b0_x, b1_x, b2_x, b3_x, b4_x⟩ := HNV_x_11.out.cells
  go_wp2_with (fail)
  clear b0_x b1_x b2_x b3_x b4_x
  clear c11
  have hbA : Below w11.heap.size w11 (w11.alloc (.cells #[.int .i64 x.kind, .string x.text, .int .i64 x.lo, .int .i64 x.hi, .slice x.A x.kids.length x.c] 31)) := ((Below.refl w11.heap.size w11).alloc (by simp) (.cells #[.int .i64 x.kind, .string x.text, .int .i64 x.lo, .int .i64 x.hi, .slice x.A x.kids.length x.c] 31))
  have hnb0 : (w11.alloc (.cells #[.int .i64 x.kind, .string x.text, .int .i64 x.lo, .int .i64 x.hi, .slice x.A x.kids.length x.c] 31)).heap[w11.heap.size]? = some (.cells #[.int .i64 x.kind, .string x.text, .int .i64 x.lo, .int .i64 x.hi, .slice x.A x.kids.length x.c] 31 (0, 0)) := by
    have hx := heap_alloc_new w11 (.cells #[.int .i64 x.kind, .string x.text, .int .i64 x.lo, .int .i64 x.hi, .slice x.A x.kids.length x.c] 31)
    exact hx
  have HP12 := Lib.hid (HP11.out.later hbA)
  have hf12 := Fr.of_below hbA HP11.out.b0
  have HK_12 := Lib.hid (kin_block (lo := w.heap.size + 1) (c := 1) (ks := [x]) hnb0 (fun j _ => by simp [ncl]) (by have := HS11.out; omega) (Nat.le_refl _) (fun k hk => by
    simp only [List.mem_cons, List.not_mem_nil, or_false] at hk
    subst hk; exact HIN_x_11.out.fr hf12))
  have HF12 := Lib.hid (HF11.out.trans hf12)
  have HZ12 := Lib.hid (HZ11.out.fr hf12)
  have HS12 := Lib.hid (Nat.le_trans HS11.out hf12.below.size)
  have HIN_x_12 := Lib.hid (HIN_x_11.out.fr hf12)
  have HNV_x_12 := Lib.hid (HNV_x_11.out.fr hf12)
  clear HF11 HZ11 HIN_x_11 HNV_x_11
  clear hbA hf12 hnb0
  generalize (w11.alloc (.cells #[.int .i64 x.kind, .string x.text, .int .i64 x.lo, .int .i64 x.hi, .slice x.A x.kids.length x.c] 31)) = w12 at *
  refine (node_kids HP12.out p.k 23 (⟨#[]⟩ : ByteArray) _ 1 [x] [(var_ E (exq E (rd E p) (⟨#[40]⟩ : ByteArray))).1] HF.out HK_12.out (by simp only [List.map_cons, List.map_nil, HST_x.out])).mono ?_
  rintro e w13 ⟨m, rfl, hst13, hin13, hp13, hf13⟩
  have HP13 := Lib.hid hp13
  have HST_m := Lib.hid hst13
  have HIN_m_13 := Lib.hid hin13
  clear hp13 hst13 hin13
  have HF13 := Lib.hid (HF12.out.trans hf13)
  have HZ13 := Lib.hid (HZ12.out.fr hf13)
  have HS13 := Lib.hid (Nat.le_trans HS12.out hf13.below.size)
  have HIN_x_13 := Lib.hid (HIN_x_12.out.fr hf13)
  have HNV_x_13 := Lib.hid (HNV_x_12.out.fr hf13)
  clear HF12 HZ12 HIN_x_12 HNV_x_12
  clear hf13
  obtain ⟨z0, z1, z2, z3, z4⟩ := HZ13.out.cells
  have y0 := HZ13.out.frozen 0
  have y1 := HZ13.out.frozen 1
  have y2 := HZ13.out.frozen 2
  have y3 := HZ13.out.frozen 3
  have y4 := HZ13.out.frozen 4
  obtain ⟨b0_x, b1_x, b2_x, b3_x, b4_x⟩ := HNV_x_13.out.cells
  go_wp2_with (fail)
  clear b0_x b1_x b2_x b3_x b4_x
  obtain ⟨hV, hin, hp, hf⟩ := got_put (w := w) (w2 := w13) (n := m) HB0.out HZ13.out (Nat.le_refl _) HIN_m_13.out HP13.out HF13.out
  clear z0 z1 z2 z3 z4 y0 y1 y2 y3 y4
  dsimp only [putN] at hV hin hp hf
  generalize (((((w13.setCell ⟨w.heap.size, 0, none⟩ (.int .i64 m.kind)).setCell ⟨w.heap.size, 1, none⟩ (.string m.text)).setCell ⟨w.heap.size, 2, none⟩ (.int .i64 m.lo)).setCell ⟨w.heap.size, 3, none⟩ (.int .i64 m.hi)).setCell ⟨w.heap.size, 4, none⟩ (.slice m.A m.kids.length m.c)) = V at *
  have v0 := Lib.cell_of_heap hV 0
  have v1 := Lib.cell_of_heap hV 1
  have v2 := Lib.cell_of_heap hV 2
  have v3 := Lib.cell_of_heap hV 3
  have v4 := Lib.cell_of_heap hV 4
  exact bodyPost_ret (v := .agg #[.int .i64 m.kind, .string m.text, .int .i64 m.lo, .int .i64 m.hi, .slice m.A m.kids.length m.c]) (by simp [results, Tryd.results83, go_sem, v0, v1, v2, v3, v4]) rfl ⟨m, rfl, HST_m.out, hin, hp, hf⟩
set_option maxHeartbeats 4000000 in
set_option maxRecDepth 100000 in
theorem op_par {B0 bp : Nat} {E : Env} {w : World} {p : St} (h : PIs B0 bp E w p) {R : Rec} (hex : ExOK B0 bp E R) (kd : Int) (hk : knd E p = kd) (h2 : (kd == 2) = false) (h0 : (kd == 0) = false) (ht : isW E p (⟨#[116, 114, 117, 101]⟩ : ByteArray) = false) (hf : isW E p (⟨#[102, 97, 108, 115, 101]⟩ : ByteArray) = false) (hl : isW E p (⟨#[91]⟩ : ByteArray) = false) (hn : isW E p (⟨#[108, 101, 110]⟩ : ByteArray) = false) (hp : isW E p (⟨#[40]⟩ : ByteArray) = true) (x1 : NT) (q1 : St) (hx1 : R.ex 1 (rd E p) = some (x1, q1)) :
    Calls Tryd.prog 83 #[ptr bp] w fun e w' => Got B0 bp w.heap.size E w (x1) (exq E q1 (⟨#[41]⟩ : ByteArray)) e w' := by
  have HF := Lib.hid h.ok.1
  have HB0 := Lib.hid h.b0
  have HP := Lib.hid h
  clear h
  unfold ptr at *
  go_enter Tryd.func83, Tryd.ntmps83
  have hb0 := (Below.refl w.heap.size w).alloc (Nat.le_refl _) (.cells #[.int .i64 0, .string ⟨#[]⟩, .int .i64 0, .int .i64 0, .slice none 0 0] 31)
  have hz0 : ZB (w.alloc (.cells #[.int .i64 0, .string ⟨#[]⟩, .int .i64 0, .int .i64 0, .slice none 0 0] 31)) w.heap.size := heap_alloc_new w _
  have hs0 : (w.alloc (.cells #[.int .i64 0, .string ⟨#[]⟩, .int .i64 0, .int .i64 0, .slice none 0 0] 31)).heap.size = w.heap.size + 1 := World.size_alloc _ _
  have HP0 := Lib.hid (HP.out.later hb0)
  have HF0 := Lib.hid (Fr.of_below hb0 HB0.out)
  have HZ0 := Lib.hid hz0
  have HS0 := Lib.hid (show w.heap.size + 1 ≤ (w.alloc (.cells #[.int .i64 0, .string ⟨#[]⟩, .int .i64 0, .int .i64 0, .slice none 0 0] 31)).heap.size by rw [hs0]; omega)
  have c0 := HP0.out.c2
  clear hb0 hz0 hs0
  go_wp2_with (fail)
  clear c0
  generalize (w.alloc (.cells #[.int .i64 0, .string ⟨#[]⟩, .int .i64 0, .int .i64 0, .slice none 0 0] 31)) = w0 at *
  refine (kind_at HP0.out hk).mono ?_
  rintro e w1 ⟨rfl, hb1⟩
  have hf1 := Fr.of_below hb1 HP0.out.b0
  have HP1 := Lib.hid (HP0.out.later hb1)
  clear hb1
  have HF1 := Lib.hid (HF0.out.trans hf1)
  have HZ1 := Lib.hid (HZ0.out.fr hf1)
  have HS1 := Lib.hid (Nat.le_trans HS0.out hf1.below.size)
  clear HF0 HZ0
  clear hf1
  have c1 := HP1.out.c2
  go_wp2_with (fail)
  clear c1
  refine (is_at HP1.out ht).mono ?_
  rintro e w2 ⟨rfl, hb2⟩
  have hf2 := Fr.of_below hb2 HP1.out.b0
  have HP2 := Lib.hid (HP1.out.later hb2)
  clear hb2
  have HF2 := Lib.hid (HF1.out.trans hf2)
  have HZ2 := Lib.hid (HZ1.out.fr hf2)
  have HS2 := Lib.hid (Nat.le_trans HS1.out hf2.below.size)
  clear HF1 HZ1
  clear hf2
  have c2 := HP2.out.c2
  go_wp2_with (fail)
  clear c2
  refine (is_at HP2.out hf).mono ?_
  rintro e w3 ⟨rfl, hb3⟩
  have hf3 := Fr.of_below hb3 HP2.out.b0
  have HP3 := Lib.hid (HP2.out.later hb3)
  clear hb3
  have HF3 := Lib.hid (HF2.out.trans hf3)
  have HZ3 := Lib.hid (HZ2.out.fr hf3)
  have HS3 := Lib.hid (Nat.le_trans HS2.out hf3.below.size)
  clear HF2 HZ2
  clear hf3
  have c3 := HP3.out.c2
  go_wp2_with (fail)
  clear c3
  refine (kind_at HP3.out hk).mono ?_
  rintro e w4 ⟨rfl, hb4⟩
  have hf4 := Fr.of_below hb4 HP3.out.b0
  have HP4 := Lib.hid (HP3.out.later hb4)
  clear hb4
  have HF4 := Lib.hid (HF3.out.trans hf4)
  have HZ4 := Lib.hid (HZ3.out.fr hf4)
  have HS4 := Lib.hid (Nat.le_trans HS3.out hf4.below.size)
  clear HF3 HZ3
  clear hf4
  have c4 := HP4.out.c2
  go_wp2_with (fail)
  clear c4
  refine (kind_at HP4.out hk).mono ?_
  rintro e w5 ⟨rfl, hb5⟩
  have hf5 := Fr.of_below hb5 HP4.out.b0
  have HP5 := Lib.hid (HP4.out.later hb5)
  clear hb5
  have HF5 := Lib.hid (HF4.out.trans hf5)
  have HZ5 := Lib.hid (HZ4.out.fr hf5)
  have HS5 := Lib.hid (Nat.le_trans HS4.out hf5.below.size)
  clear HF4 HZ4
  clear hf5
  have c5 := HP5.out.c2
  go_wp2_with (fail)
  clear c5
  refine (accept_no HP5.out hl).mono ?_
  rintro e w6 ⟨rfl, hp6, hf6⟩
  have HP6 := Lib.hid hp6
  clear hp6
  have HF6 := Lib.hid (HF5.out.trans hf6)
  have HZ6 := Lib.hid (HZ5.out.fr hf6)
  have HS6 := Lib.hid (Nat.le_trans HS5.out hf6.below.size)
  clear HF5 HZ5
  clear hf6
  have c6 := HP6.out.c2
  go_wp2_with (fail)
  clear c6
  refine (accept_no HP6.out hn).mono ?_
  rintro e w7 ⟨rfl, hp7, hf7⟩
  have HP7 := Lib.hid hp7
  clear hp7
  have HF7 := Lib.hid (HF6.out.trans hf7)
  have HZ7 := Lib.hid (HZ6.out.fr hf7)
  have HS7 := Lib.hid (Nat.le_trans HS6.out hf7.below.size)
  clear HF6 HZ6
  clear hf7
  have c7 := HP7.out.c2
  go_wp2_with (fail)
  clear c7
  refine (accept_yes HP7.out hp).mono ?_
  rintro e w8 ⟨rfl, hp8, hf8⟩
  have HP8 := Lib.hid hp8
  clear hp8
  have HF8 := Lib.hid (HF7.out.trans hf8)
  have HZ8 := Lib.hid (HZ7.out.fr hf8)
  have HS8 := Lib.hid (Nat.le_trans HS7.out hf8.below.size)
  clear HF7 HZ7
  clear hf8
  have c8 := HP8.out.c2
  go_wp2_with (fail)
  clear c8
  refine (hex 1 _ _ x1 q1 (by decide) (by decide) hx1 HP8.out).mono ?_
  rintro e w9 ⟨x, rfl, hst9, hin9, hp9, hf9⟩
  have HP9 := Lib.hid hp9
  have HST_x := Lib.hid hst9
  have HIN_x_9 := Lib.hid (InF.mono hin9 HS8.out)
  clear hp9 hst9 hin9
  have HF9 := Lib.hid (HF8.out.trans hf9)
  have HZ9 := Lib.hid (HZ8.out.fr hf9)
  have HS9 := Lib.hid (Nat.le_trans HS8.out hf9.below.size)
  clear HF8 HZ8
  clear hf9
  have c9 := HP9.out.c2
  go_wp2_with (fail)
  clear c9
  have hbA : Below w9.heap.size w9 (w9.alloc (.cells #[.int .i64 x.kind, .string x.text, .int .i64 x.lo, .int .i64 x.hi, .slice x.A x.kids.length x.c] 31)) := ((Below.refl w9.heap.size w9).alloc (by simp) (.cells #[.int .i64 x.kind, .string x.text, .int .i64 x.lo, .int .i64 x.hi, .slice x.A x.kids.length x.c] 31))
  have hnb0 : (w9.alloc (.cells #[.int .i64 x.kind, .string x.text, .int .i64 x.lo, .int .i64 x.hi, .slice x.A x.kids.length x.c] 31)).heap[w9.heap.size]? = some (.cells #[.int .i64 x.kind, .string x.text, .int .i64 x.lo, .int .i64 x.hi, .slice x.A x.kids.length x.c] 31 (0, 0)) := by
    have hx := heap_alloc_new w9 (.cells #[.int .i64 x.kind, .string x.text, .int .i64 x.lo, .int .i64 x.hi, .slice x.A x.kids.length x.c] 31)
    exact hx
  have HP10 := Lib.hid (HP9.out.later hbA)
  have hf10 := Fr.of_below hbA HP9.out.b0
  have HNV_x_10 := Lib.hid (show NV (w9.alloc (.cells #[.int .i64 x.kind, .string x.text, .int .i64 x.lo, .int .i64 x.hi, .slice x.A x.kids.length x.c] 31)) (w9.heap.size) x from hnb0)
  have HF10 := Lib.hid (HF9.out.trans hf10)
  have HZ10 := Lib.hid (HZ9.out.fr hf10)
  have HS10 := Lib.hid (Nat.le_trans HS9.out hf10.below.size)
  have HIN_x_10 := Lib.hid (HIN_x_9.out.fr hf10)
  clear HF9 HZ9 HIN_x_9
  clear hbA hf10 hnb0
  generalize (w9.alloc (.cells #[.int .i64 x.kind, .string x.text, .int .i64 x.lo, .int .i64 x.hi, .slice x.A x.kids.length x.c] 31)) = w10 at *
  refine (expect_any HP10.out (⟨#[41]⟩ : ByteArray)).mono ?_
  rintro e w11 ⟨rfl, hp11, hf11⟩
  have HP11 := Lib.hid hp11
  clear hp11
  have HF11 := Lib.hid (HF10.out.trans hf11)
  have HZ11 := Lib.hid (HZ10.out.fr hf11)
  have HS11 := Lib.hid (Nat.le_trans HS10.out hf11.below.size)
  have HIN_x_11 := Lib.hid (HIN_x_10.out.fr hf11)
  have HNV_x_11 := Lib.hid (HNV_x_10.out.fr hf11)
  clear HF10 HZ10 HIN_x_10 HNV_x_10
  clear hf11
  obtain ⟨z0, z1, z2, z3, z4⟩ := HZ11.out.cells
  have y0 := HZ11.out.frozen 0
  have y1 := HZ11.out.frozen 1
  have y2 := HZ11.out.frozen 2
  have y3 := HZ11.out.frozen 3
  have y4 := HZ11.out.frozen 4
  obtain ⟨b0_x, b1_x, b2_x, b3_x, b4_x⟩ := HNV_x_11.out.cells
  go_wp2_with (fail)
  clear b0_x b1_x b2_x b3_x b4_x
  obtain ⟨hV, hin, hp, hf⟩ := got_put (w := w) (w2 := w11) (n := x) HB0.out HZ11.out (Nat.le_refl _) HIN_x_11.out HP11.out HF11.out
  clear z0 z1 z2 z3 z4 y0 y1 y2 y3 y4
  dsimp only [putN] at hV hin hp hf
  generalize (((((w11.setCell ⟨w.heap.size, 0, none⟩ (.int .i64 x.kind)).setCell ⟨w.heap.size, 1, none⟩ (.string x.text)).setCell ⟨w.heap.size, 2, none⟩ (.int .i64 x.lo)).setCell ⟨w.heap.size, 3, none⟩ (.int .i64 x.hi)).setCell ⟨w.heap.size, 4, none⟩ (.slice x.A x.kids.length x.c)) = V at *
  have v0 := Lib.cell_of_heap hV 0
  have v1 := Lib.cell_of_heap hV 1
  have v2 := Lib.cell_of_heap hV 2
  have v3 := Lib.cell_of_heap hV 3
  have v4 := Lib.cell_of_heap hV 4
  exact bodyPost_ret (v := .agg #[.int .i64 x.kind, .string x.text, .int .i64 x.lo, .int .i64 x.hi, .slice x.A x.kids.length x.c]) (by simp [results, Tryd.results83, go_sem, v0, v1, v2, v3, v4]) rfl ⟨x, rfl, HST_x.out, hin, hp, hf⟩
set_option maxHeartbeats 4000000 in
set_option maxRecDepth 100000 in
theorem op_none {B0 bp : Nat} {E : Env} {w : World} {p : St} (h : PIs B0 bp E w p)  (kd : Int) (hk : knd E p = kd) (h2 : (kd == 2) = false) (h0 : (kd == 0) = false) (ht : isW E p (⟨#[116, 114, 117, 101]⟩ : ByteArray) = false) (hf : isW E p (⟨#[102, 97, 108, 115, 101]⟩ : ByteArray) = false) (hl : isW E p (⟨#[91]⟩ : ByteArray) = false) (hn : isW E p (⟨#[108, 101, 110]⟩ : ByteArray) = false) (hp : isW E p (⟨#[40]⟩ : ByteArray) = false) :
    Calls Tryd.prog 83 #[ptr bp] w fun e w' => Got B0 bp w.heap.size E w (mkN E (rep E p 5 (⟨#[]⟩ : ByteArray)) p.k 1 (⟨#[]⟩ : ByteArray) []) (rep E p 5 (⟨#[]⟩ : ByteArray)) e w' := by
  have HF := Lib.hid h.ok.1
  have HB0 := Lib.hid h.b0
  have HP := Lib.hid h
  clear h
  unfold ptr at *
  go_enter Tryd.func83, Tryd.ntmps83
  have hb0 := (Below.refl w.heap.size w).alloc (Nat.le_refl _) (.cells #[.int .i64 0, .string ⟨#[]⟩, .int .i64 0, .int .i64 0, .slice none 0 0] 31)
  have hz0 : ZB (w.alloc (.cells #[.int .i64 0, .string ⟨#[]⟩, .int .i64 0, .int .i64 0, .slice none 0 0] 31)) w.heap.size := heap_alloc_new w _
  have hs0 : (w.alloc (.cells #[.int .i64 0, .string ⟨#[]⟩, .int .i64 0, .int .i64 0, .slice none 0 0] 31)).heap.size = w.heap.size + 1 := World.size_alloc _ _
  have HP0 := Lib.hid (HP.out.later hb0)
  have HF0 := Lib.hid (Fr.of_below hb0 HB0.out)
  have HZ0 := Lib.hid hz0
  have HS0 := Lib.hid (show w.heap.size + 1 ≤ (w.alloc (.cells #[.int .i64 0, .string ⟨#[]⟩, .int .i64 0, .int .i64 0, .slice none 0 0] 31)).heap.size by rw [hs0]; omega)
  have c0 := HP0.out.c2
  clear hb0 hz0 hs0
  go_wp2_with (fail)
  clear c0
  generalize (w.alloc (.cells #[.int .i64 0, .string ⟨#[]⟩, .int .i64 0, .int .i64 0, .slice none 0 0] 31)) = w0 at *
  refine (kind_at HP0.out hk).mono ?_
  rintro e w1 ⟨rfl, hb1⟩
  have hf1 := Fr.of_below hb1 HP0.out.b0
  have HP1 := Lib.hid (HP0.out.later hb1)
  clear hb1
  have HF1 := Lib.hid (HF0.out.trans hf1)
  have HZ1 := Lib.hid (HZ0.out.fr hf1)
  have HS1 := Lib.hid (Nat.le_trans HS0.out hf1.below.size)
  clear HF0 HZ0
  clear hf1
  have c1 := HP1.out.c2
  go_wp2_with (fail)
  clear c1
  refine (is_at HP1.out ht).mono ?_
  rintro e w2 ⟨rfl, hb2⟩
  have hf2 := Fr.of_below hb2 HP1.out.b0
  have HP2 := Lib.hid (HP1.out.later hb2)
  clear hb2
  have HF2 := Lib.hid (HF1.out.trans hf2)
  have HZ2 := Lib.hid (HZ1.out.fr hf2)
  have HS2 := Lib.hid (Nat.le_trans HS1.out hf2.below.size)
  clear HF1 HZ1
  clear hf2
  have c2 := HP2.out.c2
  go_wp2_with (fail)
  clear c2
  refine (is_at HP2.out hf).mono ?_
  rintro e w3 ⟨rfl, hb3⟩
  have hf3 := Fr.of_below hb3 HP2.out.b0
  have HP3 := Lib.hid (HP2.out.later hb3)
  clear hb3
  have HF3 := Lib.hid (HF2.out.trans hf3)
  have HZ3 := Lib.hid (HZ2.out.fr hf3)
  have HS3 := Lib.hid (Nat.le_trans HS2.out hf3.below.size)
  clear HF2 HZ2
  clear hf3
  have c3 := HP3.out.c2
  go_wp2_with (fail)
  clear c3
  refine (kind_at HP3.out hk).mono ?_
  rintro e w4 ⟨rfl, hb4⟩
  have hf4 := Fr.of_below hb4 HP3.out.b0
  have HP4 := Lib.hid (HP3.out.later hb4)
  clear hb4
  have HF4 := Lib.hid (HF3.out.trans hf4)
  have HZ4 := Lib.hid (HZ3.out.fr hf4)
  have HS4 := Lib.hid (Nat.le_trans HS3.out hf4.below.size)
  clear HF3 HZ3
  clear hf4
  have c4 := HP4.out.c2
  go_wp2_with (fail)
  clear c4
  refine (kind_at HP4.out hk).mono ?_
  rintro e w5 ⟨rfl, hb5⟩
  have hf5 := Fr.of_below hb5 HP4.out.b0
  have HP5 := Lib.hid (HP4.out.later hb5)
  clear hb5
  have HF5 := Lib.hid (HF4.out.trans hf5)
  have HZ5 := Lib.hid (HZ4.out.fr hf5)
  have HS5 := Lib.hid (Nat.le_trans HS4.out hf5.below.size)
  clear HF4 HZ4
  clear hf5
  have c5 := HP5.out.c2
  go_wp2_with (fail)
  clear c5
  refine (accept_no HP5.out hl).mono ?_
  rintro e w6 ⟨rfl, hp6, hf6⟩
  have HP6 := Lib.hid hp6
  clear hp6
  have HF6 := Lib.hid (HF5.out.trans hf6)
  have HZ6 := Lib.hid (HZ5.out.fr hf6)
  have HS6 := Lib.hid (Nat.le_trans HS5.out hf6.below.size)
  clear HF5 HZ5
  clear hf6
  have c6 := HP6.out.c2
  go_wp2_with (fail)
  clear c6
  refine (accept_no HP6.out hn).mono ?_
  rintro e w7 ⟨rfl, hp7, hf7⟩
  have HP7 := Lib.hid hp7
  clear hp7
  have HF7 := Lib.hid (HF6.out.trans hf7)
  have HZ7 := Lib.hid (HZ6.out.fr hf7)
  have HS7 := Lib.hid (Nat.le_trans HS6.out hf7.below.size)
  clear HF6 HZ6
  clear hf7
  have c7 := HP7.out.c2
  go_wp2_with (fail)
  clear c7
  refine (accept_no HP7.out hp).mono ?_
  rintro e w8 ⟨rfl, hp8, hf8⟩
  have HP8 := Lib.hid hp8
  clear hp8
  have HF8 := Lib.hid (HF7.out.trans hf8)
  have HZ8 := Lib.hid (HZ7.out.fr hf8)
  have HS8 := Lib.hid (Nat.le_trans HS7.out hf8.below.size)
  clear HF7 HZ7
  clear hf8
  have c8 := HP8.out.c2
  go_wp2_with (fail)
  clear c8
  refine (report_any HP8.out 5 (⟨#[]⟩ : ByteArray)).mono ?_
  rintro e w9 ⟨rfl, hp9, hf9⟩
  have HP9 := Lib.hid hp9
  clear hp9
  have HF9 := Lib.hid (HF8.out.trans hf9)
  have HZ9 := Lib.hid (HZ8.out.fr hf9)
  have HS9 := Lib.hid (Nat.le_trans HS8.out hf9.below.size)
  clear HF8 HZ8
  clear hf9
  have c9 := HP9.out.c2
  go_wp2_with (fail)
  clear c9
  refine (node_leaf HP9.out (w.heap.size + 1) p.k 1 (⟨#[]⟩ : ByteArray) HF.out).mono ?_
  rintro e w10 ⟨n, rfl, hst10, hin10, hp10, hf10⟩
  have HP10 := Lib.hid hp10
  have HST_n := Lib.hid hst10
  have HIN_n_10 := Lib.hid hin10
  clear hp10 hst10 hin10
  have HF10 := Lib.hid (HF9.out.trans hf10)
  have HZ10 := Lib.hid (HZ9.out.fr hf10)
  have HS10 := Lib.hid (Nat.le_trans HS9.out hf10.below.size)
  clear HF9 HZ9
  clear hf10
  obtain ⟨z0, z1, z2, z3, z4⟩ := HZ10.out.cells
  have y0 := HZ10.out.frozen 0
  have y1 := HZ10.out.frozen 1
  have y2 := HZ10.out.frozen 2
  have y3 := HZ10.out.frozen 3
  have y4 := HZ10.out.frozen 4
  go_wp2_with (fail)
  obtain ⟨hV, hin, hp, hf⟩ := got_put (w := w) (w2 := w10) (n := n) HB0.out HZ10.out (Nat.le_refl _) HIN_n_10.out HP10.out HF10.out
  clear z0 z1 z2 z3 z4 y0 y1 y2 y3 y4
  dsimp only [putN] at hV hin hp hf
  generalize (((((w10.setCell ⟨w.heap.size, 0, none⟩ (.int .i64 n.kind)).setCell ⟨w.heap.size, 1, none⟩ (.string n.text)).setCell ⟨w.heap.size, 2, none⟩ (.int .i64 n.lo)).setCell ⟨w.heap.size, 3, none⟩ (.int .i64 n.hi)).setCell ⟨w.heap.size, 4, none⟩ (.slice n.A n.kids.length n.c)) = V at *
  have v0 := Lib.cell_of_heap hV 0
  have v1 := Lib.cell_of_heap hV 1
  have v2 := Lib.cell_of_heap hV 2
  have v3 := Lib.cell_of_heap hV 3
  have v4 := Lib.cell_of_heap hV 4
  exact bodyPost_ret (v := .agg #[.int .i64 n.kind, .string n.text, .int .i64 n.lo, .int .i64 n.hi, .slice n.A n.kids.length n.c]) (by simp [results, Tryd.results83, go_sem, v0, v1, v2, v3, v4]) rfl ⟨n, rfl, HST_n.out, hin, hp, hf⟩
end Go.Proofs.YtnpcfmoiiecadaaDoor.Par
