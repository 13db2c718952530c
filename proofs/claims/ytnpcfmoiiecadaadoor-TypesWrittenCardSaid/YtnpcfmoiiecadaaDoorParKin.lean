/- What is proved: the reference's parser: nodes in blocks of their own. -/
import Derived.Test.YtnpcfmoiiecadaaDoorParKit
set_option linter.unusedVariables false
namespace Go.Proofs.YtnpcfmoiiecadaaDoor.Par
open Go.RowKit
open Lx (Tok)

theorem ba_ext {a b : ByteArray} (h : a.data.toList = b.data.toList) : a = b := by
  cases a; cases b; simp at h; rw [h]
theorem dig_zero (s : ByteArray) (h : 1 < s.size) (h0 : s[0]'(by omega) = 48) : dig s = dig (s.extract 1 s.size) := by
  have hl : s.data.toList.length = s.size := by simp
  have he : (s.extract 1 s.size).data.toList = s.data.toList.drop 1 := by
    simp [ByteArray.data_extract]
    exact List.take_of_length_le (by simp)
  have hg : s.data.toList[0]'(by omega) = 48 := h0
  unfold dig
  rw [he]
  cases hc : s.data.toList with
  | nil => rw [hc] at hl; simp at hl; omega
  | cons a l =>
    cases l with
    | nil => rw [hc] at hl; simp at hl; omega
    | cons b r =>
      simp only [hc, List.getElem_cons_zero] at hg
      subst hg
      simp [digL]
theorem dig_stop (s : ByteArray) (h : ¬ 1 < s.size) : dig s = s := by
  have hl : s.data.toList.length = s.size := by simp
  refine ba_ext ?_
  unfold dig
  cases hc : s.data.toList with
  | nil => simp [digL]
  | cons a l =>
    cases l with
    | nil => simp [digL]
    | cons b r => rw [hc] at hl; simp at hl; omega
theorem dig_other (s : ByteArray) (h : 1 < s.size) (h0 : ¬ s[0]'(by omega) = 48) : dig s = s := by
  have hl : s.data.toList.length = s.size := by simp
  have hg : ¬ s.data.toList[0]'(by omega) = 48 := h0
  refine ba_ext ?_
  unfold dig
  cases hc : s.data.toList with
  | nil => simp [digL]
  | cons a l =>
    cases l with
    | nil => simp [digL]
    | cons b r =>
      simp only [hc, List.getElem_cons_zero] at hg
      simp [digL, hg]
theorem wd_size {E : Env} (he : E.Ok) (i : Nat) : (wd E i).size ≤ 4096 := by
  have := he.size
  unfold wd
  simp only [ByteArray.size_extract]
  omega
def strSz : Value → Nat
  | .string s => s.size
  | _ => 0
theorem ret_str {a b : ByteArray} (h : a = b) : Ending.returned (.string a) = .returned (.string b) := by rw [h]

set_option maxHeartbeats 1000000 in
theorem digits_any (s : ByteArray) (w : World) (hs : s.size ≤ 4096) :
    Calls Tryd.prog 69 #[.string s] w fun e w' => e = .returned (.string (dig s)) ∧ Below w.heap.size w w' := by
  go_enter Tryd.func69, Tryd.ntmps69
  go_wp2_with (fail)
  go_loop [0] (fun v => ∃ s' : ByteArray, v = .string s' ∧ s'.size ≤ 4096 ∧ Hid (dig s = dig s')) (fun v => strSz v)
  case atStart => exact ⟨s, rfl, hs, Lib.hid rfl⟩
  case round =>
    obtain ⟨s', rfl, hs', hq⟩ := hrel
    by_cases h1 : 1 < s'.size
    · have hd1 : decide ((1 : Int) < (s'.size : Int)) = true := by simp; omega
      have h0 : (0 : Int) < (s'.size : Int) := by omega
      have h00 : 0 < s'.size := by omega
      by_cases h48 : s'[0]'(by omega) = 48
      · have HQ := Lib.hid (hq.out.trans (dig_zero s' h1 h48))
        have hb : (((s'[0]'(by omega)).toNat : Int) == 48) = true := by rw [h48]; rfl
        have HSZ := Lib.hid (show (s'.extract 1 s'.size).size = s'.size - 1 by simp only [ByteArray.size_extract]; omega)
        clear h48
        go_wp2_with (fail)
        exact ⟨⟨_, rfl, by have := HSZ.out; omega, HQ⟩, by have := HSZ.out; simp only [strSz]; omega⟩
      · have HQ := Lib.hid (hq.out.trans (dig_other s' h1 h48))
        have hb : (((s'[0]'(by omega)).toNat : Int) == 48) = false := by
          simp only [beq_eq_false_iff_ne, ne_eq]
          intro h; exact h48 (UInt8.toNat_inj.1 (by have : (s'[0]'(by omega)).toNat = 48 := by omega
                                                    exact this))
        clear h48
        go_wp2_with (fail)
        go_ret
        exact ⟨ret_str HQ.out.symm, Below.refl _ _⟩
    · have HQ := Lib.hid (hq.out.trans (dig_stop s' h1))
      have hd1 : decide ((1 : Int) < (s'.size : Int)) = false := by simp; omega
      go_wp2_with (fail)
      go_ret
      exact ⟨ret_str HQ.out.symm, Below.refl _ _⟩
end Go.Proofs.YtnpcfmoiiecadaaDoor.Par
set_option linter.unusedVariables false
namespace Go.Proofs.YtnpcfmoiiecadaaDoor.Par
open Go.RowKit
open Lx (Tok)

set_option maxHeartbeats 4000000 in
set_option maxRecDepth 100000 in
theorem variable_any {B0 bp : Nat} {E : Env} {w : World} {p : St} (h : PIs B0 bp E w p)   :
    Calls Tryd.prog 85 #[ptr bp] w fun e w' => Got B0 bp w.heap.size E w ((var_ E p).1) ((var_ E p).2) e w' := by
  have HF := Lib.hid h.ok.1
  have HB0 := Lib.hid h.b0
  have HP := Lib.hid h
  clear h
  unfold ptr at *
  go_enter Tryd.func85, Tryd.ntmps85
  have hb0 := (Below.refl w.heap.size w).alloc (Nat.le_refl _) (.cells #[.int .i64 0, .string ⟨#[]⟩, .int .i64 0, .int .i64 0, .slice none 0 0] 31)
  have hz0 : ZB (w.alloc (.cells #[.int .i64 0, .string ⟨#[]⟩, .int .i64 0, .int .i64 0, .slice none 0 0] 31)) w.heap.size := heap_alloc_new w _
  have hs0 : (w.alloc (.cells #[.int .i64 0, .string ⟨#[]⟩, .int .i64 0, .int .i64 0, .slice none 0 0] 31)).heap.size = w.heap.size + 1 := World.size_alloc _ _
  have HP0 := Lib.hid (HP.out.later hb0)
  have HF0 := Lib.hid (Fr.of_below hb0 HB0.out)
  have HZ0 := Lib.hid hz0
  have HS0 := Lib.hid (show w.heap.size + 1 ≤ (w.alloc (.cells #[.int .i64 0, .string ⟨#[]⟩, .int .i64 0, .int .i64 0, .slice none 0 0] 31)).heap.size by rw [hs0]; omega)
  have c0 := HP0.out.c2
  clear hb0 hz0 hs0
  go_wp2_with (fail)
  clear c0
  generalize (w.alloc (.cells #[.int .i64 0, .string ⟨#[]⟩, .int .i64 0, .int .i64 0, .slice none 0 0] 31)) = w0 at *
  refine (name_any HP0.out).mono ?_
  rintro e w1 ⟨rfl, hp1, hf1⟩
  have HP1 := Lib.hid hp1
  clear hp1
  have HF1 := Lib.hid (HF0.out.trans hf1)
  have HZ1 := Lib.hid (HZ0.out.fr hf1)
  have HS1 := Lib.hid (Nat.le_trans HS0.out hf1.below.size)
  clear hf1 HF0 HZ0
  have c1 := HP1.out.c2
  go_wp2_with (fail)
  clear c1
  refine (node_leaf HP1.out (w.heap.size + 1) p.k 20 (nam E p).1 HF.out).mono ?_
  rintro e w2 ⟨n, rfl, hst2, hin2, hp2, hf2⟩
  have HP2 := Lib.hid hp2
  have HST_n := Lib.hid hst2
  have HIN_n_2 := Lib.hid hin2
  clear hp2 hst2 hin2
  have HF2 := Lib.hid (HF1.out.trans hf2)
  have HZ2 := Lib.hid (HZ1.out.fr hf2)
  have HS2 := Lib.hid (Nat.le_trans HS1.out hf2.below.size)
  clear hf2 HF1 HZ1
  obtain ⟨z0, z1, z2, z3, z4⟩ := HZ2.out.cells
  have y0 := HZ2.out.frozen 0
  have y1 := HZ2.out.frozen 1
  have y2 := HZ2.out.frozen 2
  have y3 := HZ2.out.frozen 3
  have y4 := HZ2.out.frozen 4
  go_wp2_with (fail)
  obtain ⟨hV, hin, hp, hf⟩ := got_put (w := w) (w2 := w2) (n := n) HB0.out HZ2.out (Nat.le_refl _) HIN_n_2.out HP2.out HF2.out
  clear z0 z1 z2 z3 z4 y0 y1 y2 y3 y4
  dsimp only [putN] at hV hin hp hf
  generalize (((((w2.setCell ⟨w.heap.size, 0, none⟩ (.int .i64 n.kind)).setCell ⟨w.heap.size, 1, none⟩ (.string n.text)).setCell ⟨w.heap.size, 2, none⟩ (.int .i64 n.lo)).setCell ⟨w.heap.size, 3, none⟩ (.int .i64 n.hi)).setCell ⟨w.heap.size, 4, none⟩ (.slice n.A n.kids.length n.c)) = V at *
  have v0 := Lib.cell_of_heap hV 0
  have v1 := Lib.cell_of_heap hV 1
  have v2 := Lib.cell_of_heap hV 2
  have v3 := Lib.cell_of_heap hV 3
  have v4 := Lib.cell_of_heap hV 4
  exact bodyPost_ret (v := .agg #[.int .i64 n.kind, .string n.text, .int .i64 n.lo, .int .i64 n.hi, .slice n.A n.kids.length n.c]) (by simp [results, Tryd.results85, go_sem, v0, v1, v2, v3, v4]) rfl ⟨n, rfl, HST_n.out, hin, hp, hf⟩
end Go.Proofs.YtnpcfmoiiecadaaDoor.Par
set_option linter.unusedVariables false
namespace Go.Proofs.YtnpcfmoiiecadaaDoor.Par
open Go.RowKit
open Lx (Tok)

set_option maxHeartbeats 4000000 in
set_option maxRecDepth 100000 in
theorem typ_bool {B0 bp : Nat} {E : Env} {w : World} {p : St} (h : PIs B0 bp E w p)  (h1 : isW E p (⟨#[98, 111, 111, 108]⟩ : ByteArray) = true) :
    Calls Tryd.prog 63 #[ptr bp] w fun e w' => Got B0 bp w.heap.size E w (mkN E (rd E p) p.k 9 (⟨#[98, 111, 111, 108]⟩ : ByteArray) []) ((rd E p)) e w' := by
  have HF := Lib.hid h.ok.1
  have HB0 := Lib.hid h.b0
  have HP := Lib.hid h
  clear h
  unfold ptr at *
  go_enter Tryd.func63, Tryd.ntmps63
  have hb0 := (Below.refl w.heap.size w).alloc (Nat.le_refl _) (.cells #[.int .i64 0, .string ⟨#[]⟩, .int .i64 0, .int .i64 0, .slice none 0 0] 31)
  have hz0 : ZB (w.alloc (.cells #[.int .i64 0, .string ⟨#[]⟩, .int .i64 0, .int .i64 0, .slice none 0 0] 31)) w.heap.size := heap_alloc_new w _
  have hs0 : (w.alloc (.cells #[.int .i64 0, .string ⟨#[]⟩, .int .i64 0, .int .i64 0, .slice none 0 0] 31)).heap.size = w.heap.size + 1 := World.size_alloc _ _
  have HP0 := Lib.hid (HP.out.later hb0)
  have HF0 := Lib.hid (Fr.of_below hb0 HB0.out)
  have HZ0 := Lib.hid hz0
  have HS0 := Lib.hid (show w.heap.size + 1 ≤ (w.alloc (.cells #[.int .i64 0, .string ⟨#[]⟩, .int .i64 0, .int .i64 0, .slice none 0 0] 31)).heap.size by rw [hs0]; omega)
  have c0 := HP0.out.c2
  clear hb0 hz0 hs0
  go_wp2_with (fail)
  clear c0
  generalize (w.alloc (.cells #[.int .i64 0, .string ⟨#[]⟩, .int .i64 0, .int .i64 0, .slice none 0 0] 31)) = w0 at *
  refine (accept_yes HP0.out h1).mono ?_
  rintro e w1 ⟨rfl, hp1, hf1⟩
  have HP1 := Lib.hid hp1
  clear hp1
  have HF1 := Lib.hid (HF0.out.trans hf1)
  have HZ1 := Lib.hid (HZ0.out.fr hf1)
  have HS1 := Lib.hid (Nat.le_trans HS0.out hf1.below.size)
  clear hf1 HF0 HZ0
  have c1 := HP1.out.c2
  go_wp2_with (fail)
  clear c1
  refine (node_leaf HP1.out (w.heap.size + 1) p.k 9 (⟨#[98, 111, 111, 108]⟩ : ByteArray) (by first | exact HF.out | exact Nat.lt_of_succ_lt HF.out)).mono ?_
  rintro e w2 ⟨n, rfl, hst2, hin2, hp2, hf2⟩
  have HP2 := Lib.hid hp2
  have HST_n := Lib.hid hst2
  have HIN_n_2 := Lib.hid hin2
  clear hp2 hst2 hin2
  have HF2 := Lib.hid (HF1.out.trans hf2)
  have HZ2 := Lib.hid (HZ1.out.fr hf2)
  have HS2 := Lib.hid (Nat.le_trans HS1.out hf2.below.size)
  clear hf2 HF1 HZ1
  obtain ⟨z0, z1, z2, z3, z4⟩ := HZ2.out.cells
  have y0 := HZ2.out.frozen 0
  have y1 := HZ2.out.frozen 1
  have y2 := HZ2.out.frozen 2
  have y3 := HZ2.out.frozen 3
  have y4 := HZ2.out.frozen 4
  go_wp2_with (fail)
  obtain ⟨hV, hin, hp, hf⟩ := got_put (w := w) (w2 := w2) (n := n) HB0.out HZ2.out (Nat.le_refl _) HIN_n_2.out HP2.out HF2.out
  clear z0 z1 z2 z3 z4 y0 y1 y2 y3 y4
  dsimp only [putN] at hV hin hp hf
  generalize (((((w2.setCell ⟨w.heap.size, 0, none⟩ (.int .i64 n.kind)).setCell ⟨w.heap.size, 1, none⟩ (.string n.text)).setCell ⟨w.heap.size, 2, none⟩ (.int .i64 n.lo)).setCell ⟨w.heap.size, 3, none⟩ (.int .i64 n.hi)).setCell ⟨w.heap.size, 4, none⟩ (.slice n.A n.kids.length n.c)) = V at *
  have v0 := Lib.cell_of_heap hV 0
  have v1 := Lib.cell_of_heap hV 1
  have v2 := Lib.cell_of_heap hV 2
  have v3 := Lib.cell_of_heap hV 3
  have v4 := Lib.cell_of_heap hV 4
  exact bodyPost_ret (v := .agg #[.int .i64 n.kind, .string n.text, .int .i64 n.lo, .int .i64 n.hi, .slice n.A n.kids.length n.c]) (by simp [results, Tryd.results63, go_sem, v0, v1, v2, v3, v4]) rfl ⟨n, rfl, HST_n.out, hin, hp, hf⟩
set_option maxHeartbeats 4000000 in
set_option maxRecDepth 100000 in
theorem typ_num {B0 bp : Nat} {E : Env} {w : World} {p : St} (h : PIs B0 bp E w p)  (h1 : isW E p (⟨#[98, 111, 111, 108]⟩ : ByteArray) = false) (h2 : isW E p (⟨#[105, 110, 116]⟩ : ByteArray) = true) (h3 : isW E (rd E p) (⟨#[91]⟩ : ByteArray) = true) (h4 : knd E (rd E (rd E p)) = 2) :
    Calls Tryd.prog 63 #[ptr bp] w fun e w' => Got B0 bp w.heap.size E w (mkN E (exq E (rd E (rd E (rd E p))) (⟨#[93]⟩ : ByteArray)) p.k 10 (dig (wd E (rd E (rd E p)).k)) []) (exq E (rd E (rd E (rd E p))) (⟨#[93]⟩ : ByteArray)) e w' := by
  have HF := Lib.hid h.ok.1
  have HB0 := Lib.hid h.b0
  have HP := Lib.hid h
  clear h
  unfold ptr at *
  go_enter Tryd.func63, Tryd.ntmps63
  have hb0 := (Below.refl w.heap.size w).alloc (Nat.le_refl _) (.cells #[.int .i64 0, .string ⟨#[]⟩, .int .i64 0, .int .i64 0, .slice none 0 0] 31)
  have hz0 : ZB (w.alloc (.cells #[.int .i64 0, .string ⟨#[]⟩, .int .i64 0, .int .i64 0, .slice none 0 0] 31)) w.heap.size := heap_alloc_new w _
  have hs0 : (w.alloc (.cells #[.int .i64 0, .string ⟨#[]⟩, .int .i64 0, .int .i64 0, .slice none 0 0] 31)).heap.size = w.heap.size + 1 := World.size_alloc _ _
  have HP0 := Lib.hid (HP.out.later hb0)
  have HF0 := Lib.hid (Fr.of_below hb0 HB0.out)
  have HZ0 := Lib.hid hz0
  have HS0 := Lib.hid (show w.heap.size + 1 ≤ (w.alloc (.cells #[.int .i64 0, .string ⟨#[]⟩, .int .i64 0, .int .i64 0, .slice none 0 0] 31)).heap.size by rw [hs0]; omega)
  have c0 := HP0.out.c2
  clear hb0 hz0 hs0
  go_wp2_with (fail)
  clear c0
  generalize (w.alloc (.cells #[.int .i64 0, .string ⟨#[]⟩, .int .i64 0, .int .i64 0, .slice none 0 0] 31)) = w0 at *
  refine (accept_no HP0.out h1).mono ?_
  rintro e w1 ⟨rfl, hp1, hf1⟩
  have HP1 := Lib.hid hp1
  clear hp1
  have HF1 := Lib.hid (HF0.out.trans hf1)
  have HZ1 := Lib.hid (HZ0.out.fr hf1)
  have HS1 := Lib.hid (Nat.le_trans HS0.out hf1.below.size)
  clear hf1 HF0 HZ0
  have c1 := HP1.out.c2
  go_wp2_with (fail)
  clear c1
  refine (accept_yes HP1.out h2).mono ?_
  rintro e w2 ⟨rfl, hp2, hf2⟩
  have HP2 := Lib.hid hp2
  clear hp2
  have HF2 := Lib.hid (HF1.out.trans hf2)
  have HZ2 := Lib.hid (HZ1.out.fr hf2)
  have HS2 := Lib.hid (Nat.le_trans HS1.out hf2.below.size)
  clear hf2 HF1 HZ1
  have c2 := HP2.out.c2
  go_wp2_with (fail)
  clear c2
  refine (accept_yes HP2.out h3).mono ?_
  rintro e w3 ⟨rfl, hp3, hf3⟩
  have HP3 := Lib.hid hp3
  clear hp3
  have HF3 := Lib.hid (HF2.out.trans hf3)
  have HZ3 := Lib.hid (HZ2.out.fr hf3)
  have HS3 := Lib.hid (Nat.le_trans HS2.out hf3.below.size)
  clear hf3 HF2 HZ2
  have c3 := HP3.out.c2
  go_wp2_with (fail)
  clear c3
  refine (kind_at HP3.out h4).mono ?_
  rintro e w4 ⟨rfl, hb4⟩
  have hf4 := Fr.of_below hb4 HP3.out.b0
  have HP4 := Lib.hid (HP3.out.later hb4)
  clear hb4
  have HF4 := Lib.hid (HF3.out.trans hf4)
  have HZ4 := Lib.hid (HZ3.out.fr hf4)
  have HS4 := Lib.hid (Nat.le_trans HS3.out hf4.below.size)
  clear hf4 HF3 HZ3
  have c4 := HP4.out.c2
  go_wp2_with (fail)
  clear c4
  refine (read_any HP4.out (by rw [h4]; decide)).mono ?_
  rintro e w5 ⟨rfl, hp5, hf5⟩
  have HP5 := Lib.hid hp5
  clear hp5
  have HF5 := Lib.hid (HF4.out.trans hf5)
  have HZ5 := Lib.hid (HZ4.out.fr hf5)
  have HS5 := Lib.hid (Nat.le_trans HS4.out hf5.below.size)
  clear hf5 HF4 HZ4
  have c5 := HP5.out.c2
  go_wp2_with (fail)
  clear c5
  refine (digits_any (wd E (rd E (rd E p)).k) _ (wd_size HP.out.eok _)).mono ?_
  rintro e w6 ⟨rfl, hb6⟩
  have hf6 := Fr.of_below hb6 HP5.out.b0
  have HP6 := Lib.hid (HP5.out.later hb6)
  clear hb6
  have HF6 := Lib.hid (HF5.out.trans hf6)
  have HZ6 := Lib.hid (HZ5.out.fr hf6)
  have HS6 := Lib.hid (Nat.le_trans HS5.out hf6.below.size)
  clear hf6 HF5 HZ5
  have c6 := HP6.out.c2
  go_wp2_with (fail)
  clear c6
  refine (expect_any HP6.out (⟨#[93]⟩ : ByteArray)).mono ?_
  rintro e w7 ⟨rfl, hp7, hf7⟩
  have HP7 := Lib.hid hp7
  clear hp7
  have HF7 := Lib.hid (HF6.out.trans hf7)
  have HZ7 := Lib.hid (HZ6.out.fr hf7)
  have HS7 := Lib.hid (Nat.le_trans HS6.out hf7.below.size)
  clear hf7 HF6 HZ6
  have c7 := HP7.out.c2
  go_wp2_with (fail)
  clear c7
  refine (node_leaf HP7.out (w.heap.size + 1) p.k 10 (dig (wd E (rd E (rd E p)).k)) (by first | exact HF.out | exact Nat.lt_of_succ_lt HF.out)).mono ?_
  rintro e w8 ⟨n, rfl, hst8, hin8, hp8, hf8⟩
  have HP8 := Lib.hid hp8
  have HST_n := Lib.hid hst8
  have HIN_n_8 := Lib.hid hin8
  clear hp8 hst8 hin8
  have HF8 := Lib.hid (HF7.out.trans hf8)
  have HZ8 := Lib.hid (HZ7.out.fr hf8)
  have HS8 := Lib.hid (Nat.le_trans HS7.out hf8.below.size)
  clear hf8 HF7 HZ7
  obtain ⟨z0, z1, z2, z3, z4⟩ := HZ8.out.cells
  have y0 := HZ8.out.frozen 0
  have y1 := HZ8.out.frozen 1
  have y2 := HZ8.out.frozen 2
  have y3 := HZ8.out.frozen 3
  have y4 := HZ8.out.frozen 4
  go_wp2_with (fail)
  obtain ⟨hV, hin, hp, hf⟩ := got_put (w := w) (w2 := w8) (n := n) HB0.out HZ8.out (Nat.le_refl _) HIN_n_8.out HP8.out HF8.out
  clear z0 z1 z2 z3 z4 y0 y1 y2 y3 y4
  dsimp only [putN] at hV hin hp hf
  generalize (((((w8.setCell ⟨w.heap.size, 0, none⟩ (.int .i64 n.kind)).setCell ⟨w.heap.size, 1, none⟩ (.string n.text)).setCell ⟨w.heap.size, 2, none⟩ (.int .i64 n.lo)).setCell ⟨w.heap.size, 3, none⟩ (.int .i64 n.hi)).setCell ⟨w.heap.size, 4, none⟩ (.slice n.A n.kids.length n.c)) = V at *
  have v0 := Lib.cell_of_heap hV 0
  have v1 := Lib.cell_of_heap hV 1
  have v2 := Lib.cell_of_heap hV 2
  have v3 := Lib.cell_of_heap hV 3
  have v4 := Lib.cell_of_heap hV 4
  exact bodyPost_ret (v := .agg #[.int .i64 n.kind, .string n.text, .int .i64 n.lo, .int .i64 n.hi, .slice n.A n.kids.length n.c]) (by simp [results, Tryd.results63, go_sem, v0, v1, v2, v3, v4]) rfl ⟨n, rfl, HST_n.out, hin, hp, hf⟩
set_option maxHeartbeats 4000000 in
set_option maxRecDepth 100000 in
theorem typ_nonum {B0 bp : Nat} {E : Env} {w : World} {p : St} (h : PIs B0 bp E w p)  (kd : Int) (h1 : isW E p (⟨#[98, 111, 111, 108]⟩ : ByteArray) = false) (h2 : isW E p (⟨#[105, 110, 116]⟩ : ByteArray) = true) (h3 : isW E (rd E p) (⟨#[91]⟩ : ByteArray) = true) (h4 : knd E (rd E (rd E p)) = kd) (h5 : (kd == 2) = false) :
    Calls Tryd.prog 63 #[ptr bp] w fun e w' => Got B0 bp w.heap.size E w (mkN E (exq E (rep E (rd E (rd E p)) 4 (⟨#[110, 117, 109, 98, 101, 114]⟩ : ByteArray)) (⟨#[93]⟩ : ByteArray)) p.k 10 (⟨#[]⟩ : ByteArray) []) (exq E (rep E (rd E (rd E p)) 4 (⟨#[110, 117, 109, 98, 101, 114]⟩ : ByteArray)) (⟨#[93]⟩ : ByteArray)) e w' := by
  have HF := Lib.hid h.ok.1
  have HB0 := Lib.hid h.b0
  have HP := Lib.hid h
  clear h
  unfold ptr at *
  go_enter Tryd.func63, Tryd.ntmps63
  have hb0 := (Below.refl w.heap.size w).alloc (Nat.le_refl _) (.cells #[.int .i64 0, .string ⟨#[]⟩, .int .i64 0, .int .i64 0, .slice none 0 0] 31)
  have hz0 : ZB (w.alloc (.cells #[.int .i64 0, .string ⟨#[]⟩, .int .i64 0, .int .i64 0, .slice none 0 0] 31)) w.heap.size := heap_alloc_new w _
  have hs0 : (w.alloc (.cells #[.int .i64 0, .string ⟨#[]⟩, .int .i64 0, .int .i64 0, .slice none 0 0] 31)).heap.size = w.heap.size + 1 := World.size_alloc _ _
  have HP0 := Lib.hid (HP.out.later hb0)
  have HF0 := Lib.hid (Fr.of_below hb0 HB0.out)
  have HZ0 := Lib.hid hz0
  have HS0 := Lib.hid (show w.heap.size + 1 ≤ (w.alloc (.cells #[.int .i64 0, .string ⟨#[]⟩, .int .i64 0, .int .i64 0, .slice none 0 0] 31)).heap.size by rw [hs0]; omega)
  have c0 := HP0.out.c2
  clear hb0 hz0 hs0
  go_wp2_with (fail)
  clear c0
  generalize (w.alloc (.cells #[.int .i64 0, .string ⟨#[]⟩, .int .i64 0, .int .i64 0, .slice none 0 0] 31)) = w0 at *
  refine (accept_no HP0.out h1).mono ?_
  rintro e w1 ⟨rfl, hp1, hf1⟩
  have HP1 := Lib.hid hp1
  clear hp1
  have HF1 := Lib.hid (HF0.out.trans hf1)
  have HZ1 := Lib.hid (HZ0.out.fr hf1)
  have HS1 := Lib.hid (Nat.le_trans HS0.out hf1.below.size)
  clear hf1 HF0 HZ0
  have c1 := HP1.out.c2
  go_wp2_with (fail)
  clear c1
  refine (accept_yes HP1.out h2).mono ?_
  rintro e w2 ⟨rfl, hp2, hf2⟩
  have HP2 := Lib.hid hp2
  clear hp2
  have HF2 := Lib.hid (HF1.out.trans hf2)
  have HZ2 := Lib.hid (HZ1.out.fr hf2)
  have HS2 := Lib.hid (Nat.le_trans HS1.out hf2.below.size)
  clear hf2 HF1 HZ1
  have c2 := HP2.out.c2
  go_wp2_with (fail)
  clear c2
  refine (accept_yes HP2.out h3).mono ?_
  rintro e w3 ⟨rfl, hp3, hf3⟩
  have HP3 := Lib.hid hp3
  clear hp3
  have HF3 := Lib.hid (HF2.out.trans hf3)
  have HZ3 := Lib.hid (HZ2.out.fr hf3)
  have HS3 := Lib.hid (Nat.le_trans HS2.out hf3.below.size)
  clear hf3 HF2 HZ2
  have c3 := HP3.out.c2
  go_wp2_with (fail)
  clear c3
  refine (kind_at HP3.out h4).mono ?_
  rintro e w4 ⟨rfl, hb4⟩
  have hf4 := Fr.of_below hb4 HP3.out.b0
  have HP4 := Lib.hid (HP3.out.later hb4)
  clear hb4
  have HF4 := Lib.hid (HF3.out.trans hf4)
  have HZ4 := Lib.hid (HZ3.out.fr hf4)
  have HS4 := Lib.hid (Nat.le_trans HS3.out hf4.below.size)
  clear hf4 HF3 HZ3
  have c4 := HP4.out.c2
  go_wp2_with (fail)
  clear c4
  refine (report_any HP4.out 4 (⟨#[110, 117, 109, 98, 101, 114]⟩ : ByteArray)).mono ?_
  rintro e w5 ⟨rfl, hp5, hf5⟩
  have HP5 := Lib.hid hp5
  clear hp5
  have HF5 := Lib.hid (HF4.out.trans hf5)
  have HZ5 := Lib.hid (HZ4.out.fr hf5)
  have HS5 := Lib.hid (Nat.le_trans HS4.out hf5.below.size)
  clear hf5 HF4 HZ4
  have c5 := HP5.out.c2
  go_wp2_with (fail)
  clear c5
  refine (expect_any HP5.out (⟨#[93]⟩ : ByteArray)).mono ?_
  rintro e w6 ⟨rfl, hp6, hf6⟩
  have HP6 := Lib.hid hp6
  clear hp6
  have HF6 := Lib.hid (HF5.out.trans hf6)
  have HZ6 := Lib.hid (HZ5.out.fr hf6)
  have HS6 := Lib.hid (Nat.le_trans HS5.out hf6.below.size)
  clear hf6 HF5 HZ5
  have c6 := HP6.out.c2
  go_wp2_with (fail)
  clear c6
  refine (node_leaf HP6.out (w.heap.size + 1) p.k 10 (⟨#[]⟩ : ByteArray) (by first | exact HF.out | exact Nat.lt_of_succ_lt HF.out)).mono ?_
  rintro e w7 ⟨n, rfl, hst7, hin7, hp7, hf7⟩
  have HP7 := Lib.hid hp7
  have HST_n := Lib.hid hst7
  have HIN_n_7 := Lib.hid hin7
  clear hp7 hst7 hin7
  have HF7 := Lib.hid (HF6.out.trans hf7)
  have HZ7 := Lib.hid (HZ6.out.fr hf7)
  have HS7 := Lib.hid (Nat.le_trans HS6.out hf7.below.size)
  clear hf7 HF6 HZ6
  obtain ⟨z0, z1, z2, z3, z4⟩ := HZ7.out.cells
  have y0 := HZ7.out.frozen 0
  have y1 := HZ7.out.frozen 1
  have y2 := HZ7.out.frozen 2
  have y3 := HZ7.out.frozen 3
  have y4 := HZ7.out.frozen 4
  go_wp2_with (fail)
  obtain ⟨hV, hin, hp, hf⟩ := got_put (w := w) (w2 := w7) (n := n) HB0.out HZ7.out (Nat.le_refl _) HIN_n_7.out HP7.out HF7.out
  clear z0 z1 z2 z3 z4 y0 y1 y2 y3 y4
  dsimp only [putN] at hV hin hp hf
  generalize (((((w7.setCell ⟨w.heap.size, 0, none⟩ (.int .i64 n.kind)).setCell ⟨w.heap.size, 1, none⟩ (.string n.text)).setCell ⟨w.heap.size, 2, none⟩ (.int .i64 n.lo)).setCell ⟨w.heap.size, 3, none⟩ (.int .i64 n.hi)).setCell ⟨w.heap.size, 4, none⟩ (.slice n.A n.kids.length n.c)) = V at *
  have v0 := Lib.cell_of_heap hV 0
  have v1 := Lib.cell_of_heap hV 1
  have v2 := Lib.cell_of_heap hV 2
  have v3 := Lib.cell_of_heap hV 3
  have v4 := Lib.cell_of_heap hV 4
  exact bodyPost_ret (v := .agg #[.int .i64 n.kind, .string n.text, .int .i64 n.lo, .int .i64 n.hi, .slice n.A n.kids.length n.c]) (by simp [results, Tryd.results63, go_sem, v0, v1, v2, v3, v4]) rfl ⟨n, rfl, HST_n.out, hin, hp, hf⟩
set_option maxHeartbeats 4000000 in
set_option maxRecDepth 100000 in
theorem typ_int {B0 bp : Nat} {E : Env} {w : World} {p : St} (h : PIs B0 bp E w p)  (h1 : isW E p (⟨#[98, 111, 111, 108]⟩ : ByteArray) = false) (h2 : isW E p (⟨#[105, 110, 116]⟩ : ByteArray) = true) (h3 : isW E (rd E p) (⟨#[91]⟩ : ByteArray) = false) :
    Calls Tryd.prog 63 #[ptr bp] w fun e w' => Got B0 bp w.heap.size E w (mkN E (rd E p) p.k 9 (⟨#[105, 110, 116]⟩ : ByteArray) []) ((rd E p)) e w' := by
  have HF := Lib.hid h.ok.1
  have HB0 := Lib.hid h.b0
  have HP := Lib.hid h
  clear h
  unfold ptr at *
  go_enter Tryd.func63, Tryd.ntmps63
  have hb0 := (Below.refl w.heap.size w).alloc (Nat.le_refl _) (.cells #[.int .i64 0, .string ⟨#[]⟩, .int .i64 0, .int .i64 0, .slice none 0 0] 31)
  have hz0 : ZB (w.alloc (.cells #[.int .i64 0, .string ⟨#[]⟩, .int .i64 0, .int .i64 0, .slice none 0 0] 31)) w.heap.size := heap_alloc_new w _
  have hs0 : (w.alloc (.cells #[.int .i64 0, .string ⟨#[]⟩, .int .i64 0, .int .i64 0, .slice none 0 0] 31)).heap.size = w.heap.size + 1 := World.size_alloc _ _
  have HP0 := Lib.hid (HP.out.later hb0)
  have HF0 := Lib.hid (Fr.of_below hb0 HB0.out)
  have HZ0 := Lib.hid hz0
  have HS0 := Lib.hid (show w.heap.size + 1 ≤ (w.alloc (.cells #[.int .i64 0, .string ⟨#[]⟩, .int .i64 0, .int .i64 0, .slice none 0 0] 31)).heap.size by rw [hs0]; omega)
  have c0 := HP0.out.c2
  clear hb0 hz0 hs0
  go_wp2_with (fail)
  clear c0
  generalize (w.alloc (.cells #[.int .i64 0, .string ⟨#[]⟩, .int .i64 0, .int .i64 0, .slice none 0 0] 31)) = w0 at *
  refine (accept_no HP0.out h1).mono ?_
  rintro e w1 ⟨rfl, hp1, hf1⟩
  have HP1 := Lib.hid hp1
  clear hp1
  have HF1 := Lib.hid (HF0.out.trans hf1)
  have HZ1 := Lib.hid (HZ0.out.fr hf1)
  have HS1 := Lib.hid (Nat.le_trans HS0.out hf1.below.size)
  clear hf1 HF0 HZ0
  have c1 := HP1.out.c2
  go_wp2_with (fail)
  clear c1
  refine (accept_yes HP1.out h2).mono ?_
  rintro e w2 ⟨rfl, hp2, hf2⟩
  have HP2 := Lib.hid hp2
  clear hp2
  have HF2 := Lib.hid (HF1.out.trans hf2)
  have HZ2 := Lib.hid (HZ1.out.fr hf2)
  have HS2 := Lib.hid (Nat.le_trans HS1.out hf2.below.size)
  clear hf2 HF1 HZ1
  have c2 := HP2.out.c2
  go_wp2_with (fail)
  clear c2
  refine (accept_no HP2.out h3).mono ?_
  rintro e w3 ⟨rfl, hp3, hf3⟩
  have HP3 := Lib.hid hp3
  clear hp3
  have HF3 := Lib.hid (HF2.out.trans hf3)
  have HZ3 := Lib.hid (HZ2.out.fr hf3)
  have HS3 := Lib.hid (Nat.le_trans HS2.out hf3.below.size)
  clear hf3 HF2 HZ2
  have c3 := HP3.out.c2
  go_wp2_with (fail)
  clear c3
  refine (node_leaf HP3.out (w.heap.size + 1) p.k 9 (⟨#[105, 110, 116]⟩ : ByteArray) (by first | exact HF.out | exact Nat.lt_of_succ_lt HF.out)).mono ?_
  rintro e w4 ⟨n, rfl, hst4, hin4, hp4, hf4⟩
  have HP4 := Lib.hid hp4
  have HST_n := Lib.hid hst4
  have HIN_n_4 := Lib.hid hin4
  clear hp4 hst4 hin4
  have HF4 := Lib.hid (HF3.out.trans hf4)
  have HZ4 := Lib.hid (HZ3.out.fr hf4)
  have HS4 := Lib.hid (Nat.le_trans HS3.out hf4.below.size)
  clear hf4 HF3 HZ3
  obtain ⟨z0, z1, z2, z3, z4⟩ := HZ4.out.cells
  have y0 := HZ4.out.frozen 0
  have y1 := HZ4.out.frozen 1
  have y2 := HZ4.out.frozen 2
  have y3 := HZ4.out.frozen 3
  have y4 := HZ4.out.frozen 4
  go_wp2_with (fail)
  obtain ⟨hV, hin, hp, hf⟩ := got_put (w := w) (w2 := w4) (n := n) HB0.out HZ4.out (Nat.le_refl _) HIN_n_4.out HP4.out HF4.out
  clear z0 z1 z2 z3 z4 y0 y1 y2 y3 y4
  dsimp only [putN] at hV hin hp hf
  generalize (((((w4.setCell ⟨w.heap.size, 0, none⟩ (.int .i64 n.kind)).setCell ⟨w.heap.size, 1, none⟩ (.string n.text)).setCell ⟨w.heap.size, 2, none⟩ (.int .i64 n.lo)).setCell ⟨w.heap.size, 3, none⟩ (.int .i64 n.hi)).setCell ⟨w.heap.size, 4, none⟩ (.slice n.A n.kids.length n.c)) = V at *
  have v0 := Lib.cell_of_heap hV 0
  have v1 := Lib.cell_of_heap hV 1
  have v2 := Lib.cell_of_heap hV 2
  have v3 := Lib.cell_of_heap hV 3
  have v4 := Lib.cell_of_heap hV 4
  exact bodyPost_ret (v := .agg #[.int .i64 n.kind, .string n.text, .int .i64 n.lo, .int .i64 n.hi, .slice n.A n.kids.length n.c]) (by simp [results, Tryd.results63, go_sem, v0, v1, v2, v3, v4]) rfl ⟨n, rfl, HST_n.out, hin, hp, hf⟩
set_option maxHeartbeats 4000000 in
set_option maxRecDepth 100000 in
theorem typ_name {B0 bp : Nat} {E : Env} {w : World} {p : St} (h : PIs B0 bp E w p)  (h1 : isW E p (⟨#[98, 111, 111, 108]⟩ : ByteArray) = false) (h2 : isW E p (⟨#[105, 110, 116]⟩ : ByteArray) = false) (h4 : knd E p = 0) :
    Calls Tryd.prog 63 #[ptr bp] w fun e w' => Got B0 bp w.heap.size E w (mkN E (rd E p) p.k 9 (wd E p.k) []) ((rd E p)) e w' := by
  have HF := Lib.hid h.ok.1
  have HB0 := Lib.hid h.b0
  have HP := Lib.hid h
  clear h
  unfold ptr at *
  go_enter Tryd.func63, Tryd.ntmps63
  have hb0 := (Below.refl w.heap.size w).alloc (Nat.le_refl _) (.cells #[.int .i64 0, .string ⟨#[]⟩, .int .i64 0, .int .i64 0, .slice none 0 0] 31)
  have hz0 : ZB (w.alloc (.cells #[.int .i64 0, .string ⟨#[]⟩, .int .i64 0, .int .i64 0, .slice none 0 0] 31)) w.heap.size := heap_alloc_new w _
  have hs0 : (w.alloc (.cells #[.int .i64 0, .string ⟨#[]⟩, .int .i64 0, .int .i64 0, .slice none 0 0] 31)).heap.size = w.heap.size + 1 := World.size_alloc _ _
  have HP0 := Lib.hid (HP.out.later hb0)
  have HF0 := Lib.hid (Fr.of_below hb0 HB0.out)
  have HZ0 := Lib.hid hz0
  have HS0 := Lib.hid (show w.heap.size + 1 ≤ (w.alloc (.cells #[.int .i64 0, .string ⟨#[]⟩, .int .i64 0, .int .i64 0, .slice none 0 0] 31)).heap.size by rw [hs0]; omega)
  have c0 := HP0.out.c2
  clear hb0 hz0 hs0
  go_wp2_with (fail)
  clear c0
  generalize (w.alloc (.cells #[.int .i64 0, .string ⟨#[]⟩, .int .i64 0, .int .i64 0, .slice none 0 0] 31)) = w0 at *
  refine (accept_no HP0.out h1).mono ?_
  rintro e w1 ⟨rfl, hp1, hf1⟩
  have HP1 := Lib.hid hp1
  clear hp1
  have HF1 := Lib.hid (HF0.out.trans hf1)
  have HZ1 := Lib.hid (HZ0.out.fr hf1)
  have HS1 := Lib.hid (Nat.le_trans HS0.out hf1.below.size)
  clear hf1 HF0 HZ0
  have c1 := HP1.out.c2
  go_wp2_with (fail)
  clear c1
  refine (accept_no HP1.out h2).mono ?_
  rintro e w2 ⟨rfl, hp2, hf2⟩
  have HP2 := Lib.hid hp2
  clear hp2
  have HF2 := Lib.hid (HF1.out.trans hf2)
  have HZ2 := Lib.hid (HZ1.out.fr hf2)
  have HS2 := Lib.hid (Nat.le_trans HS1.out hf2.below.size)
  clear hf2 HF1 HZ1
  have c2 := HP2.out.c2
  go_wp2_with (fail)
  clear c2
  refine (kind_at HP2.out h4).mono ?_
  rintro e w3 ⟨rfl, hb3⟩
  have hf3 := Fr.of_below hb3 HP2.out.b0
  have HP3 := Lib.hid (HP2.out.later hb3)
  clear hb3
  have HF3 := Lib.hid (HF2.out.trans hf3)
  have HZ3 := Lib.hid (HZ2.out.fr hf3)
  have HS3 := Lib.hid (Nat.le_trans HS2.out hf3.below.size)
  clear hf3 HF2 HZ2
  have c3 := HP3.out.c2
  go_wp2_with (fail)
  clear c3
  refine (read_any HP3.out (by rw [h4]; decide)).mono ?_
  rintro e w4 ⟨rfl, hp4, hf4⟩
  have HP4 := Lib.hid hp4
  clear hp4
  have HF4 := Lib.hid (HF3.out.trans hf4)
  have HZ4 := Lib.hid (HZ3.out.fr hf4)
  have HS4 := Lib.hid (Nat.le_trans HS3.out hf4.below.size)
  clear hf4 HF3 HZ3
  have c4 := HP4.out.c2
  go_wp2_with (fail)
  clear c4
  refine (node_leaf HP4.out (w.heap.size + 1) p.k 9 (wd E p.k) (by first | exact HF.out | exact Nat.lt_of_succ_lt HF.out)).mono ?_
  rintro e w5 ⟨n, rfl, hst5, hin5, hp5, hf5⟩
  have HP5 := Lib.hid hp5
  have HST_n := Lib.hid hst5
  have HIN_n_5 := Lib.hid hin5
  clear hp5 hst5 hin5
  have HF5 := Lib.hid (HF4.out.trans hf5)
  have HZ5 := Lib.hid (HZ4.out.fr hf5)
  have HS5 := Lib.hid (Nat.le_trans HS4.out hf5.below.size)
  clear hf5 HF4 HZ4
  obtain ⟨z0, z1, z2, z3, z4⟩ := HZ5.out.cells
  have y0 := HZ5.out.frozen 0
  have y1 := HZ5.out.frozen 1
  have y2 := HZ5.out.frozen 2
  have y3 := HZ5.out.frozen 3
  have y4 := HZ5.out.frozen 4
  go_wp2_with (fail)
  obtain ⟨hV, hin, hp, hf⟩ := got_put (w := w) (w2 := w5) (n := n) HB0.out HZ5.out (Nat.le_refl _) HIN_n_5.out HP5.out HF5.out
  clear z0 z1 z2 z3 z4 y0 y1 y2 y3 y4
  dsimp only [putN] at hV hin hp hf
  generalize (((((w5.setCell ⟨w.heap.size, 0, none⟩ (.int .i64 n.kind)).setCell ⟨w.heap.size, 1, none⟩ (.string n.text)).setCell ⟨w.heap.size, 2, none⟩ (.int .i64 n.lo)).setCell ⟨w.heap.size, 3, none⟩ (.int .i64 n.hi)).setCell ⟨w.heap.size, 4, none⟩ (.slice n.A n.kids.length n.c)) = V at *
  have v0 := Lib.cell_of_heap hV 0
  have v1 := Lib.cell_of_heap hV 1
  have v2 := Lib.cell_of_heap hV 2
  have v3 := Lib.cell_of_heap hV 3
  have v4 := Lib.cell_of_heap hV 4
  exact bodyPost_ret (v := .agg #[.int .i64 n.kind, .string n.text, .int .i64 n.lo, .int .i64 n.hi, .slice n.A n.kids.length n.c]) (by simp [results, Tryd.results63, go_sem, v0, v1, v2, v3, v4]) rfl ⟨n, rfl, HST_n.out, hin, hp, hf⟩
set_option maxHeartbeats 4000000 in
set_option maxRecDepth 100000 in
theorem typ_none {B0 bp : Nat} {E : Env} {w : World} {p : St} (h : PIs B0 bp E w p)  (kd : Int) (h1 : isW E p (⟨#[98, 111, 111, 108]⟩ : ByteArray) = false) (h2 : isW E p (⟨#[105, 110, 116]⟩ : ByteArray) = false) (h4 : knd E p = kd) (h5 : (kd == 0) = false) :
    Calls Tryd.prog 63 #[ptr bp] w fun e w' => Got B0 bp w.heap.size E w (mkN E (rep E p 4 (⟨#[116, 121, 112, 101]⟩ : ByteArray)) p.k 1 (⟨#[]⟩ : ByteArray) []) (rep E p 4 (⟨#[116, 121, 112, 101]⟩ : ByteArray)) e w' := by
  have HF := Lib.hid h.ok.1
  have HB0 := Lib.hid h.b0
  have HP := Lib.hid h
  clear h
  unfold ptr at *
  go_enter Tryd.func63, Tryd.ntmps63
  have hb0 := (Below.refl w.heap.size w).alloc (Nat.le_refl _) (.cells #[.int .i64 0, .string ⟨#[]⟩, .int .i64 0, .int .i64 0, .slice none 0 0] 31)
  have hz0 : ZB (w.alloc (.cells #[.int .i64 0, .string ⟨#[]⟩, .int .i64 0, .int .i64 0, .slice none 0 0] 31)) w.heap.size := heap_alloc_new w _
  have hs0 : (w.alloc (.cells #[.int .i64 0, .string ⟨#[]⟩, .int .i64 0, .int .i64 0, .slice none 0 0] 31)).heap.size = w.heap.size + 1 := World.size_alloc _ _
  have HP0 := Lib.hid (HP.out.later hb0)
  have HF0 := Lib.hid (Fr.of_below hb0 HB0.out)
  have HZ0 := Lib.hid hz0
  have HS0 := Lib.hid (show w.heap.size + 1 ≤ (w.alloc (.cells #[.int .i64 0, .string ⟨#[]⟩, .int .i64 0, .int .i64 0, .slice none 0 0] 31)).heap.size by rw [hs0]; omega)
  have c0 := HP0.out.c2
  clear hb0 hz0 hs0
  go_wp2_with (fail)
  clear c0
  generalize (w.alloc (.cells #[.int .i64 0, .string ⟨#[]⟩, .int .i64 0, .int .i64 0, .slice none 0 0] 31)) = w0 at *
  refine (accept_no HP0.out h1).mono ?_
  rintro e w1 ⟨rfl, hp1, hf1⟩
  have HP1 := Lib.hid hp1
  clear hp1
  have HF1 := Lib.hid (HF0.out.trans hf1)
  have HZ1 := Lib.hid (HZ0.out.fr hf1)
  have HS1 := Lib.hid (Nat.le_trans HS0.out hf1.below.size)
  clear hf1 HF0 HZ0
  have c1 := HP1.out.c2
  go_wp2_with (fail)
  clear c1
  refine (accept_no HP1.out h2).mono ?_
  rintro e w2 ⟨rfl, hp2, hf2⟩
  have HP2 := Lib.hid hp2
  clear hp2
  have HF2 := Lib.hid (HF1.out.trans hf2)
  have HZ2 := Lib.hid (HZ1.out.fr hf2)
  have HS2 := Lib.hid (Nat.le_trans HS1.out hf2.below.size)
  clear hf2 HF1 HZ1
  have c2 := HP2.out.c2
  go_wp2_with (fail)
  clear c2
  refine (kind_at HP2.out h4).mono ?_
  rintro e w3 ⟨rfl, hb3⟩
  have hf3 := Fr.of_below hb3 HP2.out.b0
  have HP3 := Lib.hid (HP2.out.later hb3)
  clear hb3
  have HF3 := Lib.hid (HF2.out.trans hf3)
  have HZ3 := Lib.hid (HZ2.out.fr hf3)
  have HS3 := Lib.hid (Nat.le_trans HS2.out hf3.below.size)
  clear hf3 HF2 HZ2
  have c3 := HP3.out.c2
  go_wp2_with (fail)
  clear c3
  refine (report_any HP3.out 4 (⟨#[116, 121, 112, 101]⟩ : ByteArray)).mono ?_
  rintro e w4 ⟨rfl, hp4, hf4⟩
  have HP4 := Lib.hid hp4
  clear hp4
  have HF4 := Lib.hid (HF3.out.trans hf4)
  have HZ4 := Lib.hid (HZ3.out.fr hf4)
  have HS4 := Lib.hid (Nat.le_trans HS3.out hf4.below.size)
  clear hf4 HF3 HZ3
  have c4 := HP4.out.c2
  go_wp2_with (fail)
  clear c4
  refine (node_leaf HP4.out (w.heap.size + 1) p.k 1 (⟨#[]⟩ : ByteArray) (by first | exact HF.out | exact Nat.lt_of_succ_lt HF.out)).mono ?_
  rintro e w5 ⟨n, rfl, hst5, hin5, hp5, hf5⟩
  have HP5 := Lib.hid hp5
  have HST_n := Lib.hid hst5
  have HIN_n_5 := Lib.hid hin5
  clear hp5 hst5 hin5
  have HF5 := Lib.hid (HF4.out.trans hf5)
  have HZ5 := Lib.hid (HZ4.out.fr hf5)
  have HS5 := Lib.hid (Nat.le_trans HS4.out hf5.below.size)
  clear hf5 HF4 HZ4
  obtain ⟨z0, z1, z2, z3, z4⟩ := HZ5.out.cells
  have y0 := HZ5.out.frozen 0
  have y1 := HZ5.out.frozen 1
  have y2 := HZ5.out.frozen 2
  have y3 := HZ5.out.frozen 3
  have y4 := HZ5.out.frozen 4
  go_wp2_with (fail)
  obtain ⟨hV, hin, hp, hf⟩ := got_put (w := w) (w2 := w5) (n := n) HB0.out HZ5.out (Nat.le_refl _) HIN_n_5.out HP5.out HF5.out
  clear z0 z1 z2 z3 z4 y0 y1 y2 y3 y4
  dsimp only [putN] at hV hin hp hf
  generalize (((((w5.setCell ⟨w.heap.size, 0, none⟩ (.int .i64 n.kind)).setCell ⟨w.heap.size, 1, none⟩ (.string n.text)).setCell ⟨w.heap.size, 2, none⟩ (.int .i64 n.lo)).setCell ⟨w.heap.size, 3, none⟩ (.int .i64 n.hi)).setCell ⟨w.heap.size, 4, none⟩ (.slice n.A n.kids.length n.c)) = V at *
  have v0 := Lib.cell_of_heap hV 0
  have v1 := Lib.cell_of_heap hV 1
  have v2 := Lib.cell_of_heap hV 2
  have v3 := Lib.cell_of_heap hV 3
  have v4 := Lib.cell_of_heap hV 4
  exact bodyPost_ret (v := .agg #[.int .i64 n.kind, .string n.text, .int .i64 n.lo, .int .i64 n.hi, .slice n.A n.kids.length n.c]) (by simp [results, Tryd.results63, go_sem, v0, v1, v2, v3, v4]) rfl ⟨n, rfl, HST_n.out, hin, hp, hf⟩
theorem typ_any {B0 bp : Nat} {E : Env} {w : World} {p : St} (h : PIs B0 bp E w p) :
    Calls Tryd.prog 63 #[ptr bp] w fun e w' => Got B0 bp w.heap.size E w (typ E p).1 (typ E p).2 e w' := by
  unfold typ
  cases h1 : isW E p (⟨#[98, 111, 111, 108]⟩ : ByteArray) with
  | true => exact typ_bool h h1
  | false =>
    cases h2 : isW E p (⟨#[105, 110, 116]⟩ : ByteArray) with
    | true =>
      cases h3 : isW E (rd E p) (⟨#[91]⟩ : ByteArray) with
      | true =>
        by_cases h4 : knd E (rd E (rd E p)) = 2
        · simp only [if_pos h4]; exact typ_num h h1 h2 h3 h4
        · simp only [if_neg h4]; exact typ_nonum h _ h1 h2 h3 rfl (by simpa using h4)
      | false => exact typ_int h h1 h2 h3
    | false =>
      by_cases h4 : knd E p = 0
      · simp only [if_pos h4]; exact typ_name h h1 h2 h4
      · simp only [if_neg h4]; exact typ_none h _ h1 h2 rfl (by simpa using h4)
set_option maxHeartbeats 4000000 in
set_option maxRecDepth 100000 in
theorem opt_yes {B0 bp : Nat} {E : Env} {w : World} {p : St} (h : PIs B0 bp E w p)  (h1 : isW E p (⟨#[58]⟩ : ByteArray) = true) :
    Calls Tryd.prog 51 #[ptr bp] w fun e w' => Got B0 bp w.heap.size E w ((typ E (rd E p)).1) ((typ E (rd E p)).2) e w' := by
  have HF := Lib.hid h.ok.1
  have HB0 := Lib.hid h.b0
  have HP := Lib.hid h
  clear h
  unfold ptr at *
  go_enter Tryd.func51, Tryd.ntmps51
  have hb0 := (Below.refl w.heap.size w).alloc (Nat.le_refl _) (.cells #[.int .i64 0, .string ⟨#[]⟩, .int .i64 0, .int .i64 0, .slice none 0 0] 31)
  have hz0 : ZB (w.alloc (.cells #[.int .i64 0, .string ⟨#[]⟩, .int .i64 0, .int .i64 0, .slice none 0 0] 31)) w.heap.size := heap_alloc_new w _
  have hs0 : (w.alloc (.cells #[.int .i64 0, .string ⟨#[]⟩, .int .i64 0, .int .i64 0, .slice none 0 0] 31)).heap.size = w.heap.size + 1 := World.size_alloc _ _
  have HP0 := Lib.hid (HP.out.later hb0)
  have HF0 := Lib.hid (Fr.of_below hb0 HB0.out)
  have HZ0 := Lib.hid hz0
  have HS0 := Lib.hid (show w.heap.size + 1 ≤ (w.alloc (.cells #[.int .i64 0, .string ⟨#[]⟩, .int .i64 0, .int .i64 0, .slice none 0 0] 31)).heap.size by rw [hs0]; omega)
  have c0 := HP0.out.c2
  clear hb0 hz0 hs0
  go_wp2_with (fail)
  clear c0
  generalize (w.alloc (.cells #[.int .i64 0, .string ⟨#[]⟩, .int .i64 0, .int .i64 0, .slice none 0 0] 31)) = w0 at *
  refine (accept_yes HP0.out h1).mono ?_
  rintro e w1 ⟨rfl, hp1, hf1⟩
  have HP1 := Lib.hid hp1
  clear hp1
  have HF1 := Lib.hid (HF0.out.trans hf1)
  have HZ1 := Lib.hid (HZ0.out.fr hf1)
  have HS1 := Lib.hid (Nat.le_trans HS0.out hf1.below.size)
  clear hf1 HF0 HZ0
  have c1 := HP1.out.c2
  go_wp2_with (fail)
  clear c1
  refine (typ_any HP1.out).mono ?_
  rintro e w2 ⟨n, rfl, hst2, hin2, hp2, hf2⟩
  have HP2 := Lib.hid hp2
  have HST_n := Lib.hid hst2
  have HIN_n_2 := Lib.hid (InF.mono hin2 HS1.out)
  clear hp2 hst2 hin2
  have HF2 := Lib.hid (HF1.out.trans hf2)
  have HZ2 := Lib.hid (HZ1.out.fr hf2)
  have HS2 := Lib.hid (Nat.le_trans HS1.out hf2.below.size)
  clear hf2 HF1 HZ1
  obtain ⟨z0, z1, z2, z3, z4⟩ := HZ2.out.cells
  have y0 := HZ2.out.frozen 0
  have y1 := HZ2.out.frozen 1
  have y2 := HZ2.out.frozen 2
  have y3 := HZ2.out.frozen 3
  have y4 := HZ2.out.frozen 4
  go_wp2_with (fail)
  obtain ⟨hV, hin, hp, hf⟩ := got_put (w := w) (w2 := w2) (n := n) HB0.out HZ2.out (Nat.le_refl _) HIN_n_2.out HP2.out HF2.out
  clear z0 z1 z2 z3 z4 y0 y1 y2 y3 y4
  dsimp only [putN] at hV hin hp hf
  generalize (((((w2.setCell ⟨w.heap.size, 0, none⟩ (.int .i64 n.kind)).setCell ⟨w.heap.size, 1, none⟩ (.string n.text)).setCell ⟨w.heap.size, 2, none⟩ (.int .i64 n.lo)).setCell ⟨w.heap.size, 3, none⟩ (.int .i64 n.hi)).setCell ⟨w.heap.size, 4, none⟩ (.slice n.A n.kids.length n.c)) = V at *
  have v0 := Lib.cell_of_heap hV 0
  have v1 := Lib.cell_of_heap hV 1
  have v2 := Lib.cell_of_heap hV 2
  have v3 := Lib.cell_of_heap hV 3
  have v4 := Lib.cell_of_heap hV 4
  exact bodyPost_ret (v := .agg #[.int .i64 n.kind, .string n.text, .int .i64 n.lo, .int .i64 n.hi, .slice n.A n.kids.length n.c]) (by simp [results, Tryd.results51, go_sem, v0, v1, v2, v3, v4]) rfl ⟨n, rfl, HST_n.out, hin, hp, hf⟩
set_option maxHeartbeats 4000000 in
set_option maxRecDepth 100000 in
theorem opt_no {B0 bp : Nat} {E : Env} {w : World} {p : St} (h : PIs B0 bp E w p)  (h1 : isW E p (⟨#[58]⟩ : ByteArray) = false) :
    Calls Tryd.prog 51 #[ptr bp] w fun e w' => Got B0 bp w.heap.size E w (mkN E p p.k 0 (⟨#[]⟩ : ByteArray) []) (p) e w' := by
  have HF := Lib.hid h.ok.1
  have HB0 := Lib.hid h.b0
  have HP := Lib.hid h
  clear h
  unfold ptr at *
  go_enter Tryd.func51, Tryd.ntmps51
  have hb0 := (Below.refl w.heap.size w).alloc (Nat.le_refl _) (.cells #[.int .i64 0, .string ⟨#[]⟩, .int .i64 0, .int .i64 0, .slice none 0 0] 31)
  have hz0 : ZB (w.alloc (.cells #[.int .i64 0, .string ⟨#[]⟩, .int .i64 0, .int .i64 0, .slice none 0 0] 31)) w.heap.size := heap_alloc_new w _
  have hs0 : (w.alloc (.cells #[.int .i64 0, .string ⟨#[]⟩, .int .i64 0, .int .i64 0, .slice none 0 0] 31)).heap.size = w.heap.size + 1 := World.size_alloc _ _
  have HP0 := Lib.hid (HP.out.later hb0)
  have HF0 := Lib.hid (Fr.of_below hb0 HB0.out)
  have HZ0 := Lib.hid hz0
  have HS0 := Lib.hid (show w.heap.size + 1 ≤ (w.alloc (.cells #[.int .i64 0, .string ⟨#[]⟩, .int .i64 0, .int .i64 0, .slice none 0 0] 31)).heap.size by rw [hs0]; omega)
  have c0 := HP0.out.c2
  clear hb0 hz0 hs0
  go_wp2_with (fail)
  clear c0
  generalize (w.alloc (.cells #[.int .i64 0, .string ⟨#[]⟩, .int .i64 0, .int .i64 0, .slice none 0 0] 31)) = w0 at *
  refine (accept_no HP0.out h1).mono ?_
  rintro e w1 ⟨rfl, hp1, hf1⟩
  have HP1 := Lib.hid hp1
  clear hp1
  have HF1 := Lib.hid (HF0.out.trans hf1)
  have HZ1 := Lib.hid (HZ0.out.fr hf1)
  have HS1 := Lib.hid (Nat.le_trans HS0.out hf1.below.size)
  clear hf1 HF0 HZ0
  have c1 := HP1.out.c2
  go_wp2_with (fail)
  clear c1
  refine (node_leaf HP1.out (w.heap.size + 1) p.k 0 (⟨#[]⟩ : ByteArray) (by first | exact HF.out | exact Nat.lt_of_succ_lt HF.out)).mono ?_
  rintro e w2 ⟨n, rfl, hst2, hin2, hp2, hf2⟩
  have HP2 := Lib.hid hp2
  have HST_n := Lib.hid hst2
  have HIN_n_2 := Lib.hid hin2
  clear hp2 hst2 hin2
  have HF2 := Lib.hid (HF1.out.trans hf2)
  have HZ2 := Lib.hid (HZ1.out.fr hf2)
  have HS2 := Lib.hid (Nat.le_trans HS1.out hf2.below.size)
  clear hf2 HF1 HZ1
  obtain ⟨z0, z1, z2, z3, z4⟩ := HZ2.out.cells
  have y0 := HZ2.out.frozen 0
  have y1 := HZ2.out.frozen 1
  have y2 := HZ2.out.frozen 2
  have y3 := HZ2.out.frozen 3
  have y4 := HZ2.out.frozen 4
  go_wp2_with (fail)
  obtain ⟨hV, hin, hp, hf⟩ := got_put (w := w) (w2 := w2) (n := n) HB0.out HZ2.out (Nat.le_refl _) HIN_n_2.out HP2.out HF2.out
  clear z0 z1 z2 z3 z4 y0 y1 y2 y3 y4
  dsimp only [putN] at hV hin hp hf
  generalize (((((w2.setCell ⟨w.heap.size, 0, none⟩ (.int .i64 n.kind)).setCell ⟨w.heap.size, 1, none⟩ (.string n.text)).setCell ⟨w.heap.size, 2, none⟩ (.int .i64 n.lo)).setCell ⟨w.heap.size, 3, none⟩ (.int .i64 n.hi)).setCell ⟨w.heap.size, 4, none⟩ (.slice n.A n.kids.length n.c)) = V at *
  have v0 := Lib.cell_of_heap hV 0
  have v1 := Lib.cell_of_heap hV 1
  have v2 := Lib.cell_of_heap hV 2
  have v3 := Lib.cell_of_heap hV 3
  have v4 := Lib.cell_of_heap hV 4
  exact bodyPost_ret (v := .agg #[.int .i64 n.kind, .string n.text, .int .i64 n.lo, .int .i64 n.hi, .slice n.A n.kids.length n.c]) (by simp [results, Tryd.results51, go_sem, v0, v1, v2, v3, v4]) rfl ⟨n, rfl, HST_n.out, hin, hp, hf⟩
theorem opt_any {B0 bp : Nat} {E : Env} {w : World} {p : St} (h : PIs B0 bp E w p) :
    Calls Tryd.prog 51 #[ptr bp] w fun e w' => Got B0 bp w.heap.size E w (opt E p).1 (opt E p).2 e w' := by
  unfold opt
  cases h1 : isW E p (⟨#[58]⟩ : ByteArray) with
  | true => exact opt_yes h h1
  | false => exact opt_no h h1
end Go.Proofs.YtnpcfmoiiecadaaDoor.Par
set_option linter.unusedVariables false
namespace Go.Proofs.YtnpcfmoiiecadaaDoor.Par
open Go.RowKit
open Lx (Tok)

/-- the cells of nodes -/
def ncl : List NT → List Value
  | [] => []
  | n :: ns => .int .i64 n.kind :: .string n.text :: .int .i64 n.lo :: .int .i64 n.hi :: .slice n.A n.kids.length n.c :: ncl ns
theorem ncl_append (l m : List NT) : ncl (l ++ m) = ncl l ++ ncl m := by
  induction l with
  | nil => rfl
  | cons x xs ih => simp [ncl, ih]
theorem ncl_len (l : List NT) : (ncl l).length = l.length * 5 := by
  induction l with
  | nil => rfl
  | cons x xs ih => simp [ncl, ih]; omega
theorem ncl_get (l : List NT) : ∀ (i : Nat) (h : i < l.length), (ncl l)[i * 5]? = some (.int .i64 l[i].kind) ∧ (ncl l)[i * 5 + 1]? = some (.string l[i].text) ∧ (ncl l)[i * 5 + 2]? = some (.int .i64 l[i].lo) ∧ (ncl l)[i * 5 + 3]? = some (.int .i64 l[i].hi) ∧ (ncl l)[i * 5 + 4]? = some (.slice l[i].A l[i].kids.length l[i].c) := by
  induction l with
  | nil => intro i h; simp at h
  | cons x xs ih =>
    intro i h
    cases i with
    | zero => simp [ncl]
    | succ i =>
      have := ih i (by simpa using h)
      rw [show (i + 1) * 5 = i * 5 + 1 + 1 + 1 + 1 + 1 from by omega]
      simpa [ncl, Nat.add_assoc] using this
theorem ncl_one (n : NT) : ∀ u ∈ ncl [n], u.oneCell' = true := by
  intro u hu
  simp [ncl] at hu
  rcases hu with rfl | rfl | rfl | rfl | rfl <;> rfl
theorem cell_at {w : World} {b : Nat} {cs : Array Value} {t : TypeId} {v : Value} (hb : w.heap[b]? = some (.cells cs t (0, 0))) (j : Nat) (hj : cs[j]? = some v) : w.cell? ⟨b, j, none⟩ = some v := by
  simp [World.cell?, hb, hj]
theorem kin_block {w : World} {b lo c : Nat} {ks : List NT} {cs : Array Value} (hb : w.heap[b]? = some (.cells cs 31 (0, 0))) (hc : ∀ j, j < (ncl ks).length → cs[j]? = (ncl ks)[j]?) (hlo : lo ≤ b) (hcap : ks.length ≤ c) (hk : ∀ k ∈ ks, InF lo w k) : KIn lo w (some ⟨b, 0, none⟩) c ks := by
  refine ⟨fun h0 => ⟨b, 0, rfl, ⟨⟨cs, _, hb⟩, hlo⟩, fun i hi => ?_⟩, hcap, hk⟩
  obtain ⟨h1, h2, h3, h4, h5⟩ := ncl_get ks i hi
  have hl := ncl_len ks
  have e : ∀ j v, (ncl ks)[j]? = some v → w.cell? ⟨b, 0 + j, none⟩ = some v := fun j v hv => by
    rw [Nat.zero_add]
    refine cell_at hb j ?_
    rw [hc j (by have := (List.getElem?_eq_some_iff.1 hv).1; exact this)]
    exact hv
  exact ⟨e _ _ h1, e _ _ h2, e _ _ h3, e _ _ h4, e _ _ h5⟩
/-- a variable that holds a node -/
def NV (w : World) (b : Nat) (n : NT) : Prop := w.heap[b]? = some (.cells #[.int .i64 n.kind, .string n.text, .int .i64 n.lo, .int .i64 n.hi, .slice n.A n.kids.length n.c] 31 (0, 0))
theorem NV.fr {B0 : Nat} {w w' : World} {b : Nat} {n : NT} (h : NV w b n) (f : Fr B0 w w') : NV w' b n := (NB.fr ⟨_, _, h⟩ f).trans h
theorem NV.cells {w : World} {b : Nat} {n : NT} (h : NV w b n) : w.cell? ⟨b, 0, none⟩ = some (.int .i64 n.kind) ∧ w.cell? ⟨b, 1, none⟩ = some (.string n.text) ∧ w.cell? ⟨b, 2, none⟩ = some (.int .i64 n.lo) ∧ w.cell? ⟨b, 3, none⟩ = some (.int .i64 n.hi) ∧ w.cell? ⟨b, 4, none⟩ = some (.slice n.A n.kids.length n.c) :=
  ⟨Lib.cell_of_heap h 0, Lib.cell_of_heap h 1, Lib.cell_of_heap h 2, Lib.cell_of_heap h 3, Lib.cell_of_heap h 4⟩
/-- what the functions that call each other must do -/
def ExOK (B0 bp : Nat) (E : Env) (R : Rec) : Prop := ∀ (lvl : Nat) (p : St) (w : World) (m : NT) (q : St), 1 ≤ lvl → lvl ≤ 7 → R.ex lvl p = some (m, q) → PIs B0 bp E w p →
  Calls Tryd.prog 70 #[.pointer (some ⟨bp, 0, none⟩), .int .i64 (lvl : Int)] w fun e w' => Got B0 bp w.heap.size E w m q e w'
def BlkOK (B0 bp : Nat) (E : Env) (R : Rec) : Prop := ∀ (p : St) (w : World) (m : NT) (q : St), R.blk p = some (m, q) → PIs B0 bp E w p →
  Calls Tryd.prog 52 #[.pointer (some ⟨bp, 0, none⟩)] w fun e w' => Got B0 bp w.heap.size E w m q e w'
def BrOK (B0 bp : Nat) (E : Env) (R : Rec) : Prop := ∀ (p : St) (w : World) (m : NT) (q : St), R.br p = some (m, q) → isW E p (⟨#[105, 102]⟩ : ByteArray) = true → PIs B0 bp E w p →
  Calls Tryd.prog 71 #[.pointer (some ⟨bp, 0, none⟩)] w fun e w' => Got B0 bp w.heap.size E w m q e w'
def StmOK (B0 bp : Nat) (E : Env) (R : Rec) : Prop := ∀ (p : St) (w : World) (m : NT) (q : St), R.stm p = some (m, q) → PIs B0 bp E w p →
  Calls Tryd.prog 65 #[.pointer (some ⟨bp, 0, none⟩)] w fun e w' => Got B0 bp w.heap.size E w m q e w'
end Go.Proofs.YtnpcfmoiiecadaaDoor.Par
