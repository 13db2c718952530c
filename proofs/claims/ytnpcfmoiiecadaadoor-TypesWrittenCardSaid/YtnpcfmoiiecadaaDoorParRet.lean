/- What is proved: the reference's parser: return; branch with else. -/
import Derived.Test.YtnpcfmoiiecadaaDoorParStm
import Derived.Test.YtnpcfmoiiecadaaDoorParStops
import Derived.Deep.Cut
set_option linter.unusedVariables false
namespace Go.Proofs.YtnpcfmoiiecadaaDoor.Par
open Go.RowKit
open Lx (Tok)

/-- a tree outside of a variable -/
def InG (lo bx : Nat) (w : World) (n : NT) : Prop := InS (fun b => (NB w b ∧ lo ≤ b) ∧ b ≠ bx) w n
theorem InG.fr {B0 lo bx : Nat} {w w' : World} {n : NT} (h : InG lo bx w n) (f : Fr B0 w w') : InG lo bx w' n :=
  InS.mono (fun b hb => ⟨⟨hb.1.1.of_eq (NB.fr hb.1.1 f), hb.1.2⟩, hb.2⟩) n (InS.keep (fun b hb => NB.fr hb.1.1 f) n h)
theorem InG.inF {lo bx : Nat} {w : World} {n : NT} (h : InG lo bx w n) : InF lo w n := InS.mono (fun b hb => hb.1) n h
theorem InG.of {B0 lo : Nat} {w w' : World} {n : NT} (h : InF lo w n) (f : Fr B0 w w') : InG lo w.heap.size w' n :=
  InG.fr (InS.mono (fun b hb => ⟨hb, Nat.ne_of_lt hb.1.lt⟩) n h) f
theorem InG.put {lo bx : Nat} {w : World} {n z : NT} (h : InG lo bx w n) : InG lo bx (putN w bx z) n :=
  InS.mono (fun b hb => ⟨⟨hb.1.1.of_eq (putN_far w z hb.2), hb.1.2⟩, hb.2⟩) n (InS.keep (fun b hb => putN_far w z hb.2) n h)
theorem NV.put {b bx : Nat} {w : World} {n z : NT} (h : NV w b n) (hb : b ≠ bx) : NV (putN w bx z) b n := (putN_far w z hb).trans h
theorem NV.lt {w : World} {b : Nat} {n : NT} (h : NV w b n) : b < w.heap.size := (Array.getElem?_eq_some_iff.1 h).1
theorem size_set (w : World) (p : Addr) (v : Value) : (w.setCell p v).heap.size = w.heap.size := by simp [World.setCell]
theorem primary_at {B0 bp : Nat} {E : Env} {w : World} {p : St} (h : PIs B0 bp E w p) {b : Bool} (hx : prim E p = b) :
    Calls Tryd.prog 72 #[.pointer (some ⟨bp, 0, none⟩)] w fun e w' => e = .returned (.bool b) ∧ Below w.heap.size w w' := by
  have := primary_any h; rw [hx] at this; exact this
theorem rd_kk (E : Env) (p : St) : (rd E p).k = p.k + 1 := rfl
set_option maxHeartbeats 4000000 in
set_option maxRecDepth 100000 in
theorem st_ret_a {B0 bp : Nat} {E : Env} {w : World} {p : St} (h : PIs B0 bp E w p) {R : Rec} (hex : ExOK B0 bp E R) (hbk : BlkOK B0 bp E R) (hbr : BrOK B0 bp E R)  (n0 : isW E p (⟨#[118, 97, 114]⟩ : ByteArray) = false) (n1 : isW E p (⟨#[105, 102]⟩ : ByteArray) = false) (n2 : isW E p (⟨#[119, 104, 105, 108, 101]⟩ : ByteArray) = false) (n3 : isW E p (⟨#[102, 111, 114]⟩ : ByteArray) = false) (h1 : isW E p (⟨#[114, 101, 116, 117, 114, 110]⟩ : ByteArray) = true) (c1 : prim E (rd E p) = true) (x1 : NT) (q1 : St) (hx : R.ex 1 (rd E p) = some (x1, q1)) :
    Calls Tryd.prog 65 #[ptr bp] w fun e w' => Got B0 bp w.heap.size E w (mkN E (exq E q1 (⟨#[59]⟩ : ByteArray)) p.k 17 (⟨#[]⟩ : ByteArray) [x1]) (exq E q1 (⟨#[59]⟩ : ByteArray)) e w' := by
  have HF := Lib.hid h.ok.1
  have HB0 := Lib.hid h.b0
  have HP := Lib.hid h
  clear h
  unfold ptr at *
  go_enter Tryd.func65, Tryd.ntmps65
  have hb0 := (Below.refl w.heap.size w).alloc (Nat.le_refl _) (.cells #[.int .i64 0, .string ⟨#[]⟩, .int .i64 0, .int .i64 0, .slice none 0 0] 31)
  have hz0 : ZB (w.alloc (.cells #[.int .i64 0, .string ⟨#[]⟩, .int .i64 0, .int .i64 0, .slice none 0 0] 31)) w.heap.size := heap_alloc_new w _
  have hs0 : (w.alloc (.cells #[.int .i64 0, .string ⟨#[]⟩, .int .i64 0, .int .i64 0, .slice none 0 0] 31)).heap.size = w.heap.size + 1 := World.size_alloc _ _
  have HP0 := Lib.hid (HP.out.later hb0)
  have HF0 := Lib.hid (Fr.of_below hb0 HB0.out)
  have HZ0 := Lib.hid hz0
  have HS0 := Lib.hid (show w.heap.size + 1 ≤ (w.alloc (.cells #[.int .i64 0, .string ⟨#[]⟩, .int .i64 0, .int .i64 0, .slice none 0 0] 31)).heap.size by rw [hs0]; omega)
  have c0 := HP0.out.c2
  clear hb0 hz0 hs0
  go_wp2_with (fail)
  clear c0
  generalize (w.alloc (.cells #[.int .i64 0, .string ⟨#[]⟩, .int .i64 0, .int .i64 0, .slice none 0 0] 31)) = w0 at *
  refine (accept_no HP0.out n0).mono ?_
  rintro e w1 ⟨rfl, hp1, hf1⟩
  have HP1 := Lib.hid hp1
  clear hp1
  have HF1 := Lib.hid (HF0.out.trans hf1)
  have HZ1 := Lib.hid (HZ0.out.fr hf1)
  have HS1 := Lib.hid (Nat.le_trans HS0.out hf1.below.size)
  clear HF0 HZ0
  clear hf1
  have c1 := HP1.out.c2
  go_wp2_with (fail)
  clear c1
  refine (is_at HP1.out n1).mono ?_
  rintro e w2 ⟨rfl, hb2⟩
  have hf2 := Fr.of_below hb2 HP1.out.b0
  have HP2 := Lib.hid (HP1.out.later hb2)
  clear hb2
  have HF2 := Lib.hid (HF1.out.trans hf2)
  have HZ2 := Lib.hid (HZ1.out.fr hf2)
  have HS2 := Lib.hid (Nat.le_trans HS1.out hf2.below.size)
  clear HF1 HZ1
  clear hf2
  have c2 := HP2.out.c2
  go_wp2_with (fail)
  clear c2
  refine (accept_no HP2.out n2).mono ?_
  rintro e w3 ⟨rfl, hp3, hf3⟩
  have HP3 := Lib.hid hp3
  clear hp3
  have HF3 := Lib.hid (HF2.out.trans hf3)
  have HZ3 := Lib.hid (HZ2.out.fr hf3)
  have HS3 := Lib.hid (Nat.le_trans HS2.out hf3.below.size)
  clear HF2 HZ2
  clear hf3
  have c3 := HP3.out.c2
  go_wp2_with (fail)
  clear c3
  refine (accept_no HP3.out n3).mono ?_
  rintro e w4 ⟨rfl, hp4, hf4⟩
  have HP4 := Lib.hid hp4
  clear hp4
  have HF4 := Lib.hid (HF3.out.trans hf4)
  have HZ4 := Lib.hid (HZ3.out.fr hf4)
  have HS4 := Lib.hid (Nat.le_trans HS3.out hf4.below.size)
  clear HF3 HZ3
  clear hf4
  have c4 := HP4.out.c2
  go_wp2_with (fail)
  clear c4
  refine (accept_yes HP4.out h1).mono ?_
  rintro e w5 ⟨rfl, hp5, hf5⟩
  have HP5 := Lib.hid hp5
  clear hp5
  have HF5 := Lib.hid (HF4.out.trans hf5)
  have HZ5 := Lib.hid (HZ4.out.fr hf5)
  have HS5 := Lib.hid (Nat.le_trans HS4.out hf5.below.size)
  clear HF4 HZ4
  clear hf5
  have c5 := HP5.out.c2
  go_wp2_with (fail)
  clear c5
  refine (node_leaf HP5.out (w.heap.size + 1) (rd E p).k 0 (⟨#[]⟩ : ByteArray) HP5.out.ok.1).mono ?_
  rintro e w6 ⟨z, rfl, hst6, hin6, hp6, hf6⟩
  have HP6 := Lib.hid hp6
  have HST_z := Lib.hid hst6
  have HIN_z_6 := Lib.hid hin6
  clear hp6 hst6 hin6
  have HF6 := Lib.hid (HF5.out.trans hf6)
  have HZ6 := Lib.hid (HZ5.out.fr hf6)
  have HS6 := Lib.hid (Nat.le_trans HS5.out hf6.below.size)
  clear HF5 HZ5
  clear hf6
  have c6 := HP6.out.c2
  have cA := (HP6.out.later ((Below.refl w6.heap.size w6).alloc (by simp) (.cells #[.int .i64 z.kind, .string z.text, .int .i64 z.lo, .int .i64 z.hi, .slice z.A z.kids.length z.c] 31))).c2
  go_wp2_with (fail)
  clear c6 cA
  have hbA : Below w6.heap.size w6 (w6.alloc (.cells #[.int .i64 z.kind, .string z.text, .int .i64 z.lo, .int .i64 z.hi, .slice z.A z.kids.length z.c] 31)) := ((Below.refl w6.heap.size w6).alloc (by simp) (.cells #[.int .i64 z.kind, .string z.text, .int .i64 z.lo, .int .i64 z.hi, .slice z.A z.kids.length z.c] 31))
  have hnb0 : (w6.alloc (.cells #[.int .i64 z.kind, .string z.text, .int .i64 z.lo, .int .i64 z.hi, .slice z.A z.kids.length z.c] 31)).heap[w6.heap.size]? = some (.cells #[.int .i64 z.kind, .string z.text, .int .i64 z.lo, .int .i64 z.hi, .slice z.A z.kids.length z.c] 31 (0, 0)) := by
    have hx := heap_alloc_new w6 (.cells #[.int .i64 z.kind, .string z.text, .int .i64 z.lo, .int .i64 z.hi, .slice z.A z.kids.length z.c] 31)
    exact hx
  have HP7 := Lib.hid (HP6.out.later hbA)
  have hf7 := Fr.of_below hbA HP6.out.b0
  have HNV_z_7 := Lib.hid (show NV (w6.alloc (.cells #[.int .i64 z.kind, .string z.text, .int .i64 z.lo, .int .i64 z.hi, .slice z.A z.kids.length z.c] 31)) (w6.heap.size) z from hnb0)
  have HSZ_z := Lib.hid (show w.heap.size + 1 ≤ w6.heap.size from HS6.out)
  have HF7 := Lib.hid (HF6.out.trans hf7)
  have HZ7 := Lib.hid (HZ6.out.fr hf7)
  have HS7 := Lib.hid (Nat.le_trans HS6.out hf7.below.size)
  have HIN_z_7 := Lib.hid (HIN_z_6.out.fr hf7)
  clear HF6 HZ6 HIN_z_6
  clear hbA hf7 hnb0
  generalize (w6.alloc (.cells #[.int .i64 z.kind, .string z.text, .int .i64 z.lo, .int .i64 z.hi, .slice z.A z.kids.length z.c] 31)) = w7 at *
  refine (primary_at HP7.out c1).mono ?_
  rintro e w8 ⟨rfl, hb8⟩
  have hf8 := Fr.of_below hb8 HP7.out.b0
  have HP8 := Lib.hid (HP7.out.later hb8)
  clear hb8
  have HF8 := Lib.hid (HF7.out.trans hf8)
  have HZ8 := Lib.hid (HZ7.out.fr hf8)
  have HS8 := Lib.hid (Nat.le_trans HS7.out hf8.below.size)
  have HIN_z_8 := Lib.hid (HIN_z_7.out.fr hf8)
  have HNV_z_8 := Lib.hid (HNV_z_7.out.fr hf8)
  clear HF7 HZ7 HIN_z_7 HNV_z_7
  clear hf8
  have c8 := HP8.out.c2
  obtain ⟨b0_z, b1_z, b2_z, b3_z, b4_z⟩ := HNV_z_8.out.cells
  go_wp2_with (fail)
  clear b0_z b1_z b2_z b3_z b4_z
  clear c8
  refine (hex 1 _ _ _ _ (by decide) (by decide) hx HP8.out).mono ?_
  rintro e wp ⟨x, rfl, hst9, hin9, hpp, hfp⟩
  have HST_x := Lib.hid hst9
  have hlt9 := NV.lt HNV_z_8.out
  have hzz : InG (w.heap.size + 1) (w6.heap.size) wp x := InS.mono (fun b hb => ⟨⟨hb.1, Nat.le_trans HS8.out hb.2⟩, by have := hb.2; omega⟩) x hin9
  have hnp := HNV_z_8.out.fr hfp
  obtain ⟨hnV, hiV, hpV, hfV, hzV⟩ := box_put (z := x) HB0.out (by have := HS0.out; have := HSZ_z.out; omega) hnp hzz hpp (HF8.out.trans hfp) (HZ8.out.fr hfp)
  have HS9 := Lib.hid (show w.heap.size + 1 ≤ (putN wp (w6.heap.size) x).heap.size from by have h1 := HS8.out; have h2 := hfp.below.size; simp only [putN, size_set]; omega)
  have g0 := Lib.cell_of_heap hnp 0
  have g1 := Lib.cell_of_heap hnp 1
  have g2 := Lib.cell_of_heap hnp 2
  have g3 := Lib.cell_of_heap hnp 3
  have g4 := Lib.cell_of_heap hnp 4
  have y0 := hfrz hnp 0
  have y1 := hfrz hnp 1
  have y2 := hfrz hnp 2
  have y3 := hfrz hnp 3
  have y4 := hfrz hnp 4
  have HNVX := Lib.hid hnV
  have HIVX := Lib.hid hiV
  have HPVX := Lib.hid hpV
  have HFVX := Lib.hid hfV
  have HZVX := Lib.hid hzV
  clear hst9 hin9 hpp hfp hlt9 hzz hnp hnV hiV hpV hfV hzV HF8 HZ8 HIN_z_8 HNV_z_8
  dsimp only [putN] at *
  go_upto_region 27 with fail
  clear g0 g1 g2 g3 g4 y0 y1 y2 y3 y4
  generalize (((((wp.setCell ⟨w6.heap.size, 0, none⟩ (.int .i64 x.kind)).setCell ⟨w6.heap.size, 1, none⟩ (.string x.text)).setCell ⟨w6.heap.size, 2, none⟩ (.int .i64 x.lo)).setCell ⟨w6.heap.size, 3, none⟩ (.int .i64 x.hi)).setCell ⟨w6.heap.size, 4, none⟩ (.slice x.A x.kids.length x.c)) = w9 at *
  have HNV_x_9 := HNVX
  have HIN_x_9 := Lib.hid (InG.inF HIVX.out)
  have HP9 := HPVX
  have HF9 := HFVX
  have HZ9 := HZVX
  clear HNVX HIVX HPVX HFVX HZVX
  have c9 := HP9.out.c2
  obtain ⟨b0_x, b1_x, b2_x, b3_x, b4_x⟩ := HNV_x_9.out.cells
  go_wp2_with (fail)
  clear b0_x b1_x b2_x b3_x b4_x
  clear c9
  refine (expect_any HP9.out (⟨#[59]⟩ : ByteArray)).mono ?_
  rintro e w10 ⟨rfl, hp10, hf10⟩
  have HP10 := Lib.hid hp10
  clear hp10
  have HF10 := Lib.hid (HF9.out.trans hf10)
  have HZ10 := Lib.hid (HZ9.out.fr hf10)
  have HS10 := Lib.hid (Nat.le_trans HS9.out hf10.below.size)
  have HIN_x_10 := Lib.hid (HIN_x_9.out.fr hf10)
  have HNV_x_10 := Lib.hid (HNV_x_9.out.fr hf10)
  clear HF9 HZ9 HIN_x_9 HNV_x_9
  clear hf10
  have c10 := HP10.out.c2
  obtain ⟨b0_x, b1_x, b2_x, b3_x, b4_x⟩ := HNV_x_10.out.cells
  go_wp2_with (fail)
  clear b0_x b1_x b2_x b3_x b4_x
  clear c10
  have hbA : Below w10.heap.size w10 (w10.alloc (.cells #[.int .i64 x.kind, .string x.text, .int .i64 x.lo, .int .i64 x.hi, .slice x.A x.kids.length x.c] 31)) := ((Below.refl w10.heap.size w10).alloc (by simp) (.cells #[.int .i64 x.kind, .string x.text, .int .i64 x.lo, .int .i64 x.hi, .slice x.A x.kids.length x.c] 31))
  have hnb0 : (w10.alloc (.cells #[.int .i64 x.kind, .string x.text, .int .i64 x.lo, .int .i64 x.hi, .slice x.A x.kids.length x.c] 31)).heap[w10.heap.size]? = some (.cells #[.int .i64 x.kind, .string x.text, .int .i64 x.lo, .int .i64 x.hi, .slice x.A x.kids.length x.c] 31 (0, 0)) := by
    have hx := heap_alloc_new w10 (.cells #[.int .i64 x.kind, .string x.text, .int .i64 x.lo, .int .i64 x.hi, .slice x.A x.kids.length x.c] 31)
    exact hx
  have HP11 := Lib.hid (HP10.out.later hbA)
  have hf11 := Fr.of_below hbA HP10.out.b0
  have HK_11 := Lib.hid (kin_block (lo := w.heap.size + 1) (c := 1) (ks := [x]) hnb0 (fun j _ => by simp [ncl]) (by have := HS10.out; omega) (Nat.le_refl _) (fun k hk => by
    simp only [List.mem_cons, List.not_mem_nil, or_false] at hk
    subst hk; exact HIN_x_10.out.fr hf11))
  have HF11 := Lib.hid (HF10.out.trans hf11)
  have HZ11 := Lib.hid (HZ10.out.fr hf11)
  have HS11 := Lib.hid (Nat.le_trans HS10.out hf11.below.size)
  have HIN_x_11 := Lib.hid (HIN_x_10.out.fr hf11)
  have HNV_x_11 := Lib.hid (HNV_x_10.out.fr hf11)
  clear HF10 HZ10 HIN_x_10 HNV_x_10
  clear hbA hf11 hnb0
  generalize (w10.alloc (.cells #[.int .i64 x.kind, .string x.text, .int .i64 x.lo, .int .i64 x.hi, .slice x.A x.kids.length x.c] 31)) = w11 at *
  refine (node_kids HP11.out p.k 17 (⟨#[]⟩ : ByteArray) _ 1 [x] [x1] HF.out HK_11.out (by simp only [List.map_cons, List.map_nil, HST_x.out])).mono ?_
  rintro e w12 ⟨m, rfl, hst12, hin12, hp12, hf12⟩
  have HP12 := Lib.hid hp12
  have HST_m := Lib.hid hst12
  have HIN_m_12 := Lib.hid hin12
  clear hp12 hst12 hin12
  have HF12 := Lib.hid (HF11.out.trans hf12)
  have HZ12 := Lib.hid (HZ11.out.fr hf12)
  have HS12 := Lib.hid (Nat.le_trans HS11.out hf12.below.size)
  have HIN_x_12 := Lib.hid (HIN_x_11.out.fr hf12)
  have HNV_x_12 := Lib.hid (HNV_x_11.out.fr hf12)
  clear HF11 HZ11 HIN_x_11 HNV_x_11
  clear hf12
  obtain ⟨z0, z1, z2, z3, z4⟩ := HZ12.out.cells
  have y0 := HZ12.out.frozen 0
  have y1 := HZ12.out.frozen 1
  have y2 := HZ12.out.frozen 2
  have y3 := HZ12.out.frozen 3
  have y4 := HZ12.out.frozen 4
  obtain ⟨b0_x, b1_x, b2_x, b3_x, b4_x⟩ := HNV_x_12.out.cells
  go_wp2_with (fail)
  clear b0_x b1_x b2_x b3_x b4_x
  obtain ⟨hV, hin, hp, hf⟩ := got_put (w := w) (w2 := w12) (n := m) HB0.out HZ12.out (Nat.le_refl _) HIN_m_12.out HP12.out HF12.out
  clear z0 z1 z2 z3 z4 y0 y1 y2 y3 y4
  dsimp only [putN] at hV hin hp hf
  generalize (((((w12.setCell ⟨w.heap.size, 0, none⟩ (.int .i64 m.kind)).setCell ⟨w.heap.size, 1, none⟩ (.string m.text)).setCell ⟨w.heap.size, 2, none⟩ (.int .i64 m.lo)).setCell ⟨w.heap.size, 3, none⟩ (.int .i64 m.hi)).setCell ⟨w.heap.size, 4, none⟩ (.slice m.A m.kids.length m.c)) = V at *
  have v0 := Lib.cell_of_heap hV 0
  have v1 := Lib.cell_of_heap hV 1
  have v2 := Lib.cell_of_heap hV 2
  have v3 := Lib.cell_of_heap hV 3
  have v4 := Lib.cell_of_heap hV 4
  exact bodyPost_ret (v := .agg #[.int .i64 m.kind, .string m.text, .int .i64 m.lo, .int .i64 m.hi, .slice m.A m.kids.length m.c]) (by simp [results, Tryd.results65, go_sem, v0, v1, v2, v3, v4]) rfl ⟨m, rfl, HST_m.out, hin, hp, hf⟩
set_option maxHeartbeats 4000000 in
set_option maxRecDepth 100000 in
theorem st_ret_b {B0 bp : Nat} {E : Env} {w : World} {p : St} (h : PIs B0 bp E w p) {R : Rec} (hex : ExOK B0 bp E R) (hbk : BlkOK B0 bp E R) (hbr : BrOK B0 bp E R)  (n0 : isW E p (⟨#[118, 97, 114]⟩ : ByteArray) = false) (n1 : isW E p (⟨#[105, 102]⟩ : ByteArray) = false) (n2 : isW E p (⟨#[119, 104, 105, 108, 101]⟩ : ByteArray) = false) (n3 : isW E p (⟨#[102, 111, 114]⟩ : ByteArray) = false) (h1 : isW E p (⟨#[114, 101, 116, 117, 114, 110]⟩ : ByteArray) = true) (c1 : prim E (rd E p) = false) (c2 : isW E (rd E p) (⟨#[110, 111, 116]⟩ : ByteArray) = true) (x1 : NT) (q1 : St) (hx : R.ex 1 (rd E p) = some (x1, q1)) :
    Calls Tryd.prog 65 #[ptr bp] w fun e w' => Got B0 bp w.heap.size E w (mkN E (exq E q1 (⟨#[59]⟩ : ByteArray)) p.k 17 (⟨#[]⟩ : ByteArray) [x1]) (exq E q1 (⟨#[59]⟩ : ByteArray)) e w' := by
  have HF := Lib.hid h.ok.1
  have HB0 := Lib.hid h.b0
  have HP := Lib.hid h
  clear h
  unfold ptr at *
  go_enter Tryd.func65, Tryd.ntmps65
  have hb0 := (Below.refl w.heap.size w).alloc (Nat.le_refl _) (.cells #[.int .i64 0, .string ⟨#[]⟩, .int .i64 0, .int .i64 0, .slice none 0 0] 31)
  have hz0 : ZB (w.alloc (.cells #[.int .i64 0, .string ⟨#[]⟩, .int .i64 0, .int .i64 0, .slice none 0 0] 31)) w.heap.size := heap_alloc_new w _
  have hs0 : (w.alloc (.cells #[.int .i64 0, .string ⟨#[]⟩, .int .i64 0, .int .i64 0, .slice none 0 0] 31)).heap.size = w.heap.size + 1 := World.size_alloc _ _
  have HP0 := Lib.hid (HP.out.later hb0)
  have HF0 := Lib.hid (Fr.of_below hb0 HB0.out)
  have HZ0 := Lib.hid hz0
  have HS0 := Lib.hid (show w.heap.size + 1 ≤ (w.alloc (.cells #[.int .i64 0, .string ⟨#[]⟩, .int .i64 0, .int .i64 0, .slice none 0 0] 31)).heap.size by rw [hs0]; omega)
  have c0 := HP0.out.c2
  clear hb0 hz0 hs0
  go_wp2_with (fail)
  clear c0
  generalize (w.alloc (.cells #[.int .i64 0, .string ⟨#[]⟩, .int .i64 0, .int .i64 0, .slice none 0 0] 31)) = w0 at *
  refine (accept_no HP0.out n0).mono ?_
  rintro e w1 ⟨rfl, hp1, hf1⟩
  have HP1 := Lib.hid hp1
  clear hp1
  have HF1 := Lib.hid (HF0.out.trans hf1)
  have HZ1 := Lib.hid (HZ0.out.fr hf1)
  have HS1 := Lib.hid (Nat.le_trans HS0.out hf1.below.size)
  clear HF0 HZ0
  clear hf1
  have c1 := HP1.out.c2
  go_wp2_with (fail)
  clear c1
  refine (is_at HP1.out n1).mono ?_
  rintro e w2 ⟨rfl, hb2⟩
  have hf2 := Fr.of_below hb2 HP1.out.b0
  have HP2 := Lib.hid (HP1.out.later hb2)
  clear hb2
  have HF2 := Lib.hid (HF1.out.trans hf2)
  have HZ2 := Lib.hid (HZ1.out.fr hf2)
  have HS2 := Lib.hid (Nat.le_trans HS1.out hf2.below.size)
  clear HF1 HZ1
  clear hf2
  have c2 := HP2.out.c2
  go_wp2_with (fail)
  clear c2
  refine (accept_no HP2.out n2).mono ?_
  rintro e w3 ⟨rfl, hp3, hf3⟩
  have HP3 := Lib.hid hp3
  clear hp3
  have HF3 := Lib.hid (HF2.out.trans hf3)
  have HZ3 := Lib.hid (HZ2.out.fr hf3)
  have HS3 := Lib.hid (Nat.le_trans HS2.out hf3.below.size)
  clear HF2 HZ2
  clear hf3
  have c3 := HP3.out.c2
  go_wp2_with (fail)
  clear c3
  refine (accept_no HP3.out n3).mono ?_
  rintro e w4 ⟨rfl, hp4, hf4⟩
  have HP4 := Lib.hid hp4
  clear hp4
  have HF4 := Lib.hid (HF3.out.trans hf4)
  have HZ4 := Lib.hid (HZ3.out.fr hf4)
  have HS4 := Lib.hid (Nat.le_trans HS3.out hf4.below.size)
  clear HF3 HZ3
  clear hf4
  have c4 := HP4.out.c2
  go_wp2_with (fail)
  clear c4
  refine (accept_yes HP4.out h1).mono ?_
  rintro e w5 ⟨rfl, hp5, hf5⟩
  have HP5 := Lib.hid hp5
  clear hp5
  have HF5 := Lib.hid (HF4.out.trans hf5)
  have HZ5 := Lib.hid (HZ4.out.fr hf5)
  have HS5 := Lib.hid (Nat.le_trans HS4.out hf5.below.size)
  clear HF4 HZ4
  clear hf5
  have c5 := HP5.out.c2
  go_wp2_with (fail)
  clear c5
  refine (node_leaf HP5.out (w.heap.size + 1) (rd E p).k 0 (⟨#[]⟩ : ByteArray) HP5.out.ok.1).mono ?_
  rintro e w6 ⟨z, rfl, hst6, hin6, hp6, hf6⟩
  have HP6 := Lib.hid hp6
  have HST_z := Lib.hid hst6
  have HIN_z_6 := Lib.hid hin6
  clear hp6 hst6 hin6
  have HF6 := Lib.hid (HF5.out.trans hf6)
  have HZ6 := Lib.hid (HZ5.out.fr hf6)
  have HS6 := Lib.hid (Nat.le_trans HS5.out hf6.below.size)
  clear HF5 HZ5
  clear hf6
  have c6 := HP6.out.c2
  have cA := (HP6.out.later ((Below.refl w6.heap.size w6).alloc (by simp) (.cells #[.int .i64 z.kind, .string z.text, .int .i64 z.lo, .int .i64 z.hi, .slice z.A z.kids.length z.c] 31))).c2
  go_wp2_with (fail)
  clear c6 cA
  have hbA : Below w6.heap.size w6 (w6.alloc (.cells #[.int .i64 z.kind, .string z.text, .int .i64 z.lo, .int .i64 z.hi, .slice z.A z.kids.length z.c] 31)) := ((Below.refl w6.heap.size w6).alloc (by simp) (.cells #[.int .i64 z.kind, .string z.text, .int .i64 z.lo, .int .i64 z.hi, .slice z.A z.kids.length z.c] 31))
  have hnb0 : (w6.alloc (.cells #[.int .i64 z.kind, .string z.text, .int .i64 z.lo, .int .i64 z.hi, .slice z.A z.kids.length z.c] 31)).heap[w6.heap.size]? = some (.cells #[.int .i64 z.kind, .string z.text, .int .i64 z.lo, .int .i64 z.hi, .slice z.A z.kids.length z.c] 31 (0, 0)) := by
    have hx := heap_alloc_new w6 (.cells #[.int .i64 z.kind, .string z.text, .int .i64 z.lo, .int .i64 z.hi, .slice z.A z.kids.length z.c] 31)
    exact hx
  have HP7 := Lib.hid (HP6.out.later hbA)
  have hf7 := Fr.of_below hbA HP6.out.b0
  have HNV_z_7 := Lib.hid (show NV (w6.alloc (.cells #[.int .i64 z.kind, .string z.text, .int .i64 z.lo, .int .i64 z.hi, .slice z.A z.kids.length z.c] 31)) (w6.heap.size) z from hnb0)
  have HSZ_z := Lib.hid (show w.heap.size + 1 ≤ w6.heap.size from HS6.out)
  have HF7 := Lib.hid (HF6.out.trans hf7)
  have HZ7 := Lib.hid (HZ6.out.fr hf7)
  have HS7 := Lib.hid (Nat.le_trans HS6.out hf7.below.size)
  have HIN_z_7 := Lib.hid (HIN_z_6.out.fr hf7)
  clear HF6 HZ6 HIN_z_6
  clear hbA hf7 hnb0
  generalize (w6.alloc (.cells #[.int .i64 z.kind, .string z.text, .int .i64 z.lo, .int .i64 z.hi, .slice z.A z.kids.length z.c] 31)) = w7 at *
  refine (primary_at HP7.out c1).mono ?_
  rintro e w8 ⟨rfl, hb8⟩
  have hf8 := Fr.of_below hb8 HP7.out.b0
  have HP8 := Lib.hid (HP7.out.later hb8)
  clear hb8
  have HF8 := Lib.hid (HF7.out.trans hf8)
  have HZ8 := Lib.hid (HZ7.out.fr hf8)
  have HS8 := Lib.hid (Nat.le_trans HS7.out hf8.below.size)
  have HIN_z_8 := Lib.hid (HIN_z_7.out.fr hf8)
  have HNV_z_8 := Lib.hid (HNV_z_7.out.fr hf8)
  clear HF7 HZ7 HIN_z_7 HNV_z_7
  clear hf8
  have c8 := HP8.out.c2
  obtain ⟨b0_z, b1_z, b2_z, b3_z, b4_z⟩ := HNV_z_8.out.cells
  go_wp2_with (fail)
  clear b0_z b1_z b2_z b3_z b4_z
  clear c8
  refine (is_at HP8.out c2).mono ?_
  rintro e w9 ⟨rfl, hb9⟩
  have hf9 := Fr.of_below hb9 HP8.out.b0
  have HP9 := Lib.hid (HP8.out.later hb9)
  clear hb9
  have HF9 := Lib.hid (HF8.out.trans hf9)
  have HZ9 := Lib.hid (HZ8.out.fr hf9)
  have HS9 := Lib.hid (Nat.le_trans HS8.out hf9.below.size)
  have HIN_z_9 := Lib.hid (HIN_z_8.out.fr hf9)
  have HNV_z_9 := Lib.hid (HNV_z_8.out.fr hf9)
  clear HF8 HZ8 HIN_z_8 HNV_z_8
  clear hf9
  have c9 := HP9.out.c2
  obtain ⟨b0_z, b1_z, b2_z, b3_z, b4_z⟩ := HNV_z_9.out.cells
  go_wp2_with (fail)
  clear b0_z b1_z b2_z b3_z b4_z
  clear c9
  refine (hex 1 _ _ _ _ (by decide) (by decide) hx HP9.out).mono ?_
  rintro e wp ⟨x, rfl, hst10, hin10, hpp, hfp⟩
  have HST_x := Lib.hid hst10
  have hlt10 := NV.lt HNV_z_9.out
  have hzz : InG (w.heap.size + 1) (w6.heap.size) wp x := InS.mono (fun b hb => ⟨⟨hb.1, Nat.le_trans HS9.out hb.2⟩, by have := hb.2; omega⟩) x hin10
  have hnp := HNV_z_9.out.fr hfp
  obtain ⟨hnV, hiV, hpV, hfV, hzV⟩ := box_put (z := x) HB0.out (by have := HS0.out; have := HSZ_z.out; omega) hnp hzz hpp (HF9.out.trans hfp) (HZ9.out.fr hfp)
  have HS10 := Lib.hid (show w.heap.size + 1 ≤ (putN wp (w6.heap.size) x).heap.size from by have h1 := HS9.out; have h2 := hfp.below.size; simp only [putN, size_set]; omega)
  have g0 := Lib.cell_of_heap hnp 0
  have g1 := Lib.cell_of_heap hnp 1
  have g2 := Lib.cell_of_heap hnp 2
  have g3 := Lib.cell_of_heap hnp 3
  have g4 := Lib.cell_of_heap hnp 4
  have y0 := hfrz hnp 0
  have y1 := hfrz hnp 1
  have y2 := hfrz hnp 2
  have y3 := hfrz hnp 3
  have y4 := hfrz hnp 4
  have HNVX := Lib.hid hnV
  have HIVX := Lib.hid hiV
  have HPVX := Lib.hid hpV
  have HFVX := Lib.hid hfV
  have HZVX := Lib.hid hzV
  clear hst10 hin10 hpp hfp hlt10 hzz hnp hnV hiV hpV hfV hzV HF9 HZ9 HIN_z_9 HNV_z_9
  dsimp only [putN] at *
  go_upto_region 27 with fail
  clear g0 g1 g2 g3 g4 y0 y1 y2 y3 y4
  generalize (((((wp.setCell ⟨w6.heap.size, 0, none⟩ (.int .i64 x.kind)).setCell ⟨w6.heap.size, 1, none⟩ (.string x.text)).setCell ⟨w6.heap.size, 2, none⟩ (.int .i64 x.lo)).setCell ⟨w6.heap.size, 3, none⟩ (.int .i64 x.hi)).setCell ⟨w6.heap.size, 4, none⟩ (.slice x.A x.kids.length x.c)) = w10 at *
  have HNV_x_10 := HNVX
  have HIN_x_10 := Lib.hid (InG.inF HIVX.out)
  have HP10 := HPVX
  have HF10 := HFVX
  have HZ10 := HZVX
  clear HNVX HIVX HPVX HFVX HZVX
  have c10 := HP10.out.c2
  obtain ⟨b0_x, b1_x, b2_x, b3_x, b4_x⟩ := HNV_x_10.out.cells
  go_wp2_with (fail)
  clear b0_x b1_x b2_x b3_x b4_x
  clear c10
  refine (expect_any HP10.out (⟨#[59]⟩ : ByteArray)).mono ?_
  rintro e w11 ⟨rfl, hp11, hf11⟩
  have HP11 := Lib.hid hp11
  clear hp11
  have HF11 := Lib.hid (HF10.out.trans hf11)
  have HZ11 := Lib.hid (HZ10.out.fr hf11)
  have HS11 := Lib.hid (Nat.le_trans HS10.out hf11.below.size)
  have HIN_x_11 := Lib.hid (HIN_x_10.out.fr hf11)
  have HNV_x_11 := Lib.hid (HNV_x_10.out.fr hf11)
  clear HF10 HZ10 HIN_x_10 HNV_x_10
  clear hf11
  have c11 := HP11.out.c2
  obtain ⟨b0_x, b1_x, b2_x, b3_x, b4_x⟩ := HNV_x_11.out.cells
  go_wp2_with (fail)
  clear b0_x b1_x b2_x b3_x b4_x
  clear c11
  have hbA : Below w11.heap.size w11 (w11.alloc (.cells #[.int .i64 x.kind, .string x.text, .int .i64 x.lo, .int .i64 x.hi, .slice x.A x.kids.length x.c] 31)) := ((Below.refl w11.heap.size w11).alloc (by simp) (.cells #[.int .i64 x.kind, .string x.text, .int .i64 x.lo, .int .i64 x.hi, .slice x.A x.kids.length x.c] 31))
  have hnb0 : (w11.alloc (.cells #[.int .i64 x.kind, .string x.text, .int .i64 x.lo, .int .i64 x.hi, .slice x.A x.kids.length x.c] 31)).heap[w11.heap.size]? = some (.cells #[.int .i64 x.kind, .string x.text, .int .i64 x.lo, .int .i64 x.hi, .slice x.A x.kids.length x.c] 31 (0, 0)) := by
    have hx := heap_alloc_new w11 (.cells #[.int .i64 x.kind, .string x.text, .int .i64 x.lo, .int .i64 x.hi, .slice x.A x.kids.length x.c] 31)
    exact hx
  have HP12 := Lib.hid (HP11.out.later hbA)
  have hf12 := Fr.of_below hbA HP11.out.b0
  have HK_12 := Lib.hid (kin_block (lo := w.heap.size + 1) (c := 1) (ks := [x]) hnb0 (fun j _ => by simp [ncl]) (by have := HS11.out; omega) (Nat.le_refl _) (fun k hk => by
    simp only [List.mem_cons, List.not_mem_nil, or_false] at hk
    subst hk; exact HIN_x_11.out.fr hf12))
  have HF12 := Lib.hid (HF11.out.trans hf12)
  have HZ12 := Lib.hid (HZ11.out.fr hf12)
  have HS12 := Lib.hid (Nat.le_trans HS11.out hf12.below.size)
  have HIN_x_12 := Lib.hid (HIN_x_11.out.fr hf12)
  have HNV_x_12 := Lib.hid (HNV_x_11.out.fr hf12)
  clear HF11 HZ11 HIN_x_11 HNV_x_11
  clear hbA hf12 hnb0
  generalize (w11.alloc (.cells #[.int .i64 x.kind, .string x.text, .int .i64 x.lo, .int .i64 x.hi, .slice x.A x.kids.length x.c] 31)) = w12 at *
  refine (node_kids HP12.out p.k 17 (⟨#[]⟩ : ByteArray) _ 1 [x] [x1] HF.out HK_12.out (by simp only [List.map_cons, List.map_nil, HST_x.out])).mono ?_
  rintro e w13 ⟨m, rfl, hst13, hin13, hp13, hf13⟩
  have HP13 := Lib.hid hp13
  have HST_m := Lib.hid hst13
  have HIN_m_13 := Lib.hid hin13
  clear hp13 hst13 hin13
  have HF13 := Lib.hid (HF12.out.trans hf13)
  have HZ13 := Lib.hid (HZ12.out.fr hf13)
  have HS13 := Lib.hid (Nat.le_trans HS12.out hf13.below.size)
  have HIN_x_13 := Lib.hid (HIN_x_12.out.fr hf13)
  have HNV_x_13 := Lib.hid (HNV_x_12.out.fr hf13)
  clear HF12 HZ12 HIN_x_12 HNV_x_12
  clear hf13
  obtain ⟨z0, z1, z2, z3, z4⟩ := HZ13.out.cells
  have y0 := HZ13.out.frozen 0
  have y1 := HZ13.out.frozen 1
  have y2 := HZ13.out.frozen 2
  have y3 := HZ13.out.frozen 3
  have y4 := HZ13.out.frozen 4
  obtain ⟨b0_x, b1_x, b2_x, b3_x, b4_x⟩ := HNV_x_13.out.cells
  go_wp2_with (fail)
  clear b0_x b1_x b2_x b3_x b4_x
  obtain ⟨hV, hin, hp, hf⟩ := got_put (w := w) (w2 := w13) (n := m) HB0.out HZ13.out (Nat.le_refl _) HIN_m_13.out HP13.out HF13.out
  clear z0 z1 z2 z3 z4 y0 y1 y2 y3 y4
  dsimp only [putN] at hV hin hp hf
  generalize (((((w13.setCell ⟨w.heap.size, 0, none⟩ (.int .i64 m.kind)).setCell ⟨w.heap.size, 1, none⟩ (.string m.text)).setCell ⟨w.heap.size, 2, none⟩ (.int .i64 m.lo)).setCell ⟨w.heap.size, 3, none⟩ (.int .i64 m.hi)).setCell ⟨w.heap.size, 4, none⟩ (.slice m.A m.kids.length m.c)) = V at *
  have v0 := Lib.cell_of_heap hV 0
  have v1 := Lib.cell_of_heap hV 1
  have v2 := Lib.cell_of_heap hV 2
  have v3 := Lib.cell_of_heap hV 3
  have v4 := Lib.cell_of_heap hV 4
  exact bodyPost_ret (v := .agg #[.int .i64 m.kind, .string m.text, .int .i64 m.lo, .int .i64 m.hi, .slice m.A m.kids.length m.c]) (by simp [results, Tryd.results65, go_sem, v0, v1, v2, v3, v4]) rfl ⟨m, rfl, HST_m.out, hin, hp, hf⟩
set_option maxHeartbeats 4000000 in
set_option maxRecDepth 100000 in
theorem st_ret_c {B0 bp : Nat} {E : Env} {w : World} {p : St} (h : PIs B0 bp E w p) {R : Rec} (hex : ExOK B0 bp E R) (hbk : BlkOK B0 bp E R) (hbr : BrOK B0 bp E R)  (n0 : isW E p (⟨#[118, 97, 114]⟩ : ByteArray) = false) (n1 : isW E p (⟨#[105, 102]⟩ : ByteArray) = false) (n2 : isW E p (⟨#[119, 104, 105, 108, 101]⟩ : ByteArray) = false) (n3 : isW E p (⟨#[102, 111, 114]⟩ : ByteArray) = false) (h1 : isW E p (⟨#[114, 101, 116, 117, 114, 110]⟩ : ByteArray) = true) (c1 : prim E (rd E p) = false) (c2 : isW E (rd E p) (⟨#[110, 111, 116]⟩ : ByteArray) = false) (c3 : isW E (rd E p) (⟨#[45]⟩ : ByteArray) = true) (x1 : NT) (q1 : St) (hx : R.ex 1 (rd E p) = some (x1, q1)) :
    Calls Tryd.prog 65 #[ptr bp] w fun e w' => Got B0 bp w.heap.size E w (mkN E (exq E q1 (⟨#[59]⟩ : ByteArray)) p.k 17 (⟨#[]⟩ : ByteArray) [x1]) (exq E q1 (⟨#[59]⟩ : ByteArray)) e w' := by
  have HF := Lib.hid h.ok.1
  have HB0 := Lib.hid h.b0
  have HP := Lib.hid h
  clear h
  unfold ptr at *
  go_enter Tryd.func65, Tryd.ntmps65
  have hb0 := (Below.refl w.heap.size w).alloc (Nat.le_refl _) (.cells #[.int .i64 0, .string ⟨#[]⟩, .int .i64 0, .int .i64 0, .slice none 0 0] 31)
  have hz0 : ZB (w.alloc (.cells #[.int .i64 0, .string ⟨#[]⟩, .int .i64 0, .int .i64 0, .slice none 0 0] 31)) w.heap.size := heap_alloc_new w _
  have hs0 : (w.alloc (.cells #[.int .i64 0, .string ⟨#[]⟩, .int .i64 0, .int .i64 0, .slice none 0 0] 31)).heap.size = w.heap.size + 1 := World.size_alloc _ _
  have HP0 := Lib.hid (HP.out.later hb0)
  have HF0 := Lib.hid (Fr.of_below hb0 HB0.out)
  have HZ0 := Lib.hid hz0
  have HS0 := Lib.hid (show w.heap.size + 1 ≤ (w.alloc (.cells #[.int .i64 0, .string ⟨#[]⟩, .int .i64 0, .int .i64 0, .slice none 0 0] 31)).heap.size by rw [hs0]; omega)
  have c0 := HP0.out.c2
  clear hb0 hz0 hs0
  go_wp2_with (fail)
  clear c0
  generalize (w.alloc (.cells #[.int .i64 0, .string ⟨#[]⟩, .int .i64 0, .int .i64 0, .slice none 0 0] 31)) = w0 at *
  refine (accept_no HP0.out n0).mono ?_
  rintro e w1 ⟨rfl, hp1, hf1⟩
  have HP1 := Lib.hid hp1
  clear hp1
  have HF1 := Lib.hid (HF0.out.trans hf1)
  have HZ1 := Lib.hid (HZ0.out.fr hf1)
  have HS1 := Lib.hid (Nat.le_trans HS0.out hf1.below.size)
  clear HF0 HZ0
  clear hf1
  have c1 := HP1.out.c2
  go_wp2_with (fail)
  clear c1
  refine (is_at HP1.out n1).mono ?_
  rintro e w2 ⟨rfl, hb2⟩
  have hf2 := Fr.of_below hb2 HP1.out.b0
  have HP2 := Lib.hid (HP1.out.later hb2)
  clear hb2
  have HF2 := Lib.hid (HF1.out.trans hf2)
  have HZ2 := Lib.hid (HZ1.out.fr hf2)
  have HS2 := Lib.hid (Nat.le_trans HS1.out hf2.below.size)
  clear HF1 HZ1
  clear hf2
  have c2 := HP2.out.c2
  go_wp2_with (fail)
  clear c2
  refine (accept_no HP2.out n2).mono ?_
  rintro e w3 ⟨rfl, hp3, hf3⟩
  have HP3 := Lib.hid hp3
  clear hp3
  have HF3 := Lib.hid (HF2.out.trans hf3)
  have HZ3 := Lib.hid (HZ2.out.fr hf3)
  have HS3 := Lib.hid (Nat.le_trans HS2.out hf3.below.size)
  clear HF2 HZ2
  clear hf3
  have c3 := HP3.out.c2
  go_wp2_with (fail)
  clear c3
  refine (accept_no HP3.out n3).mono ?_
  rintro e w4 ⟨rfl, hp4, hf4⟩
  have HP4 := Lib.hid hp4
  clear hp4
  have HF4 := Lib.hid (HF3.out.trans hf4)
  have HZ4 := Lib.hid (HZ3.out.fr hf4)
  have HS4 := Lib.hid (Nat.le_trans HS3.out hf4.below.size)
  clear HF3 HZ3
  clear hf4
  have c4 := HP4.out.c2
  go_wp2_with (fail)
  clear c4
  refine (accept_yes HP4.out h1).mono ?_
  rintro e w5 ⟨rfl, hp5, hf5⟩
  have HP5 := Lib.hid hp5
  clear hp5
  have HF5 := Lib.hid (HF4.out.trans hf5)
  have HZ5 := Lib.hid (HZ4.out.fr hf5)
  have HS5 := Lib.hid (Nat.le_trans HS4.out hf5.below.size)
  clear HF4 HZ4
  clear hf5
  have c5 := HP5.out.c2
  go_wp2_with (fail)
  clear c5
  refine (node_leaf HP5.out (w.heap.size + 1) (rd E p).k 0 (⟨#[]⟩ : ByteArray) HP5.out.ok.1).mono ?_
  rintro e w6 ⟨z, rfl, hst6, hin6, hp6, hf6⟩
  have HP6 := Lib.hid hp6
  have HST_z := Lib.hid hst6
  have HIN_z_6 := Lib.hid hin6
  clear hp6 hst6 hin6
  have HF6 := Lib.hid (HF5.out.trans hf6)
  have HZ6 := Lib.hid (HZ5.out.fr hf6)
  have HS6 := Lib.hid (Nat.le_trans HS5.out hf6.below.size)
  clear HF5 HZ5
  clear hf6
  have c6 := HP6.out.c2
  have cA := (HP6.out.later ((Below.refl w6.heap.size w6).alloc (by simp) (.cells #[.int .i64 z.kind, .string z.text, .int .i64 z.lo, .int .i64 z.hi, .slice z.A z.kids.length z.c] 31))).c2
  go_wp2_with (fail)
  clear c6 cA
  have hbA : Below w6.heap.size w6 (w6.alloc (.cells #[.int .i64 z.kind, .string z.text, .int .i64 z.lo, .int .i64 z.hi, .slice z.A z.kids.length z.c] 31)) := ((Below.refl w6.heap.size w6).alloc (by simp) (.cells #[.int .i64 z.kind, .string z.text, .int .i64 z.lo, .int .i64 z.hi, .slice z.A z.kids.length z.c] 31))
  have hnb0 : (w6.alloc (.cells #[.int .i64 z.kind, .string z.text, .int .i64 z.lo, .int .i64 z.hi, .slice z.A z.kids.length z.c] 31)).heap[w6.heap.size]? = some (.cells #[.int .i64 z.kind, .string z.text, .int .i64 z.lo, .int .i64 z.hi, .slice z.A z.kids.length z.c] 31 (0, 0)) := by
    have hx := heap_alloc_new w6 (.cells #[.int .i64 z.kind, .string z.text, .int .i64 z.lo, .int .i64 z.hi, .slice z.A z.kids.length z.c] 31)
    exact hx
  have HP7 := Lib.hid (HP6.out.later hbA)
  have hf7 := Fr.of_below hbA HP6.out.b0
  have HNV_z_7 := Lib.hid (show NV (w6.alloc (.cells #[.int .i64 z.kind, .string z.text, .int .i64 z.lo, .int .i64 z.hi, .slice z.A z.kids.length z.c] 31)) (w6.heap.size) z from hnb0)
  have HSZ_z := Lib.hid (show w.heap.size + 1 ≤ w6.heap.size from HS6.out)
  have HF7 := Lib.hid (HF6.out.trans hf7)
  have HZ7 := Lib.hid (HZ6.out.fr hf7)
  have HS7 := Lib.hid (Nat.le_trans HS6.out hf7.below.size)
  have HIN_z_7 := Lib.hid (HIN_z_6.out.fr hf7)
  clear HF6 HZ6 HIN_z_6
  clear hbA hf7 hnb0
  generalize (w6.alloc (.cells #[.int .i64 z.kind, .string z.text, .int .i64 z.lo, .int .i64 z.hi, .slice z.A z.kids.length z.c] 31)) = w7 at *
  refine (primary_at HP7.out c1).mono ?_
  rintro e w8 ⟨rfl, hb8⟩
  have hf8 := Fr.of_below hb8 HP7.out.b0
  have HP8 := Lib.hid (HP7.out.later hb8)
  clear hb8
  have HF8 := Lib.hid (HF7.out.trans hf8)
  have HZ8 := Lib.hid (HZ7.out.fr hf8)
  have HS8 := Lib.hid (Nat.le_trans HS7.out hf8.below.size)
  have HIN_z_8 := Lib.hid (HIN_z_7.out.fr hf8)
  have HNV_z_8 := Lib.hid (HNV_z_7.out.fr hf8)
  clear HF7 HZ7 HIN_z_7 HNV_z_7
  clear hf8
  have c8 := HP8.out.c2
  obtain ⟨b0_z, b1_z, b2_z, b3_z, b4_z⟩ := HNV_z_8.out.cells
  go_wp2_with (fail)
  clear b0_z b1_z b2_z b3_z b4_z
  clear c8
  refine (is_at HP8.out c2).mono ?_
  rintro e w9 ⟨rfl, hb9⟩
  have hf9 := Fr.of_below hb9 HP8.out.b0
  have HP9 := Lib.hid (HP8.out.later hb9)
  clear hb9
  have HF9 := Lib.hid (HF8.out.trans hf9)
  have HZ9 := Lib.hid (HZ8.out.fr hf9)
  have HS9 := Lib.hid (Nat.le_trans HS8.out hf9.below.size)
  have HIN_z_9 := Lib.hid (HIN_z_8.out.fr hf9)
  have HNV_z_9 := Lib.hid (HNV_z_8.out.fr hf9)
  clear HF8 HZ8 HIN_z_8 HNV_z_8
  clear hf9
  have c9 := HP9.out.c2
  obtain ⟨b0_z, b1_z, b2_z, b3_z, b4_z⟩ := HNV_z_9.out.cells
  go_wp2_with (fail)
  clear b0_z b1_z b2_z b3_z b4_z
  clear c9
  refine (is_at HP9.out c3).mono ?_
  rintro e w10 ⟨rfl, hb10⟩
  have hf10 := Fr.of_below hb10 HP9.out.b0
  have HP10 := Lib.hid (HP9.out.later hb10)
  clear hb10
  have HF10 := Lib.hid (HF9.out.trans hf10)
  have HZ10 := Lib.hid (HZ9.out.fr hf10)
  have HS10 := Lib.hid (Nat.le_trans HS9.out hf10.below.size)
  have HIN_z_10 := Lib.hid (HIN_z_9.out.fr hf10)
  have HNV_z_10 := Lib.hid (HNV_z_9.out.fr hf10)
  clear HF9 HZ9 HIN_z_9 HNV_z_9
  clear hf10
  have c10 := HP10.out.c2
  obtain ⟨b0_z, b1_z, b2_z, b3_z, b4_z⟩ := HNV_z_10.out.cells
  go_wp2_with (fail)
  clear b0_z b1_z b2_z b3_z b4_z
  clear c10
  refine (hex 1 _ _ _ _ (by decide) (by decide) hx HP10.out).mono ?_
  rintro e wp ⟨x, rfl, hst11, hin11, hpp, hfp⟩
  have HST_x := Lib.hid hst11
  have hlt11 := NV.lt HNV_z_10.out
  have hzz : InG (w.heap.size + 1) (w6.heap.size) wp x := InS.mono (fun b hb => ⟨⟨hb.1, Nat.le_trans HS10.out hb.2⟩, by have := hb.2; omega⟩) x hin11
  have hnp := HNV_z_10.out.fr hfp
  obtain ⟨hnV, hiV, hpV, hfV, hzV⟩ := box_put (z := x) HB0.out (by have := HS0.out; have := HSZ_z.out; omega) hnp hzz hpp (HF10.out.trans hfp) (HZ10.out.fr hfp)
  have HS11 := Lib.hid (show w.heap.size + 1 ≤ (putN wp (w6.heap.size) x).heap.size from by have h1 := HS10.out; have h2 := hfp.below.size; simp only [putN, size_set]; omega)
  have g0 := Lib.cell_of_heap hnp 0
  have g1 := Lib.cell_of_heap hnp 1
  have g2 := Lib.cell_of_heap hnp 2
  have g3 := Lib.cell_of_heap hnp 3
  have g4 := Lib.cell_of_heap hnp 4
  have y0 := hfrz hnp 0
  have y1 := hfrz hnp 1
  have y2 := hfrz hnp 2
  have y3 := hfrz hnp 3
  have y4 := hfrz hnp 4
  have HNVX := Lib.hid hnV
  have HIVX := Lib.hid hiV
  have HPVX := Lib.hid hpV
  have HFVX := Lib.hid hfV
  have HZVX := Lib.hid hzV
  clear hst11 hin11 hpp hfp hlt11 hzz hnp hnV hiV hpV hfV hzV HF10 HZ10 HIN_z_10 HNV_z_10
  dsimp only [putN] at *
  go_upto_region 27 with fail
  clear g0 g1 g2 g3 g4 y0 y1 y2 y3 y4
  generalize (((((wp.setCell ⟨w6.heap.size, 0, none⟩ (.int .i64 x.kind)).setCell ⟨w6.heap.size, 1, none⟩ (.string x.text)).setCell ⟨w6.heap.size, 2, none⟩ (.int .i64 x.lo)).setCell ⟨w6.heap.size, 3, none⟩ (.int .i64 x.hi)).setCell ⟨w6.heap.size, 4, none⟩ (.slice x.A x.kids.length x.c)) = w11 at *
  have HNV_x_11 := HNVX
  have HIN_x_11 := Lib.hid (InG.inF HIVX.out)
  have HP11 := HPVX
  have HF11 := HFVX
  have HZ11 := HZVX
  clear HNVX HIVX HPVX HFVX HZVX
  have c11 := HP11.out.c2
  obtain ⟨b0_x, b1_x, b2_x, b3_x, b4_x⟩ := HNV_x_11.out.cells
  go_wp2_with (fail)
  clear b0_x b1_x b2_x b3_x b4_x
  clear c11
  refine (expect_any HP11.out (⟨#[59]⟩ : ByteArray)).mono ?_
  rintro e w12 ⟨rfl, hp12, hf12⟩
  have HP12 := Lib.hid hp12
  clear hp12
  have HF12 := Lib.hid (HF11.out.trans hf12)
  have HZ12 := Lib.hid (HZ11.out.fr hf12)
  have HS12 := Lib.hid (Nat.le_trans HS11.out hf12.below.size)
  have HIN_x_12 := Lib.hid (HIN_x_11.out.fr hf12)
  have HNV_x_12 := Lib.hid (HNV_x_11.out.fr hf12)
  clear HF11 HZ11 HIN_x_11 HNV_x_11
  clear hf12
  have c12 := HP12.out.c2
  obtain ⟨b0_x, b1_x, b2_x, b3_x, b4_x⟩ := HNV_x_12.out.cells
  go_wp2_with (fail)
  clear b0_x b1_x b2_x b3_x b4_x
  clear c12
  have hbA : Below w12.heap.size w12 (w12.alloc (.cells #[.int .i64 x.kind, .string x.text, .int .i64 x.lo, .int .i64 x.hi, .slice x.A x.kids.length x.c] 31)) := ((Below.refl w12.heap.size w12).alloc (by simp) (.cells #[.int .i64 x.kind, .string x.text, .int .i64 x.lo, .int .i64 x.hi, .slice x.A x.kids.length x.c] 31))
  have hnb0 : (w12.alloc (.cells #[.int .i64 x.kind, .string x.text, .int .i64 x.lo, .int .i64 x.hi, .slice x.A x.kids.length x.c] 31)).heap[w12.heap.size]? = some (.cells #[.int .i64 x.kind, .string x.text, .int .i64 x.lo, .int .i64 x.hi, .slice x.A x.kids.length x.c] 31 (0, 0)) := by
    have hx := heap_alloc_new w12 (.cells #[.int .i64 x.kind, .string x.text, .int .i64 x.lo, .int .i64 x.hi, .slice x.A x.kids.length x.c] 31)
    exact hx
  have HP13 := Lib.hid (HP12.out.later hbA)
  have hf13 := Fr.of_below hbA HP12.out.b0
  have HK_13 := Lib.hid (kin_block (lo := w.heap.size + 1) (c := 1) (ks := [x]) hnb0 (fun j _ => by simp [ncl]) (by have := HS12.out; omega) (Nat.le_refl _) (fun k hk => by
    simp only [List.mem_cons, List.not_mem_nil, or_false] at hk
    subst hk; exact HIN_x_12.out.fr hf13))
  have HF13 := Lib.hid (HF12.out.trans hf13)
  have HZ13 := Lib.hid (HZ12.out.fr hf13)
  have HS13 := Lib.hid (Nat.le_trans HS12.out hf13.below.size)
  have HIN_x_13 := Lib.hid (HIN_x_12.out.fr hf13)
  have HNV_x_13 := Lib.hid (HNV_x_12.out.fr hf13)
  clear HF12 HZ12 HIN_x_12 HNV_x_12
  clear hbA hf13 hnb0
  generalize (w12.alloc (.cells #[.int .i64 x.kind, .string x.text, .int .i64 x.lo, .int .i64 x.hi, .slice x.A x.kids.length x.c] 31)) = w13 at *
  refine (node_kids HP13.out p.k 17 (⟨#[]⟩ : ByteArray) _ 1 [x] [x1] HF.out HK_13.out (by simp only [List.map_cons, List.map_nil, HST_x.out])).mono ?_
  rintro e w14 ⟨m, rfl, hst14, hin14, hp14, hf14⟩
  have HP14 := Lib.hid hp14
  have HST_m := Lib.hid hst14
  have HIN_m_14 := Lib.hid hin14
  clear hp14 hst14 hin14
  have HF14 := Lib.hid (HF13.out.trans hf14)
  have HZ14 := Lib.hid (HZ13.out.fr hf14)
  have HS14 := Lib.hid (Nat.le_trans HS13.out hf14.below.size)
  have HIN_x_14 := Lib.hid (HIN_x_13.out.fr hf14)
  have HNV_x_14 := Lib.hid (HNV_x_13.out.fr hf14)
  clear HF13 HZ13 HIN_x_13 HNV_x_13
  clear hf14
  obtain ⟨z0, z1, z2, z3, z4⟩ := HZ14.out.cells
  have y0 := HZ14.out.frozen 0
  have y1 := HZ14.out.frozen 1
  have y2 := HZ14.out.frozen 2
  have y3 := HZ14.out.frozen 3
  have y4 := HZ14.out.frozen 4
  obtain ⟨b0_x, b1_x, b2_x, b3_x, b4_x⟩ := HNV_x_14.out.cells
  go_wp2_with (fail)
  clear b0_x b1_x b2_x b3_x b4_x
  obtain ⟨hV, hin, hp, hf⟩ := got_put (w := w) (w2 := w14) (n := m) HB0.out HZ14.out (Nat.le_refl _) HIN_m_14.out HP14.out HF14.out
  clear z0 z1 z2 z3 z4 y0 y1 y2 y3 y4
  dsimp only [putN] at hV hin hp hf
  generalize (((((w14.setCell ⟨w.heap.size, 0, none⟩ (.int .i64 m.kind)).setCell ⟨w.heap.size, 1, none⟩ (.string m.text)).setCell ⟨w.heap.size, 2, none⟩ (.int .i64 m.lo)).setCell ⟨w.heap.size, 3, none⟩ (.int .i64 m.hi)).setCell ⟨w.heap.size, 4, none⟩ (.slice m.A m.kids.length m.c)) = V at *
  have v0 := Lib.cell_of_heap hV 0
  have v1 := Lib.cell_of_heap hV 1
  have v2 := Lib.cell_of_heap hV 2
  have v3 := Lib.cell_of_heap hV 3
  have v4 := Lib.cell_of_heap hV 4
  exact bodyPost_ret (v := .agg #[.int .i64 m.kind, .string m.text, .int .i64 m.lo, .int .i64 m.hi, .slice m.A m.kids.length m.c]) (by simp [results, Tryd.results65, go_sem, v0, v1, v2, v3, v4]) rfl ⟨m, rfl, HST_m.out, hin, hp, hf⟩
set_option maxHeartbeats 4000000 in
set_option maxRecDepth 100000 in
theorem st_ret_no {B0 bp : Nat} {E : Env} {w : World} {p : St} (h : PIs B0 bp E w p) {R : Rec} (hex : ExOK B0 bp E R) (hbk : BlkOK B0 bp E R) (hbr : BrOK B0 bp E R)  (n0 : isW E p (⟨#[118, 97, 114]⟩ : ByteArray) = false) (n1 : isW E p (⟨#[105, 102]⟩ : ByteArray) = false) (n2 : isW E p (⟨#[119, 104, 105, 108, 101]⟩ : ByteArray) = false) (n3 : isW E p (⟨#[102, 111, 114]⟩ : ByteArray) = false) (h1 : isW E p (⟨#[114, 101, 116, 117, 114, 110]⟩ : ByteArray) = true) (c1 : prim E (rd E p) = false) (c2 : isW E (rd E p) (⟨#[110, 111, 116]⟩ : ByteArray) = false) (c3 : isW E (rd E p) (⟨#[45]⟩ : ByteArray) = false) :
    Calls Tryd.prog 65 #[ptr bp] w fun e w' => Got B0 bp w.heap.size E w (mkN E (exq E (rd E p) (⟨#[59]⟩ : ByteArray)) p.k 17 (⟨#[]⟩ : ByteArray) [(mkN E (rd E p) (rd E p).k 0 (⟨#[]⟩ : ByteArray) [])]) (exq E (rd E p) (⟨#[59]⟩ : ByteArray)) e w' := by
  have HF := Lib.hid h.ok.1
  have HB0 := Lib.hid h.b0
  have HP := Lib.hid h
  clear h
  unfold ptr at *
  go_enter Tryd.func65, Tryd.ntmps65
  have hb0 := (Below.refl w.heap.size w).alloc (Nat.le_refl _) (.cells #[.int .i64 0, .string ⟨#[]⟩, .int .i64 0, .int .i64 0, .slice none 0 0] 31)
  have hz0 : ZB (w.alloc (.cells #[.int .i64 0, .string ⟨#[]⟩, .int .i64 0, .int .i64 0, .slice none 0 0] 31)) w.heap.size := heap_alloc_new w _
  have hs0 : (w.alloc (.cells #[.int .i64 0, .string ⟨#[]⟩, .int .i64 0, .int .i64 0, .slice none 0 0] 31)).heap.size = w.heap.size + 1 := World.size_alloc _ _
  have HP0 := Lib.hid (HP.out.later hb0)
  have HF0 := Lib.hid (Fr.of_below hb0 HB0.out)
  have HZ0 := Lib.hid hz0
  have HS0 := Lib.hid (show w.heap.size + 1 ≤ (w.alloc (.cells #[.int .i64 0, .string ⟨#[]⟩, .int .i64 0, .int .i64 0, .slice none 0 0] 31)).heap.size by rw [hs0]; omega)
  have c0 := HP0.out.c2
  clear hb0 hz0 hs0
  go_wp2_with (fail)
  clear c0
  generalize (w.alloc (.cells #[.int .i64 0, .string ⟨#[]⟩, .int .i64 0, .int .i64 0, .slice none 0 0] 31)) = w0 at *
  refine (accept_no HP0.out n0).mono ?_
  rintro e w1 ⟨rfl, hp1, hf1⟩
  have HP1 := Lib.hid hp1
  clear hp1
  have HF1 := Lib.hid (HF0.out.trans hf1)
  have HZ1 := Lib.hid (HZ0.out.fr hf1)
  have HS1 := Lib.hid (Nat.le_trans HS0.out hf1.below.size)
  clear HF0 HZ0
  clear hf1
  have c1 := HP1.out.c2
  go_wp2_with (fail)
  clear c1
  refine (is_at HP1.out n1).mono ?_
  rintro e w2 ⟨rfl, hb2⟩
  have hf2 := Fr.of_below hb2 HP1.out.b0
  have HP2 := Lib.hid (HP1.out.later hb2)
  clear hb2
  have HF2 := Lib.hid (HF1.out.trans hf2)
  have HZ2 := Lib.hid (HZ1.out.fr hf2)
  have HS2 := Lib.hid (Nat.le_trans HS1.out hf2.below.size)
  clear HF1 HZ1
  clear hf2
  have c2 := HP2.out.c2
  go_wp2_with (fail)
  clear c2
  refine (accept_no HP2.out n2).mono ?_
  rintro e w3 ⟨rfl, hp3, hf3⟩
  have HP3 := Lib.hid hp3
  clear hp3
  have HF3 := Lib.hid (HF2.out.trans hf3)
  have HZ3 := Lib.hid (HZ2.out.fr hf3)
  have HS3 := Lib.hid (Nat.le_trans HS2.out hf3.below.size)
  clear HF2 HZ2
  clear hf3
  have c3 := HP3.out.c2
  go_wp2_with (fail)
  clear c3
  refine (accept_no HP3.out n3).mono ?_
  rintro e w4 ⟨rfl, hp4, hf4⟩
  have HP4 := Lib.hid hp4
  clear hp4
  have HF4 := Lib.hid (HF3.out.trans hf4)
  have HZ4 := Lib.hid (HZ3.out.fr hf4)
  have HS4 := Lib.hid (Nat.le_trans HS3.out hf4.below.size)
  clear HF3 HZ3
  clear hf4
  have c4 := HP4.out.c2
  go_wp2_with (fail)
  clear c4
  refine (accept_yes HP4.out h1).mono ?_
  rintro e w5 ⟨rfl, hp5, hf5⟩
  have HP5 := Lib.hid hp5
  clear hp5
  have HF5 := Lib.hid (HF4.out.trans hf5)
  have HZ5 := Lib.hid (HZ4.out.fr hf5)
  have HS5 := Lib.hid (Nat.le_trans HS4.out hf5.below.size)
  clear HF4 HZ4
  clear hf5
  have c5 := HP5.out.c2
  go_wp2_with (fail)
  clear c5
  refine (node_leaf HP5.out (w.heap.size + 1) (rd E p).k 0 (⟨#[]⟩ : ByteArray) HP5.out.ok.1).mono ?_
  rintro e w6 ⟨z, rfl, hst6, hin6, hp6, hf6⟩
  have HP6 := Lib.hid hp6
  have HST_z := Lib.hid hst6
  have HIN_z_6 := Lib.hid hin6
  clear hp6 hst6 hin6
  have HF6 := Lib.hid (HF5.out.trans hf6)
  have HZ6 := Lib.hid (HZ5.out.fr hf6)
  have HS6 := Lib.hid (Nat.le_trans HS5.out hf6.below.size)
  clear HF5 HZ5
  clear hf6
  have c6 := HP6.out.c2
  have cA := (HP6.out.later ((Below.refl w6.heap.size w6).alloc (by simp) (.cells #[.int .i64 z.kind, .string z.text, .int .i64 z.lo, .int .i64 z.hi, .slice z.A z.kids.length z.c] 31))).c2
  go_wp2_with (fail)
  clear c6 cA
  have hbA : Below w6.heap.size w6 (w6.alloc (.cells #[.int .i64 z.kind, .string z.text, .int .i64 z.lo, .int .i64 z.hi, .slice z.A z.kids.length z.c] 31)) := ((Below.refl w6.heap.size w6).alloc (by simp) (.cells #[.int .i64 z.kind, .string z.text, .int .i64 z.lo, .int .i64 z.hi, .slice z.A z.kids.length z.c] 31))
  have hnb0 : (w6.alloc (.cells #[.int .i64 z.kind, .string z.text, .int .i64 z.lo, .int .i64 z.hi, .slice z.A z.kids.length z.c] 31)).heap[w6.heap.size]? = some (.cells #[.int .i64 z.kind, .string z.text, .int .i64 z.lo, .int .i64 z.hi, .slice z.A z.kids.length z.c] 31 (0, 0)) := by
    have hx := heap_alloc_new w6 (.cells #[.int .i64 z.kind, .string z.text, .int .i64 z.lo, .int .i64 z.hi, .slice z.A z.kids.length z.c] 31)
    exact hx
  have HP7 := Lib.hid (HP6.out.later hbA)
  have hf7 := Fr.of_below hbA HP6.out.b0
  have HNV_z_7 := Lib.hid (show NV (w6.alloc (.cells #[.int .i64 z.kind, .string z.text, .int .i64 z.lo, .int .i64 z.hi, .slice z.A z.kids.length z.c] 31)) (w6.heap.size) z from hnb0)
  have HSZ_z := Lib.hid (show w.heap.size + 1 ≤ w6.heap.size from HS6.out)
  have HF7 := Lib.hid (HF6.out.trans hf7)
  have HZ7 := Lib.hid (HZ6.out.fr hf7)
  have HS7 := Lib.hid (Nat.le_trans HS6.out hf7.below.size)
  have HIN_z_7 := Lib.hid (HIN_z_6.out.fr hf7)
  clear HF6 HZ6 HIN_z_6
  clear hbA hf7 hnb0
  generalize (w6.alloc (.cells #[.int .i64 z.kind, .string z.text, .int .i64 z.lo, .int .i64 z.hi, .slice z.A z.kids.length z.c] 31)) = w7 at *
  refine (primary_at HP7.out c1).mono ?_
  rintro e w8 ⟨rfl, hb8⟩
  have hf8 := Fr.of_below hb8 HP7.out.b0
  have HP8 := Lib.hid (HP7.out.later hb8)
  clear hb8
  have HF8 := Lib.hid (HF7.out.trans hf8)
  have HZ8 := Lib.hid (HZ7.out.fr hf8)
  have HS8 := Lib.hid (Nat.le_trans HS7.out hf8.below.size)
  have HIN_z_8 := Lib.hid (HIN_z_7.out.fr hf8)
  have HNV_z_8 := Lib.hid (HNV_z_7.out.fr hf8)
  clear HF7 HZ7 HIN_z_7 HNV_z_7
  clear hf8
  have c8 := HP8.out.c2
  obtain ⟨b0_z, b1_z, b2_z, b3_z, b4_z⟩ := HNV_z_8.out.cells
  go_wp2_with (fail)
  clear b0_z b1_z b2_z b3_z b4_z
  clear c8
  refine (is_at HP8.out c2).mono ?_
  rintro e w9 ⟨rfl, hb9⟩
  have hf9 := Fr.of_below hb9 HP8.out.b0
  have HP9 := Lib.hid (HP8.out.later hb9)
  clear hb9
  have HF9 := Lib.hid (HF8.out.trans hf9)
  have HZ9 := Lib.hid (HZ8.out.fr hf9)
  have HS9 := Lib.hid (Nat.le_trans HS8.out hf9.below.size)
  have HIN_z_9 := Lib.hid (HIN_z_8.out.fr hf9)
  have HNV_z_9 := Lib.hid (HNV_z_8.out.fr hf9)
  clear HF8 HZ8 HIN_z_8 HNV_z_8
  clear hf9
  have c9 := HP9.out.c2
  obtain ⟨b0_z, b1_z, b2_z, b3_z, b4_z⟩ := HNV_z_9.out.cells
  go_wp2_with (fail)
  clear b0_z b1_z b2_z b3_z b4_z
  clear c9
  refine (is_at HP9.out c3).mono ?_
  rintro e w10 ⟨rfl, hb10⟩
  have hf10 := Fr.of_below hb10 HP9.out.b0
  have HP10 := Lib.hid (HP9.out.later hb10)
  clear hb10
  have HF10 := Lib.hid (HF9.out.trans hf10)
  have HZ10 := Lib.hid (HZ9.out.fr hf10)
  have HS10 := Lib.hid (Nat.le_trans HS9.out hf10.below.size)
  have HIN_z_10 := Lib.hid (HIN_z_9.out.fr hf10)
  have HNV_z_10 := Lib.hid (HNV_z_9.out.fr hf10)
  clear HF9 HZ9 HIN_z_9 HNV_z_9
  clear hf10
  have c10 := HP10.out.c2
  obtain ⟨b0_z, b1_z, b2_z, b3_z, b4_z⟩ := HNV_z_10.out.cells
  go_wp2_with (fail)
  clear b0_z b1_z b2_z b3_z b4_z
  clear c10
  refine (expect_any HP10.out (⟨#[59]⟩ : ByteArray)).mono ?_
  rintro e w11 ⟨rfl, hp11, hf11⟩
  have HP11 := Lib.hid hp11
  clear hp11
  have HF11 := Lib.hid (HF10.out.trans hf11)
  have HZ11 := Lib.hid (HZ10.out.fr hf11)
  have HS11 := Lib.hid (Nat.le_trans HS10.out hf11.below.size)
  have HIN_z_11 := Lib.hid (HIN_z_10.out.fr hf11)
  have HNV_z_11 := Lib.hid (HNV_z_10.out.fr hf11)
  clear HF10 HZ10 HIN_z_10 HNV_z_10
  clear hf11
  have c11 := HP11.out.c2
  obtain ⟨b0_z, b1_z, b2_z, b3_z, b4_z⟩ := HNV_z_11.out.cells
  go_wp2_with (fail)
  clear b0_z b1_z b2_z b3_z b4_z
  clear c11
  have hbA : Below w11.heap.size w11 (w11.alloc (.cells #[.int .i64 z.kind, .string z.text, .int .i64 z.lo, .int .i64 z.hi, .slice z.A z.kids.length z.c] 31)) := ((Below.refl w11.heap.size w11).alloc (by simp) (.cells #[.int .i64 z.kind, .string z.text, .int .i64 z.lo, .int .i64 z.hi, .slice z.A z.kids.length z.c] 31))
  have hnb0 : (w11.alloc (.cells #[.int .i64 z.kind, .string z.text, .int .i64 z.lo, .int .i64 z.hi, .slice z.A z.kids.length z.c] 31)).heap[w11.heap.size]? = some (.cells #[.int .i64 z.kind, .string z.text, .int .i64 z.lo, .int .i64 z.hi, .slice z.A z.kids.length z.c] 31 (0, 0)) := by
    have hx := heap_alloc_new w11 (.cells #[.int .i64 z.kind, .string z.text, .int .i64 z.lo, .int .i64 z.hi, .slice z.A z.kids.length z.c] 31)
    exact hx
  have HP12 := Lib.hid (HP11.out.later hbA)
  have hf12 := Fr.of_below hbA HP11.out.b0
  have HK_12 := Lib.hid (kin_block (lo := w.heap.size + 1) (c := 1) (ks := [z]) hnb0 (fun j _ => by simp [ncl]) (by have := HS11.out; omega) (Nat.le_refl _) (fun k hk => by
    simp only [List.mem_cons, List.not_mem_nil, or_false] at hk
    subst hk; exact HIN_z_11.out.fr hf12))
  have HF12 := Lib.hid (HF11.out.trans hf12)
  have HZ12 := Lib.hid (HZ11.out.fr hf12)
  have HS12 := Lib.hid (Nat.le_trans HS11.out hf12.below.size)
  have HIN_z_12 := Lib.hid (HIN_z_11.out.fr hf12)
  have HNV_z_12 := Lib.hid (HNV_z_11.out.fr hf12)
  clear HF11 HZ11 HIN_z_11 HNV_z_11
  clear hbA hf12 hnb0
  generalize (w11.alloc (.cells #[.int .i64 z.kind, .string z.text, .int .i64 z.lo, .int .i64 z.hi, .slice z.A z.kids.length z.c] 31)) = w12 at *
  refine (node_kids HP12.out p.k 17 (⟨#[]⟩ : ByteArray) _ 1 [z] [(mkN E (rd E p) (rd E p).k 0 (⟨#[]⟩ : ByteArray) [])] HF.out HK_12.out (by simp only [List.map_cons, List.map_nil, HST_z.out])).mono ?_
  rintro e w13 ⟨m, rfl, hst13, hin13, hp13, hf13⟩
  have HP13 := Lib.hid hp13
  have HST_m := Lib.hid hst13
  have HIN_m_13 := Lib.hid hin13
  clear hp13 hst13 hin13
  have HF13 := Lib.hid (HF12.out.trans hf13)
  have HZ13 := Lib.hid (HZ12.out.fr hf13)
  have HS13 := Lib.hid (Nat.le_trans HS12.out hf13.below.size)
  have HIN_z_13 := Lib.hid (HIN_z_12.out.fr hf13)
  have HNV_z_13 := Lib.hid (HNV_z_12.out.fr hf13)
  clear HF12 HZ12 HIN_z_12 HNV_z_12
  clear hf13
  obtain ⟨z0, z1, z2, z3, z4⟩ := HZ13.out.cells
  have y0 := HZ13.out.frozen 0
  have y1 := HZ13.out.frozen 1
  have y2 := HZ13.out.frozen 2
  have y3 := HZ13.out.frozen 3
  have y4 := HZ13.out.frozen 4
  obtain ⟨b0_z, b1_z, b2_z, b3_z, b4_z⟩ := HNV_z_13.out.cells
  go_wp2_with (fail)
  clear b0_z b1_z b2_z b3_z b4_z
  obtain ⟨hV, hin, hp, hf⟩ := got_put (w := w) (w2 := w13) (n := m) HB0.out HZ13.out (Nat.le_refl _) HIN_m_13.out HP13.out HF13.out
  clear z0 z1 z2 z3 z4 y0 y1 y2 y3 y4
  dsimp only [putN] at hV hin hp hf
  generalize (((((w13.setCell ⟨w.heap.size, 0, none⟩ (.int .i64 m.kind)).setCell ⟨w.heap.size, 1, none⟩ (.string m.text)).setCell ⟨w.heap.size, 2, none⟩ (.int .i64 m.lo)).setCell ⟨w.heap.size, 3, none⟩ (.int .i64 m.hi)).setCell ⟨w.heap.size, 4, none⟩ (.slice m.A m.kids.length m.c)) = V at *
  have v0 := Lib.cell_of_heap hV 0
  have v1 := Lib.cell_of_heap hV 1
  have v2 := Lib.cell_of_heap hV 2
  have v3 := Lib.cell_of_heap hV 3
  have v4 := Lib.cell_of_heap hV 4
  exact bodyPost_ret (v := .agg #[.int .i64 m.kind, .string m.text, .int .i64 m.lo, .int .i64 m.hi, .slice m.A m.kids.length m.c]) (by simp [results, Tryd.results65, go_sem, v0, v1, v2, v3, v4]) rfl ⟨m, rfl, HST_m.out, hin, hp, hf⟩
set_option maxHeartbeats 4000000 in
set_option maxRecDepth 100000 in
theorem br_elif {B0 bp : Nat} {E : Env} {w : World} {p : St} (h : PIs B0 bp E w p) {R : Rec} (hex : ExOK B0 bp E R) (hbk : BlkOK B0 bp E R) (hbr : BrOK B0 bp E R) (h5 : knd E p ≠ 5) (c1 : NT) (q1 : St) (hc : R.ex 1 (rd E p) = some (c1, q1)) (b1 : NT) (q2 : St) (hb : R.blk q1 = some (b1, q2)) (he : isW E q2 (⟨#[101, 108, 115, 101]⟩ : ByteArray) = true) (hi : isW E (rd E q2) (⟨#[105, 102]⟩ : ByteArray) = true) (o1 : NT) (q3 : St) (ho : R.br (rd E q2) = some (o1, q3)) :
    Calls Tryd.prog 71 #[ptr bp] w fun e w' => Got B0 bp w.heap.size E w (mkN E q3 p.k 14 (⟨#[]⟩ : ByteArray) [c1, b1, o1]) (q3) e w' := by
  have HF := Lib.hid h.ok.1
  have HB0 := Lib.hid h.b0
  have HP := Lib.hid h
  clear h
  unfold ptr at *
  go_enter Tryd.func71, Tryd.ntmps71
  have hb0 := (Below.refl w.heap.size w).alloc (Nat.le_refl _) (.cells #[.int .i64 0, .string ⟨#[]⟩, .int .i64 0, .int .i64 0, .slice none 0 0] 31)
  have hz0 : ZB (w.alloc (.cells #[.int .i64 0, .string ⟨#[]⟩, .int .i64 0, .int .i64 0, .slice none 0 0] 31)) w.heap.size := heap_alloc_new w _
  have hs0 : (w.alloc (.cells #[.int .i64 0, .string ⟨#[]⟩, .int .i64 0, .int .i64 0, .slice none 0 0] 31)).heap.size = w.heap.size + 1 := World.size_alloc _ _
  have HP0 := Lib.hid (HP.out.later hb0)
  have HF0 := Lib.hid (Fr.of_below hb0 HB0.out)
  have HZ0 := Lib.hid hz0
  have HS0 := Lib.hid (show w.heap.size + 1 ≤ (w.alloc (.cells #[.int .i64 0, .string ⟨#[]⟩, .int .i64 0, .int .i64 0, .slice none 0 0] 31)).heap.size by rw [hs0]; omega)
  have c0 := HP0.out.c2
  clear hb0 hz0 hs0
  go_wp2_with (fail)
  clear c0
  generalize (w.alloc (.cells #[.int .i64 0, .string ⟨#[]⟩, .int .i64 0, .int .i64 0, .slice none 0 0] 31)) = w0 at *
  refine (read_any HP0.out h5).mono ?_
  rintro e w1 ⟨rfl, hp1, hf1⟩
  have HP1 := Lib.hid hp1
  clear hp1
  have HF1 := Lib.hid (HF0.out.trans hf1)
  have HZ1 := Lib.hid (HZ0.out.fr hf1)
  have HS1 := Lib.hid (Nat.le_trans HS0.out hf1.below.size)
  clear HF0 HZ0
  clear hf1
  have c1 := HP1.out.c2
  go_wp2_with (fail)
  clear c1
  refine (hex 1 _ _ _ _ (by decide) (by decide) hc HP1.out).mono ?_
  rintro e w2 ⟨x, rfl, hst2, hin2, hp2, hf2⟩
  have HP2 := Lib.hid hp2
  have HST_x := Lib.hid hst2
  have HIN_x_2 := Lib.hid (InF.mono hin2 HS1.out)
  clear hp2 hst2 hin2
  have HF2 := Lib.hid (HF1.out.trans hf2)
  have HZ2 := Lib.hid (HZ1.out.fr hf2)
  have HS2 := Lib.hid (Nat.le_trans HS1.out hf2.below.size)
  clear HF1 HZ1
  clear hf2
  have c2 := HP2.out.c2
  have cA := (HP2.out.later ((Below.refl w2.heap.size w2).alloc (by simp) (.cells #[.int .i64 x.kind, .string x.text, .int .i64 x.lo, .int .i64 x.hi, .slice x.A x.kids.length x.c] 31))).c2
  go_wp2_with (fail)
  clear c2 cA
  have hbA : Below w2.heap.size w2 (w2.alloc (.cells #[.int .i64 x.kind, .string x.text, .int .i64 x.lo, .int .i64 x.hi, .slice x.A x.kids.length x.c] 31)) := ((Below.refl w2.heap.size w2).alloc (by simp) (.cells #[.int .i64 x.kind, .string x.text, .int .i64 x.lo, .int .i64 x.hi, .slice x.A x.kids.length x.c] 31))
  have hnb0 : (w2.alloc (.cells #[.int .i64 x.kind, .string x.text, .int .i64 x.lo, .int .i64 x.hi, .slice x.A x.kids.length x.c] 31)).heap[w2.heap.size]? = some (.cells #[.int .i64 x.kind, .string x.text, .int .i64 x.lo, .int .i64 x.hi, .slice x.A x.kids.length x.c] 31 (0, 0)) := by
    have hx := heap_alloc_new w2 (.cells #[.int .i64 x.kind, .string x.text, .int .i64 x.lo, .int .i64 x.hi, .slice x.A x.kids.length x.c] 31)
    exact hx
  have HP3 := Lib.hid (HP2.out.later hbA)
  have hf3 := Fr.of_below hbA HP2.out.b0
  have HNV_x_3 := Lib.hid (show NV (w2.alloc (.cells #[.int .i64 x.kind, .string x.text, .int .i64 x.lo, .int .i64 x.hi, .slice x.A x.kids.length x.c] 31)) (w2.heap.size) x from hnb0)
  have HF3 := Lib.hid (HF2.out.trans hf3)
  have HZ3 := Lib.hid (HZ2.out.fr hf3)
  have HS3 := Lib.hid (Nat.le_trans HS2.out hf3.below.size)
  have HIN_x_3 := Lib.hid (HIN_x_2.out.fr hf3)
  clear HF2 HZ2 HIN_x_2
  clear hbA hf3 hnb0
  generalize (w2.alloc (.cells #[.int .i64 x.kind, .string x.text, .int .i64 x.lo, .int .i64 x.hi, .slice x.A x.kids.length x.c] 31)) = w3 at *
  refine (hbk _ _ _ _ hb HP3.out).mono ?_
  rintro e w4 ⟨y, rfl, hst4, hin4, hp4, hf4⟩
  have HP4 := Lib.hid hp4
  have HST_y := Lib.hid hst4
  have HIN_y_4 := Lib.hid (InF.mono hin4 HS3.out)
  clear hp4 hst4 hin4
  have HF4 := Lib.hid (HF3.out.trans hf4)
  have HZ4 := Lib.hid (HZ3.out.fr hf4)
  have HS4 := Lib.hid (Nat.le_trans HS3.out hf4.below.size)
  have HIN_x_4 := Lib.hid (HIN_x_3.out.fr hf4)
  have HNV_x_4 := Lib.hid (HNV_x_3.out.fr hf4)
  clear HF3 HZ3 HIN_x_3 HNV_x_3
  clear hf4
  have c4 := HP4.out.c2
  obtain ⟨b0_x, b1_x, b2_x, b3_x, b4_x⟩ := HNV_x_4.out.cells
  have cA := (HP4.out.later ((Below.refl w4.heap.size w4).alloc (by simp) (.cells #[.int .i64 y.kind, .string y.text, .int .i64 y.lo, .int .i64 y.hi, .slice y.A y.kids.length y.c] 31))).c2
  go_wp2_with (fail)
  clear b0_x b1_x b2_x b3_x b4_x
  clear c4 cA
  have hbA : Below w4.heap.size w4 (w4.alloc (.cells #[.int .i64 y.kind, .string y.text, .int .i64 y.lo, .int .i64 y.hi, .slice y.A y.kids.length y.c] 31)) := ((Below.refl w4.heap.size w4).alloc (by simp) (.cells #[.int .i64 y.kind, .string y.text, .int .i64 y.lo, .int .i64 y.hi, .slice y.A y.kids.length y.c] 31))
  have hnb0 : (w4.alloc (.cells #[.int .i64 y.kind, .string y.text, .int .i64 y.lo, .int .i64 y.hi, .slice y.A y.kids.length y.c] 31)).heap[w4.heap.size]? = some (.cells #[.int .i64 y.kind, .string y.text, .int .i64 y.lo, .int .i64 y.hi, .slice y.A y.kids.length y.c] 31 (0, 0)) := by
    have hx := heap_alloc_new w4 (.cells #[.int .i64 y.kind, .string y.text, .int .i64 y.lo, .int .i64 y.hi, .slice y.A y.kids.length y.c] 31)
    exact hx
  have HP5 := Lib.hid (HP4.out.later hbA)
  have hf5 := Fr.of_below hbA HP4.out.b0
  have HNV_y_5 := Lib.hid (show NV (w4.alloc (.cells #[.int .i64 y.kind, .string y.text, .int .i64 y.lo, .int .i64 y.hi, .slice y.A y.kids.length y.c] 31)) (w4.heap.size) y from hnb0)
  have HF5 := Lib.hid (HF4.out.trans hf5)
  have HZ5 := Lib.hid (HZ4.out.fr hf5)
  have HS5 := Lib.hid (Nat.le_trans HS4.out hf5.below.size)
  have HIN_x_5 := Lib.hid (HIN_x_4.out.fr hf5)
  have HIN_y_5 := Lib.hid (HIN_y_4.out.fr hf5)
  have HNV_x_5 := Lib.hid (HNV_x_4.out.fr hf5)
  clear HF4 HZ4 HIN_x_4 HIN_y_4 HNV_x_4
  clear hbA hf5 hnb0
  generalize (w4.alloc (.cells #[.int .i64 y.kind, .string y.text, .int .i64 y.lo, .int .i64 y.hi, .slice y.A y.kids.length y.c] 31)) = w5 at *
  refine (node_leaf HP5.out (w.heap.size + 1) q2.k 0 (⟨#[]⟩ : ByteArray) HP5.out.ok.1).mono ?_
  rintro e w6 ⟨z, rfl, hst6, hin6, hp6, hf6⟩
  have HP6 := Lib.hid hp6
  have HST_z := Lib.hid hst6
  have HIN_z_6 := Lib.hid hin6
  clear hp6 hst6 hin6
  have HF6 := Lib.hid (HF5.out.trans hf6)
  have HZ6 := Lib.hid (HZ5.out.fr hf6)
  have HS6 := Lib.hid (Nat.le_trans HS5.out hf6.below.size)
  have HIN_x_6 := Lib.hid (HIN_x_5.out.fr hf6)
  have HIN_y_6 := Lib.hid (HIN_y_5.out.fr hf6)
  have HNV_x_6 := Lib.hid (HNV_x_5.out.fr hf6)
  have HNV_y_6 := Lib.hid (HNV_y_5.out.fr hf6)
  clear HF5 HZ5 HIN_x_5 HIN_y_5 HNV_x_5 HNV_y_5
  clear hf6
  have c6 := HP6.out.c2
  obtain ⟨b0_x, b1_x, b2_x, b3_x, b4_x⟩ := HNV_x_6.out.cells
  obtain ⟨b0_y, b1_y, b2_y, b3_y, b4_y⟩ := HNV_y_6.out.cells
  have cA := (HP6.out.later ((Below.refl w6.heap.size w6).alloc (by simp) (.cells #[.int .i64 z.kind, .string z.text, .int .i64 z.lo, .int .i64 z.hi, .slice z.A z.kids.length z.c] 31))).c2
  go_wp2_with (fail)
  clear b0_x b1_x b2_x b3_x b4_x
  clear b0_y b1_y b2_y b3_y b4_y
  clear c6 cA
  have hbA : Below w6.heap.size w6 (w6.alloc (.cells #[.int .i64 z.kind, .string z.text, .int .i64 z.lo, .int .i64 z.hi, .slice z.A z.kids.length z.c] 31)) := ((Below.refl w6.heap.size w6).alloc (by simp) (.cells #[.int .i64 z.kind, .string z.text, .int .i64 z.lo, .int .i64 z.hi, .slice z.A z.kids.length z.c] 31))
  have hnb0 : (w6.alloc (.cells #[.int .i64 z.kind, .string z.text, .int .i64 z.lo, .int .i64 z.hi, .slice z.A z.kids.length z.c] 31)).heap[w6.heap.size]? = some (.cells #[.int .i64 z.kind, .string z.text, .int .i64 z.lo, .int .i64 z.hi, .slice z.A z.kids.length z.c] 31 (0, 0)) := by
    have hx := heap_alloc_new w6 (.cells #[.int .i64 z.kind, .string z.text, .int .i64 z.lo, .int .i64 z.hi, .slice z.A z.kids.length z.c] 31)
    exact hx
  have HP7 := Lib.hid (HP6.out.later hbA)
  have hf7 := Fr.of_below hbA HP6.out.b0
  have HNV_z_7 := Lib.hid (show NV (w6.alloc (.cells #[.int .i64 z.kind, .string z.text, .int .i64 z.lo, .int .i64 z.hi, .slice z.A z.kids.length z.c] 31)) (w6.heap.size) z from hnb0)
  have HIG_x_7 := Lib.hid (InG.of HIN_x_6.out hf7)
  have HIG_y_7 := Lib.hid (InG.of HIN_y_6.out hf7)
  have HNE_x := Lib.hid (show w2.heap.size ≠ w6.heap.size from Nat.ne_of_lt (NV.lt HNV_x_6.out))
  have HNE_y := Lib.hid (show w4.heap.size ≠ w6.heap.size from Nat.ne_of_lt (NV.lt HNV_y_6.out))
  have HSZ_z := Lib.hid (show w.heap.size + 1 ≤ w6.heap.size from HS6.out)
  have HF7 := Lib.hid (HF6.out.trans hf7)
  have HZ7 := Lib.hid (HZ6.out.fr hf7)
  have HS7 := Lib.hid (Nat.le_trans HS6.out hf7.below.size)
  have HIN_x_7 := Lib.hid (HIN_x_6.out.fr hf7)
  have HIN_y_7 := Lib.hid (HIN_y_6.out.fr hf7)
  have HIN_z_7 := Lib.hid (HIN_z_6.out.fr hf7)
  have HNV_x_7 := Lib.hid (HNV_x_6.out.fr hf7)
  have HNV_y_7 := Lib.hid (HNV_y_6.out.fr hf7)
  clear HF6 HZ6 HIN_x_6 HIN_y_6 HIN_z_6 HNV_x_6 HNV_y_6
  clear hbA hf7 hnb0
  generalize (w6.alloc (.cells #[.int .i64 z.kind, .string z.text, .int .i64 z.lo, .int .i64 z.hi, .slice z.A z.kids.length z.c] 31)) = w7 at *
  refine (accept_yes HP7.out he).mono ?_
  rintro e w8 ⟨rfl, hp8, hf8⟩
  have HP8 := Lib.hid hp8
  clear hp8
  have HF8 := Lib.hid (HF7.out.trans hf8)
  have HZ8 := Lib.hid (HZ7.out.fr hf8)
  have HS8 := Lib.hid (Nat.le_trans HS7.out hf8.below.size)
  have HIN_x_8 := Lib.hid (HIN_x_7.out.fr hf8)
  have HIN_y_8 := Lib.hid (HIN_y_7.out.fr hf8)
  have HIN_z_8 := Lib.hid (HIN_z_7.out.fr hf8)
  have HNV_x_8 := Lib.hid (HNV_x_7.out.fr hf8)
  have HNV_y_8 := Lib.hid (HNV_y_7.out.fr hf8)
  have HNV_z_8 := Lib.hid (HNV_z_7.out.fr hf8)
  have HIG_x_8 := Lib.hid (HIG_x_7.out.fr hf8)
  have HIG_y_8 := Lib.hid (HIG_y_7.out.fr hf8)
  clear HF7 HZ7 HIN_x_7 HIN_y_7 HIN_z_7 HNV_x_7 HNV_y_7 HNV_z_7
  clear hf8
  have c8 := HP8.out.c2
  obtain ⟨b0_x, b1_x, b2_x, b3_x, b4_x⟩ := HNV_x_8.out.cells
  obtain ⟨b0_y, b1_y, b2_y, b3_y, b4_y⟩ := HNV_y_8.out.cells
  obtain ⟨b0_z, b1_z, b2_z, b3_z, b4_z⟩ := HNV_z_8.out.cells
  go_wp2_with (fail)
  clear b0_x b1_x b2_x b3_x b4_x
  clear b0_y b1_y b2_y b3_y b4_y
  clear b0_z b1_z b2_z b3_z b4_z
  clear c8
  refine (is_at HP8.out hi).mono ?_
  rintro e w9 ⟨rfl, hb9⟩
  have hf9 := Fr.of_below hb9 HP8.out.b0
  have HP9 := Lib.hid (HP8.out.later hb9)
  clear hb9
  have HF9 := Lib.hid (HF8.out.trans hf9)
  have HZ9 := Lib.hid (HZ8.out.fr hf9)
  have HS9 := Lib.hid (Nat.le_trans HS8.out hf9.below.size)
  have HIN_x_9 := Lib.hid (HIN_x_8.out.fr hf9)
  have HIN_y_9 := Lib.hid (HIN_y_8.out.fr hf9)
  have HIN_z_9 := Lib.hid (HIN_z_8.out.fr hf9)
  have HNV_x_9 := Lib.hid (HNV_x_8.out.fr hf9)
  have HNV_y_9 := Lib.hid (HNV_y_8.out.fr hf9)
  have HNV_z_9 := Lib.hid (HNV_z_8.out.fr hf9)
  have HIG_x_9 := Lib.hid (HIG_x_8.out.fr hf9)
  have HIG_y_9 := Lib.hid (HIG_y_8.out.fr hf9)
  clear HF8 HZ8 HIN_x_8 HIN_y_8 HIN_z_8 HNV_x_8 HNV_y_8 HNV_z_8
  clear hf9
  have c9 := HP9.out.c2
  obtain ⟨b0_x, b1_x, b2_x, b3_x, b4_x⟩ := HNV_x_9.out.cells
  obtain ⟨b0_y, b1_y, b2_y, b3_y, b4_y⟩ := HNV_y_9.out.cells
  obtain ⟨b0_z, b1_z, b2_z, b3_z, b4_z⟩ := HNV_z_9.out.cells
  go_wp2_with (fail)
  clear b0_x b1_x b2_x b3_x b4_x
  clear b0_y b1_y b2_y b3_y b4_y
  clear b0_z b1_z b2_z b3_z b4_z
  clear c9
  refine (hbr _ _ _ _ ho hi HP9.out).mono ?_
  rintro e wp ⟨u, rfl, hst10, hin10, hpp, hfp⟩
  have HST_u := Lib.hid hst10
  have hlt10 := NV.lt HNV_z_9.out
  have hzz : InG (w.heap.size + 1) (w6.heap.size) wp u := InS.mono (fun b hb => ⟨⟨hb.1, Nat.le_trans HS9.out hb.2⟩, by have := hb.2; omega⟩) u hin10
  have hnp := HNV_z_9.out.fr hfp
  obtain ⟨hnV, hiV, hpV, hfV, hzV⟩ := box_put (z := u) HB0.out (by have := HS0.out; have := HSZ_z.out; omega) hnp hzz hpp (HF9.out.trans hfp) (HZ9.out.fr hfp)
  have hig_x := InG.put (z := u) ((HIG_x_9.out.fr hfp))
  have hig_y := InG.put (z := u) ((HIG_y_9.out.fr hfp))
  have hnv_x := NV.put (bx := w6.heap.size) (z := u) (HNV_x_9.out.fr hfp) HNE_x.out
  have hnv_y := NV.put (bx := w6.heap.size) (z := u) (HNV_y_9.out.fr hfp) HNE_y.out
  have HS10 := Lib.hid (show w.heap.size + 1 ≤ (putN wp (w6.heap.size) u).heap.size from by have h1 := HS9.out; have h2 := hfp.below.size; simp only [putN, size_set]; omega)
  have g0 := Lib.cell_of_heap hnp 0
  have g1 := Lib.cell_of_heap hnp 1
  have g2 := Lib.cell_of_heap hnp 2
  have g3 := Lib.cell_of_heap hnp 3
  have g4 := Lib.cell_of_heap hnp 4
  have y0 := hfrz hnp 0
  have y1 := hfrz hnp 1
  have y2 := hfrz hnp 2
  have y3 := hfrz hnp 3
  have y4 := hfrz hnp 4
  have HNVX := Lib.hid hnV
  have HIVX := Lib.hid hiV
  have HPVX := Lib.hid hpV
  have HFVX := Lib.hid hfV
  have HZVX := Lib.hid hzV
  have HIGX_x := Lib.hid hig_x
  have HIGX_y := Lib.hid hig_y
  have HNVX_x := Lib.hid hnv_x
  have HNVX_y := Lib.hid hnv_y
  clear hst10 hin10 hpp hfp hlt10 hzz hnp hnV hiV hpV hfV hzV hig_x hig_y hnv_x hnv_y HF9 HZ9 HIN_x_9 HIN_y_9 HIN_z_9 HNV_x_9 HNV_y_9 HNV_z_9
  dsimp only [putN] at *
  go_upto_region 10 with fail
  clear g0 g1 g2 g3 g4 y0 y1 y2 y3 y4
  generalize (((((wp.setCell ⟨w6.heap.size, 0, none⟩ (.int .i64 u.kind)).setCell ⟨w6.heap.size, 1, none⟩ (.string u.text)).setCell ⟨w6.heap.size, 2, none⟩ (.int .i64 u.lo)).setCell ⟨w6.heap.size, 3, none⟩ (.int .i64 u.hi)).setCell ⟨w6.heap.size, 4, none⟩ (.slice u.A u.kids.length u.c)) = w10 at *
  have HNV_u_10 := HNVX
  have HIN_u_10 := Lib.hid (InG.inF HIVX.out)
  have HP10 := HPVX
  have HF10 := HFVX
  have HZ10 := HZVX
  have HIN_x_10 := Lib.hid (InG.inF HIGX_x.out)
  have HIN_y_10 := Lib.hid (InG.inF HIGX_y.out)
  have HNV_x_10 := HNVX_x
  have HNV_y_10 := HNVX_y
  clear HNVX HIVX HPVX HFVX HZVX HIGX_x HIGX_y HNVX_x HNVX_y
  have c10 := HP10.out.c2
  obtain ⟨b0_x, b1_x, b2_x, b3_x, b4_x⟩ := HNV_x_10.out.cells
  obtain ⟨b0_y, b1_y, b2_y, b3_y, b4_y⟩ := HNV_y_10.out.cells
  obtain ⟨b0_u, b1_u, b2_u, b3_u, b4_u⟩ := HNV_u_10.out.cells
  go_wp2_with (fail)
  clear b0_x b1_x b2_x b3_x b4_x
  clear b0_y b1_y b2_y b3_y b4_y
  clear b0_u b1_u b2_u b3_u b4_u
  clear c10
  have hbA : Below w10.heap.size w10 (w10.alloc (.cells #[.int .i64 x.kind, .string x.text, .int .i64 x.lo, .int .i64 x.hi, .slice x.A x.kids.length x.c, .int .i64 y.kind, .string y.text, .int .i64 y.lo, .int .i64 y.hi, .slice y.A y.kids.length y.c, .int .i64 u.kind, .string u.text, .int .i64 u.lo, .int .i64 u.hi, .slice u.A u.kids.length u.c] 31)) := ((Below.refl w10.heap.size w10).alloc (by simp) (.cells #[.int .i64 x.kind, .string x.text, .int .i64 x.lo, .int .i64 x.hi, .slice x.A x.kids.length x.c, .int .i64 y.kind, .string y.text, .int .i64 y.lo, .int .i64 y.hi, .slice y.A y.kids.length y.c, .int .i64 u.kind, .string u.text, .int .i64 u.lo, .int .i64 u.hi, .slice u.A u.kids.length u.c] 31))
  have hnb0 : (w10.alloc (.cells #[.int .i64 x.kind, .string x.text, .int .i64 x.lo, .int .i64 x.hi, .slice x.A x.kids.length x.c, .int .i64 y.kind, .string y.text, .int .i64 y.lo, .int .i64 y.hi, .slice y.A y.kids.length y.c, .int .i64 u.kind, .string u.text, .int .i64 u.lo, .int .i64 u.hi, .slice u.A u.kids.length u.c] 31)).heap[w10.heap.size]? = some (.cells #[.int .i64 x.kind, .string x.text, .int .i64 x.lo, .int .i64 x.hi, .slice x.A x.kids.length x.c, .int .i64 y.kind, .string y.text, .int .i64 y.lo, .int .i64 y.hi, .slice y.A y.kids.length y.c, .int .i64 u.kind, .string u.text, .int .i64 u.lo, .int .i64 u.hi, .slice u.A u.kids.length u.c] 31 (0, 0)) := by
    have hx := heap_alloc_new w10 (.cells #[.int .i64 x.kind, .string x.text, .int .i64 x.lo, .int .i64 x.hi, .slice x.A x.kids.length x.c, .int .i64 y.kind, .string y.text, .int .i64 y.lo, .int .i64 y.hi, .slice y.A y.kids.length y.c, .int .i64 u.kind, .string u.text, .int .i64 u.lo, .int .i64 u.hi, .slice u.A u.kids.length u.c] 31)
    exact hx
  have HP11 := Lib.hid (HP10.out.later hbA)
  have hf11 := Fr.of_below hbA HP10.out.b0
  have HK_11 := Lib.hid (kin_block (lo := w.heap.size + 1) (c := 3) (ks := [x, y, u]) hnb0 (fun j _ => by simp [ncl]) (by have := HS10.out; omega) (Nat.le_refl _) (fun k hk => by
    simp only [List.mem_cons, List.not_mem_nil, or_false] at hk
    rcases hk with rfl | rfl | rfl
    · exact HIN_x_10.out.fr hf11
    · exact HIN_y_10.out.fr hf11
    · exact HIN_u_10.out.fr hf11))
  have HF11 := Lib.hid (HF10.out.trans hf11)
  have HZ11 := Lib.hid (HZ10.out.fr hf11)
  have HS11 := Lib.hid (Nat.le_trans HS10.out hf11.below.size)
  have HIN_x_11 := Lib.hid (HIN_x_10.out.fr hf11)
  have HIN_y_11 := Lib.hid (HIN_y_10.out.fr hf11)
  have HIN_u_11 := Lib.hid (HIN_u_10.out.fr hf11)
  have HNV_x_11 := Lib.hid (HNV_x_10.out.fr hf11)
  have HNV_y_11 := Lib.hid (HNV_y_10.out.fr hf11)
  have HNV_u_11 := Lib.hid (HNV_u_10.out.fr hf11)
  clear HF10 HZ10 HIN_x_10 HIN_y_10 HIN_u_10 HNV_x_10 HNV_y_10 HNV_u_10
  clear hbA hf11 hnb0
  generalize (w10.alloc (.cells #[.int .i64 x.kind, .string x.text, .int .i64 x.lo, .int .i64 x.hi, .slice x.A x.kids.length x.c, .int .i64 y.kind, .string y.text, .int .i64 y.lo, .int .i64 y.hi, .slice y.A y.kids.length y.c, .int .i64 u.kind, .string u.text, .int .i64 u.lo, .int .i64 u.hi, .slice u.A u.kids.length u.c] 31)) = w11 at *
  refine (node_kids HP11.out p.k 14 (⟨#[]⟩ : ByteArray) _ 3 [x, y, u] [c1, b1, o1] HF.out HK_11.out (by simp only [List.map_cons, List.map_nil, HST_x.out, HST_y.out, HST_u.out])).mono ?_
  rintro e w12 ⟨m, rfl, hst12, hin12, hp12, hf12⟩
  have HP12 := Lib.hid hp12
  have HST_m := Lib.hid hst12
  have HIN_m_12 := Lib.hid hin12
  clear hp12 hst12 hin12
  have HF12 := Lib.hid (HF11.out.trans hf12)
  have HZ12 := Lib.hid (HZ11.out.fr hf12)
  have HS12 := Lib.hid (Nat.le_trans HS11.out hf12.below.size)
  have HIN_x_12 := Lib.hid (HIN_x_11.out.fr hf12)
  have HIN_y_12 := Lib.hid (HIN_y_11.out.fr hf12)
  have HIN_u_12 := Lib.hid (HIN_u_11.out.fr hf12)
  have HNV_x_12 := Lib.hid (HNV_x_11.out.fr hf12)
  have HNV_y_12 := Lib.hid (HNV_y_11.out.fr hf12)
  have HNV_u_12 := Lib.hid (HNV_u_11.out.fr hf12)
  clear HF11 HZ11 HIN_x_11 HIN_y_11 HIN_u_11 HNV_x_11 HNV_y_11 HNV_u_11
  clear hf12
  obtain ⟨z0, z1, z2, z3, z4⟩ := HZ12.out.cells
  have y0 := HZ12.out.frozen 0
  have y1 := HZ12.out.frozen 1
  have y2 := HZ12.out.frozen 2
  have y3 := HZ12.out.frozen 3
  have y4 := HZ12.out.frozen 4
  obtain ⟨b0_x, b1_x, b2_x, b3_x, b4_x⟩ := HNV_x_12.out.cells
  obtain ⟨b0_y, b1_y, b2_y, b3_y, b4_y⟩ := HNV_y_12.out.cells
  obtain ⟨b0_u, b1_u, b2_u, b3_u, b4_u⟩ := HNV_u_12.out.cells
  go_wp2_with (fail)
  clear b0_x b1_x b2_x b3_x b4_x
  clear b0_y b1_y b2_y b3_y b4_y
  clear b0_u b1_u b2_u b3_u b4_u
  obtain ⟨hV, hin, hp, hf⟩ := got_put (w := w) (w2 := w12) (n := m) HB0.out HZ12.out (Nat.le_refl _) HIN_m_12.out HP12.out HF12.out
  clear z0 z1 z2 z3 z4 y0 y1 y2 y3 y4
  dsimp only [putN] at hV hin hp hf
  generalize (((((w12.setCell ⟨w.heap.size, 0, none⟩ (.int .i64 m.kind)).setCell ⟨w.heap.size, 1, none⟩ (.string m.text)).setCell ⟨w.heap.size, 2, none⟩ (.int .i64 m.lo)).setCell ⟨w.heap.size, 3, none⟩ (.int .i64 m.hi)).setCell ⟨w.heap.size, 4, none⟩ (.slice m.A m.kids.length m.c)) = V at *
  have v0 := Lib.cell_of_heap hV 0
  have v1 := Lib.cell_of_heap hV 1
  have v2 := Lib.cell_of_heap hV 2
  have v3 := Lib.cell_of_heap hV 3
  have v4 := Lib.cell_of_heap hV 4
  exact bodyPost_ret (v := .agg #[.int .i64 m.kind, .string m.text, .int .i64 m.lo, .int .i64 m.hi, .slice m.A m.kids.length m.c]) (by simp [results, Tryd.results71, go_sem, v0, v1, v2, v3, v4]) rfl ⟨m, rfl, HST_m.out, hin, hp, hf⟩
set_option maxHeartbeats 4000000 in
set_option maxRecDepth 100000 in
theorem br_else {B0 bp : Nat} {E : Env} {w : World} {p : St} (h : PIs B0 bp E w p) {R : Rec} (hex : ExOK B0 bp E R) (hbk : BlkOK B0 bp E R) (hbr : BrOK B0 bp E R) (h5 : knd E p ≠ 5) (c1 : NT) (q1 : St) (hc : R.ex 1 (rd E p) = some (c1, q1)) (b1 : NT) (q2 : St) (hb : R.blk q1 = some (b1, q2)) (he : isW E q2 (⟨#[101, 108, 115, 101]⟩ : ByteArray) = true) (hi : isW E (rd E q2) (⟨#[105, 102]⟩ : ByteArray) = false) (o1 : NT) (q3 : St) (ho : R.blk (rd E q2) = some (o1, q3)) :
    Calls Tryd.prog 71 #[ptr bp] w fun e w' => Got B0 bp w.heap.size E w (mkN E q3 p.k 14 (⟨#[]⟩ : ByteArray) [c1, b1, o1]) (q3) e w' := by
  have HF := Lib.hid h.ok.1
  have HB0 := Lib.hid h.b0
  have HP := Lib.hid h
  clear h
  unfold ptr at *
  go_enter Tryd.func71, Tryd.ntmps71
  have hb0 := (Below.refl w.heap.size w).alloc (Nat.le_refl _) (.cells #[.int .i64 0, .string ⟨#[]⟩, .int .i64 0, .int .i64 0, .slice none 0 0] 31)
  have hz0 : ZB (w.alloc (.cells #[.int .i64 0, .string ⟨#[]⟩, .int .i64 0, .int .i64 0, .slice none 0 0] 31)) w.heap.size := heap_alloc_new w _
  have hs0 : (w.alloc (.cells #[.int .i64 0, .string ⟨#[]⟩, .int .i64 0, .int .i64 0, .slice none 0 0] 31)).heap.size = w.heap.size + 1 := World.size_alloc _ _
  have HP0 := Lib.hid (HP.out.later hb0)
  have HF0 := Lib.hid (Fr.of_below hb0 HB0.out)
  have HZ0 := Lib.hid hz0
  have HS0 := Lib.hid (show w.heap.size + 1 ≤ (w.alloc (.cells #[.int .i64 0, .string ⟨#[]⟩, .int .i64 0, .int .i64 0, .slice none 0 0] 31)).heap.size by rw [hs0]; omega)
  have c0 := HP0.out.c2
  clear hb0 hz0 hs0
  go_wp2_with (fail)
  clear c0
  generalize (w.alloc (.cells #[.int .i64 0, .string ⟨#[]⟩, .int .i64 0, .int .i64 0, .slice none 0 0] 31)) = w0 at *
  refine (read_any HP0.out h5).mono ?_
  rintro e w1 ⟨rfl, hp1, hf1⟩
  have HP1 := Lib.hid hp1
  clear hp1
  have HF1 := Lib.hid (HF0.out.trans hf1)
  have HZ1 := Lib.hid (HZ0.out.fr hf1)
  have HS1 := Lib.hid (Nat.le_trans HS0.out hf1.below.size)
  clear HF0 HZ0
  clear hf1
  have c1 := HP1.out.c2
  go_wp2_with (fail)
  clear c1
  refine (hex 1 _ _ _ _ (by decide) (by decide) hc HP1.out).mono ?_
  rintro e w2 ⟨x, rfl, hst2, hin2, hp2, hf2⟩
  have HP2 := Lib.hid hp2
  have HST_x := Lib.hid hst2
  have HIN_x_2 := Lib.hid (InF.mono hin2 HS1.out)
  clear hp2 hst2 hin2
  have HF2 := Lib.hid (HF1.out.trans hf2)
  have HZ2 := Lib.hid (HZ1.out.fr hf2)
  have HS2 := Lib.hid (Nat.le_trans HS1.out hf2.below.size)
  clear HF1 HZ1
  clear hf2
  have c2 := HP2.out.c2
  have cA := (HP2.out.later ((Below.refl w2.heap.size w2).alloc (by simp) (.cells #[.int .i64 x.kind, .string x.text, .int .i64 x.lo, .int .i64 x.hi, .slice x.A x.kids.length x.c] 31))).c2
  go_wp2_with (fail)
  clear c2 cA
  have hbA : Below w2.heap.size w2 (w2.alloc (.cells #[.int .i64 x.kind, .string x.text, .int .i64 x.lo, .int .i64 x.hi, .slice x.A x.kids.length x.c] 31)) := ((Below.refl w2.heap.size w2).alloc (by simp) (.cells #[.int .i64 x.kind, .string x.text, .int .i64 x.lo, .int .i64 x.hi, .slice x.A x.kids.length x.c] 31))
  have hnb0 : (w2.alloc (.cells #[.int .i64 x.kind, .string x.text, .int .i64 x.lo, .int .i64 x.hi, .slice x.A x.kids.length x.c] 31)).heap[w2.heap.size]? = some (.cells #[.int .i64 x.kind, .string x.text, .int .i64 x.lo, .int .i64 x.hi, .slice x.A x.kids.length x.c] 31 (0, 0)) := by
    have hx := heap_alloc_new w2 (.cells #[.int .i64 x.kind, .string x.text, .int .i64 x.lo, .int .i64 x.hi, .slice x.A x.kids.length x.c] 31)
    exact hx
  have HP3 := Lib.hid (HP2.out.later hbA)
  have hf3 := Fr.of_below hbA HP2.out.b0
  have HNV_x_3 := Lib.hid (show NV (w2.alloc (.cells #[.int .i64 x.kind, .string x.text, .int .i64 x.lo, .int .i64 x.hi, .slice x.A x.kids.length x.c] 31)) (w2.heap.size) x from hnb0)
  have HF3 := Lib.hid (HF2.out.trans hf3)
  have HZ3 := Lib.hid (HZ2.out.fr hf3)
  have HS3 := Lib.hid (Nat.le_trans HS2.out hf3.below.size)
  have HIN_x_3 := Lib.hid (HIN_x_2.out.fr hf3)
  clear HF2 HZ2 HIN_x_2
  clear hbA hf3 hnb0
  generalize (w2.alloc (.cells #[.int .i64 x.kind, .string x.text, .int .i64 x.lo, .int .i64 x.hi, .slice x.A x.kids.length x.c] 31)) = w3 at *
  refine (hbk _ _ _ _ hb HP3.out).mono ?_
  rintro e w4 ⟨y, rfl, hst4, hin4, hp4, hf4⟩
  have HP4 := Lib.hid hp4
  have HST_y := Lib.hid hst4
  have HIN_y_4 := Lib.hid (InF.mono hin4 HS3.out)
  clear hp4 hst4 hin4
  have HF4 := Lib.hid (HF3.out.trans hf4)
  have HZ4 := Lib.hid (HZ3.out.fr hf4)
  have HS4 := Lib.hid (Nat.le_trans HS3.out hf4.below.size)
  have HIN_x_4 := Lib.hid (HIN_x_3.out.fr hf4)
  have HNV_x_4 := Lib.hid (HNV_x_3.out.fr hf4)
  clear HF3 HZ3 HIN_x_3 HNV_x_3
  clear hf4
  have c4 := HP4.out.c2
  obtain ⟨b0_x, b1_x, b2_x, b3_x, b4_x⟩ := HNV_x_4.out.cells
  have cA := (HP4.out.later ((Below.refl w4.heap.size w4).alloc (by simp) (.cells #[.int .i64 y.kind, .string y.text, .int .i64 y.lo, .int .i64 y.hi, .slice y.A y.kids.length y.c] 31))).c2
  go_wp2_with (fail)
  clear b0_x b1_x b2_x b3_x b4_x
  clear c4 cA
  have hbA : Below w4.heap.size w4 (w4.alloc (.cells #[.int .i64 y.kind, .string y.text, .int .i64 y.lo, .int .i64 y.hi, .slice y.A y.kids.length y.c] 31)) := ((Below.refl w4.heap.size w4).alloc (by simp) (.cells #[.int .i64 y.kind, .string y.text, .int .i64 y.lo, .int .i64 y.hi, .slice y.A y.kids.length y.c] 31))
  have hnb0 : (w4.alloc (.cells #[.int .i64 y.kind, .string y.text, .int .i64 y.lo, .int .i64 y.hi, .slice y.A y.kids.length y.c] 31)).heap[w4.heap.size]? = some (.cells #[.int .i64 y.kind, .string y.text, .int .i64 y.lo, .int .i64 y.hi, .slice y.A y.kids.length y.c] 31 (0, 0)) := by
    have hx := heap_alloc_new w4 (.cells #[.int .i64 y.kind, .string y.text, .int .i64 y.lo, .int .i64 y.hi, .slice y.A y.kids.length y.c] 31)
    exact hx
  have HP5 := Lib.hid (HP4.out.later hbA)
  have hf5 := Fr.of_below hbA HP4.out.b0
  have HNV_y_5 := Lib.hid (show NV (w4.alloc (.cells #[.int .i64 y.kind, .string y.text, .int .i64 y.lo, .int .i64 y.hi, .slice y.A y.kids.length y.c] 31)) (w4.heap.size) y from hnb0)
  have HF5 := Lib.hid (HF4.out.trans hf5)
  have HZ5 := Lib.hid (HZ4.out.fr hf5)
  have HS5 := Lib.hid (Nat.le_trans HS4.out hf5.below.size)
  have HIN_x_5 := Lib.hid (HIN_x_4.out.fr hf5)
  have HIN_y_5 := Lib.hid (HIN_y_4.out.fr hf5)
  have HNV_x_5 := Lib.hid (HNV_x_4.out.fr hf5)
  clear HF4 HZ4 HIN_x_4 HIN_y_4 HNV_x_4
  clear hbA hf5 hnb0
  generalize (w4.alloc (.cells #[.int .i64 y.kind, .string y.text, .int .i64 y.lo, .int .i64 y.hi, .slice y.A y.kids.length y.c] 31)) = w5 at *
  refine (node_leaf HP5.out (w.heap.size + 1) q2.k 0 (⟨#[]⟩ : ByteArray) HP5.out.ok.1).mono ?_
  rintro e w6 ⟨z, rfl, hst6, hin6, hp6, hf6⟩
  have HP6 := Lib.hid hp6
  have HST_z := Lib.hid hst6
  have HIN_z_6 := Lib.hid hin6
  clear hp6 hst6 hin6
  have HF6 := Lib.hid (HF5.out.trans hf6)
  have HZ6 := Lib.hid (HZ5.out.fr hf6)
  have HS6 := Lib.hid (Nat.le_trans HS5.out hf6.below.size)
  have HIN_x_6 := Lib.hid (HIN_x_5.out.fr hf6)
  have HIN_y_6 := Lib.hid (HIN_y_5.out.fr hf6)
  have HNV_x_6 := Lib.hid (HNV_x_5.out.fr hf6)
  have HNV_y_6 := Lib.hid (HNV_y_5.out.fr hf6)
  clear HF5 HZ5 HIN_x_5 HIN_y_5 HNV_x_5 HNV_y_5
  clear hf6
  have c6 := HP6.out.c2
  obtain ⟨b0_x, b1_x, b2_x, b3_x, b4_x⟩ := HNV_x_6.out.cells
  obtain ⟨b0_y, b1_y, b2_y, b3_y, b4_y⟩ := HNV_y_6.out.cells
  have cA := (HP6.out.later ((Below.refl w6.heap.size w6).alloc (by simp) (.cells #[.int .i64 z.kind, .string z.text, .int .i64 z.lo, .int .i64 z.hi, .slice z.A z.kids.length z.c] 31))).c2
  go_wp2_with (fail)
  clear b0_x b1_x b2_x b3_x b4_x
  clear b0_y b1_y b2_y b3_y b4_y
  clear c6 cA
  have hbA : Below w6.heap.size w6 (w6.alloc (.cells #[.int .i64 z.kind, .string z.text, .int .i64 z.lo, .int .i64 z.hi, .slice z.A z.kids.length z.c] 31)) := ((Below.refl w6.heap.size w6).alloc (by simp) (.cells #[.int .i64 z.kind, .string z.text, .int .i64 z.lo, .int .i64 z.hi, .slice z.A z.kids.length z.c] 31))
  have hnb0 : (w6.alloc (.cells #[.int .i64 z.kind, .string z.text, .int .i64 z.lo, .int .i64 z.hi, .slice z.A z.kids.length z.c] 31)).heap[w6.heap.size]? = some (.cells #[.int .i64 z.kind, .string z.text, .int .i64 z.lo, .int .i64 z.hi, .slice z.A z.kids.length z.c] 31 (0, 0)) := by
    have hx := heap_alloc_new w6 (.cells #[.int .i64 z.kind, .string z.text, .int .i64 z.lo, .int .i64 z.hi, .slice z.A z.kids.length z.c] 31)
    exact hx
  have HP7 := Lib.hid (HP6.out.later hbA)
  have hf7 := Fr.of_below hbA HP6.out.b0
  have HNV_z_7 := Lib.hid (show NV (w6.alloc (.cells #[.int .i64 z.kind, .string z.text, .int .i64 z.lo, .int .i64 z.hi, .slice z.A z.kids.length z.c] 31)) (w6.heap.size) z from hnb0)
  have HIG_x_7 := Lib.hid (InG.of HIN_x_6.out hf7)
  have HIG_y_7 := Lib.hid (InG.of HIN_y_6.out hf7)
  have HNE_x := Lib.hid (show w2.heap.size ≠ w6.heap.size from Nat.ne_of_lt (NV.lt HNV_x_6.out))
  have HNE_y := Lib.hid (show w4.heap.size ≠ w6.heap.size from Nat.ne_of_lt (NV.lt HNV_y_6.out))
  have HSZ_z := Lib.hid (show w.heap.size + 1 ≤ w6.heap.size from HS6.out)
  have HF7 := Lib.hid (HF6.out.trans hf7)
  have HZ7 := Lib.hid (HZ6.out.fr hf7)
  have HS7 := Lib.hid (Nat.le_trans HS6.out hf7.below.size)
  have HIN_x_7 := Lib.hid (HIN_x_6.out.fr hf7)
  have HIN_y_7 := Lib.hid (HIN_y_6.out.fr hf7)
  have HIN_z_7 := Lib.hid (HIN_z_6.out.fr hf7)
  have HNV_x_7 := Lib.hid (HNV_x_6.out.fr hf7)
  have HNV_y_7 := Lib.hid (HNV_y_6.out.fr hf7)
  clear HF6 HZ6 HIN_x_6 HIN_y_6 HIN_z_6 HNV_x_6 HNV_y_6
  clear hbA hf7 hnb0
  generalize (w6.alloc (.cells #[.int .i64 z.kind, .string z.text, .int .i64 z.lo, .int .i64 z.hi, .slice z.A z.kids.length z.c] 31)) = w7 at *
  refine (accept_yes HP7.out he).mono ?_
  rintro e w8 ⟨rfl, hp8, hf8⟩
  have HP8 := Lib.hid hp8
  clear hp8
  have HF8 := Lib.hid (HF7.out.trans hf8)
  have HZ8 := Lib.hid (HZ7.out.fr hf8)
  have HS8 := Lib.hid (Nat.le_trans HS7.out hf8.below.size)
  have HIN_x_8 := Lib.hid (HIN_x_7.out.fr hf8)
  have HIN_y_8 := Lib.hid (HIN_y_7.out.fr hf8)
  have HIN_z_8 := Lib.hid (HIN_z_7.out.fr hf8)
  have HNV_x_8 := Lib.hid (HNV_x_7.out.fr hf8)
  have HNV_y_8 := Lib.hid (HNV_y_7.out.fr hf8)
  have HNV_z_8 := Lib.hid (HNV_z_7.out.fr hf8)
  have HIG_x_8 := Lib.hid (HIG_x_7.out.fr hf8)
  have HIG_y_8 := Lib.hid (HIG_y_7.out.fr hf8)
  clear HF7 HZ7 HIN_x_7 HIN_y_7 HIN_z_7 HNV_x_7 HNV_y_7 HNV_z_7
  clear hf8
  have c8 := HP8.out.c2
  obtain ⟨b0_x, b1_x, b2_x, b3_x, b4_x⟩ := HNV_x_8.out.cells
  obtain ⟨b0_y, b1_y, b2_y, b3_y, b4_y⟩ := HNV_y_8.out.cells
  obtain ⟨b0_z, b1_z, b2_z, b3_z, b4_z⟩ := HNV_z_8.out.cells
  go_wp2_with (fail)
  clear b0_x b1_x b2_x b3_x b4_x
  clear b0_y b1_y b2_y b3_y b4_y
  clear b0_z b1_z b2_z b3_z b4_z
  clear c8
  refine (is_at HP8.out hi).mono ?_
  rintro e w9 ⟨rfl, hb9⟩
  have hf9 := Fr.of_below hb9 HP8.out.b0
  have HP9 := Lib.hid (HP8.out.later hb9)
  clear hb9
  have HF9 := Lib.hid (HF8.out.trans hf9)
  have HZ9 := Lib.hid (HZ8.out.fr hf9)
  have HS9 := Lib.hid (Nat.le_trans HS8.out hf9.below.size)
  have HIN_x_9 := Lib.hid (HIN_x_8.out.fr hf9)
  have HIN_y_9 := Lib.hid (HIN_y_8.out.fr hf9)
  have HIN_z_9 := Lib.hid (HIN_z_8.out.fr hf9)
  have HNV_x_9 := Lib.hid (HNV_x_8.out.fr hf9)
  have HNV_y_9 := Lib.hid (HNV_y_8.out.fr hf9)
  have HNV_z_9 := Lib.hid (HNV_z_8.out.fr hf9)
  have HIG_x_9 := Lib.hid (HIG_x_8.out.fr hf9)
  have HIG_y_9 := Lib.hid (HIG_y_8.out.fr hf9)
  clear HF8 HZ8 HIN_x_8 HIN_y_8 HIN_z_8 HNV_x_8 HNV_y_8 HNV_z_8
  clear hf9
  have c9 := HP9.out.c2
  obtain ⟨b0_x, b1_x, b2_x, b3_x, b4_x⟩ := HNV_x_9.out.cells
  obtain ⟨b0_y, b1_y, b2_y, b3_y, b4_y⟩ := HNV_y_9.out.cells
  obtain ⟨b0_z, b1_z, b2_z, b3_z, b4_z⟩ := HNV_z_9.out.cells
  go_wp2_with (fail)
  clear b0_x b1_x b2_x b3_x b4_x
  clear b0_y b1_y b2_y b3_y b4_y
  clear b0_z b1_z b2_z b3_z b4_z
  clear c9
  refine (hbk _ _ _ _ ho HP9.out).mono ?_
  rintro e wp ⟨u, rfl, hst10, hin10, hpp, hfp⟩
  have HST_u := Lib.hid hst10
  have hlt10 := NV.lt HNV_z_9.out
  have hzz : InG (w.heap.size + 1) (w6.heap.size) wp u := InS.mono (fun b hb => ⟨⟨hb.1, Nat.le_trans HS9.out hb.2⟩, by have := hb.2; omega⟩) u hin10
  have hnp := HNV_z_9.out.fr hfp
  obtain ⟨hnV, hiV, hpV, hfV, hzV⟩ := box_put (z := u) HB0.out (by have := HS0.out; have := HSZ_z.out; omega) hnp hzz hpp (HF9.out.trans hfp) (HZ9.out.fr hfp)
  have hig_x := InG.put (z := u) ((HIG_x_9.out.fr hfp))
  have hig_y := InG.put (z := u) ((HIG_y_9.out.fr hfp))
  have hnv_x := NV.put (bx := w6.heap.size) (z := u) (HNV_x_9.out.fr hfp) HNE_x.out
  have hnv_y := NV.put (bx := w6.heap.size) (z := u) (HNV_y_9.out.fr hfp) HNE_y.out
  have HS10 := Lib.hid (show w.heap.size + 1 ≤ (putN wp (w6.heap.size) u).heap.size from by have h1 := HS9.out; have h2 := hfp.below.size; simp only [putN, size_set]; omega)
  have g0 := Lib.cell_of_heap hnp 0
  have g1 := Lib.cell_of_heap hnp 1
  have g2 := Lib.cell_of_heap hnp 2
  have g3 := Lib.cell_of_heap hnp 3
  have g4 := Lib.cell_of_heap hnp 4
  have y0 := hfrz hnp 0
  have y1 := hfrz hnp 1
  have y2 := hfrz hnp 2
  have y3 := hfrz hnp 3
  have y4 := hfrz hnp 4
  have HNVX := Lib.hid hnV
  have HIVX := Lib.hid hiV
  have HPVX := Lib.hid hpV
  have HFVX := Lib.hid hfV
  have HZVX := Lib.hid hzV
  have HIGX_x := Lib.hid hig_x
  have HIGX_y := Lib.hid hig_y
  have HNVX_x := Lib.hid hnv_x
  have HNVX_y := Lib.hid hnv_y
  clear hst10 hin10 hpp hfp hlt10 hzz hnp hnV hiV hpV hfV hzV hig_x hig_y hnv_x hnv_y HF9 HZ9 HIN_x_9 HIN_y_9 HIN_z_9 HNV_x_9 HNV_y_9 HNV_z_9
  dsimp only [putN] at *
  go_upto_region 10 with fail
  clear g0 g1 g2 g3 g4 y0 y1 y2 y3 y4
  generalize (((((wp.setCell ⟨w6.heap.size, 0, none⟩ (.int .i64 u.kind)).setCell ⟨w6.heap.size, 1, none⟩ (.string u.text)).setCell ⟨w6.heap.size, 2, none⟩ (.int .i64 u.lo)).setCell ⟨w6.heap.size, 3, none⟩ (.int .i64 u.hi)).setCell ⟨w6.heap.size, 4, none⟩ (.slice u.A u.kids.length u.c)) = w10 at *
  have HNV_u_10 := HNVX
  have HIN_u_10 := Lib.hid (InG.inF HIVX.out)
  have HP10 := HPVX
  have HF10 := HFVX
  have HZ10 := HZVX
  have HIN_x_10 := Lib.hid (InG.inF HIGX_x.out)
  have HIN_y_10 := Lib.hid (InG.inF HIGX_y.out)
  have HNV_x_10 := HNVX_x
  have HNV_y_10 := HNVX_y
  clear HNVX HIVX HPVX HFVX HZVX HIGX_x HIGX_y HNVX_x HNVX_y
  have c10 := HP10.out.c2
  obtain ⟨b0_x, b1_x, b2_x, b3_x, b4_x⟩ := HNV_x_10.out.cells
  obtain ⟨b0_y, b1_y, b2_y, b3_y, b4_y⟩ := HNV_y_10.out.cells
  obtain ⟨b0_u, b1_u, b2_u, b3_u, b4_u⟩ := HNV_u_10.out.cells
  go_wp2_with (fail)
  clear b0_x b1_x b2_x b3_x b4_x
  clear b0_y b1_y b2_y b3_y b4_y
  clear b0_u b1_u b2_u b3_u b4_u
  clear c10
  have hbA : Below w10.heap.size w10 (w10.alloc (.cells #[.int .i64 x.kind, .string x.text, .int .i64 x.lo, .int .i64 x.hi, .slice x.A x.kids.length x.c, .int .i64 y.kind, .string y.text, .int .i64 y.lo, .int .i64 y.hi, .slice y.A y.kids.length y.c, .int .i64 u.kind, .string u.text, .int .i64 u.lo, .int .i64 u.hi, .slice u.A u.kids.length u.c] 31)) := ((Below.refl w10.heap.size w10).alloc (by simp) (.cells #[.int .i64 x.kind, .string x.text, .int .i64 x.lo, .int .i64 x.hi, .slice x.A x.kids.length x.c, .int .i64 y.kind, .string y.text, .int .i64 y.lo, .int .i64 y.hi, .slice y.A y.kids.length y.c, .int .i64 u.kind, .string u.text, .int .i64 u.lo, .int .i64 u.hi, .slice u.A u.kids.length u.c] 31))
  have hnb0 : (w10.alloc (.cells #[.int .i64 x.kind, .string x.text, .int .i64 x.lo, .int .i64 x.hi, .slice x.A x.kids.length x.c, .int .i64 y.kind, .string y.text, .int .i64 y.lo, .int .i64 y.hi, .slice y.A y.kids.length y.c, .int .i64 u.kind, .string u.text, .int .i64 u.lo, .int .i64 u.hi, .slice u.A u.kids.length u.c] 31)).heap[w10.heap.size]? = some (.cells #[.int .i64 x.kind, .string x.text, .int .i64 x.lo, .int .i64 x.hi, .slice x.A x.kids.length x.c, .int .i64 y.kind, .string y.text, .int .i64 y.lo, .int .i64 y.hi, .slice y.A y.kids.length y.c, .int .i64 u.kind, .string u.text, .int .i64 u.lo, .int .i64 u.hi, .slice u.A u.kids.length u.c] 31 (0, 0)) := by
    have hx := heap_alloc_new w10 (.cells #[.int .i64 x.kind, .string x.text, .int .i64 x.lo, .int .i64 x.hi, .slice x.A x.kids.length x.c, .int .i64 y.kind, .string y.text, .int .i64 y.lo, .int .i64 y.hi, .slice y.A y.kids.length y.c, .int .i64 u.kind, .string u.text, .int .i64 u.lo, .int .i64 u.hi, .slice u.A u.kids.length u.c] 31)
    exact hx
  have HP11 := Lib.hid (HP10.out.later hbA)
  have hf11 := Fr.of_below hbA HP10.out.b0
  have HK_11 := Lib.hid (kin_block (lo := w.heap.size + 1) (c := 3) (ks := [x, y, u]) hnb0 (fun j _ => by simp [ncl]) (by have := HS10.out; omega) (Nat.le_refl _) (fun k hk => by
    simp only [List.mem_cons, List.not_mem_nil, or_false] at hk
    rcases hk with rfl | rfl | rfl
    · exact HIN_x_10.out.fr hf11
    · exact HIN_y_10.out.fr hf11
    · exact HIN_u_10.out.fr hf11))
  have HF11 := Lib.hid (HF10.out.trans hf11)
  have HZ11 := Lib.hid (HZ10.out.fr hf11)
  have HS11 := Lib.hid (Nat.le_trans HS10.out hf11.below.size)
  have HIN_x_11 := Lib.hid (HIN_x_10.out.fr hf11)
  have HIN_y_11 := Lib.hid (HIN_y_10.out.fr hf11)
  have HIN_u_11 := Lib.hid (HIN_u_10.out.fr hf11)
  have HNV_x_11 := Lib.hid (HNV_x_10.out.fr hf11)
  have HNV_y_11 := Lib.hid (HNV_y_10.out.fr hf11)
  have HNV_u_11 := Lib.hid (HNV_u_10.out.fr hf11)
  clear HF10 HZ10 HIN_x_10 HIN_y_10 HIN_u_10 HNV_x_10 HNV_y_10 HNV_u_10
  clear hbA hf11 hnb0
  generalize (w10.alloc (.cells #[.int .i64 x.kind, .string x.text, .int .i64 x.lo, .int .i64 x.hi, .slice x.A x.kids.length x.c, .int .i64 y.kind, .string y.text, .int .i64 y.lo, .int .i64 y.hi, .slice y.A y.kids.length y.c, .int .i64 u.kind, .string u.text, .int .i64 u.lo, .int .i64 u.hi, .slice u.A u.kids.length u.c] 31)) = w11 at *
  refine (node_kids HP11.out p.k 14 (⟨#[]⟩ : ByteArray) _ 3 [x, y, u] [c1, b1, o1] HF.out HK_11.out (by simp only [List.map_cons, List.map_nil, HST_x.out, HST_y.out, HST_u.out])).mono ?_
  rintro e w12 ⟨m, rfl, hst12, hin12, hp12, hf12⟩
  have HP12 := Lib.hid hp12
  have HST_m := Lib.hid hst12
  have HIN_m_12 := Lib.hid hin12
  clear hp12 hst12 hin12
  have HF12 := Lib.hid (HF11.out.trans hf12)
  have HZ12 := Lib.hid (HZ11.out.fr hf12)
  have HS12 := Lib.hid (Nat.le_trans HS11.out hf12.below.size)
  have HIN_x_12 := Lib.hid (HIN_x_11.out.fr hf12)
  have HIN_y_12 := Lib.hid (HIN_y_11.out.fr hf12)
  have HIN_u_12 := Lib.hid (HIN_u_11.out.fr hf12)
  have HNV_x_12 := Lib.hid (HNV_x_11.out.fr hf12)
  have HNV_y_12 := Lib.hid (HNV_y_11.out.fr hf12)
  have HNV_u_12 := Lib.hid (HNV_u_11.out.fr hf12)
  clear HF11 HZ11 HIN_x_11 HIN_y_11 HIN_u_11 HNV_x_11 HNV_y_11 HNV_u_11
  clear hf12
  obtain ⟨z0, z1, z2, z3, z4⟩ := HZ12.out.cells
  have y0 := HZ12.out.frozen 0
  have y1 := HZ12.out.frozen 1
  have y2 := HZ12.out.frozen 2
  have y3 := HZ12.out.frozen 3
  have y4 := HZ12.out.frozen 4
  obtain ⟨b0_x, b1_x, b2_x, b3_x, b4_x⟩ := HNV_x_12.out.cells
  obtain ⟨b0_y, b1_y, b2_y, b3_y, b4_y⟩ := HNV_y_12.out.cells
  obtain ⟨b0_u, b1_u, b2_u, b3_u, b4_u⟩ := HNV_u_12.out.cells
  go_wp2_with (fail)
  clear b0_x b1_x b2_x b3_x b4_x
  clear b0_y b1_y b2_y b3_y b4_y
  clear b0_u b1_u b2_u b3_u b4_u
  obtain ⟨hV, hin, hp, hf⟩ := got_put (w := w) (w2 := w12) (n := m) HB0.out HZ12.out (Nat.le_refl _) HIN_m_12.out HP12.out HF12.out
  clear z0 z1 z2 z3 z4 y0 y1 y2 y3 y4
  dsimp only [putN] at hV hin hp hf
  generalize (((((w12.setCell ⟨w.heap.size, 0, none⟩ (.int .i64 m.kind)).setCell ⟨w.heap.size, 1, none⟩ (.string m.text)).setCell ⟨w.heap.size, 2, none⟩ (.int .i64 m.lo)).setCell ⟨w.heap.size, 3, none⟩ (.int .i64 m.hi)).setCell ⟨w.heap.size, 4, none⟩ (.slice m.A m.kids.length m.c)) = V at *
  have v0 := Lib.cell_of_heap hV 0
  have v1 := Lib.cell_of_heap hV 1
  have v2 := Lib.cell_of_heap hV 2
  have v3 := Lib.cell_of_heap hV 3
  have v4 := Lib.cell_of_heap hV 4
  exact bodyPost_ret (v := .agg #[.int .i64 m.kind, .string m.text, .int .i64 m.lo, .int .i64 m.hi, .slice m.A m.kids.length m.c]) (by simp [results, Tryd.results71, go_sem, v0, v1, v2, v3, v4]) rfl ⟨m, rfl, HST_m.out, hin, hp, hf⟩
end Go.Proofs.YtnpcfmoiiecadaaDoor.Par
