/- What is proved: the reference's parser: the functions that call each other, whole. -/
import Derived.Test.YtnpcfmoiiecadaaDoorParRet
import Derived.Test.YtnpcfmoiiecadaaDoorParPrc
import Derived.Test.YtnpcfmoiiecadaaDoorParTot
set_option linter.unusedVariables false
namespace Go.Proofs.YtnpcfmoiiecadaaDoor.Par
open Go.RowKit
open Lx (Tok)

set_option maxHeartbeats 4000000 in
set_option maxRecDepth 100000 in
theorem st_skip {B0 bp : Nat} {E : Env} {w : World} {p : St} (h : PIs B0 bp E w p) {R : Rec} (hex : ExOK B0 bp E R) (hbk : BlkOK B0 bp E R) (hbr : BrOK B0 bp E R)  (n0 : isW E p (⟨#[118, 97, 114]⟩ : ByteArray) = false) (n1 : isW E p (⟨#[105, 102]⟩ : ByteArray) = false) (n2 : isW E p (⟨#[119, 104, 105, 108, 101]⟩ : ByteArray) = false) (n3 : isW E p (⟨#[102, 111, 114]⟩ : ByteArray) = false) (n4 : isW E p (⟨#[114, 101, 116, 117, 114, 110]⟩ : ByteArray) = false) (n5 : isW E p (⟨#[97, 115, 115, 101, 114, 116]⟩ : ByteArray) = false) (kd : Int) (hk : knd E p = kd) (h0 : (kd == 0) = false) (m : NT) (q : St) (hs : skipped E p = some (m, q)) :
    Calls Tryd.prog 65 #[ptr bp] w fun e w' => Got B0 bp w.heap.size E w (m) (q) e w' := by
  have HF := Lib.hid h.ok.1
  have HB0 := Lib.hid h.b0
  have HP := Lib.hid h
  clear h
  unfold ptr at *
  go_enter Tryd.func65, Tryd.ntmps65
  have hb0 := (Below.refl w.heap.size w).alloc (Nat.le_refl _) (.cells #[.int .i64 0, .string ⟨#[]⟩, .int .i64 0, .int .i64 0, .slice none 0 0] 31)
  have hz0 : ZB (w.alloc (.cells #[.int .i64 0, .string ⟨#[]⟩, .int .i64 0, .int .i64 0, .slice none 0 0] 31)) w.heap.size := heap_alloc_new w _
  have hs0 : (w.alloc (.cells #[.int .i64 0, .string ⟨#[]⟩, .int .i64 0, .int .i64 0, .slice none 0 0] 31)).heap.size = w.heap.size + 1 := World.size_alloc _ _
  have HP0 := Lib.hid (HP.out.later hb0)
  have HF0 := Lib.hid (Fr.of_below hb0 HB0.out)
  have HZ0 := Lib.hid hz0
  have HS0 := Lib.hid (show w.heap.size + 1 ≤ (w.alloc (.cells #[.int .i64 0, .string ⟨#[]⟩, .int .i64 0, .int .i64 0, .slice none 0 0] 31)).heap.size by rw [hs0]; omega)
  have c0 := HP0.out.c2
  clear hb0 hz0 hs0
  go_wp2_with (fail)
  clear c0
  generalize (w.alloc (.cells #[.int .i64 0, .string ⟨#[]⟩, .int .i64 0, .int .i64 0, .slice none 0 0] 31)) = w0 at *
  refine (accept_no HP0.out n0).mono ?_
  rintro e w1 ⟨rfl, hp1, hf1⟩
  have HP1 := Lib.hid hp1
  clear hp1
  have HF1 := Lib.hid (HF0.out.trans hf1)
  have HZ1 := Lib.hid (HZ0.out.fr hf1)
  have HS1 := Lib.hid (Nat.le_trans HS0.out hf1.below.size)
  clear HF0 HZ0
  clear hf1
  have c1 := HP1.out.c2
  go_wp2_with (fail)
  clear c1
  refine (is_at HP1.out n1).mono ?_
  rintro e w2 ⟨rfl, hb2⟩
  have hf2 := Fr.of_below hb2 HP1.out.b0
  have HP2 := Lib.hid (HP1.out.later hb2)
  clear hb2
  have HF2 := Lib.hid (HF1.out.trans hf2)
  have HZ2 := Lib.hid (HZ1.out.fr hf2)
  have HS2 := Lib.hid (Nat.le_trans HS1.out hf2.below.size)
  clear HF1 HZ1
  clear hf2
  have c2 := HP2.out.c2
  go_wp2_with (fail)
  clear c2
  refine (accept_no HP2.out n2).mono ?_
  rintro e w3 ⟨rfl, hp3, hf3⟩
  have HP3 := Lib.hid hp3
  clear hp3
  have HF3 := Lib.hid (HF2.out.trans hf3)
  have HZ3 := Lib.hid (HZ2.out.fr hf3)
  have HS3 := Lib.hid (Nat.le_trans HS2.out hf3.below.size)
  clear HF2 HZ2
  clear hf3
  have c3 := HP3.out.c2
  go_wp2_with (fail)
  clear c3
  refine (accept_no HP3.out n3).mono ?_
  rintro e w4 ⟨rfl, hp4, hf4⟩
  have HP4 := Lib.hid hp4
  clear hp4
  have HF4 := Lib.hid (HF3.out.trans hf4)
  have HZ4 := Lib.hid (HZ3.out.fr hf4)
  have HS4 := Lib.hid (Nat.le_trans HS3.out hf4.below.size)
  clear HF3 HZ3
  clear hf4
  have c4 := HP4.out.c2
  go_wp2_with (fail)
  clear c4
  refine (accept_no HP4.out n4).mono ?_
  rintro e w5 ⟨rfl, hp5, hf5⟩
  have HP5 := Lib.hid hp5
  clear hp5
  have HF5 := Lib.hid (HF4.out.trans hf5)
  have HZ5 := Lib.hid (HZ4.out.fr hf5)
  have HS5 := Lib.hid (Nat.le_trans HS4.out hf5.below.size)
  clear HF4 HZ4
  clear hf5
  have c5 := HP5.out.c2
  go_wp2_with (fail)
  clear c5
  refine (accept_no HP5.out n5).mono ?_
  rintro e w6 ⟨rfl, hp6, hf6⟩
  have HP6 := Lib.hid hp6
  clear hp6
  have HF6 := Lib.hid (HF5.out.trans hf6)
  have HZ6 := Lib.hid (HZ5.out.fr hf6)
  have HS6 := Lib.hid (Nat.le_trans HS5.out hf6.below.size)
  clear HF5 HZ5
  clear hf6
  have c6 := HP6.out.c2
  go_wp2_with (fail)
  clear c6
  refine (kind_at HP6.out hk).mono ?_
  rintro e w7 ⟨rfl, hb7⟩
  have hf7 := Fr.of_below hb7 HP6.out.b0
  have HP7 := Lib.hid (HP6.out.later hb7)
  clear hb7
  have HF7 := Lib.hid (HF6.out.trans hf7)
  have HZ7 := Lib.hid (HZ6.out.fr hf7)
  have HS7 := Lib.hid (Nat.le_trans HS6.out hf7.below.size)
  clear HF6 HZ6
  clear hf7
  have c7 := HP7.out.c2
  go_wp2_with (fail)
  clear c7
  refine (kind_at HP7.out hk).mono ?_
  rintro e w8 ⟨rfl, hb8⟩
  have hf8 := Fr.of_below hb8 HP7.out.b0
  have HP8 := Lib.hid (HP7.out.later hb8)
  clear hb8
  have HF8 := Lib.hid (HF7.out.trans hf8)
  have HZ8 := Lib.hid (HZ7.out.fr hf8)
  have HS8 := Lib.hid (Nat.le_trans HS7.out hf8.below.size)
  clear HF7 HZ7
  clear hf8
  have c8 := HP8.out.c2
  go_wp2_with (fail)
  clear c8
  refine (skipped_any HP8.out hs).mono ?_
  rintro e w9 ⟨x, rfl, hst9, hin9, hp9, hf9⟩
  have HP9 := Lib.hid hp9
  have HST_x := Lib.hid hst9
  have HIN_x_9 := Lib.hid (InF.mono hin9 HS8.out)
  clear hp9 hst9 hin9
  have HF9 := Lib.hid (HF8.out.trans hf9)
  have HZ9 := Lib.hid (HZ8.out.fr hf9)
  have HS9 := Lib.hid (Nat.le_trans HS8.out hf9.below.size)
  clear HF8 HZ8
  clear hf9
  obtain ⟨z0, z1, z2, z3, z4⟩ := HZ9.out.cells
  have y0 := HZ9.out.frozen 0
  have y1 := HZ9.out.frozen 1
  have y2 := HZ9.out.frozen 2
  have y3 := HZ9.out.frozen 3
  have y4 := HZ9.out.frozen 4
  go_wp2_with (fail)
  obtain ⟨hV, hin, hp, hf⟩ := got_put (w := w) (w2 := w9) (n := x) HB0.out HZ9.out (Nat.le_refl _) HIN_x_9.out HP9.out HF9.out
  clear z0 z1 z2 z3 z4 y0 y1 y2 y3 y4
  dsimp only [putN] at hV hin hp hf
  generalize (((((w9.setCell ⟨w.heap.size, 0, none⟩ (.int .i64 x.kind)).setCell ⟨w.heap.size, 1, none⟩ (.string x.text)).setCell ⟨w.heap.size, 2, none⟩ (.int .i64 x.lo)).setCell ⟨w.heap.size, 3, none⟩ (.int .i64 x.hi)).setCell ⟨w.heap.size, 4, none⟩ (.slice x.A x.kids.length x.c)) = V at *
  have v0 := Lib.cell_of_heap hV 0
  have v1 := Lib.cell_of_heap hV 1
  have v2 := Lib.cell_of_heap hV 2
  have v3 := Lib.cell_of_heap hV 3
  have v4 := Lib.cell_of_heap hV 4
  exact bodyPost_ret (v := .agg #[.int .i64 x.kind, .string x.text, .int .i64 x.lo, .int .i64 x.hi, .slice x.A x.kids.length x.c]) (by simp [results, Tryd.results65, go_sem, v0, v1, v2, v3, v4]) rfl ⟨x, rfl, HST_x.out, hin, hp, hf⟩
theorem stm_ok {B0 bp : Nat} {E : Env} (hfin : E.Fin) {R : Rec} (hex : ExOK B0 bp E R) (hbk : BlkOK B0 bp E R) (hbr : BrOK B0 bp E R) : StmOK B0 bp E (stp E R) := by
  intro p w m q hm h
  have hm' : stmS E R p = some (m, q) := hm
  unfold stmS at hm'
  cases n0 : isW E p (⟨#[118, 97, 114]⟩ : ByteArray) with
  | true =>
    simp only [n0, if_true, Option.map_eq_some_iff] at hm'
    obtain ⟨⟨x1, q1⟩, hx, he⟩ := hm'
    cases he
    exact st_var h hex hbk hbr n0 x1 q1 hx
  | false =>
  simp only [n0, Bool.false_eq_true, if_false] at hm'
  cases n1 : isW E p (⟨#[105, 102]⟩ : ByteArray) with
  | true =>
    simp only [n1, if_true] at hm'
    exact st_if h hex hbk hbr n0 n1 m q hm'
  | false =>
  simp only [n1, Bool.false_eq_true, if_false] at hm'
  cases n2 : isW E p (⟨#[119, 104, 105, 108, 101]⟩ : ByteArray) with
  | true =>
    simp only [n2, if_true] at hm'
    cases hc : R.ex 1 (rd E p) with
    | none => rw [hc] at hm'; simp at hm'
    | some c =>
      rw [hc] at hm'
      simp only [Option.bind_some, Option.map_eq_some_iff] at hm'
      obtain ⟨⟨b1, q2⟩, hb, he⟩ := hm'
      cases he
      exact st_while h hex hbk hbr n0 n1 n2 c.1 c.2 hc b1 q2 hb
  | false =>
  simp only [n2, Bool.false_eq_true, if_false] at hm'
  cases n3 : isW E p (⟨#[102, 111, 114]⟩ : ByteArray) with
  | true =>
    simp only [n3, if_true] at hm'
    cases hx : R.ex 1 (exq E (nam E (rd E p)).2 (⟨#[61]⟩ : ByteArray)) with
    | none => rw [hx] at hm'; simp at hm'
    | some x =>
      rw [hx] at hm'
      simp only [Option.bind_some] at hm'
      cases hy : R.ex 1 (exq E x.2 (⟨#[116, 111]⟩ : ByteArray)) with
      | none => rw [hy] at hm'; simp at hm'
      | some y =>
        rw [hy] at hm'
        simp only [Option.bind_some, Option.map_eq_some_iff] at hm'
        obtain ⟨⟨b1, q3⟩, hb, he⟩ := hm'
        cases he
        exact st_for h hex hbk hbr n0 n1 n2 n3 x.1 x.2 hx y.1 y.2 hy b1 q3 hb
  | false =>
  simp only [n3, Bool.false_eq_true, if_false] at hm'
  cases n4 : isW E p (⟨#[114, 101, 116, 117, 114, 110]⟩ : ByteArray) with
  | true =>
    simp only [n4, if_true, Option.map_eq_some_iff] at hm'
    obtain ⟨⟨x1, q1⟩, hx, he⟩ := hm'
    cases c1 : prim E (rd E p) with
    | true =>
      simp only [c1, Bool.true_or, if_true] at hx
      cases he
      exact st_ret_a h hex hbk hbr n0 n1 n2 n3 n4 c1 x1 q1 hx
    | false =>
      cases c2 : isW E (rd E p) (⟨#[110, 111, 116]⟩ : ByteArray) with
      | true =>
        simp only [c1, c2, Bool.false_or, Bool.true_or, if_true] at hx
        cases he
        exact st_ret_b h hex hbk hbr n0 n1 n2 n3 n4 c1 c2 x1 q1 hx
      | false =>
        cases c3 : isW E (rd E p) (⟨#[45]⟩ : ByteArray) with
        | true =>
          simp only [c1, c2, c3, Bool.false_or, if_true] at hx
          cases he
          exact st_ret_c h hex hbk hbr n0 n1 n2 n3 n4 c1 c2 c3 x1 q1 hx
        | false =>
          simp only [c1, c2, c3, Bool.or_self, Bool.false_eq_true, if_false, Option.some.injEq, Prod.mk.injEq] at hx
          obtain ⟨rfl, rfl⟩ := hx
          cases he
          exact st_ret_no h hex hbk hbr n0 n1 n2 n3 n4 c1 c2 c3
  | false =>
  simp only [n4, Bool.false_eq_true, if_false] at hm'
  cases n5 : isW E p (⟨#[97, 115, 115, 101, 114, 116]⟩ : ByteArray) with
  | true =>
    simp only [n5, if_true, Option.map_eq_some_iff] at hm'
    obtain ⟨⟨x1, q1⟩, hx, he⟩ := hm'
    cases he
    exact st_assert h hex hbk hbr n0 n1 n2 n3 n4 n5 x1 q1 hx
  | false =>
  simp only [n5, Bool.false_eq_true, if_false] at hm'
  by_cases hk0 : knd E p = 0
  · cases hb : behindW E p (⟨#[40]⟩ : ByteArray) with
    | true =>
      simp only [hk0, hb, decide_true, Bool.and_self, if_true, Option.map_eq_some_iff] at hm'
      obtain ⟨⟨ks, q'⟩, ha, he⟩ := hm'
      cases he
      exact st_do h hex hbk hbr n0 n1 n2 n3 n4 n5 hk0 (bhd40 hb) (behind_not_end hfin hb) ks _ ha
    | false =>
      simp only [hk0, hb, Bool.and_false, Bool.false_eq_true, if_false, if_true] at hm'
      cases hp : place E R p with
      | none => rw [hp] at hm'; simp at hm'
      | some x =>
        rw [hp] at hm'
        simp only [Option.bind_some, Option.map_eq_some_iff] at hm'
        obtain ⟨⟨y1, q2⟩, hy, he⟩ := hm'
        cases he
        exact st_assign h hex hbk hbr n0 n1 n2 n3 n4 n5 hk0 (bhd40 hb) x.1 x.2 hp y1 q2 hy
  · simp only [hk0, decide_false, Bool.false_and, Bool.false_eq_true, if_false] at hm'
    exact st_skip h hex hbk hbr n0 n1 n2 n3 n4 n5 _ rfl (by simpa using hk0) m q hm'
theorem br_ok {B0 bp : Nat} {E : Env} {R : Rec} (hex : ExOK B0 bp E R) (hbk : BlkOK B0 bp E R) (hbr : BrOK B0 bp E R) : BrOK B0 bp E (stp E R) := by
  intro p w m q hm hif h
  have h5 := isW_not_end hif
  have hm' : brS E R p = some (m, q) := hm
  unfold brS at hm'
  cases hc : R.ex 1 (rd E p) with
  | none => rw [hc] at hm'; simp at hm'
  | some c =>
    rw [hc] at hm'
    simp only [Option.bind_some] at hm'
    cases hb : R.blk c.2 with
    | none => rw [hb] at hm'; simp at hm'
    | some b =>
      rw [hb] at hm'
      simp only [Option.bind_some, Option.map_eq_some_iff] at hm'
      obtain ⟨⟨o1, q3⟩, ho, he⟩ := hm'
      cases hx : isW E b.2 (⟨#[101, 108, 115, 101]⟩ : ByteArray) with
      | true =>
        cases hi : isW E (rd E b.2) (⟨#[105, 102]⟩ : ByteArray) with
        | true =>
          simp only [hx, hi, if_true] at ho
          cases he
          exact br_elif h hex hbk hbr h5 c.1 c.2 hc b.1 b.2 hb hx hi o1 q3 ho
        | false =>
          simp only [hx, hi, if_true, Bool.false_eq_true, if_false] at ho
          cases he
          exact br_else h hex hbk hbr h5 c.1 c.2 hc b.1 b.2 hb hx hi o1 q3 ho
      | false =>
        simp only [hx, Bool.false_eq_true, if_false, Option.some.injEq, Prod.mk.injEq] at ho
        obtain ⟨rfl, rfl⟩ := ho
        cases he
        exact br_none h hex hbk hbr h5 c.1 c.2 hc b.1 b.2 hb hx
/-- the functions that call each other do what the plain ones say -/
structure AllOK (B0 bp : Nat) (E : Env) (R : Rec) : Prop where
  ex : ExOK B0 bp E R
  blk : BlkOK B0 bp E R
  br : BrOK B0 bp E R
  stm : StmOK B0 bp E R
theorem all_it {B0 bp : Nat} {E : Env} (hfin : E.Fin) : ∀ n, AllOK B0 bp E (it E n)
  | 0 => ⟨fun _ _ _ _ _ _ _ h _ => by simp [it, rec0] at h, fun _ _ _ _ h _ => by simp [it, rec0] at h, fun _ _ _ _ h _ _ => by simp [it, rec0] at h, fun _ _ _ _ h _ => by simp [it, rec0] at h⟩
  | n + 1 => by
    have h := all_it (B0 := B0) (bp := bp) hfin n
    exact ⟨ex_ok hfin h.ex, blk_ok h.stm, br_ok h.ex h.blk h.br, stm_ok hfin h.ex h.blk h.br⟩
end Go.Proofs.YtnpcfmoiiecadaaDoor.Par
