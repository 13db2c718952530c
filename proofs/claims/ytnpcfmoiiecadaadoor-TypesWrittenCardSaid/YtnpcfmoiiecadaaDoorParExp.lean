/- What is proved: the reference's parser: operand, operator, expression of the levels 3 and 7. -/
import Derived.Test.YtnpcfmoiiecadaaDoorParOper
import Derived.Test.YtnpcfmoiiecadaaDoorLxRefWords
set_option linter.unusedVariables false
namespace Go.Proofs.YtnpcfmoiiecadaaDoor.Par
open Go.RowKit
open Lx (Tok)

/-- the end has no word -/
def Env.Fin (E : Env) : Prop := ∀ i, i < E.T.length → (tk E i).kind = 5 → (tk E i).at_ = (tk E i).hi
theorem eqS_data (a b : ByteArray) : eqS a b = (a.data.toList == b.data.toList) := by unfold eqS; rw [ByteArray.toList_eq, ByteArray.toList_eq]
theorem behind_not_end {E : Env} {p : St} (hf : E.Fin) (h : behindW E p (⟨#[40]⟩ : ByteArray) = true) : knd E (rd E p) ≠ 5 := fun e => by
  unfold behindW at h
  simp only [Bool.and_eq_true, decide_eq_true_eq] at h
  have e1 : (tk E (p.k + 1)).kind = 5 := e
  have e2 := hf _ h.1 e1
  have e3 : wd E (p.k + 1) = (⟨#[]⟩ : ByteArray) := by
    unfold wd
    rw [e2]
    refine ba_ext ?_
    simp
  rw [e3, eqS_data] at h
  exact absurd h.2 (by decide)
theorem bhd40 {E : Env} {p : St} {b : Bool} (h : behindW E p (⟨#[40]⟩ : ByteArray) = b) : ((bhd E p).toList == [40]) = b := by
  rw [bhd_eq E p _ (by rw [eqS_data]; decide)] at h
  have e : ((⟨#[40]⟩ : ByteArray)).toList = [40] := by rw [ByteArray.toList_eq]
  unfold eqS at h
  rw [e] at h
  exact h
theorem operand_any {B0 bp : Nat} {E : Env} {w : World} {p : St} (h : PIs B0 bp E w p) (hfin : E.Fin) {R : Rec} (hex : ExOK B0 bp E R) {m : NT} {q : St} (hm : operand E R p = some (m, q)) :
    Calls Tryd.prog 83 #[.pointer (some ⟨bp, 0, none⟩)] w fun e w' => Got B0 bp w.heap.size E w m q e w' := by
  unfold operand at hm
  by_cases hk2 : knd E p = 2
  · simp only [hk2, if_true, Option.some.injEq] at hm
    cases hm
    exact op_num h hk2
  · have h2 : (knd E p == 2) = false := by simpa using hk2
    rw [if_neg hk2] at hm
    cases ht : isW E p (⟨#[116, 114, 117, 101]⟩ : ByteArray) with
    | true =>
      simp only [ht, Bool.true_or, if_true, Option.some.injEq] at hm
      cases hm
      exact op_true h _ rfl h2 ht
    | false =>
      cases hf : isW E p (⟨#[102, 97, 108, 115, 101]⟩ : ByteArray) with
      | true =>
        simp only [ht, hf, Bool.false_or, if_true, Option.some.injEq] at hm
        cases hm
        exact op_false h _ rfl h2 ht hf
      | false =>
        simp only [ht, hf, Bool.or_self, Bool.false_eq_true, if_false] at hm
        by_cases hk0 : knd E p = 0
        · cases hb : behindW E p (⟨#[40]⟩ : ByteArray) with
          | true =>
            simp only [hk0, hb, decide_true, Bool.and_self, if_true, Option.map_eq_some_iff] at hm
            obtain ⟨⟨ks, q'⟩, ha, he⟩ := hm
            cases he
            exact op_call h hex hk0 ht hf (bhd40 hb) (behind_not_end hfin hb) ks _ ha
          | false =>
            simp only [hk0, hb, Bool.and_false, Bool.false_eq_true, if_false, if_true] at hm
            exact op_name h hex hk0 ht hf (bhd40 hb) m q hm
        · have h0 : (knd E p == 0) = false := by simpa using hk0
          simp only [hk0, decide_false, Bool.false_and, Bool.false_eq_true, if_false] at hm
          cases hl : isW E p (⟨#[91]⟩ : ByteArray) with
          | true =>
            simp only [hl, if_true] at hm
            cases hr : R.ex 1 (rd E p) with
            | none => rw [hr] at hm; simp at hm
            | some y =>
              rw [hr] at hm
              exact op_list h hex _ rfl h2 h0 ht hf hl y.1 y.2 hr m q (by simpa using hm)
          | false =>
            simp only [hl, Bool.false_eq_true, if_false] at hm
            cases hn : isW E p (⟨#[108, 101, 110]⟩ : ByteArray) with
            | true =>
              simp only [hn, if_true, Option.some.injEq] at hm
              cases hm
              exact op_len h _ rfl h2 h0 ht hf hl hn
            | false =>
              simp only [hn, Bool.false_eq_true, if_false] at hm
              cases hp : isW E p (⟨#[40]⟩ : ByteArray) with
              | true =>
                simp only [hp, if_true, Option.map_eq_some_iff] at hm
                obtain ⟨⟨x1, q1⟩, hx, he⟩ := hm
                cases he
                exact op_par h hex _ rfl h2 h0 ht hf hl hn hp _ _ hx
              | false =>
                simp only [hp, Bool.false_eq_true, if_false, Option.some.injEq] at hm
                cases hm
                exact op_none h _ rfl h2 h0 ht hf hl hn hp

def lvlB (lvl : Nat) : Prop := lvl = 1 ∨ lvl = 2 ∨ lvl = 4 ∨ lvl = 5 ∨ lvl = 6
set_option maxHeartbeats 1000000 in
theorem operators_any (lvl : Nat) (w : World) (hl : lvlB lvl) :
    Calls Tryd.prog 92 #[.int .i64 (lvl : Int)] w fun e w' => ∃ A c, e = .returned (.slice A (ops lvl).length c) ∧ Lx.StrA w' A (ops lvl) ∧ Below w.heap.size w w' := by
  have hb := fun l => Lib.hid ((Below.refl w.heap.size w).alloc (Nat.le_refl _) (.cells (Lx.scells (ops l)).toArray 9))
  have hs := fun l => Lib.hid (Lx.lit_strs w (ops l) 9)
  rcases hl with rfl | rfl | rfl | rfl | rfl
  all_goals
    go_enter Tryd.func92, Tryd.ntmps92
    go_wp2_with (fail)
    go_ret
    first | exact ⟨_, _, rfl, (hs 1).out, (hb 1).out⟩ | exact ⟨_, _, rfl, (hs 2).out, (hb 2).out⟩ | exact ⟨_, _, rfl, (hs 4).out, (hb 4).out⟩ | exact ⟨_, _, rfl, (hs 5).out, (hb 5).out⟩ | exact ⟨_, _, rfl, (hs 6).out, (hb 6).out⟩
theorem ops_len (lvl : Nat) : (ops lvl).length ≤ 1000000 := by
  unfold ops
  split <;> decide

set_option maxHeartbeats 1000000 in
theorem operator_any {B0 bp : Nat} {E : Env} {w : World} {p : St} (h : PIs B0 bp E w p) (lvl : Nat) (hl : lvlB lvl) :
    Calls Tryd.prog 84 #[.pointer (some ⟨bp, 0, none⟩), .int .i64 (lvl : Int)] w fun e w' => e = .returned (.bool (oper E lvl p)) ∧ Below w.heap.size w w' := by
  have HP := Lib.hid h
  clear h
  by_cases h5 : knd E p = 5
  · have hr : oper E lvl p = false := by unfold oper; rw [h5]; rfl
    rw [hr]
    have hk := Lib.hid (kind_at HP.out h5)
    clear h5
    go_enter Tryd.func84, Tryd.ntmps84
    go_wp2_with (fail)
    refine hk.out.mono ?_
    rintro e w1 ⟨rfl, hb1⟩
    have HB1 := Lib.hid hb1
    clear hb1
    go_wp2_with (fail)
    go_ret
    exact ⟨rfl, HB1.out⟩
  · have hne : (knd E p != 5) = true := by simpa using h5
    have hr : oper E lvl p = Lx.hasB (ops lvl) (wd E p.k) := by unfold oper; rw [hne]; rfl
    rw [hr]
    have hk := Lib.hid (kind_at HP.out rfl)
    have HN := Lib.hid (fun w1 hb => next_any (HP.out.later (w' := w1) hb))
    have HL := Lib.hid hl
    generalize knd E p = kd at *
    unfold ptr at HN
    clear hr h5 hl
    go_enter Tryd.func84, Tryd.ntmps84
    go_wp2_with (fail)
    refine hk.out.mono ?_
    rintro e w1 ⟨rfl, hb1⟩
    have HB1 := Lib.hid hb1
    clear hb1
    go_wp2_with (fail)
    refine (operators_any lvl w1 HL.out).mono ?_
    rintro e w2 ⟨A, c, rfl, hs2, hb2⟩
    have HB2 := Lib.hid (HB1.out.trans (hb2.mono HB1.out.size))
    have HS2 := Lib.hid hs2
    clear hs2 hb2
    go_wp2_with (fail)
    refine (HN.out w2 HB2.out).mono ?_
    rintro e w3 ⟨rfl, hb3⟩
    have HB3 := Lib.hid (HB2.out.trans (hb3.mono HB2.out.size))
    have HS3 := Lib.hid (HS2.out.below hb3)
    clear hb3
    go_wp2_with (fail)
    refine (Lx.has_any A c (ops lvl) (wd E p.k) w3 (ops_len lvl) HS3.out).mono ?_
    rintro e w4 ⟨rfl, rfl⟩
    go_wp2_with (fail)
    go_ret
    exact ⟨rfl, HB3.out⟩
set_option maxHeartbeats 4000000 in
set_option maxRecDepth 100000 in
theorem ex_not {B0 bp : Nat} {E : Env} {w : World} {p : St} (h : PIs B0 bp E w p) {R : Rec} (hex : ExOK B0 bp E R) (h1 : isW E p (⟨#[110, 111, 116]⟩ : ByteArray) = true) (x1 : NT) (q1 : St) (hx : R.ex 3 (rd E p) = some (x1, q1)) :
    Calls Tryd.prog 70 #[ptr bp, .int .i64 3] w fun e w' => Got B0 bp w.heap.size E w (mkN E q1 p.k 28 (⟨#[110, 111, 116]⟩ : ByteArray) [x1]) (q1) e w' := by
  have HF := Lib.hid h.ok.1
  have HB0 := Lib.hid h.b0
  have HP := Lib.hid h
  clear h
  unfold ptr at *
  go_enter Tryd.func70, Tryd.ntmps70
  have hb0 := (Below.refl w.heap.size w).alloc (Nat.le_refl _) (.cells #[.int .i64 0, .string ⟨#[]⟩, .int .i64 0, .int .i64 0, .slice none 0 0] 31)
  have hz0 : ZB (w.alloc (.cells #[.int .i64 0, .string ⟨#[]⟩, .int .i64 0, .int .i64 0, .slice none 0 0] 31)) w.heap.size := heap_alloc_new w _
  have hs0 : (w.alloc (.cells #[.int .i64 0, .string ⟨#[]⟩, .int .i64 0, .int .i64 0, .slice none 0 0] 31)).heap.size = w.heap.size + 1 := World.size_alloc _ _
  have HP0 := Lib.hid (HP.out.later hb0)
  have HF0 := Lib.hid (Fr.of_below hb0 HB0.out)
  have HZ0 := Lib.hid hz0
  have HS0 := Lib.hid (show w.heap.size + 1 ≤ (w.alloc (.cells #[.int .i64 0, .string ⟨#[]⟩, .int .i64 0, .int .i64 0, .slice none 0 0] 31)).heap.size by rw [hs0]; omega)
  have c0 := HP0.out.c2
  clear hb0 hz0 hs0
  go_wp2_with (fail)
  clear c0
  generalize (w.alloc (.cells #[.int .i64 0, .string ⟨#[]⟩, .int .i64 0, .int .i64 0, .slice none 0 0] 31)) = w0 at *
  refine (accept_yes HP0.out h1).mono ?_
  rintro e w1 ⟨rfl, hp1, hf1⟩
  have HP1 := Lib.hid hp1
  clear hp1
  have HF1 := Lib.hid (HF0.out.trans hf1)
  have HZ1 := Lib.hid (HZ0.out.fr hf1)
  have HS1 := Lib.hid (Nat.le_trans HS0.out hf1.below.size)
  clear HF0 HZ0
  clear hf1
  have c1 := HP1.out.c2
  go_wp2_with (fail)
  clear c1
  refine (hex 3 _ _ x1 q1 (by decide) (by decide) hx HP1.out).mono ?_
  rintro e w2 ⟨x, rfl, hst2, hin2, hp2, hf2⟩
  have HP2 := Lib.hid hp2
  have HST_x := Lib.hid hst2
  have HIN_x_2 := Lib.hid (InF.mono hin2 HS1.out)
  clear hp2 hst2 hin2
  have HF2 := Lib.hid (HF1.out.trans hf2)
  have HZ2 := Lib.hid (HZ1.out.fr hf2)
  have HS2 := Lib.hid (Nat.le_trans HS1.out hf2.below.size)
  clear HF1 HZ1
  clear hf2
  have c2 := HP2.out.c2
  go_wp2_with (fail)
  clear c2
  have hbA : Below w2.heap.size w2 ((w2.alloc (.cells #[.int .i64 x.kind, .string x.text, .int .i64 x.lo, .int .i64 x.hi, .slice x.A x.kids.length x.c] 31)).alloc (.cells #[.int .i64 x.kind, .string x.text, .int .i64 x.lo, .int .i64 x.hi, .slice x.A x.kids.length x.c] 31)) := (((Below.refl w2.heap.size w2).alloc (by simp) (.cells #[.int .i64 x.kind, .string x.text, .int .i64 x.lo, .int .i64 x.hi, .slice x.A x.kids.length x.c] 31)).alloc (by simp) (.cells #[.int .i64 x.kind, .string x.text, .int .i64 x.lo, .int .i64 x.hi, .slice x.A x.kids.length x.c] 31))
  have hnb0 : ((w2.alloc (.cells #[.int .i64 x.kind, .string x.text, .int .i64 x.lo, .int .i64 x.hi, .slice x.A x.kids.length x.c] 31)).alloc (.cells #[.int .i64 x.kind, .string x.text, .int .i64 x.lo, .int .i64 x.hi, .slice x.A x.kids.length x.c] 31)).heap[w2.heap.size]? = some (.cells #[.int .i64 x.kind, .string x.text, .int .i64 x.lo, .int .i64 x.hi, .slice x.A x.kids.length x.c] 31 (0, 0)) := by
    have hx := heap_alloc_new w2 (.cells #[.int .i64 x.kind, .string x.text, .int .i64 x.lo, .int .i64 x.hi, .slice x.A x.kids.length x.c] 31)
    have hx := (heap_alloc_old (w2.alloc (.cells #[.int .i64 x.kind, .string x.text, .int .i64 x.lo, .int .i64 x.hi, .slice x.A x.kids.length x.c] 31)) (.cells #[.int .i64 x.kind, .string x.text, .int .i64 x.lo, .int .i64 x.hi, .slice x.A x.kids.length x.c] 31) (by simp)).trans hx
    exact hx
  have hnb1 : ((w2.alloc (.cells #[.int .i64 x.kind, .string x.text, .int .i64 x.lo, .int .i64 x.hi, .slice x.A x.kids.length x.c] 31)).alloc (.cells #[.int .i64 x.kind, .string x.text, .int .i64 x.lo, .int .i64 x.hi, .slice x.A x.kids.length x.c] 31)).heap[w2.heap.size + 1]? = some (.cells #[.int .i64 x.kind, .string x.text, .int .i64 x.lo, .int .i64 x.hi, .slice x.A x.kids.length x.c] 31 (0, 0)) := by
    have hx := heap_alloc_new (w2.alloc (.cells #[.int .i64 x.kind, .string x.text, .int .i64 x.lo, .int .i64 x.hi, .slice x.A x.kids.length x.c] 31)) (.cells #[.int .i64 x.kind, .string x.text, .int .i64 x.lo, .int .i64 x.hi, .slice x.A x.kids.length x.c] 31)
    rw [World.size_alloc] at hx
    exact hx
  have HP3 := Lib.hid (HP2.out.later hbA)
  have hf3 := Fr.of_below hbA HP2.out.b0
  have HNV_x_3 := Lib.hid (show NV ((w2.alloc (.cells #[.int .i64 x.kind, .string x.text, .int .i64 x.lo, .int .i64 x.hi, .slice x.A x.kids.length x.c] 31)).alloc (.cells #[.int .i64 x.kind, .string x.text, .int .i64 x.lo, .int .i64 x.hi, .slice x.A x.kids.length x.c] 31)) (w2.heap.size) x from hnb0)
  have HK_3 := Lib.hid (kin_block (lo := w.heap.size + 1) (c := 1) (ks := [x]) hnb1 (fun j _ => by simp [ncl]) (by have := HS2.out; omega) (Nat.le_refl _) (fun k hk => by
    simp only [List.mem_cons, List.not_mem_nil, or_false] at hk
    subst hk; exact HIN_x_2.out.fr hf3))
  have HF3 := Lib.hid (HF2.out.trans hf3)
  have HZ3 := Lib.hid (HZ2.out.fr hf3)
  have HS3 := Lib.hid (Nat.le_trans HS2.out hf3.below.size)
  have HIN_x_3 := Lib.hid (HIN_x_2.out.fr hf3)
  clear HF2 HZ2 HIN_x_2
  clear hbA hf3 hnb0 hnb1
  generalize ((w2.alloc (.cells #[.int .i64 x.kind, .string x.text, .int .i64 x.lo, .int .i64 x.hi, .slice x.A x.kids.length x.c] 31)).alloc (.cells #[.int .i64 x.kind, .string x.text, .int .i64 x.lo, .int .i64 x.hi, .slice x.A x.kids.length x.c] 31)) = w3 at *
  refine (node_kids HP3.out p.k 28 (⟨#[110, 111, 116]⟩ : ByteArray) _ 1 [x] [x1] HF.out HK_3.out (by simp only [List.map_cons, List.map_nil, HST_x.out])).mono ?_
  rintro e w4 ⟨m, rfl, hst4, hin4, hp4, hf4⟩
  have HP4 := Lib.hid hp4
  have HST_m := Lib.hid hst4
  have HIN_m_4 := Lib.hid hin4
  clear hp4 hst4 hin4
  have HF4 := Lib.hid (HF3.out.trans hf4)
  have HZ4 := Lib.hid (HZ3.out.fr hf4)
  have HS4 := Lib.hid (Nat.le_trans HS3.out hf4.below.size)
  have HIN_x_4 := Lib.hid (HIN_x_3.out.fr hf4)
  have HNV_x_4 := Lib.hid (HNV_x_3.out.fr hf4)
  clear HF3 HZ3 HIN_x_3 HNV_x_3
  clear hf4
  obtain ⟨z0, z1, z2, z3, z4⟩ := HZ4.out.cells
  have y0 := HZ4.out.frozen 0
  have y1 := HZ4.out.frozen 1
  have y2 := HZ4.out.frozen 2
  have y3 := HZ4.out.frozen 3
  have y4 := HZ4.out.frozen 4
  obtain ⟨b0_x, b1_x, b2_x, b3_x, b4_x⟩ := HNV_x_4.out.cells
  go_wp2_with (fail)
  clear b0_x b1_x b2_x b3_x b4_x
  obtain ⟨hV, hin, hp, hf⟩ := got_put (w := w) (w2 := w4) (n := m) HB0.out HZ4.out (Nat.le_refl _) HIN_m_4.out HP4.out HF4.out
  clear z0 z1 z2 z3 z4 y0 y1 y2 y3 y4
  dsimp only [putN] at hV hin hp hf
  generalize (((((w4.setCell ⟨w.heap.size, 0, none⟩ (.int .i64 m.kind)).setCell ⟨w.heap.size, 1, none⟩ (.string m.text)).setCell ⟨w.heap.size, 2, none⟩ (.int .i64 m.lo)).setCell ⟨w.heap.size, 3, none⟩ (.int .i64 m.hi)).setCell ⟨w.heap.size, 4, none⟩ (.slice m.A m.kids.length m.c)) = V at *
  have v0 := Lib.cell_of_heap hV 0
  have v1 := Lib.cell_of_heap hV 1
  have v2 := Lib.cell_of_heap hV 2
  have v3 := Lib.cell_of_heap hV 3
  have v4 := Lib.cell_of_heap hV 4
  exact bodyPost_ret (v := .agg #[.int .i64 m.kind, .string m.text, .int .i64 m.lo, .int .i64 m.hi, .slice m.A m.kids.length m.c]) (by simp [results, Tryd.results70, go_sem, v0, v1, v2, v3, v4]) rfl ⟨m, rfl, HST_m.out, hin, hp, hf⟩
set_option maxHeartbeats 4000000 in
set_option maxRecDepth 100000 in
theorem ex_neg {B0 bp : Nat} {E : Env} {w : World} {p : St} (h : PIs B0 bp E w p) {R : Rec} (hex : ExOK B0 bp E R) (h1 : isW E p (⟨#[45]⟩ : ByteArray) = true) (x1 : NT) (q1 : St) (hx : R.ex 7 (rd E p) = some (x1, q1)) :
    Calls Tryd.prog 70 #[ptr bp, .int .i64 7] w fun e w' => Got B0 bp w.heap.size E w (mkN E q1 p.k 28 (⟨#[45]⟩ : ByteArray) [x1]) (q1) e w' := by
  have HF := Lib.hid h.ok.1
  have HB0 := Lib.hid h.b0
  have HP := Lib.hid h
  clear h
  unfold ptr at *
  go_enter Tryd.func70, Tryd.ntmps70
  have hb0 := (Below.refl w.heap.size w).alloc (Nat.le_refl _) (.cells #[.int .i64 0, .string ⟨#[]⟩, .int .i64 0, .int .i64 0, .slice none 0 0] 31)
  have hz0 : ZB (w.alloc (.cells #[.int .i64 0, .string ⟨#[]⟩, .int .i64 0, .int .i64 0, .slice none 0 0] 31)) w.heap.size := heap_alloc_new w _
  have hs0 : (w.alloc (.cells #[.int .i64 0, .string ⟨#[]⟩, .int .i64 0, .int .i64 0, .slice none 0 0] 31)).heap.size = w.heap.size + 1 := World.size_alloc _ _
  have HP0 := Lib.hid (HP.out.later hb0)
  have HF0 := Lib.hid (Fr.of_below hb0 HB0.out)
  have HZ0 := Lib.hid hz0
  have HS0 := Lib.hid (show w.heap.size + 1 ≤ (w.alloc (.cells #[.int .i64 0, .string ⟨#[]⟩, .int .i64 0, .int .i64 0, .slice none 0 0] 31)).heap.size by rw [hs0]; omega)
  have c0 := HP0.out.c2
  clear hb0 hz0 hs0
  go_wp2_with (fail)
  clear c0
  generalize (w.alloc (.cells #[.int .i64 0, .string ⟨#[]⟩, .int .i64 0, .int .i64 0, .slice none 0 0] 31)) = w0 at *
  refine (accept_yes HP0.out h1).mono ?_
  rintro e w1 ⟨rfl, hp1, hf1⟩
  have HP1 := Lib.hid hp1
  clear hp1
  have HF1 := Lib.hid (HF0.out.trans hf1)
  have HZ1 := Lib.hid (HZ0.out.fr hf1)
  have HS1 := Lib.hid (Nat.le_trans HS0.out hf1.below.size)
  clear HF0 HZ0
  clear hf1
  have c1 := HP1.out.c2
  go_wp2_with (fail)
  clear c1
  refine (hex 7 _ _ x1 q1 (by decide) (by decide) hx HP1.out).mono ?_
  rintro e w2 ⟨x, rfl, hst2, hin2, hp2, hf2⟩
  have HP2 := Lib.hid hp2
  have HST_x := Lib.hid hst2
  have HIN_x_2 := Lib.hid (InF.mono hin2 HS1.out)
  clear hp2 hst2 hin2
  have HF2 := Lib.hid (HF1.out.trans hf2)
  have HZ2 := Lib.hid (HZ1.out.fr hf2)
  have HS2 := Lib.hid (Nat.le_trans HS1.out hf2.below.size)
  clear HF1 HZ1
  clear hf2
  have c2 := HP2.out.c2
  go_wp2_with (fail)
  clear c2
  have hbA : Below w2.heap.size w2 ((w2.alloc (.cells #[.int .i64 x.kind, .string x.text, .int .i64 x.lo, .int .i64 x.hi, .slice x.A x.kids.length x.c] 31)).alloc (.cells #[.int .i64 x.kind, .string x.text, .int .i64 x.lo, .int .i64 x.hi, .slice x.A x.kids.length x.c] 31)) := (((Below.refl w2.heap.size w2).alloc (by simp) (.cells #[.int .i64 x.kind, .string x.text, .int .i64 x.lo, .int .i64 x.hi, .slice x.A x.kids.length x.c] 31)).alloc (by simp) (.cells #[.int .i64 x.kind, .string x.text, .int .i64 x.lo, .int .i64 x.hi, .slice x.A x.kids.length x.c] 31))
  have hnb0 : ((w2.alloc (.cells #[.int .i64 x.kind, .string x.text, .int .i64 x.lo, .int .i64 x.hi, .slice x.A x.kids.length x.c] 31)).alloc (.cells #[.int .i64 x.kind, .string x.text, .int .i64 x.lo, .int .i64 x.hi, .slice x.A x.kids.length x.c] 31)).heap[w2.heap.size]? = some (.cells #[.int .i64 x.kind, .string x.text, .int .i64 x.lo, .int .i64 x.hi, .slice x.A x.kids.length x.c] 31 (0, 0)) := by
    have hx := heap_alloc_new w2 (.cells #[.int .i64 x.kind, .string x.text, .int .i64 x.lo, .int .i64 x.hi, .slice x.A x.kids.length x.c] 31)
    have hx := (heap_alloc_old (w2.alloc (.cells #[.int .i64 x.kind, .string x.text, .int .i64 x.lo, .int .i64 x.hi, .slice x.A x.kids.length x.c] 31)) (.cells #[.int .i64 x.kind, .string x.text, .int .i64 x.lo, .int .i64 x.hi, .slice x.A x.kids.length x.c] 31) (by simp)).trans hx
    exact hx
  have hnb1 : ((w2.alloc (.cells #[.int .i64 x.kind, .string x.text, .int .i64 x.lo, .int .i64 x.hi, .slice x.A x.kids.length x.c] 31)).alloc (.cells #[.int .i64 x.kind, .string x.text, .int .i64 x.lo, .int .i64 x.hi, .slice x.A x.kids.length x.c] 31)).heap[w2.heap.size + 1]? = some (.cells #[.int .i64 x.kind, .string x.text, .int .i64 x.lo, .int .i64 x.hi, .slice x.A x.kids.length x.c] 31 (0, 0)) := by
    have hx := heap_alloc_new (w2.alloc (.cells #[.int .i64 x.kind, .string x.text, .int .i64 x.lo, .int .i64 x.hi, .slice x.A x.kids.length x.c] 31)) (.cells #[.int .i64 x.kind, .string x.text, .int .i64 x.lo, .int .i64 x.hi, .slice x.A x.kids.length x.c] 31)
    rw [World.size_alloc] at hx
    exact hx
  have HP3 := Lib.hid (HP2.out.later hbA)
  have hf3 := Fr.of_below hbA HP2.out.b0
  have HNV_x_3 := Lib.hid (show NV ((w2.alloc (.cells #[.int .i64 x.kind, .string x.text, .int .i64 x.lo, .int .i64 x.hi, .slice x.A x.kids.length x.c] 31)).alloc (.cells #[.int .i64 x.kind, .string x.text, .int .i64 x.lo, .int .i64 x.hi, .slice x.A x.kids.length x.c] 31)) (w2.heap.size) x from hnb0)
  have HK_3 := Lib.hid (kin_block (lo := w.heap.size + 1) (c := 1) (ks := [x]) hnb1 (fun j _ => by simp [ncl]) (by have := HS2.out; omega) (Nat.le_refl _) (fun k hk => by
    simp only [List.mem_cons, List.not_mem_nil, or_false] at hk
    subst hk; exact HIN_x_2.out.fr hf3))
  have HF3 := Lib.hid (HF2.out.trans hf3)
  have HZ3 := Lib.hid (HZ2.out.fr hf3)
  have HS3 := Lib.hid (Nat.le_trans HS2.out hf3.below.size)
  have HIN_x_3 := Lib.hid (HIN_x_2.out.fr hf3)
  clear HF2 HZ2 HIN_x_2
  clear hbA hf3 hnb0 hnb1
  generalize ((w2.alloc (.cells #[.int .i64 x.kind, .string x.text, .int .i64 x.lo, .int .i64 x.hi, .slice x.A x.kids.length x.c] 31)).alloc (.cells #[.int .i64 x.kind, .string x.text, .int .i64 x.lo, .int .i64 x.hi, .slice x.A x.kids.length x.c] 31)) = w3 at *
  refine (node_kids HP3.out p.k 28 (⟨#[45]⟩ : ByteArray) _ 1 [x] [x1] HF.out HK_3.out (by simp only [List.map_cons, List.map_nil, HST_x.out])).mono ?_
  rintro e w4 ⟨m, rfl, hst4, hin4, hp4, hf4⟩
  have HP4 := Lib.hid hp4
  have HST_m := Lib.hid hst4
  have HIN_m_4 := Lib.hid hin4
  clear hp4 hst4 hin4
  have HF4 := Lib.hid (HF3.out.trans hf4)
  have HZ4 := Lib.hid (HZ3.out.fr hf4)
  have HS4 := Lib.hid (Nat.le_trans HS3.out hf4.below.size)
  have HIN_x_4 := Lib.hid (HIN_x_3.out.fr hf4)
  have HNV_x_4 := Lib.hid (HNV_x_3.out.fr hf4)
  clear HF3 HZ3 HIN_x_3 HNV_x_3
  clear hf4
  obtain ⟨z0, z1, z2, z3, z4⟩ := HZ4.out.cells
  have y0 := HZ4.out.frozen 0
  have y1 := HZ4.out.frozen 1
  have y2 := HZ4.out.frozen 2
  have y3 := HZ4.out.frozen 3
  have y4 := HZ4.out.frozen 4
  obtain ⟨b0_x, b1_x, b2_x, b3_x, b4_x⟩ := HNV_x_4.out.cells
  go_wp2_with (fail)
  clear b0_x b1_x b2_x b3_x b4_x
  obtain ⟨hV, hin, hp, hf⟩ := got_put (w := w) (w2 := w4) (n := m) HB0.out HZ4.out (Nat.le_refl _) HIN_m_4.out HP4.out HF4.out
  clear z0 z1 z2 z3 z4 y0 y1 y2 y3 y4
  dsimp only [putN] at hV hin hp hf
  generalize (((((w4.setCell ⟨w.heap.size, 0, none⟩ (.int .i64 m.kind)).setCell ⟨w.heap.size, 1, none⟩ (.string m.text)).setCell ⟨w.heap.size, 2, none⟩ (.int .i64 m.lo)).setCell ⟨w.heap.size, 3, none⟩ (.int .i64 m.hi)).setCell ⟨w.heap.size, 4, none⟩ (.slice m.A m.kids.length m.c)) = V at *
  have v0 := Lib.cell_of_heap hV 0
  have v1 := Lib.cell_of_heap hV 1
  have v2 := Lib.cell_of_heap hV 2
  have v3 := Lib.cell_of_heap hV 3
  have v4 := Lib.cell_of_heap hV 4
  exact bodyPost_ret (v := .agg #[.int .i64 m.kind, .string m.text, .int .i64 m.lo, .int .i64 m.hi, .slice m.A m.kids.length m.c]) (by simp [results, Tryd.results70, go_sem, v0, v1, v2, v3, v4]) rfl ⟨m, rfl, HST_m.out, hin, hp, hf⟩
set_option maxHeartbeats 4000000 in
set_option maxRecDepth 100000 in
theorem ex3_no {B0 bp : Nat} {E : Env} {w : World} {p : St} (h : PIs B0 bp E w p) {R : Rec} (hex : ExOK B0 bp E R) (h1 : isW E p (⟨#[110, 111, 116]⟩ : ByteArray) = false) (m : NT) (q : St) (hx : R.ex 4 p = some (m, q)) :
    Calls Tryd.prog 70 #[ptr bp, .int .i64 3] w fun e w' => Got B0 bp w.heap.size E w (m) (q) e w' := by
  have HF := Lib.hid h.ok.1
  have HB0 := Lib.hid h.b0
  have HP := Lib.hid h
  clear h
  unfold ptr at *
  go_enter Tryd.func70, Tryd.ntmps70
  have hb0 := (Below.refl w.heap.size w).alloc (Nat.le_refl _) (.cells #[.int .i64 0, .string ⟨#[]⟩, .int .i64 0, .int .i64 0, .slice none 0 0] 31)
  have hz0 : ZB (w.alloc (.cells #[.int .i64 0, .string ⟨#[]⟩, .int .i64 0, .int .i64 0, .slice none 0 0] 31)) w.heap.size := heap_alloc_new w _
  have hs0 : (w.alloc (.cells #[.int .i64 0, .string ⟨#[]⟩, .int .i64 0, .int .i64 0, .slice none 0 0] 31)).heap.size = w.heap.size + 1 := World.size_alloc _ _
  have HP0 := Lib.hid (HP.out.later hb0)
  have HF0 := Lib.hid (Fr.of_below hb0 HB0.out)
  have HZ0 := Lib.hid hz0
  have HS0 := Lib.hid (show w.heap.size + 1 ≤ (w.alloc (.cells #[.int .i64 0, .string ⟨#[]⟩, .int .i64 0, .int .i64 0, .slice none 0 0] 31)).heap.size by rw [hs0]; omega)
  have c0 := HP0.out.c2
  clear hb0 hz0 hs0
  go_wp2_with (fail)
  clear c0
  generalize (w.alloc (.cells #[.int .i64 0, .string ⟨#[]⟩, .int .i64 0, .int .i64 0, .slice none 0 0] 31)) = w0 at *
  refine (accept_no HP0.out h1).mono ?_
  rintro e w1 ⟨rfl, hp1, hf1⟩
  have HP1 := Lib.hid hp1
  clear hp1
  have HF1 := Lib.hid (HF0.out.trans hf1)
  have HZ1 := Lib.hid (HZ0.out.fr hf1)
  have HS1 := Lib.hid (Nat.le_trans HS0.out hf1.below.size)
  clear HF0 HZ0
  clear hf1
  have c1 := HP1.out.c2
  go_wp2_with (fail)
  clear c1
  refine (hex 4 _ _ m q (by decide) (by decide) hx HP1.out).mono ?_
  rintro e w2 ⟨x, rfl, hst2, hin2, hp2, hf2⟩
  have HP2 := Lib.hid hp2
  have HST_x := Lib.hid hst2
  have HIN_x_2 := Lib.hid (InF.mono hin2 HS1.out)
  clear hp2 hst2 hin2
  have HF2 := Lib.hid (HF1.out.trans hf2)
  have HZ2 := Lib.hid (HZ1.out.fr hf2)
  have HS2 := Lib.hid (Nat.le_trans HS1.out hf2.below.size)
  clear HF1 HZ1
  clear hf2
  obtain ⟨z0, z1, z2, z3, z4⟩ := HZ2.out.cells
  have y0 := HZ2.out.frozen 0
  have y1 := HZ2.out.frozen 1
  have y2 := HZ2.out.frozen 2
  have y3 := HZ2.out.frozen 3
  have y4 := HZ2.out.frozen 4
  go_wp2_with (fail)
  obtain ⟨hV, hin, hp, hf⟩ := got_put (w := w) (w2 := w2) (n := x) HB0.out HZ2.out (Nat.le_refl _) HIN_x_2.out HP2.out HF2.out
  clear z0 z1 z2 z3 z4 y0 y1 y2 y3 y4
  dsimp only [putN] at hV hin hp hf
  generalize (((((w2.setCell ⟨w.heap.size, 0, none⟩ (.int .i64 x.kind)).setCell ⟨w.heap.size, 1, none⟩ (.string x.text)).setCell ⟨w.heap.size, 2, none⟩ (.int .i64 x.lo)).setCell ⟨w.heap.size, 3, none⟩ (.int .i64 x.hi)).setCell ⟨w.heap.size, 4, none⟩ (.slice x.A x.kids.length x.c)) = V at *
  have v0 := Lib.cell_of_heap hV 0
  have v1 := Lib.cell_of_heap hV 1
  have v2 := Lib.cell_of_heap hV 2
  have v3 := Lib.cell_of_heap hV 3
  have v4 := Lib.cell_of_heap hV 4
  exact bodyPost_ret (v := .agg #[.int .i64 x.kind, .string x.text, .int .i64 x.lo, .int .i64 x.hi, .slice x.A x.kids.length x.c]) (by simp [results, Tryd.results70, go_sem, v0, v1, v2, v3, v4]) rfl ⟨x, rfl, HST_x.out, hin, hp, hf⟩
set_option maxHeartbeats 4000000 in
set_option maxRecDepth 100000 in
theorem ex7_no {B0 bp : Nat} {E : Env} {w : World} {p : St} (h : PIs B0 bp E w p) {R : Rec} (hex : ExOK B0 bp E R) (hfin : E.Fin) (h1 : isW E p (⟨#[45]⟩ : ByteArray) = false) (m : NT) (q : St) (hx : operand E R p = some (m, q)) :
    Calls Tryd.prog 70 #[ptr bp, .int .i64 7] w fun e w' => Got B0 bp w.heap.size E w (m) (q) e w' := by
  have HF := Lib.hid h.ok.1
  have HB0 := Lib.hid h.b0
  have HP := Lib.hid h
  clear h
  unfold ptr at *
  go_enter Tryd.func70, Tryd.ntmps70
  have hb0 := (Below.refl w.heap.size w).alloc (Nat.le_refl _) (.cells #[.int .i64 0, .string ⟨#[]⟩, .int .i64 0, .int .i64 0, .slice none 0 0] 31)
  have hz0 : ZB (w.alloc (.cells #[.int .i64 0, .string ⟨#[]⟩, .int .i64 0, .int .i64 0, .slice none 0 0] 31)) w.heap.size := heap_alloc_new w _
  have hs0 : (w.alloc (.cells #[.int .i64 0, .string ⟨#[]⟩, .int .i64 0, .int .i64 0, .slice none 0 0] 31)).heap.size = w.heap.size + 1 := World.size_alloc _ _
  have HP0 := Lib.hid (HP.out.later hb0)
  have HF0 := Lib.hid (Fr.of_below hb0 HB0.out)
  have HZ0 := Lib.hid hz0
  have HS0 := Lib.hid (show w.heap.size + 1 ≤ (w.alloc (.cells #[.int .i64 0, .string ⟨#[]⟩, .int .i64 0, .int .i64 0, .slice none 0 0] 31)).heap.size by rw [hs0]; omega)
  have c0 := HP0.out.c2
  clear hb0 hz0 hs0
  go_wp2_with (fail)
  clear c0
  generalize (w.alloc (.cells #[.int .i64 0, .string ⟨#[]⟩, .int .i64 0, .int .i64 0, .slice none 0 0] 31)) = w0 at *
  refine (accept_no HP0.out h1).mono ?_
  rintro e w1 ⟨rfl, hp1, hf1⟩
  have HP1 := Lib.hid hp1
  clear hp1
  have HF1 := Lib.hid (HF0.out.trans hf1)
  have HZ1 := Lib.hid (HZ0.out.fr hf1)
  have HS1 := Lib.hid (Nat.le_trans HS0.out hf1.below.size)
  clear HF0 HZ0
  clear hf1
  have c1 := HP1.out.c2
  go_wp2_with (fail)
  clear c1
  refine (operand_any HP1.out hfin hex hx).mono ?_
  rintro e w2 ⟨x, rfl, hst2, hin2, hp2, hf2⟩
  have HP2 := Lib.hid hp2
  have HST_x := Lib.hid hst2
  have HIN_x_2 := Lib.hid (InF.mono hin2 HS1.out)
  clear hp2 hst2 hin2
  have HF2 := Lib.hid (HF1.out.trans hf2)
  have HZ2 := Lib.hid (HZ1.out.fr hf2)
  have HS2 := Lib.hid (Nat.le_trans HS1.out hf2.below.size)
  clear HF1 HZ1
  clear hf2
  obtain ⟨z0, z1, z2, z3, z4⟩ := HZ2.out.cells
  have y0 := HZ2.out.frozen 0
  have y1 := HZ2.out.frozen 1
  have y2 := HZ2.out.frozen 2
  have y3 := HZ2.out.frozen 3
  have y4 := HZ2.out.frozen 4
  go_wp2_with (fail)
  obtain ⟨hV, hin, hp, hf⟩ := got_put (w := w) (w2 := w2) (n := x) HB0.out HZ2.out (Nat.le_refl _) HIN_x_2.out HP2.out HF2.out
  clear z0 z1 z2 z3 z4 y0 y1 y2 y3 y4
  dsimp only [putN] at hV hin hp hf
  generalize (((((w2.setCell ⟨w.heap.size, 0, none⟩ (.int .i64 x.kind)).setCell ⟨w.heap.size, 1, none⟩ (.string x.text)).setCell ⟨w.heap.size, 2, none⟩ (.int .i64 x.lo)).setCell ⟨w.heap.size, 3, none⟩ (.int .i64 x.hi)).setCell ⟨w.heap.size, 4, none⟩ (.slice x.A x.kids.length x.c)) = V at *
  have v0 := Lib.cell_of_heap hV 0
  have v1 := Lib.cell_of_heap hV 1
  have v2 := Lib.cell_of_heap hV 2
  have v3 := Lib.cell_of_heap hV 3
  have v4 := Lib.cell_of_heap hV 4
  exact bodyPost_ret (v := .agg #[.int .i64 x.kind, .string x.text, .int .i64 x.lo, .int .i64 x.hi, .slice x.A x.kids.length x.c]) (by simp [results, Tryd.results70, go_sem, v0, v1, v2, v3, v4]) rfl ⟨x, rfl, HST_x.out, hin, hp, hf⟩
end Go.Proofs.YtnpcfmoiiecadaaDoor.Par
