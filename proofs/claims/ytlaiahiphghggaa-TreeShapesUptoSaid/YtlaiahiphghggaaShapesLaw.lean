/- What is proved: TreeShapes answers true. -/
import Derived.Test.YtlaiahiphghggaaRefShape
import Derived.Test.YtlaiahiphghggaaTreeAwake
import Derived.Test.YtlaiahiphghggaaRefNodes
set_option linter.unusedVariables false
namespace Go.Proofs.Ytlaiahiphghggaa
open Go.RowKit Go.Shelf

theorem shaped_sh (p : NT → Bool) (n : NT) : shapedB p n = (p n && sh n) := rfl
theorem r_list_any (k : Int) (w : World) : Calls Try.prog 19 #[.int .i64 k] w fun e w' => e = .returned (.bool (listB k)) ∧ Below w.heap.size w w' := by
  have hk0 : k = 2 ∨ k = 3 ∨ k = 6 ∨ k = 11 ∨ k = 19 ∨ k = 26 ∨ k = 27 ∨ ((k == 2) = false ∧ (k == 3) = false ∧ (k == 6) = false ∧ (k == 11) = false ∧ (k == 19) = false ∧ (k == 26) = false ∧ (k == 27) = false ∧ listB k = false) := by
    simp [listB]; omega
  rcases hk0 with rfl | rfl | rfl | rfl | rfl | rfl | rfl | ⟨h1, h2, h3, h4, h5, h6, h7, h8⟩
  all_goals
    go_enter Try.func19, Try.ntmps19
    go_wp2_with (fail)
    go_ret
    first | exact ⟨congrArg (fun b => Ending.returned (Value.bool b)) h8.symm, Below.refl _ _⟩ | exact ⟨rfl, Below.refl _ _⟩
theorem list_b (k : Int) (w : World) : Calls Try.prog 18 #[.int .i64 k] w fun e w' => e = .returned (.bool (listB k)) ∧ Below w.heap.size w w' := by
  refine (list_any k w).mono ?_
  rintro e w' ⟨rfl, rfl⟩
  exact ⟨rfl, Below.refl _ _⟩
set_option maxRecDepth 100000 in
theorem r_valid_f (n : NT) (w : World) (hin : InT w.heap.size w n) (hc : NT.cnt n ≤ 4096) : Calls Try.prog 13 #[.agg #[.int .i64 n.kind, .string n.text, .int .i64 n.lo, .int .i64 n.hi, .slice n.A n.kids.length n.c]] w fun e w' => e = .returned (.bool (shapedB (kindB [2]) n)) ∧ Below w.heap.size w w' := by
  have HBX := Lib.hid ((Below.refl w.heap.size w).alloc (Nat.le_refl _) (.cells #[.int .i64 n.kind, .string n.text, .int .i64 n.lo, .int .i64 n.hi, .slice n.A n.kids.length n.c] 24))
  have HX := Lib.hid (r_shape_any n _ (InT.later hin HBX.out) hc)
  clear hin
  have he := shaped_sh (kindB [2]) n
  cases ht : (n.kind == 2) with
  | false =>
    have hv := Lib.hid (show shapedB (kindB [2]) n = false from by rw [he]; rw [kind1]; rw [ht]; rfl)
    clear he
    go_enter Try.func13, Try.ntmps13
    go_wp2_with (fail)
    go_ret
    exact ⟨retB hv.out, HBX.out⟩
  | true =>
    have hv := Lib.hid (show shapedB (kindB [2]) n = sh n from by rw [he]; rw [kind1]; rw [ht]; rfl)
    clear he
    go_enter Try.func13, Try.ntmps13
    go_wp2_with (fail)
    refine HX.out.mono ?_
    rintro e w2 ⟨rfl, hb⟩
    go_wp2_with (fail)
    go_ret
    exact ⟨retB hv.out, HBX.out.trans (hb.mono HBX.out.size)⟩
set_option maxRecDepth 100000 in
theorem r_expression_f (n : NT) (w : World) (hin : InT w.heap.size w n) (hc : NT.cnt n ≤ 4096) : Calls Try.prog 15 #[.agg #[.int .i64 n.kind, .string n.text, .int .i64 n.lo, .int .i64 n.hi, .slice n.A n.kids.length n.c]] w fun e w' => e = .returned (.bool (shapedB exprB n)) ∧ Below w.heap.size w w' := by
  have HBX := Lib.hid ((Below.refl w.heap.size w).alloc (Nat.le_refl _) (.cells #[.int .i64 n.kind, .string n.text, .int .i64 n.lo, .int .i64 n.hi, .slice n.A n.kids.length n.c] 24))
  have HX := Lib.hid (r_shape_any n _ (InT.later hin HBX.out) hc)
  clear hin
  have he := shaped_sh exprB n
  cases ht : exprB n with
  | false =>
    have hv := Lib.hid (show shapedB exprB n = false from by rw [he]; rw [ht]; rfl)
    have HC := Lib.hid (fun w1 => r_expr_any n w1)
    rw [ht] at HC
    clear he ht
    go_enter Try.func15, Try.ntmps15
    go_wp2_with (fail)
    refine (HC.out _).mono ?_
    rintro e w9 ⟨rfl, rfl⟩
    go_wp2_with (fail)
    go_ret
    exact ⟨retB hv.out, HBX.out⟩
  | true =>
    have hv := Lib.hid (show shapedB exprB n = sh n from by rw [he]; rw [ht]; rfl)
    have HC := Lib.hid (fun w1 => r_expr_any n w1)
    rw [ht] at HC
    clear he ht
    go_enter Try.func15, Try.ntmps15
    go_wp2_with (fail)
    refine (HC.out _).mono ?_
    rintro e w9 ⟨rfl, rfl⟩
    go_wp2_with (fail)
    refine HX.out.mono ?_
    rintro e w2 ⟨rfl, hb⟩
    go_wp2_with (fail)
    go_ret
    exact ⟨retB hv.out, HBX.out.trans (hb.mono HBX.out.size)⟩
set_option maxRecDepth 100000 in
theorem r_statement_f (n : NT) (w : World) (hin : InT w.heap.size w n) (hc : NT.cnt n ≤ 4096) : Calls Try.prog 17 #[.agg #[.int .i64 n.kind, .string n.text, .int .i64 n.lo, .int .i64 n.hi, .slice n.A n.kids.length n.c]] w fun e w' => e = .returned (.bool (shapedB stmtB n)) ∧ Below w.heap.size w w' := by
  have HBX := Lib.hid ((Below.refl w.heap.size w).alloc (Nat.le_refl _) (.cells #[.int .i64 n.kind, .string n.text, .int .i64 n.lo, .int .i64 n.hi, .slice n.A n.kids.length n.c] 24))
  have HX := Lib.hid (r_shape_any n _ (InT.later hin HBX.out) hc)
  clear hin
  have he := shaped_sh stmtB n
  cases ht : stmtB n with
  | false =>
    have hv := Lib.hid (show shapedB stmtB n = false from by rw [he]; rw [ht]; rfl)
    have HC := Lib.hid (fun w1 => r_stmt_any n w1)
    rw [ht] at HC
    clear he ht
    go_enter Try.func17, Try.ntmps17
    go_wp2_with (fail)
    refine (HC.out _).mono ?_
    rintro e w9 ⟨rfl, rfl⟩
    go_wp2_with (fail)
    go_ret
    exact ⟨retB hv.out, HBX.out⟩
  | true =>
    have hv := Lib.hid (show shapedB stmtB n = sh n from by rw [he]; rw [ht]; rfl)
    have HC := Lib.hid (fun w1 => r_stmt_any n w1)
    rw [ht] at HC
    clear he ht
    go_enter Try.func17, Try.ntmps17
    go_wp2_with (fail)
    refine (HC.out _).mono ?_
    rintro e w9 ⟨rfl, rfl⟩
    go_wp2_with (fail)
    refine HX.out.mono ?_
    rintro e w2 ⟨rfl, hb⟩
    go_wp2_with (fail)
    go_ret
    exact ⟨retB hv.out, HBX.out.trans (hb.mono HBX.out.size)⟩

/-- the tree in its variable -/
structure Nv (w : World) (n : NT) (W : World) : Prop where
  below : Below w.heap.size w W
  box : NBox W w.heap.size n
theorem Nv.later {w : World} {n : NT} {W W' : World} (h : Nv w n W) (hb : Below W.heap.size W W') : Nv w n W' :=
  ⟨h.below.trans (hb.mono h.below.size), h.box.below hb (Array.getElem?_eq_some_iff.1 h.box).1⟩
theorem Nv.cells {w : World} {n : NT} {w' : World} (h : Nv w n w') : w'.cell? ⟨w.heap.size, 0, none⟩ = some (.int .i64 n.kind) ∧ w'.cell? ⟨w.heap.size, 1, none⟩ = some (.string n.text) ∧ w'.cell? ⟨w.heap.size, 2, none⟩ = some (.int .i64 n.lo) ∧ w'.cell? ⟨w.heap.size, 3, none⟩ = some (.int .i64 n.hi) ∧ w'.cell? ⟨w.heap.size, 4, none⟩ = some (.slice n.A n.kids.length n.c) := h.box.cells

set_option maxHeartbeats 8000000 in
set_option maxRecDepth 100000 in
theorem treeShapes_any (n : NT) (k : Int) (w : World) (hin : InT w.heap.size w n) (hc : NT.cnt n ≤ 1000000000) (hwf : ∀ x ∈ NT.nds n, I64 x.kind) (hk : (Lit.int .i64 k).wf = true) :
    Calls Try.prog 3 #[.agg #[.int .i64 n.kind, .string n.text, .int .i64 n.lo, .int .i64 n.hi, .slice n.A n.kids.length n.c], .int .i64 k] w fun e w' => e = .returned (.bool true) ∧ Below w.heap.size w w' := by
  have HI := Lib.hid hin
  have HW := Lib.hid hwf
  clear hin hwf hk
  go_enter Try.func3, Try.ntmps3
  go_wp2_with (fail)
  have hb0 := (Below.refl w.heap.size w).alloc (Nat.le_refl _) (.cells #[.int .i64 n.kind, .string n.text, .int .i64 n.lo, .int .i64 n.hi, .slice n.A n.kids.length n.c] 24)
  have hn0 := NBox.new w n
  have hz0 : w.heap.size < (w.alloc (.cells #[.int .i64 n.kind, .string n.text, .int .i64 n.lo, .int .i64 n.hi, .slice n.A n.kids.length n.c] 24)).heap.size := by simp
  generalize (w.alloc (.cells #[.int .i64 n.kind, .string n.text, .int .i64 n.lo, .int .i64 n.hi, .slice n.A n.kids.length n.c] 24)) = w1 at *
  refine (r_small_any n 150 w1 (InT.later HI.out hb0) hc).mono ?_
  rintro e w2 ⟨rfl, hb2⟩
  have HV2 : Hid (Nv w n w2) := ⟨hb0.trans (hb2.mono hb0.size), hn0.below hb2 hz0⟩
  clear hb0 hn0 hz0 hb2
  obtain ⟨c0, c1, c2, c3, c4⟩ := HV2.out.cells
  cases hs : smallB n 150 with
  | false =>
    clear hs
    go_wp2_with (fail)
    refine (awake_any w2).mono ?_
    rintro e w3 ⟨rfl, hb3⟩
    have HB3 := Lib.hid (HV2.out.below.trans (hb3.mono HV2.out.below.size))
    clear hb3
    go_wp2_with (fail)
    go_ret
    exact ⟨rfl, HB3.out⟩
  | true =>
    have hc2 : NT.cnt n ≤ 4096 := by
      unfold smallB at hs
      simp only [Bool.and_eq_true, decide_eq_true_eq] at hs
      omega
    clear hs
    have q1 : ∀ b : Bool, (b == b) = true := by simp
    have Q1 := Lib.hid (fun w1 h1 => valid_f n w1 h1 hc HW.out)
    have Q2 := Lib.hid (fun w1 h1 => r_valid_f n w1 h1 hc2)
    have Q3 := Lib.hid (fun w1 h1 => expression_f n w1 h1 hc HW.out)
    have Q4 := Lib.hid (fun w1 h1 => r_expression_f n w1 h1 hc2)
    have Q5 := Lib.hid (fun w1 h1 => statement_f n w1 h1 hc HW.out)
    have Q6 := Lib.hid (fun w1 h1 => r_statement_f n w1 h1 hc2)
    have Q7 := Lib.hid (fun w1 => list_b k w1)
    have Q8 := Lib.hid (fun w1 => r_list_any k w1)
    generalize shapedB (kindB [2]) n = x1 at *
    generalize shapedB exprB n = x2 at *
    generalize shapedB stmtB n = x3 at *
    generalize listB k = x4 at *
    have e1 := q1 x1
    have e2 := q1 x2
    have e3 := q1 x3
    have e4 := q1 x4
    clear q1
    go_wp2_with (fail)
    have HD := Lib.hid (show Nv w n w2.drew from HV2.out.later (Below.refl w2.heap.size w2).drew)
    go_region_held3 (fun w' => w'.cell? ⟨w.heap.size, 0, none⟩ = some (.int .i64 n.kind) ∧ w'.cell? ⟨w.heap.size, 1, none⟩ = some (.string n.text) ∧ w'.cell? ⟨w.heap.size, 2, none⟩ = some (.int .i64 n.lo) ∧ w'.cell? ⟨w.heap.size, 3, none⟩ = some (.int .i64 n.hi) ∧ w'.cell? ⟨w.heap.size, 4, none⟩ = some (.slice n.A n.kids.length n.c)) (first | exact HS11.out | exact HS10.out | exact HS9.out | exact HS8.out | exact HS7.out | exact HS6.out | exact HS5.out | exact HS4.out | exact HS3.out | go_keep) ((first | (go_at_call 12; refine (Q1.out _ (InT.later HI.out HD.out.below)).mono ?_; rintro e w3 ⟨rfl, hb⟩; have HA3 := Lib.hid (HD.out.later hb); have HS3 := Lib.hid HA3.out.cells; clear hb) | (go_at_call 13; refine (Q2.out _ (InT.later HI.out HA3.out.below)).mono ?_; rintro e w4 ⟨rfl, hb⟩; have HA4 := Lib.hid (HA3.out.later hb); have HS4 := Lib.hid HA4.out.cells; clear hb) | (go_at_call 14; refine (Q3.out _ (InT.later HI.out HA4.out.below)).mono ?_; rintro e w5 ⟨rfl, hb⟩; have HA5 := Lib.hid (HA4.out.later hb); have HS5 := Lib.hid HA5.out.cells; clear hb) | (go_at_call 15; refine (Q4.out _ (InT.later HI.out HA5.out.below)).mono ?_; rintro e w6 ⟨rfl, hb⟩; have HA6 := Lib.hid (HA5.out.later hb); have HS6 := Lib.hid HA6.out.cells; clear hb) | (go_at_call 16; refine (Q5.out _ (InT.later HI.out HA6.out.below)).mono ?_; rintro e w7 ⟨rfl, hb⟩; have HA7 := Lib.hid (HA6.out.later hb); have HS7 := Lib.hid HA7.out.cells; clear hb) | (go_at_call 17; refine (Q6.out _ (InT.later HI.out HA7.out.below)).mono ?_; rintro e w8 ⟨rfl, hb⟩; have HA8 := Lib.hid (HA7.out.later hb); have HS8 := Lib.hid HA8.out.cells; clear hb) | (go_at_call 18; refine (Q7.out _).mono ?_; rintro e w9 ⟨rfl, hb⟩; have HA9 := Lib.hid (HA8.out.later hb); have HS9 := Lib.hid HA9.out.cells; clear hb) | (go_at_call 19; refine (Q8.out _).mono ?_; rintro e w10 ⟨rfl, hb⟩; have HA10 := Lib.hid (HA9.out.later hb); have HS10 := Lib.hid HA10.out.cells; clear hb) | (go_at_call 11; refine (awake_any _).mono ?_; rintro e w11 ⟨rfl, hb⟩; have HA11 := Lib.hid (HA10.out.later hb); have HS11 := Lib.hid HA11.out.cells; clear hb)))
    go_wp2_with (fail)
    go_ret
    exact ⟨rfl, HA11.out.below⟩
end Go.Proofs.Ytlaiahiphghggaa
