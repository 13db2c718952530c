/- What is proved: valued of bitvec's tables: a node has a Value that its operator allows; two nodes are compared. -/
import Derived.Test.YtjgkcicgjnjepaaDoorBvSort
set_option linter.unusedVariables false
namespace Go.Proofs.YtjgkcicgjnjepaaDoor
open Go.RowKit Go.Maps

theorem tm_eq {x y : Tm} (hx : TmOk x) (hy : TmOk y) (w : World) : (Op.equal 46 (.agg #[.int .i64 x.op, .int .i64 x.v, .int .i64 x.a, .int .i64 x.b, .int .i64 x.c]) (.agg #[.int .i64 y.op, .int .i64 y.v, .int .i64 y.a, .int .i64 y.b, .int .i64 y.c])).run Tryd.prog w = .ok (decide (x = y)) w := by
  obtain ⟨r, hr, hiff⟩ := run_equal_deep (P := Tryd.prog) w (m := 3) (by omega) (k := 46) (by kernel_rfl) (by kernel_rfl) (tm_keyOf hx) (tm_keyOf hy)
  have e : r = decide (x = y) := by
    rw [Bool.eq_iff_iff, hiff, decide_eq_true_eq]
    exact ⟨fun e => key_inj hx hy e, fun e => by rw [e]⟩
  rw [hr, e]

theorem arr_eq {a b c d e f : Int} (ha : I64o a) (hb : I64o b) (hc : I64o c) (hd : I64o d) (he : I64o e) (hf : I64o f) (w : World) : (Op.equalIn 9999 44 (.agg #[.int .i64 a, .int .i64 b, .int .i64 c]) (.agg #[.int .i64 d, .int .i64 e, .int .i64 f])).run Tryd.prog w = .ok (decide (a = d ∧ b = e ∧ c = f)) w := by
  have f1 : (Value.agg #[.int .i64 a, .int .i64 b, .int .i64 c]).formed Tryd.prog 44 = true := by simp [Value.formed, Tryd.underlying44, arCells]
  have f2 : (Value.agg #[.int .i64 d, .int .i64 e, .int .i64 f]).formed Tryd.prog 44 = true := by simp [Value.formed, Tryd.underlying44, arCells]
  obtain ⟨r, hr, hiff⟩ := run_equalIn_deep (P := Tryd.prog) 9997 2 44 (by kernel_rfl) w _ _ _ _ _ _ f1 f2 (arr_lits 0 a b c ha hb hc) (arr_lits 0 d e f hd he hf)
  have e : r = decide (a = d ∧ b = e ∧ c = f) := by
    rw [Bool.eq_iff_iff, hiff, decide_eq_true_eq]
    simp
  rw [hr, e]
section
variable {w : World} {n₀ tb mb : Nat} {rv : Value} {W : Int} {l : List Tm}
set_option maxHeartbeats 400000 in
theorem valued_any (x : Tm) (h : Tab w n₀ tb mb rv W l) (hW : IntKind.i64.wrap W = W) : Calls Tryd.prog 47 #[.pointer (some ⟨tb, 0, none⟩), .agg #[.int .i64 x.op, .int .i64 x.v, .int .i64 x.a, .int .i64 x.b, .int .i64 x.c]] w fun e w' => e = .returned (.bool (valOk W x)) ∧ Below w.heap.size w w' := by
  have hb1 := (Below.refl w.heap.size w).alloc (Nat.le_refl _) (.cells #[.int .i64 x.op, .int .i64 x.v, .int .i64 x.a, .int .i64 x.b, .int .i64 x.c] 46)
  have HB1 := Lib.hid hb1
  have HI := Lib.hid (fun n => isInteger_any n (h.later hb1) hW)
  have HT := Lib.hid (fun n w => isTruth_any n w)
  clear h hW hb1
  obtain ⟨op, v, a, b, c⟩ := x
  unfold valOk
  dsimp only at HI HB1 ⊢
  by_cases h0 : op = 0
  · subst h0
    rw [if_pos (.inl rfl)]
    by_cases h1 : 0 ≤ v
    · have d1 : decide (0 ≤ v) = true := by simpa using h1
      go_enter Tryd.func47, Tryd.ntmps47
      go_wp2_with (fail)
      go_ret
      exact ⟨by simp [h1], HB1.out⟩
    · have d1 : decide (0 ≤ v) = false := by simpa using h1
      go_enter Tryd.func47, Tryd.ntmps47
      go_wp2_with (fail)
      go_ret
      exact ⟨by simp, HB1.out⟩
  · have e0 : (op == 0) = false := by simpa using h0
    by_cases h1 : op = 1
    · subst h1
      rw [if_pos (.inr rfl)]
      by_cases h1 : 0 ≤ v
      · have d1 : decide (0 ≤ v) = true := by simpa using h1
        go_enter Tryd.func47, Tryd.ntmps47
        go_wp2_with (fail)
        go_ret
        exact ⟨by simp [h1], HB1.out⟩
      · have d1 : decide (0 ≤ v) = false := by simpa using h1
        go_enter Tryd.func47, Tryd.ntmps47
        go_wp2_with (fail)
        go_ret
        exact ⟨by simp, HB1.out⟩
    · have e1 : (op == 1) = false := by simpa using h1
      rw [if_neg (by omega)]
      by_cases h2 : op = 2
      · subst h2
        rw [if_pos rfl]
        clear h0 h1
        go_enter Tryd.func47, Tryd.ntmps47
        go_wp2_with (fail)
        refine (HI.out _).mono ?_
        rintro e w1 ⟨rfl, rfl⟩
        go_wp2_with (fail)
        go_ret
        exact ⟨rfl, HB1.out⟩
      · have e2 : (op == 2) = false := by simpa using h2
        rw [if_neg h2]
        by_cases h3 : op = 3
        · subst h3
          rw [if_pos rfl]
          clear h0 h1 h2
          go_enter Tryd.func47, Tryd.ntmps47
          go_wp2_with (fail)
          refine (HT.out _ _).mono ?_
          rintro e w1 ⟨rfl, rfl⟩
          go_wp2_with (fail)
          go_ret
          exact ⟨rfl, HB1.out⟩
        · have e3 : (op == 3) = false := by simpa using h3
          rw [if_neg h3]
          clear HI HT
          go_enter Tryd.func47, Tryd.ntmps47
          go_wp2_with (fail)
          go_ret
          exact ⟨rfl, HB1.out⟩
end
end Go.Proofs.YtjgkcicgjnjepaaDoor
