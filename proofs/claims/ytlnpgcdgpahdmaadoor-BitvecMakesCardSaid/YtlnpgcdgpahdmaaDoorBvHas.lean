/- What is proved: slices.Index and slices.Contains over nodes, where no node is equal. -/
import Derived.Test.YtlnpgcdgpahdmaaDoorBvVald
set_option linter.unusedVariables false
namespace Go.Proofs.YtlnpgcdgpahdmaaDoor
open Go.RowKit Go.Maps

set_option maxRecDepth 100000 in
set_option maxHeartbeats 1000000 in
theorem index_not (A : Option Addr) (c : Nat) (l : List Tm) (x : Tm) (w : World) (hr : TRow w A l) (hok : ∀ y ∈ l, TmOk y) (hx : TmOk x) (hn : x ∉ l) (hl : l.length ≤ 1000) : Calls Tryd.prog 50 #[.slice A l.length c, .agg #[.int .i64 x.op, .int .i64 x.v, .int .i64 x.a, .int .i64 x.b, .int .i64 x.c]] w fun e w' => e = .returned (.int .i64 (-1)) ∧ Below w.heap.size w w' := by
  have HB1 := Lib.hid ((Below.refl w.heap.size w).alloc (Nat.le_refl _) (.cells #[.int .i64 x.op, .int .i64 x.v, .int .i64 x.a, .int .i64 x.b, .int .i64 x.c] 34))
  have HBX := Lib.hid (TBox.new w x)
  have HR := Lib.hid hr
  have HOK := Lib.hid hok
  have HX := Lib.hid hx
  have HN := Lib.hid hn
  clear hr hok hx hn
  go_enter Tryd.func50, Tryd.ntmps50
  go_upto_region 1 with fail
  generalize w.alloc (.cells #[.int .i64 x.op, .int .i64 x.v, .int .i64 x.a, .int .i64 x.b, .int .i64 x.c] 34) = w1 at *
  go_wp2_with (fail)
  go_loopw [8] (fun jv wr => ∃ (j : Nat), j ≤ l.length ∧ jv = .int .i64 (j : Int) ∧ Hid (TBox wr w.heap.size x) ∧ Hid (Below w.heap.size w wr)) (fun jv _ => l.length - (intOf jv).toNat)
  case atStart => exact ⟨0, Nat.zero_le _, rfl, HBX, HB1⟩
  case round =>
    obtain ⟨j, hj, rfl, hbx, hbw⟩ := hrel
    by_cases hlt : j < l.length
    · obtain ⟨b0, off, hA, _, hc0⟩ := (HR.out.later hbw.out).at hlt
      have HY := Lib.hid (HOK.out _ (List.getElem_mem hlt))
      have hne : x ≠ l[j] := fun e => HN.out (e ▸ List.getElem_mem hlt)
      generalize l[j] = y at *
      subst hA
      have d0 := hc0.1
      have d1 := hc0.2.1
      have d2 := hc0.2.2.1
      have d3 := hc0.2.2.2.1
      have d4 := hc0.2.2.2.2
      obtain ⟨x0, x1, x2, x3, x4⟩ := hbx.out.cells
      have har : ∀ n, (Op.equalIn 9999 32 (.agg #[.int .i64 x.a, .int .i64 x.b, .int .i64 x.c]) (.agg #[.int .i64 y.a, .int .i64 y.b, .int .i64 y.c])).run Tryd.prog (wr.drewN n) = .ok (decide (x.a = y.a ∧ x.b = y.b ∧ x.c = y.c)) (wr.drewN n) := fun n => arr_eq HX.out.a HX.out.b HX.out.c HY.out.a HY.out.b HY.out.c _
      clear hc0
      by_cases h0 : x.op = y.op
      · have b0 : (x.op == y.op) = true := by simpa using h0
        by_cases h1 : x.v = y.v
        · have b1 : (x.v == y.v) = true := by simpa using h1
          rw [decide_eq_false (fun e => hne (Tm.ext' h0 h1 e.1 e.2.1 e.2.2))] at har
          clear h0 h1 hne
          go_wp2_with (fail)
          go_quiet (fail)
          go_wp2_with (fail)
          exact ⟨⟨j + 1, by omega, by go_num, Lib.hid (hbx.out.later (drewN_below wr nq)), Lib.hid (hbw.out.trans ((drewN_below wr nq).mono hbw.out.size))⟩, by simp [intOf]; omega⟩
        · have b1 : (x.v == y.v) = false := by simpa using h1
          clear h0 h1 hne har
          go_wp2_with (fail)
          go_quiet (fail)
          go_wp2_with (fail)
          exact ⟨⟨j + 1, by omega, by go_num, Lib.hid (hbx.out.later (drewN_below wr nq)), Lib.hid (hbw.out.trans ((drewN_below wr nq).mono hbw.out.size))⟩, by simp [intOf]; omega⟩
      · have b0 : (x.op == y.op) = false := by simpa using h0
        clear h0 hne har
        go_wp2_with (fail)
        go_quiet (fail)
        go_wp2_with (fail)
        exact ⟨⟨j + 1, by omega, by go_num, Lib.hid (hbx.out.later (drewN_below wr nq)), Lib.hid (hbw.out.trans ((drewN_below wr nq).mono hbw.out.size))⟩, by simp [intOf]; omega⟩
    · obtain rfl : j = l.length := by omega
      go_wp2_with (fail)
      go_ret
      exact ⟨rfl, hbw.out⟩
set_option maxRecDepth 100000 in
theorem contains_not (A : Option Addr) (c : Nat) (l : List Tm) (x : Tm) (w : World) (hr : TRow w A l) (hok : ∀ y ∈ l, TmOk y) (hx : TmOk x) (hn : x ∉ l) (hl : l.length ≤ 1000) : Calls Tryd.prog 30 #[.slice A l.length c, .agg #[.int .i64 x.op, .int .i64 x.v, .int .i64 x.a, .int .i64 x.b, .int .i64 x.c]] w fun e w' => e = .returned (.bool false) ∧ Below w.heap.size w w' := by
  have HB1 := Lib.hid ((Below.refl w.heap.size w).alloc (Nat.le_refl _) (.cells #[.int .i64 x.op, .int .i64 x.v, .int .i64 x.a, .int .i64 x.b, .int .i64 x.c] 34))
  have HBX := Lib.hid (TBox.new w x)
  have HI := Lib.hid (fun w1 (hb : Below w.heap.size w w1) => index_not A c l x w1 (hr.later hb) hok hx hn hl)
  clear hr hok hx hn hl
  go_enter Tryd.func30, Tryd.ntmps30
  go_upto_region 1 with fail
  generalize w.alloc (.cells #[.int .i64 x.op, .int .i64 x.v, .int .i64 x.a, .int .i64 x.b, .int .i64 x.c] 34) = w1 at *
  obtain ⟨x0, x1, x2, x3, x4⟩ := HBX.out.cells
  go_wp2_with (fail)
  refine (HI.out _ HB1.out).mono ?_
  rintro e w2 ⟨rfl, hb2⟩
  have HB2 := Lib.hid (HB1.out.trans (hb2.mono HB1.out.size))
  clear hb2
  go_wp2_with (fail)
  go_ret
  exact ⟨rfl, HB2.out⟩
end Go.Proofs.YtlnpgcdgpahdmaaDoor
