/- What is proved: what Eval does with one node: arithmetic, value. -/
import Derived.Test.YtjgkcicgjnjepaaDoorBvVal
set_option linter.unusedVariables false
namespace Go.Proofs.YtjgkcicgjnjepaaDoor
open Go.RowKit Go.Maps

def arP (W : Int) (o : Nat) (a b : Int) : Int :=
  match o with
  | 4 => wrpP W (-a)
  | 5 => wrpP W (a + b)
  | 6 => wrpP W (a - b)
  | 7 => wrpP W (a * b)
  | 8 => divQ W a b
  | _ => divR W a b
theorem mul_small {a b : Int} (ha : -128 ≤ a ∧ a ≤ 127) (hb : -128 ≤ b ∧ b ≤ 127) : -20000 ≤ a * b ∧ a * b ≤ 20000 := by
  have hn : (a * b).natAbs ≤ 128 * 128 := by
    rw [Int.natAbs_mul]
    exact Nat.mul_le_mul (by omega) (by omega)
  omega
section
variable {w : World} {n₀ tb mb : Nat} {rv : Value} {W : Int} {l : List Tm}
set_option maxRecDepth 100000 in
set_option maxHeartbeats 1000000 in
theorem arith_any (o : Nat) (a b : Int) (h : Tab w n₀ tb mb rv W l) (hW : IntKind.i64.wrap W = W) (ho : 4 ≤ o ∧ o ≤ 9) (ha : -128 ≤ a ∧ a ≤ 127) (hb : -128 ≤ b ∧ b ≤ 127) : Calls Tryd.prog 41 #[.pointer (some ⟨tb, 0, none⟩), .int .i64 (o : Int), .int .i64 a, .int .i64 b] w fun e w' => e = .returned (.int .i64 (arP W o a b)) ∧ Below w.heap.size w w' := by
  have HD := Lib.hid (divide_any W a b hW w)
  have HWR := Lib.hid (fun n w => wrap_any W n hW w)
  have HC := Lib.hid (show ∀ n, (w.drewN n).cell? ⟨tb, 0, none⟩ = some (.int .i64 W) from fun n => Lib.cell_of_heap (h.later (drewN_below w n)).box 0)
  have c0 : w.cell? ⟨tb, 0, none⟩ = some (.int .i64 W) := Lib.cell_of_heap h.box 0
  have w1 := w64 (n := -a) (by omega)
  have w2 := w64 (n := a + b) (by omega)
  have w3 := w64 (n := a - b) (by omega)
  have hm := mul_small ha hb
  have w4 := w64 (n := a * b) (by omega)
  have hc : o = 4 ∨ o = 5 ∨ o = 6 ∨ o = 7 ∨ o = 8 ∨ o = 9 := by omega
  clear h hm ha hb ho
  go_enter Tryd.func41, Tryd.ntmps41
  go_wp2_with (fail)
  refine HD.out.mono ?_
  rintro e wx ⟨rfl, m, rfl⟩
  have HB := Lib.hid (drewN_below w m)
  have c1 := HC.out m
  clear HC HD c0
  generalize w.drewN m = w5 at *
  rcases hc with rfl | rfl | rfl | rfl | rfl | rfl
  · go_wp2_with (fail)
    refine (HWR.out _ _).mono ?_
    rintro e wx ⟨rfl, hx⟩
    obtain rfl := hx.symm
    go_wp2_with (fail)
    go_ret
    exact ⟨rfl, HB.out⟩
  · go_wp2_with (fail)
    refine (HWR.out _ _).mono ?_
    rintro e wx ⟨rfl, hx⟩
    obtain rfl := hx.symm
    go_wp2_with (fail)
    go_ret
    exact ⟨rfl, HB.out⟩
  · go_wp2_with (fail)
    refine (HWR.out _ _).mono ?_
    rintro e wx ⟨rfl, hx⟩
    obtain rfl := hx.symm
    go_wp2_with (fail)
    go_ret
    exact ⟨rfl, HB.out⟩
  · go_wp2_with (fail)
    refine (HWR.out _ _).mono ?_
    rintro e wx ⟨rfl, hx⟩
    obtain rfl := hx.symm
    go_wp2_with (fail)
    go_ret
    exact ⟨rfl, HB.out⟩
  · go_wp2_with (fail)
    go_ret
    exact ⟨rfl, HB.out⟩
  · go_wp2_with (fail)
    go_ret
    exact ⟨rfl, HB.out⟩
/-- what is asked of a node whose value is computed -/
structure VArg (w : World) (W : Int) (x : Tm) (f : Nat → Int) (n vb : Nat) (A : Option Addr) (inp : List Int) : Prop where
  op : 0 ≤ x.op ∧ x.op < 18
  a : 0 ≤ x.a ∧ x.a.toNat < n
  b : 0 ≤ x.b ∧ x.b.toNat < n
  c : 0 ≤ x.c ∧ x.c.toNat < n
  arr : IArr w vb n f
  sm : ∀ k, k < n → -128 ≤ f k ∧ f k ≤ 127
  row : ZRow w.heap.size w A inp
  inp : x.op = 0 ∨ x.op = 1 → 0 ≤ x.v ∧ x.v.toNat < inp.length
set_option maxRecDepth 100000 in
set_option maxHeartbeats 4000000 in
theorem value_any (x : Tm) (f : Nat → Int) (n vb c ci : Nat) (A : Option Addr) (inp : List Int) (h : Tab w n₀ tb mb rv W l) (hW : IntKind.i64.wrap W = W) (hv : VArg w W x f n vb A inp) : Calls Tryd.prog 26 #[.pointer (some ⟨tb, 0, none⟩), .agg #[.int .i64 x.op, .int .i64 x.v, .int .i64 x.a, .int .i64 x.b, .int .i64 x.c], .slice (some ⟨vb, 0, none⟩) n c, .slice A inp.length ci] w fun e w' => e = .returned (.int .i64 (valP W x f inp)) ∧ Below w.heap.size w w' := by
  obtain ⟨⟨p1, p2⟩, ⟨a0, a1⟩, ⟨b0, b1⟩, ⟨c0, c1⟩, harr, hsm, hrow, hinp⟩ := hv
  obtain ⟨op, v, a, b, c'⟩ := x
  dsimp only at p1 p2 a0 a1 b0 b1 c0 c1 hinp
  obtain ⟨o, rfl⟩ : ∃ k : Nat, op = (k : Int) := ⟨op.toNat, by omega⟩
  obtain ⟨a, rfl⟩ : ∃ k : Nat, a = (k : Int) := ⟨a.toNat, by omega⟩
  obtain ⟨b, rfl⟩ : ∃ k : Nat, b = (k : Int) := ⟨b.toNat, by omega⟩
  obtain ⟨c', rfl⟩ : ∃ k : Nat, c' = (k : Int) := ⟨c'.toNat, by omega⟩
  rw [Int.toNat_natCast] at a1 b1 c1
  have ho : o < 18 := by omega
  have hb1 := (Below.refl w.heap.size w).alloc (Nat.le_refl _) (.cells #[.int .i64 (o : Int), .int .i64 v, .int .i64 (a : Int), .int .i64 (b : Int), .int .i64 (c' : Int)] 46)
  have HB1 := Lib.hid hb1
  have HBX := Lib.hid (TBox.new w ⟨(o : Int), v, (a : Int), (b : Int), (c' : Int)⟩)
  have HH := Lib.hid (h.later hb1)
  have HR := Lib.hid (hrow.later hb1)
  have v1 := (harr.later hb1).cell a1
  have v2 := (harr.later hb1).cell b1
  have v3 := (harr.later hb1).cell c1
  have s1 := hsm a a1
  have s2 := hsm b b1
  have s3 := hsm c' c1
  have HTR := Lib.hid (fun t w => truth_any t w)
  have da : decide ((a : Int) < 0) = false := by simp
  have db : decide ((b : Int) < 0) = false := by simp
  have dc : decide ((c' : Int) < 0) = false := by simp
  have na : ¬ n ≤ a := by omega
  have nb : ¬ n ≤ b := by omega
  have nc : ¬ n ≤ c' := by omega
  obtain ⟨R, hR⟩ : ∃ R, valP W ⟨(o : Int), v, (a : Int), (b : Int), (c' : Int)⟩ f inp = R := ⟨_, rfl⟩
  rw [hR]
  unfold valP at hR
  dsimp only at hR
  simp only [Int.toNat_natCast] at hR
  have hvq : ∀ k : Nat, (⟨(k : Int), v, (a : Int), (b : Int), (c' : Int)⟩ : Tm).o = k := fun k => Int.toNat_natCast k
  clear hsm harr hvq
  generalize f a = va at *
  generalize f b = vb' at *
  generalize f c' = vc at *
  have HRR := Lib.hid hR
  have HO := Lib.hid (o_cases ho)
  have HI := Lib.hid hinp
  clear hR ho h hb1 hrow hinp p1 p2 a0 b0 c0
  go_enter Tryd.func26, Tryd.ntmps26
  go_upto_region 1 with fail
  generalize w.alloc (.cells #[.int .i64 (o : Int), .int .i64 v, .int .i64 (a : Int), .int .i64 (b : Int), .int .i64 (c' : Int)] 46) = w1 at *
  obtain ⟨x0, x1, x2, x3, x4⟩ := HBX.out.cells
  dsimp only at x0 x1 x2 x3 x4
  go_quiet (fail)
  have HB2 := Lib.hid (HB1.out.trans ((drewN_below w1 nq).mono HB1.out.size))
  have HH2 := Lib.hid (HH.out.later (drewN_below w1 nq))
  have HR2 := Lib.hid (HR.out.later (drewN_below w1 nq))
  have y0 : (w1.drewN nq).cell? ⟨w.heap.size, 0, none⟩ = some (.int .i64 (o : Int)) := x0
  have y1 : (w1.drewN nq).cell? ⟨w.heap.size, 1, none⟩ = some (.int .i64 v) := x1
  clear x0 x1 x2 x3 x4 v1 v2 v3 da db dc na nb nc HBX HH HR HB1
  generalize w1.drewN nq = w2 at *
  have wn := w64 (n := 1 - va) (by omega)
  have HAR := Lib.hid (fun q (hq : 4 ≤ q ∧ q ≤ 9) => arith_any q va vb' HH2.out hW hq s1 s2)
  clear s1 s2 s3 HH2 hW a1 b1 c1
  rcases HO.out with rfl | rfl | rfl | rfl | rfl | rfl | rfl | rfl | rfl | rfl | rfl | rfl | rfl | rfl | rfl | rfl | rfl | rfl
  · obtain ⟨h0, h1⟩ := HI.out (by decide)
    obtain ⟨v, rfl⟩ : ∃ k : Nat, v = (k : Int) := ⟨v.toNat, by omega⟩
    rw [Int.toNat_natCast] at h1
    obtain ⟨zb, off, rfl, _, hc⟩ := HR2.out (by omega)
    have z0 := hc v h1
    have dv : decide ((v : Int) < 0) = false := by simp
    have nv : ¬ inp.length ≤ v := by omega
    have HG := Lib.hid (show inp[v] = R by rw [← HRR.out]; show inp[v] = inp.getD ((v : Int)).toNat 0; simp [List.getD, h1])
    clear hc HI HRR HR2 HAR HTR h0
    generalize inp[v] = z at *
    go_wp2_with (fail)
    go_ret
    exact ⟨by rw [← HG.out]; rfl, HB2.out⟩
  · obtain ⟨h0, h1⟩ := HI.out (by decide)
    obtain ⟨v, rfl⟩ : ∃ k : Nat, v = (k : Int) := ⟨v.toNat, by omega⟩
    rw [Int.toNat_natCast] at h1
    obtain ⟨zb, off, rfl, _, hc⟩ := HR2.out (by omega)
    have z0 := hc v h1
    have dv : decide ((v : Int) < 0) = false := by simp
    have nv : ¬ inp.length ≤ v := by omega
    have HG := Lib.hid (show inp[v] = R by rw [← HRR.out]; show inp[v] = inp.getD ((v : Int)).toNat 0; simp [List.getD, h1])
    clear hc HI HRR HR2 HAR HTR h0
    generalize inp[v] = z at *
    go_wp2_with (fail)
    go_ret
    exact ⟨by rw [← HG.out]; rfl, HB2.out⟩
  · go_wp2_with (fail)
    go_ret
    exact ⟨by rw [← HRR.out]; rfl, HB2.out⟩
  · go_wp2_with (fail)
    go_ret
    exact ⟨by rw [← HRR.out]; rfl, HB2.out⟩
  · have HA := Lib.hid (HAR.out 4 (by decide))
    clear HAR HTR HI HR2
    go_wp2_with (fail)
    refine HA.out.mono ?_
    rintro e w3 ⟨rfl, hb3⟩
    have HB3 := Lib.hid (HB2.out.trans (hb3.mono HB2.out.size))
    clear hb3
    go_wp2_with (fail)
    go_ret
    exact ⟨by rw [← HRR.out]; rfl, HB3.out⟩
  · have HA := Lib.hid (HAR.out 5 (by decide))
    clear HAR HTR HI HR2
    go_wp2_with (fail)
    refine HA.out.mono ?_
    rintro e w3 ⟨rfl, hb3⟩
    have HB3 := Lib.hid (HB2.out.trans (hb3.mono HB2.out.size))
    clear hb3
    go_wp2_with (fail)
    go_ret
    exact ⟨by rw [← HRR.out]; rfl, HB3.out⟩
  · have HA := Lib.hid (HAR.out 6 (by decide))
    clear HAR HTR HI HR2
    go_wp2_with (fail)
    refine HA.out.mono ?_
    rintro e w3 ⟨rfl, hb3⟩
    have HB3 := Lib.hid (HB2.out.trans (hb3.mono HB2.out.size))
    clear hb3
    go_wp2_with (fail)
    go_ret
    exact ⟨by rw [← HRR.out]; rfl, HB3.out⟩
  · have HA := Lib.hid (HAR.out 7 (by decide))
    clear HAR HTR HI HR2
    go_wp2_with (fail)
    refine HA.out.mono ?_
    rintro e w3 ⟨rfl, hb3⟩
    have HB3 := Lib.hid (HB2.out.trans (hb3.mono HB2.out.size))
    clear hb3
    go_wp2_with (fail)
    go_ret
    exact ⟨by rw [← HRR.out]; rfl, HB3.out⟩
  · have HA := Lib.hid (HAR.out 8 (by decide))
    clear HAR HTR HI HR2
    go_wp2_with (fail)
    refine HA.out.mono ?_
    rintro e w3 ⟨rfl, hb3⟩
    have HB3 := Lib.hid (HB2.out.trans (hb3.mono HB2.out.size))
    clear hb3
    go_wp2_with (fail)
    go_ret
    exact ⟨by rw [← HRR.out]; rfl, HB3.out⟩
  · have HA := Lib.hid (HAR.out 9 (by decide))
    clear HAR HTR HI HR2
    go_wp2_with (fail)
    refine HA.out.mono ?_
    rintro e w3 ⟨rfl, hb3⟩
    have HB3 := Lib.hid (HB2.out.trans (hb3.mono HB2.out.size))
    clear hb3
    go_wp2_with (fail)
    go_ret
    exact ⟨by rw [← HRR.out]; rfl, HB3.out⟩
  · by_cases h1 : va = 1
    · have H1 := Lib.hid h1
      have d1 : (va == 1) = true := by simpa using h1
      clear h1
      go_wp2_with (fail)
      go_ret
      exact ⟨by rw [← HRR.out]; exact congrArg (fun q => Ending.returned (.int .i64 q)) (if_pos H1.out).symm, HB2.out⟩
    · have H1 := Lib.hid h1
      have d1 : (va == 1) = false := by simpa using h1
      clear h1
      go_wp2_with (fail)
      go_ret
      exact ⟨by rw [← HRR.out]; exact congrArg (fun q => Ending.returned (.int .i64 q)) (if_neg H1.out).symm, HB2.out⟩
  · go_wp2_with (fail)
    go_ret
    exact ⟨by rw [← HRR.out]; rfl, HB2.out⟩
  · go_wp2_with (fail)
    go_ret
    exact ⟨by rw [← HRR.out]; rfl, HB2.out⟩
  · go_wp2_with (fail)
    go_ret
    exact ⟨by rw [← HRR.out]; rfl, HB2.out⟩
  · go_wp2_with (fail)
    refine (HTR.out _ _).mono ?_
    rintro e w3 ⟨rfl, h3⟩
    obtain rfl := h3.symm
    go_wp2_with (fail)
    go_ret
    exact ⟨by rw [← HRR.out]; rfl, HB2.out⟩
  · by_cases h1 : va = 1
    · have H1 := Lib.hid h1
      have d1 : (va == 1) = true := by simpa using h1
      clear h1
      go_wp2_with (fail)
      go_ret
      exact ⟨by rw [← HRR.out]; exact congrArg (fun q => Ending.returned (.int .i64 q)) (if_pos H1.out).symm, HB2.out⟩
    · have H1 := Lib.hid h1
      have d1 : (va == 1) = false := by simpa using h1
      clear h1
      go_wp2_with (fail)
      go_ret
      exact ⟨by rw [← HRR.out]; exact congrArg (fun q => Ending.returned (.int .i64 q)) (if_neg H1.out).symm, HB2.out⟩
  · go_wp2_with (fail)
    refine (HTR.out _ _).mono ?_
    rintro e w3 ⟨rfl, h3⟩
    obtain rfl := h3.symm
    go_wp2_with (fail)
    go_ret
    exact ⟨by rw [← HRR.out]; rfl, HB2.out⟩
  · go_wp2_with (fail)
    refine (HTR.out _ _).mono ?_
    rintro e w3 ⟨rfl, h3⟩
    obtain rfl := h3.symm
    go_wp2_with (fail)
    go_ret
    exact ⟨by rw [← HRR.out]; rfl, HB2.out⟩
end
end Go.Proofs.YtjgkcicgjnjepaaDoor
