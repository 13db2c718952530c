/- What is proved: Size, and what Eval does with one node: isInput, fits, arithmetic, value. -/
import Derived.Test.YtjgkcicgjnjepaaDoorBvPart
set_option linter.unusedVariables false
namespace Go.Proofs.YtjgkcicgjnjepaaDoor
open Go.RowKit Go.Maps

theorem isInput_any (x : Tm) (w : World) : Calls Tryd.prog 30 #[.agg #[.int .i64 x.op, .int .i64 x.v, .int .i64 x.a, .int .i64 x.b, .int .i64 x.c]] w fun e w' => e = .returned (.bool (x.op == 0 || x.op == 1)) ∧ Below w.heap.size w w' := by
  have HB1 := Lib.hid ((Below.refl w.heap.size w).alloc (Nat.le_refl _) (.cells #[.int .i64 x.op, .int .i64 x.v, .int .i64 x.a, .int .i64 x.b, .int .i64 x.c] 46))
  by_cases h : x.op = 0
  · have h0 : (x.op == 0) = true := by simpa using h
    have H := Lib.hid h
    clear h
    go_enter Tryd.func30, Tryd.ntmps30
    go_wp2_with (fail)
    go_ret
    exact ⟨by simp [H.out], HB1.out⟩
  · have h0 : (x.op == 0) = false := by simpa using h
    go_enter Tryd.func30, Tryd.ntmps30
    go_wp2_with (fail)
    go_ret
    exact ⟨by simp [h], HB1.out⟩
section
variable {w : World} {n₀ tb mb : Nat} {rv : Value} {W : Int} {l : List Tm}
theorem parts_any (i : Int) (h : Tab w n₀ tb mb rv W l) (ht : TabS w) : Calls Tryd.prog 24 #[.pointer (some ⟨tb, 0, none⟩), .int .i64 i] w fun e w' => ∃ A c, e = .returned (.slice A (prtZ l i).length c) ∧ ZOwn w' w.heap.size (.slice A (prtZ l i).length c) (zl (prtZ l i)) ∧ Below w.heap.size w w' := by
  unfold prtZ
  by_cases hi : 0 ≤ i ∧ i < (l.length : Int)
  · rw [if_pos hi]
    obtain ⟨k, rfl⟩ : ∃ k : Nat, i = (k : Int) := ⟨i.toNat, by omega⟩
    rw [Int.toNat_natCast]
    refine (parts_in k h ht (by omega)).mono ?_
    rintro e w' ⟨v, rfl, hz, hb⟩
    obtain ⟨A, c, rfl, _⟩ := hz.form
    rw [zl_len] at hz ⊢
    exact ⟨A, c, rfl, hz, hb⟩
  · rw [if_neg hi]
    refine (parts_out i h (by omega)).mono ?_
    rintro e w' ⟨rfl, rfl⟩
    exact ⟨none, 0, rfl, World.ownsRow_nil _ _ _ _, Below.refl _ _⟩
theorem size_any (i : Int) (h : Tab w n₀ tb mb rv W l) (ht : TabS w) : Calls Tryd.prog 14 #[.pointer (some ⟨tb, 0, none⟩), .int .i64 i] w fun e w' => e = .returned (.int .i64 ((prtZ l i).length : Int)) ∧ Below w.heap.size w w' := by
  have HP := Lib.hid (parts_any i h ht)
  clear h ht
  go_enter Tryd.func14, Tryd.ntmps14
  go_wp2_with (fail)
  refine HP.out.mono ?_
  rintro e w1 ⟨A, c, rfl, _, hb⟩
  have HB := Lib.hid hb
  clear hb
  go_wp2_with (fail)
  go_ret
  exact ⟨rfl, HB.out⟩
/-- an input of the machine's numbers, in memory -/
def ZArg (w : World) (A : Option Addr) (l : List Int) : Prop := ZRow w.heap.size w A l
set_option maxHeartbeats 1000000 in
theorem fits_any (x : Tm) (A : Option Addr) (c : Nat) (inp : List Int) (h : Tab w n₀ tb mb rv W l) (hW : IntKind.i64.wrap W = W) (hz : ZRow w.heap.size w A inp) (hv : x.op = 0 ∨ x.op = 1 → 0 ≤ x.v) : Calls Tryd.prog 25 #[.pointer (some ⟨tb, 0, none⟩), .agg #[.int .i64 x.op, .int .i64 x.v, .int .i64 x.a, .int .i64 x.b, .int .i64 x.c], .slice A inp.length c] w fun e w' => e = .returned (.bool (fitB W x inp)) ∧ Below w.heap.size w w' := by
  obtain ⟨op, v, a, b, c'⟩ := x
  dsimp only at hv
  have hb1 := (Below.refl w.heap.size w).alloc (Nat.le_refl _) (.cells #[.int .i64 op, .int .i64 v, .int .i64 a, .int .i64 b, .int .i64 c'] 46)
  have HB1 := Lib.hid hb1
  have HI := Lib.hid (isInput_any ⟨op, v, a, b, c'⟩ (w.alloc (.cells #[.int .i64 op, .int .i64 v, .int .i64 a, .int .i64 b, .int .i64 c'] 46)))
  have HBX := Lib.hid (TBox.new w ⟨op, v, a, b, c'⟩)
  have HH := Lib.hid h
  have HZ := Lib.hid hz
  have HTR := Lib.hid (fun n w => isTruth_any n w)
  dsimp only at HI HBX
  clear h hz hb1
  by_cases h0 : op = 0 ∨ op = 1
  · have e0 : (op == 0 || op == 1) = true := by rcases h0 with h | h <;> simp [h]
    rw [e0] at HI
    have hv0 := hv h0
    obtain ⟨v, rfl⟩ : ∃ v' : Nat, v = (v' : Int) := ⟨v.toNat, by omega⟩
    have H0 := Lib.hid h0
    clear hv hv0 e0 h0
    go_enter Tryd.func25, Tryd.ntmps25
    go_wp2_with (fail)
    refine HI.out.mono ?_
    rintro e w1 ⟨rfl, hb2⟩
    have HB2 := Lib.hid (HB1.out.trans (hb2.mono HB1.out.size))
    obtain ⟨x0, x1, x2, x3, x4⟩ := (HBX.out.later hb2).cells
    dsimp only at x0 x1 x2 x3 x4
    have h0 := H0.out
    clear H0
    have HT := Lib.hid (fun n => isInteger_any n (HH.out.later HB2.out) hW)
    have HZ2 := Lib.hid (HZ.out.later HB2.out)
    clear hb2 HI HBX HB1 HZ HH hW
    by_cases hvl : v < inp.length
    · have hd : decide ((inp.length : Int) ≤ (v : Int)) = false := by simp; omega
      have hle : ¬ inp.length ≤ v := by omega
      have hd0 : decide ((v : Int) < 0) = false := by simp
      obtain ⟨zb, off, rfl, _, hc⟩ := HZ2.out (by omega)
      have z0 := hc v hvl
      have HF0 := Lib.hid (show op = 0 → fitB W ⟨op, (v : Int), a, b, c'⟩ inp = (inp[v] == wrpP W inp[v]) from fun e => by
        unfold fitB
        rw [if_pos e]
        simp [List.getD, hvl])
      have HF1 := Lib.hid (show op = 1 → fitB W ⟨op, (v : Int), a, b, c'⟩ inp = (inp[v] == 0 || inp[v] == 1) from fun e => by
        unfold fitB
        rw [if_neg (show ¬ op = 0 by omega), if_pos e]
        simp [List.getD, hvl])
      clear hc HZ2
      generalize inp[v] = n at *
      rcases h0 with h0 | h0
      · have HR := Lib.hid (HF0.out h0)
        rw [h0] at x0
        clear h0 HF0 HF1
        go_wp2_with (fail)
        refine (HT.out _).mono ?_
        rintro e w3 ⟨rfl, h3⟩
        obtain rfl := h3.symm
        go_wp2_with (fail)
        go_ret
        exact ⟨by rw [HR.out]; rfl, HB2.out⟩
      · have HR := Lib.hid (HF1.out h0)
        rw [h0] at x0
        clear h0 HF0 HF1
        go_wp2_with (fail)
        refine (HTR.out _ _).mono ?_
        rintro e w3 ⟨rfl, h3⟩
        obtain rfl := h3.symm
        go_wp2_with (fail)
        go_ret
        exact ⟨by rw [HR.out]; rfl, HB2.out⟩
    · have hd : decide ((inp.length : Int) ≤ (v : Int)) = true := by simp; omega
      have hle : inp.length ≤ v := by omega
      have HR := Lib.hid (show fitB W ⟨op, (v : Int), a, b, c'⟩ inp = false from by
        unfold fitB
        rcases h0 with h | h
        · rw [if_pos h, show decide (((v : Int)).toNat < inp.length) = false by simp; omega]; rfl
        · rw [if_neg (show ¬ op = 0 by omega), if_pos h, show decide (((v : Int)).toNat < inp.length) = false by simp; omega]; rfl)
      clear h0 hvl HZ2
      go_wp2_with (fail)
      go_ret
      exact ⟨by rw [HR.out]; rfl, HB2.out⟩
  · have e0 : (op == 0 || op == 1) = false := by simp; omega
    rw [e0] at HI
    have HR := Lib.hid (show fitB W ⟨op, v, a, b, c'⟩ inp = true from by
      unfold fitB
      rw [if_neg (show ¬ op = 0 by omega), if_neg (show ¬ op = 1 by omega)])
    clear h0 e0 hv
    go_enter Tryd.func25, Tryd.ntmps25
    go_wp2_with (fail)
    refine HI.out.mono ?_
    rintro e w1 ⟨rfl, hb2⟩
    have HB2 := Lib.hid (HB1.out.trans (hb2.mono HB1.out.size))
    clear hb2
    go_wp2_with (fail)
    go_ret
    exact ⟨by rw [HR.out]; rfl, HB2.out⟩
end
end Go.Proofs.YtjgkcicgjnjepaaDoor
