/- What is proved: the law BlastNumbers, for any arguments. -/
import Derived.Test.YtbcabnbgkicfdaaBlRNum2
import Derived.Test.YtbcabnbgkicfdaaGaOpen
set_option linter.unusedVariables false
set_option linter.unusedSimpArgs false
namespace Go.Proofs.Ytbcabnbgkicfdaa
open Go.RowKit Go.Maps

set_option maxHeartbeats 1000000 in
theorem bl_ints_same (A B : Option Addr) (c d : Nat) (xs : List Int) (w : World) (hl : xs.length ≤ 1000) (ha : ZRow w.heap.size w A xs) (hb : ZRow w.heap.size w B xs) : Calls Try.prog 29 #[.slice A xs.length c, .slice B xs.length d] w fun e w' => e = .returned (.bool true) ∧ Below w.heap.size w w' := by
  have HA := Lib.hid ha
  have HB := Lib.hid hb
  have HBR := Lib.hid (Below.refl w.heap.size w)
  clear ha hb
  go_enter Try.func29, Try.ntmps29
  go_wp2_with (fail)
  go_loopw [5] (fun jv wr => ∃ (k : Nat), k ≤ xs.length ∧ jv = .int .i64 (k : Int) ∧ Hid (Below w.heap.size w wr)) (fun jv _ => xs.length - (intOf jv).toNat)
  case atStart => exact ⟨0, Nat.zero_le _, rfl, HBR⟩
  case round =>
    obtain ⟨k, hk, rfl, hbw⟩ := hrel
    by_cases hlt : k < xs.length
    · obtain ⟨a, o, rfl, _, hc⟩ := (HA.out.later hbw.out) (by omega)
      obtain ⟨a2, o2, rfl, _, hc2⟩ := (HB.out.later hbw.out) (by omega)
      have q1 := hc k hlt
      have q2 := hc2 k hlt
      have hnl : ¬ xs.length ≤ k := by omega
      generalize xs[k] = y at *
      clear hc hc2
      go_wp2_with (fail)
      go_quiet (fail)
      go_wp2_with (fail)
      exact ⟨⟨k + 1, by omega, by go_num, Lib.hid (hbw.out.trans ((drewN_below wr nq).mono hbw.out.size))⟩, by simp [intOf]; omega⟩
    · obtain rfl : k = xs.length := by omega
      go_wp2_with (fail)
      go_ret
      exact ⟨rfl, hbw.out⟩

theorem wdK_all {m : Nat} (h1 : 1 ≤ m) (l : List Int) : ∀ k, ∀ x ∈ wdK m l k, x.length ≤ m := fun k => by
  induction k with
  | zero => intro x hx; simp [wdK] at hx
  | succ k ih =>
    intro x hx
    simp only [wdK, List.mem_append, List.mem_singleton] at hx
    rcases hx with hx | rfl
    · exact ih x hx
    · rw [wordL_len]; exact lenN_le m h1 _
theorem wdsL_all (W : Int) (l : List Int) : (wdsL W l).length ≤ 1000 ∧ ∀ x ∈ wdsL W l, x.length ≤ 1000 := by
  cases hok : okS W l with
  | false => simp [wdsL, hok]
  | true =>
    obtain ⟨m, rfl, h2, h8, h24⟩ := okS_nat hok
    have e : wdsL (m : Int) l = wdK m l l.length := by simp [wdsL, hok]
    rw [e]
    exact ⟨by rw [wdK_len]; omega, fun x hx => by have := wdK_all (m := m) (by omega) l _ x hx; omega⟩
theorem bitsL_all (W : Int) (l inp : List Int) : (bitsL W l inp).length ≤ 1000000 := by
  unfold bitsL
  split
  · next h =>
    obtain ⟨m, rfl, h2, h8, h24⟩ := okS_nat h.1
    have := btK_le m (by omega) l l.length
    have e : (bsK (m : Int).toNat l inp l.length).length = btK m l l.length := bsK_len m l inp _
    have := Nat.mul_le_mul h8 h24
    omega
  · simp
theorem conL_all (W n : Int) : (conL W n).length ≤ 1000 := by
  unfold conL
  split <;> simp
  omega
set_option maxRecDepth 100000 in
set_option maxHeartbeats 8000000 in
theorem law_numbers (W : Int) (A : Option Addr) (c : Nat) (l : List Int) (B : Option Addr) (d : Nat) (inp : List Int) (s : Int) (C : Option Addr) (e : Nat) (bs : List Bool) (n : Int) (w : World) (hx : ZOpn w A c l) (hy : ZOpn w B d inp) (hz : BOpn w C e bs) (hnw : (Lit.int IntKind.i64 n).wf = true) :
    Calls Try.prog 4 #[.int .i64 W, .slice A l.length c, .slice B inp.length d, .int .i64 s, .slice C bs.length e, .int .i64 n] w fun e w' => e = .returned (.bool true) ∧ Below w.heap.size w w' := by
  have HA := Lib.hid (bawake_any w)
  by_cases h1 : l.length ≤ 40
  case neg =>
    have d1 : decide (40 < (l.length : Int)) = true := decide_eq_true (by omega)
    have d1' : 40 < l.length := by omega
    clear h1 hx hy hz hnw
    go_enter Try.func4, Try.ntmps4
    go_wp2_with (fail)
    refine HA.out.mono ?_
    rintro ex w1 ⟨rfl, hb1⟩
    have HB1 := Lib.hid hb1
    clear hb1
    go_wp2_with (fail)
    go_ret
    exact ⟨rfl, HB1.out⟩
  by_cases h2 : inp.length ≤ 40
  case neg =>
    have d1 : decide (40 < (l.length : Int)) = false := decide_eq_false (by omega)
    have d1' : ¬ 40 < l.length := by omega
    have d2 : decide (40 < (inp.length : Int)) = true := decide_eq_true (by omega)
    have d2' : 40 < inp.length := by omega
    clear h1 h2 hx hy hz hnw
    go_enter Try.func4, Try.ntmps4
    go_wp2_with (fail)
    refine HA.out.mono ?_
    rintro ex w1 ⟨rfl, hb1⟩
    have HB1 := Lib.hid hb1
    clear hb1
    go_wp2_with (fail)
    go_ret
    exact ⟨rfl, HB1.out⟩
  by_cases h3 : bs.length ≤ 40
  case neg =>
    have d1 : decide (40 < (l.length : Int)) = false := decide_eq_false (by omega)
    have d1' : ¬ 40 < l.length := by omega
    have d2 : decide (40 < (inp.length : Int)) = false := decide_eq_false (by omega)
    have d2' : ¬ 40 < inp.length := by omega
    have d3 : decide (40 < (bs.length : Int)) = true := decide_eq_true (by omega)
    have d3' : 40 < bs.length := by omega
    clear h1 h2 h3 hx hy hz hnw
    go_enter Try.func4, Try.ntmps4
    go_wp2_with (fail)
    refine HA.out.mono ?_
    rintro ex w1 ⟨rfl, hb1⟩
    have HB1 := Lib.hid hb1
    clear hb1
    go_wp2_with (fail)
    go_ret
    exact ⟨rfl, HB1.out⟩
  have hX := hx.2.2.1
  have hY := hy.2.2.1
  have hZ := hz.2.2
  have hin : ∀ x ∈ inp, -9223372036854775808 ≤ x ∧ x ≤ 9223372036854775807 := fun x hx => by
    obtain ⟨i, hi, rfl⟩ := List.getElem_of_mem hx
    have := hy.2.2.2 i
    rwa [List.getD_eq_getElem?_getD, List.getElem?_eq_getElem hi] at this
  have hn64 : -9223372036854775808 ≤ n ∧ n ≤ 9223372036854775807 := wf_int hnw
  have F1 := Lib.hid (fun w' (hb : Below w.heap.size w w') => words_any W A c l w' ((hX.below hb).mono hb.size) (by omega))
  have F2 := Lib.hid (fun w' (hb : Below w.heap.size w w') => r_words_any W A c l w' ((hX.below hb).mono hb.size) (by omega))
  have F3 := Lib.hid (fun w' (hb : Below w.heap.size w w') => bits_any W A c l B d inp w' ((hX.below hb).mono hb.size) ((hY.below hb).mono hb.size) (by omega) (by omega) hin)
  have F4 := Lib.hid (fun w' (hb : Below w.heap.size w w') => r_bits_any W A c l B d inp w' ((hX.below hb).mono hb.size) ((hY.below hb).mono hb.size) (by omega) (by omega))
  have F5 := Lib.hid (fun w' (hb : Below w.heap.size w w') => value_any s C e bs w' (hZ.later hb) (by omega))
  have F6 := Lib.hid (fun w' (hb : Below w.heap.size w w') => r_value_any s C e bs w' (hZ.later hb) (by omega))
  have F7 := Lib.hid (fun w' => constant_any W n hn64 w')
  have F8 := Lib.hid (fun w' => r_constant_any W n w')
  have LW := Lib.hid (wdsL_all W l)
  have LB := Lib.hid (bitsL_all W l inp)
  have LC := Lib.hid (conL_all W n)
  have d1 : decide (40 < (l.length : Int)) = false := decide_eq_false (by omega)
  have d1' : ¬ 40 < l.length := by omega
  have d2 : decide (40 < (inp.length : Int)) = false := decide_eq_false (by omega)
  have d2' : ¬ 40 < inp.length := by omega
  have d3 : decide (40 < (bs.length : Int)) = false := decide_eq_false (by omega)
  have d3' : ¬ 40 < bs.length := by omega
  clear h1 h2 h3 hx hy hz hnw hX hY hZ hin hn64
  generalize wdsL W l = L at *
  generalize wdsN W l = N at *
  generalize wdsE W l = E at *
  generalize bitsL W l inp = M at *
  generalize bitsE W l inp = F at *
  generalize valN s bs = V at *
  generalize conL W n = K at *
  go_enter Try.func4, Try.ntmps4
  go_wp2_with (fail)
  refine HA.out.mono ?_
  rintro ex w1 ⟨rfl, hb1⟩
  have HB1 := Lib.hid hb1
  clear hb1
  go_wp2_with (fail)
  refine (F1.out w1 HB1.out).mono ?_
  rintro ex w2 ⟨X1, c1, rfl, _, r1, hb⟩
  have HB2 := Lib.hid (HB1.out.trans (hb.mono HB1.out.size))
  have R12 := Lib.hid r1
  clear r1 hb
  go_wp2_with (fail)
  refine (F2.out w2 HB2.out).mono ?_
  rintro ex w3 ⟨X2, c2, rfl, r1, hb⟩
  have HB3 := Lib.hid (HB2.out.trans (hb.mono HB2.out.size))
  have R13 := Lib.hid (R12.out.later hb)
  have R23 := Lib.hid r1
  clear r1 hb R12
  go_wp2_with (fail)
  refine (F3.out w3 HB3.out).mono ?_
  rintro ex w4 ⟨X3, c3, rfl, r1, hb⟩
  have HB4 := Lib.hid (HB3.out.trans (hb.mono HB3.out.size))
  have R14 := Lib.hid (R13.out.later hb)
  have R24 := Lib.hid (R23.out.later hb)
  have R34 := Lib.hid r1
  clear r1 hb R13 R23
  go_wp2_with (fail)
  refine (F4.out w4 HB4.out).mono ?_
  rintro ex w5 ⟨X4, c4, rfl, r1, hb⟩
  have HB5 := Lib.hid (HB4.out.trans (hb.mono HB4.out.size))
  have HLW := Lib.hid (lwords_any X1 c1 X2 c2 L w5 (R14.out.later hb) (R24.out.later hb) LW.out.1 LW.out.2)
  have R35 := Lib.hid (R34.out.later hb)
  have R45 := Lib.hid r1
  clear r1 hb R14 R24 R34
  go_wp2_with (fail)
  refine HLW.out.mono ?_
  rintro ex w6 ⟨rfl, hb⟩
  have HB6 := Lib.hid (HB5.out.trans (hb.mono HB5.out.size))
  have HEB := equalB_any X3 c3 M X4 c4 M w6 (R35.out.later hb) (R45.out.later hb) LB.out
  rw [decide_eq_true rfl] at HEB
  have HEB := Lib.hid HEB
  clear hb HLW R35 R45
  go_wp2_with (fail)
  refine HEB.out.mono ?_
  rintro ex w7 ⟨rfl, hb⟩
  have HB7 := Lib.hid (HB6.out.trans (hb.mono HB6.out.size))
  clear hb HEB
  go_wp2_with (fail)
  refine (F5.out w7 HB7.out).mono ?_
  rintro ex wx ⟨rfl, hwx⟩
  obtain rfl := hwx.symm
  go_wp2_with (fail)
  refine (F6.out w7 HB7.out).mono ?_
  rintro ex wx ⟨rfl, hwx⟩
  obtain rfl := hwx.symm
  go_wp2_with (fail)
  refine (F7.out w7).mono ?_
  rintro ex w8 ⟨X5, c5, rfl, ho, hb⟩
  have HB8 := Lib.hid (HB7.out.trans (hb.mono HB7.out.size))
  have O8 := Lib.hid ho
  clear ho hb
  go_wp2_with (fail)
  refine (F8.out w8).mono ?_
  rintro ex w9 ⟨X6, c6, rfl, ho, hb⟩
  have HB9 := Lib.hid (HB8.out.trans (hb.mono HB8.out.size))
  have HIN := Lib.hid (bl_ints_same X5 X6 c5 c6 K w9 LC.out (O8.out.wrow.2.2.later hb).toz ho.wrow.2.2.toz)
  clear ho hb O8
  go_wp2_with (fail)
  refine HIN.out.mono ?_
  rintro ex w10 ⟨rfl, hb⟩
  have HB10 := Lib.hid (HB9.out.trans (hb.mono HB9.out.size))
  clear hb
  go_wp2_with (fail)
  go_ret
  exact ⟨rfl, HB10.out⟩
end Go.Proofs.Ytbcabnbgkicfdaa
