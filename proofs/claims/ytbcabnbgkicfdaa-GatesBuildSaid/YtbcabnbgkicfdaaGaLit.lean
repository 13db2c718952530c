/- What is proved: whether numbers are literals of a circuit; whether a circuit is valid (package gates). -/
import Derived.Test.YtbcabnbgkicfdaaGaInt
set_option linter.unusedVariables false
namespace Go.Proofs.Ytbcabnbgkicfdaa
open Go.RowKit Go.Maps

def litB (I : Int) (n : Nat) (x : Int) : Bool := decide (0 ≤ x) && decide (x < 2 * nds I n)
theorem litB_no {I : Int} {n : Nat} {x : Int} (h : x < 0 ∨ 2 * nds I n ≤ x) : litB I n x = false := by
  unfold litB
  rcases h with h | h
  · rw [decide_eq_false (by omega)]; rfl
  · rw [decide_eq_false (p := x < 2 * nds I n) (by omega), Bool.and_false]
theorem litB_yes {I : Int} {n : Nat} {x : Int} (h : ¬ (x < 0 ∨ 2 * nds I n ≤ x)) : litB I n x = true := by
  unfold litB
  rw [decide_eq_true (by omega), decide_eq_true (by omega)]
  rfl
theorem litB_iff {I : Int} {gs : List Gt} {x : Int} : litB I gs.length x = true ↔ isLit I gs x := by
  unfold litB nds isLit
  simp
set_option maxRecDepth 100000 in
set_option maxHeartbeats 1000000 in
theorem areLits_any (I : Int) (hI : 0 ≤ I ∧ I ≤ 1024) (A : Option Addr) (n c : Nat) (hn : n ≤ 100000) (AL : Option Addr) (cl : Nat) (ls : List Int) (w : World) (hz : ZRow w.heap.size w AL ls) (hl : ls.length ≤ 1000000) :
    Calls Try.prog 110 #[.agg #[.int .i64 I, .slice A n c], .slice AL ls.length cl] w fun e w' => e = .returned (.bool (ls.all (litB I n))) ∧ Below w.heap.size w w' := by
  have HC := Lib.hid (fun w => count_any I (by omega) A n c (by omega) w)
  have HB1 := Lib.hid ((Below.refl w.heap.size w).alloc (Nat.le_refl _) (.cells #[.int .i64 I, .slice A n c] 30))
  have HBX := Lib.hid (CBx.new w I A n c)
  have HZ := Lib.hid hz
  have hnd : 0 ≤ nds I n ∧ nds I n ≤ 200000 := by unfold nds; omega
  clear hz hI
  obtain ⟨N, HND⟩ : ∃ N, Hid (nds I n = N) := ⟨_, Lib.hid rfl⟩
  rw [HND.out] at HC hnd
  go_enter Try.func110, Try.ntmps110
  go_upto_region 1 with fail
  generalize w.alloc (.cells #[.int .i64 I, .slice A n c] 30) = w1 at *
  go_wp2_with (fail)
  go_loopw [9] (fun jv wr => ∃ (k : Nat), k ≤ ls.length ∧ jv = .int .i64 (k : Int) ∧ Hid ((ls.take k).all (litB I n) = true) ∧ Hid (Below w1.heap.size w1 wr)) (fun jv _ => ls.length - (intOf jv).toNat)
  case atStart => exact ⟨0, Nat.zero_le _, rfl, Lib.hid (by simp), Lib.hid (Below.refl _ _)⟩
  case round =>
    obtain ⟨k, hk, rfl, hpre, hbw⟩ := hrel
    have HBW := Lib.hid (HB1.out.trans (hbw.out.mono HB1.out.size))
    obtain ⟨b0, b1⟩ := (HBX.out.later hbw.out).cells
    by_cases hlt : k < ls.length
    · obtain ⟨b, off, hA, hb, hc0⟩ := (HZ.out.below HBW.out) (by omega)
      have hx := hc0 k hlt
      subst hA
      have HP1 := Lib.hid (show (ls.take (k + 1)).all (litB I n) = litB I n ls[k] by rw [List.take_succ_eq_append_getElem hlt, List.all_append, hpre.out]; simp)
      have HBAD := Lib.hid (show litB I n ls[k] = false → ls.all (litB I n) = false from fun h => List.all_eq_false.2 ⟨_, List.getElem_mem hlt, by rw [h]; simp⟩)
      clear hc0 hpre
      obtain ⟨x, HX⟩ : ∃ x, Hid (ls[k] = x) := ⟨_, Lib.hid rfl⟩
      rw [HX.out] at hx HP1 HBAD
      by_cases h0 : x < 0
      · have HN := Lib.hid (HBAD.out (litB_no (.inl h0)))
        have d0 : decide (x < 0) = true := by simpa using h0
        clear h0
        go_wp2_with (fail)
        go_ret
        rw [HN.out]
        exact ⟨rfl, HBW.out⟩
      · have d0 : decide (x < 0) = false := by simpa using h0
        go_wp2_with (fail)
        refine (HC.out _).mono ?_
        rintro e w2 ⟨rfl, hb2⟩
        have HB2 := Lib.hid (HBW.out.trans (hb2.mono HBW.out.size))
        have HB2' := Lib.hid (hbw.out.trans (hb2.mono hbw.out.size))
        clear hb2 b0 b1 hx
        by_cases h1 : 2 * N ≤ x
        · have HN := Lib.hid (HBAD.out (litB_no (.inr (by rw [HND.out]; exact h1))))
          have d1 : decide (2 * N ≤ x) = true := by simpa using h1
          clear h1 h0
          go_wp2_with (fail)
          go_ret
          rw [HN.out]
          exact ⟨rfl, HB2.out⟩
        · have d1 : decide (2 * N ≤ x) = false := by simpa using h1
          have HP2 := Lib.hid (HP1.out.trans (litB_yes (by rw [HND.out]; omega)))
          clear h1 h0
          go_wp2_with (fail)
          exact ⟨⟨k + 1, by omega, by go_num, HP2, HB2'⟩, by simp [intOf]; omega⟩
    · obtain rfl : k = ls.length := by omega
      have HN := Lib.hid (show ls.all (litB I n) = true by have := hpre.out; rw [List.take_length] at this; exact this)
      clear hpre
      go_wp2_with (fail)
      go_ret
      rw [HN.out]
      exact ⟨rfl, HBW.out⟩
end Go.Proofs.Ytbcabnbgkicfdaa
