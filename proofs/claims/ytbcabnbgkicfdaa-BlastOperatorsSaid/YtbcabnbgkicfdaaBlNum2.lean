/- What is proved: package blast: Value, Words, Bits. -/
import Derived.Test.YtbcabnbgkicfdaaBlNum1
set_option linter.unusedVariables false
set_option linter.unusedSimpArgs false
namespace Go.Proofs.Ytbcabnbgkicfdaa
open Go.RowKit Go.Maps

/-- the number of bits, without a sign -/
def unB : List Bool → Int
  | [] => 0
  | b :: l => b2n b + 2 * unB l
theorem un_unB (v : Int → Bool) (l : List Int) : un v l = unB (l.map v) := by
  induction l with
  | nil => rfl
  | cons x l ih => simp only [un, List.map_cons, unB, ih]
theorem unB_snoc (l : List Bool) (b : Bool) : unB (l ++ [b]) = unB l + pw l.length * b2n b := by
  induction l with
  | nil => simp [unB, pw_zero]
  | cons x l ih =>
    rw [List.cons_append, List.length_cons, pw_succ]
    simp only [unB, ih]
    rw [Int.mul_add, Int.mul_assoc]
    omega
theorem unB_lo (l : List Bool) : 0 ≤ unB l ∧ unB l < pw l.length := by
  induction l with
  | nil => exact ⟨Int.le_refl _, pw_pos 0⟩
  | cons x l ih =>
    have := b2n_lo x
    rw [List.length_cons, pw_succ]
    simp only [unB]
    omega
theorem unB_take (l : List Bool) {i : Nat} (h : i < l.length) : unB (l.take (i + 1)) = unB (l.take i) + pw i * b2n l[i] := by
  rw [List.take_succ_eq_append_getElem h, unB_snoc, List.length_take, Nat.min_eq_left (by omega)]
/-- the last bit -/
def lastB (l : List Bool) : Bool := (l[l.length - 1]?).getD false
/-- the value of a sort with some bits -/
def valN (s : Int) (l : List Bool) : Int := if s = 0 ∧ 0 < l.length ∧ l.length ≤ 8 then unB l - (if lastB l = true then pw l.length else 0) else if s = 1 ∧ l.length = 1 then unB l else 0
theorem wrap_pw (i : Nat) (h : i ≤ 8) : wrap64 (2 ^ min i 64) = pw i ∧ wrap64 (2 ^ i) = pw i ∧ IntKind.i64.wrap (2 ^ min i 64) = pw i ∧ IntKind.i64.wrap (2 ^ i) = pw i := by
  have : i = 0 ∨ i = 1 ∨ i = 2 ∨ i = 3 ∨ i = 4 ∨ i = 5 ∨ i = 6 ∨ i = 7 ∨ i = 8 := by omega
  rcases this with rfl | rfl | rfl | rfl | rfl | rfl | rfl | rfl | rfl <;> decide +kernel
set_option maxRecDepth 100000 in
set_option maxHeartbeats 4000000 in
theorem value_any (s : Int) (A : Option Addr) (c : Nat) (l : List Bool) (w : World) (hr : BRow w A l) (hl : l.length ≤ 1000000) :
    Calls Try.prog 27 #[.int .i64 s, .slice A l.length c] w fun e w' => e = .returned (.int .i64 (valN s l)) ∧ w' = w := by
  have HR := Lib.hid hr
  clear hr
  by_cases hs : s = 0
  · subst hs
    by_cases h0 : 0 < l.length
    · have d0 : decide (0 < (l.length : Int)) = true := decide_eq_true (by omega)
      by_cases h8 : l.length ≤ 8
      · have d8 : decide ((l.length : Int) ≤ 8) = true := decide_eq_true (by omega)
        have HV := Lib.hid (show valN 0 l = unB l - (if lastB l = true then pw l.length else 0) from if_pos ⟨rfl, h0, h8⟩)
        go_enter Try.func27, Try.ntmps27
        go_wp2_with (fail)
        go_loop [7, 37] (fun u7 jv => ∃ (k : Nat), k ≤ l.length ∧ jv = .int .i64 (k : Int) ∧ u7 = .int .i64 (unB (l.take k))) (fun _ jv => l.length - (intOf jv).toNat)
        case atStart => exact ⟨0, Nat.zero_le _, rfl, rfl⟩
        case round =>
          obtain ⟨k, hk, rfl, rfl⟩ := hrel
          by_cases hlt : k < l.length
          · obtain ⟨b, off, hA, _, hc0⟩ := HR.out (by omega)
            have c0 := hc0 k hlt
            subst hA
            have HT := Lib.hid (unB_take l hlt)
            have hlo := unB_lo (l.take k)
            rw [List.length_take, Nat.min_eq_left (by omega)] at hlo
            have hps := pw_small k (by omega)
            obtain ⟨f1, f2, f3, f4⟩ := wrap_pw k (by omega)
            have hws : IntKind.i64.wrap (unB (l.take k) + pw k) = unB (l.take k) + pw k := IntWalk.i64_in _ (by omega)
            obtain ⟨x, HX⟩ : ∃ x, Hid (l[k] = x) := ⟨_, Lib.hid rfl⟩
            rw [HX.out] at c0 HT
            cases x with
            | true =>
              have HE := Lib.hid (show unB (l.take (k + 1)) = unB (l.take k) + pw k by rw [HT.out]; simp [b2n])
              clear HT hc0
              go_upto_region 10 with fail
              generalize unB (l.take k) = u at *
              go_wp2_with (fail)
              first | exact ⟨⟨k + 1, by omega, by go_num, by rw [HE.out]⟩, by simp [intOf]; omega⟩ | exact ⟨⟨k + 1, by omega, by go_num, by rw [HE.out, ← hws]; simp [f1, f2, f3, f4]⟩, by simp [intOf]; omega⟩
            | false =>
              have HE := Lib.hid (show unB (l.take (k + 1)) = unB (l.take k) by rw [HT.out]; simp [b2n])
              clear HT hc0
              go_wp2_with (fail)
              exact ⟨⟨k + 1, by omega, by go_num, by rw [HE.out]⟩, by simp [intOf]; omega⟩
          · obtain rfl : k = l.length := by omega
            obtain ⟨m, HM⟩ : ∃ m, Hid (l.length = m + 1) := ⟨l.length - 1, Lib.hid (by omega)⟩
            obtain ⟨b, off, hA, _, hc0⟩ := HR.out h0
            have c0 := hc0 m (by have := HM.out; omega)
            have HLB := Lib.hid (show lastB l = l[m]'(by have := HM.out; omega) by
              unfold lastB
              rw [show l.length - 1 = m by have := HM.out; omega, List.getElem?_eq_getElem (by have := HM.out; omega)]
              rfl)
            subst hA
            have hsub : IntKind.i64.wrap ((l.length : Int) - 1) = (m : Int) := by rw [IntWalk.i64_in _ (by omega)]; have := HM.out; omega
            have hsub2 : (l.length : Int) - 1 = (m : Int) := by have := HM.out; omega
            have hmlt : m < l.length := by have := HM.out; omega
            have hlo := unB_lo l
            have hps := pw_small l.length h8
            obtain ⟨f1, f2, f3, f4⟩ := wrap_pw l.length h8
            have hws : IntKind.i64.wrap (unB l - pw l.length) = unB l - pw l.length := IntWalk.i64_in _ (by have := pw_pos l.length; omega)
            obtain ⟨x, HX⟩ : ∃ x, Hid (l[m]'hmlt = x) := ⟨_, Lib.hid rfl⟩
            rw [HX.out] at c0 HLB
            rw [List.take_length]
            clear hc0 h0 h8
            cases x with
            | true =>
              have HE := Lib.hid (show valN 0 l = unB l - pw l.length by rw [HV.out, HLB.out]; rfl)
              clear HLB HV
              go_upto_region 13 with fail
              generalize unB l = u at *
              go_wp2_with (fail)
              go_ret
              rw [HE.out]
              first | exact ⟨rfl, rfl⟩ | exact ⟨by rw [← hws]; simp [f1, f2, f3, f4], rfl⟩
            | false =>
              have HE := Lib.hid (show valN 0 l = unB l by rw [HV.out, HLB.out]; simp)
              clear HLB HV
              go_wp2_with (fail)
              go_ret
              rw [HE.out]
              exact ⟨rfl, rfl⟩
      · have d8 : decide ((l.length : Int) ≤ 8) = false := decide_eq_false (by omega)
        have HV := Lib.hid (show valN 0 l = 0 by unfold valN; rw [if_neg (by omega), if_neg (by simp)])
        rw [HV.out]
        clear h8
        go_enter Try.func27, Try.ntmps27
        go_wp2_with (fail)
        go_ret
        exact ⟨rfl, rfl⟩
    · have d0 : decide (0 < (l.length : Int)) = false := decide_eq_false (by omega)
      have HV := Lib.hid (show valN 0 l = 0 by unfold valN; rw [if_neg (by omega), if_neg (by simp)])
      rw [HV.out]
      have hl0 : l.length = 0 := by omega
      rw [hl0] at d0 ⊢
      clear h0
      go_enter Try.func27, Try.ntmps27
      go_wp2_with (fail)
      go_ret
      exact ⟨rfl, rfl⟩
  · have e0 : (s == 0) = false := by simpa using hs
    by_cases h1 : s = 1 ∧ l.length = 1
    · obtain ⟨rfl, hl1⟩ := h1
      have e1 : ((l.length : Int) == 1) = true := by simp only [beq_iff_eq]; omega
      have HV := Lib.hid (show valN 1 l = unB l by unfold valN; rw [if_neg (by simp), if_pos ⟨rfl, hl1⟩])
      have HL1 := Lib.hid hl1
      have hl9 : l.length ≤ 8 := by omega
      clear hl1 hs
      go_enter Try.func27, Try.ntmps27
      go_wp2_with (fail)
      go_loop [7, 37] (fun u7 jv => ∃ (k : Nat), k ≤ l.length ∧ jv = .int .i64 (k : Int) ∧ u7 = .int .i64 (unB (l.take k))) (fun _ jv => l.length - (intOf jv).toNat)
      case atStart => exact ⟨0, Nat.zero_le _, rfl, rfl⟩
      case round =>
        obtain ⟨k, hk, rfl, rfl⟩ := hrel
        by_cases hlt : k < l.length
        · obtain ⟨b, off, hA, _, hc0⟩ := HR.out (by omega)
          have c0 := hc0 k hlt
          subst hA
          have HT := Lib.hid (unB_take l hlt)
          have hlo := unB_lo (l.take k)
          rw [List.length_take, Nat.min_eq_left (by omega)] at hlo
          have hps := pw_small k (by omega)
          obtain ⟨f1, f2, f3, f4⟩ := wrap_pw k (by omega)
          have hws : IntKind.i64.wrap (unB (l.take k) + pw k) = unB (l.take k) + pw k := IntWalk.i64_in _ (by omega)
          obtain ⟨x, HX⟩ : ∃ x, Hid (l[k] = x) := ⟨_, Lib.hid rfl⟩
          rw [HX.out] at c0 HT
          cases x with
          | true =>
            have HE := Lib.hid (show unB (l.take (k + 1)) = unB (l.take k) + pw k by rw [HT.out]; simp [b2n])
            clear HT hc0
            go_upto_region 10 with fail
            generalize unB (l.take k) = u at *
            go_wp2_with (fail)
            first | exact ⟨⟨k + 1, by omega, by go_num, by rw [HE.out]⟩, by simp [intOf]; omega⟩ | exact ⟨⟨k + 1, by omega, by go_num, by rw [HE.out, ← hws]; simp [f1, f2, f3, f4]⟩, by simp [intOf]; omega⟩
          | false =>
            have HE := Lib.hid (show unB (l.take (k + 1)) = unB (l.take k) by rw [HT.out]; simp [b2n])
            clear HT hc0
            go_wp2_with (fail)
            exact ⟨⟨k + 1, by omega, by go_num, by rw [HE.out]⟩, by simp [intOf]; omega⟩
        · obtain rfl : k = l.length := by omega
          rw [List.take_length]
          go_wp2_with (fail)
          go_ret
          rw [HV.out]
          exact ⟨rfl, rfl⟩
    · have HV := Lib.hid (show valN s l = 0 by unfold valN; rw [if_neg (by omega), if_neg h1])
      rw [HV.out]
      by_cases h2 : s = 1
      · have e1 : (s == 1) = true := by simpa using h2
        have e2 : ((l.length : Int) == 1) = false := by rw [beq_eq_false_iff_ne]; intro e; exact h1 ⟨h2, by omega⟩
        clear h1 h2 hs
        go_enter Try.func27, Try.ntmps27
        go_wp2_with (fail)
        go_ret
        exact ⟨rfl, rfl⟩
      · have e1 : (s == 1) = false := by simpa using h2
        clear h1 h2 hs
        go_enter Try.func27, Try.ntmps27
        go_wp2_with (fail)
        go_ret
        exact ⟨rfl, rfl⟩
end Go.Proofs.Ytbcabnbgkicfdaa
