/- What is proved: the reference of package blast: Value, Bits; the comparison of lists of words that are equal. -/
import Derived.Test.YtbcabnbgkicfdaaBlRNum
set_option linter.unusedVariables false
set_option linter.unusedSimpArgs false
namespace Go.Proofs.Ytbcabnbgkicfdaa
open Go.RowKit Go.Maps

theorem valN_last {l : List Bool} (h0 : 0 < l.length) (h8 : l.length ≤ 8) : valN 0 l = unB (l.take (l.length - 1)) + (if lastB l = true then - pw (l.length - 1) else 0) := by
  have hc := lastB_cases l h0
  have hp := pw_pred h0
  have hv : valN 0 l = unB l - (if lastB l = true then pw l.length else 0) := if_pos ⟨rfl, h0, h8⟩
  rw [hv, hc]
  cases lastB l with
  | true => simp [b2n]; omega
  | false => simp [b2n]
set_option maxRecDepth 100000 in
set_option maxHeartbeats 4000000 in
theorem r_value_any (s : Int) (A : Option Addr) (c : Nat) (l : List Bool) (w : World) (hr : BRow w A l) (hl : l.length ≤ 1000000) :
    Calls Try.prog 28 #[.int .i64 s, .slice A l.length c] w fun e w' => e = .returned (.int .i64 (valN s l)) ∧ w' = w := by
  have HR := Lib.hid hr
  clear hr
  by_cases h1 : s = 1 ∧ l.length = 1
  · obtain ⟨rfl, hl1⟩ := h1
    have HV := Lib.hid (show valN 1 l = unB l by unfold valN; rw [if_neg (by simp), if_pos ⟨rfl, hl1⟩])
    have e1 : ((l.length : Int) == 1) = true := by simp only [beq_iff_eq]; omega
    obtain ⟨b, off, hA, _, hc0⟩ := HR.out (by omega)
    have c0 := hc0 0 (by omega)
    rw [Nat.add_zero] at c0
    subst hA
    have HU := Lib.hid (show unB l = b2n (l[0]'(by omega)) by
      match l, hl1 with
      | [x], _ => simp [unB])
    have h0 : 0 < l.length := by omega
    obtain ⟨x, HX⟩ : ∃ x, Hid (l[0]'h0 = x) := ⟨_, Lib.hid rfl⟩
    rw [HX.out] at c0 HU
    clear hc0 hl1
    cases x with
    | true =>
      go_enter Try.func28, Try.ntmps28
      go_wp2_with (fail)
      go_ret
      rw [HV.out, HU.out]
      exact ⟨rfl, rfl⟩
    | false =>
      go_enter Try.func28, Try.ntmps28
      go_wp2_with (fail)
      go_ret
      rw [HV.out, HU.out]
      exact ⟨rfl, rfl⟩
  · by_cases hs0 : s = 0
    · subst hs0
      by_cases h0 : 0 < l.length
      · by_cases h8 : l.length ≤ 8
        · have g1 : decide ((l.length : Int) < 1) = false := decide_eq_false (by omega)
          have g2 : decide (8 < (l.length : Int)) = false := decide_eq_false (by omega)
          have n1 : ¬ l.length < 1 := by omega
          have n2 : ¬ 8 < l.length := by omega
          have n0 : ¬ l.length = 0 := by omega
          obtain ⟨m, HM⟩ : ∃ m, Hid (l.length = m + 1) := ⟨l.length - 1, Lib.hid (by omega)⟩
          have HV := Lib.hid (valN_last h0 h8)
          have hsub : IntKind.i64.wrap ((l.length : Int) - 1) = (m : Int) := by rw [IntWalk.i64_in _ (by omega)]; have := HM.out; omega
          have hsub2 : (l.length : Int) - 1 = (m : Int) := by have := HM.out; omega
          have HLB := Lib.hid (show lastB l = l[m]'(by have := HM.out; omega) by
            unfold lastB
            rw [show l.length - 1 = m by have := HM.out; omega, List.getElem?_eq_getElem (by have := HM.out; omega)]
            rfl)
          clear h1
          go_enter Try.func28, Try.ntmps28
          go_wp2_with (fail)
          go_loop [5, 6] (fun u5 jv => ∃ (k : Nat) (x : Int), k ≤ l.length ∧ jv = .int .i64 (k : Int) ∧ u5 = .int .i64 x ∧ Hid (k ≤ m → x = unB (l.take k)) ∧ Hid (k = l.length → x = valN 0 l)) (fun _ jv => l.length - (intOf jv).toNat)
          case atStart => exact ⟨0, 0, Nat.zero_le _, rfl, rfl, Lib.hid fun _ => rfl, Lib.hid fun e => by omega⟩
          case round =>
            obtain ⟨k, x, hk, rfl, rfl, hx1, hx2⟩ := hrel
            by_cases hlt : k < l.length
            · obtain ⟨b, off, hA, _, hc0⟩ := HR.out (by omega)
              have c0 := hc0 k hlt
              subst hA
              have HT := Lib.hid (unB_take l hlt)
              have HX1 := Lib.hid (hx1.out (by have := HM.out; omega))
              have hlo := unB_lo (l.take k)
              rw [List.length_take, Nat.min_eq_left (by omega)] at hlo
              have hps := pw_small k (by omega)
              have hpp := pw_pos k
              obtain ⟨f1, f2, f3, f4⟩ := wrap_pw k (by omega)
              have hxb : 0 ≤ x ∧ x < pw k := by rw [HX1.out]; exact hlo
              have hws : IntKind.i64.wrap (x + pw k) = x + pw k := IntWalk.i64_in _ (by omega)
              have hwd : IntKind.i64.wrap (x - pw k) = x - pw k := IntWalk.i64_in _ (by omega)
              obtain ⟨y, HY⟩ : ∃ y, Hid (l[k] = y) := ⟨_, Lib.hid rfl⟩
              rw [HY.out] at c0 HT
              clear hc0 hlo
              by_cases hkm : k = m
              · have HLY := Lib.hid (show lastB l = y by rw [HLB.out, ← HY.out]; simp only [hkm])
                have ekm : ((k : Int) == (m : Int)) = true := by rw [hkm]; simp
                have HPM := Lib.hid (show pw (l.length - 1) = pw k ∧ l.take (l.length - 1) = l.take k by rw [show l.length - 1 = k by have := HM.out; omega]; exact ⟨rfl, rfl⟩)
                have HKN := Lib.hid (show k + 1 = l.length ∧ ¬ k + 1 ≤ m by have := HM.out; omega)
                clear hkm
                cases y with
                | true =>
                  have HE := Lib.hid (show valN 0 l = x - pw k by rw [HV.out, HLY.out, HPM.out.1, HPM.out.2, HX1.out]; simp; omega)
                  clear HT
                  go_upto_region 12 with fail
                  generalize pw k = P at *
                  go_wp2_with (fail)
                  first | exact ⟨⟨k + 1, x - P, by omega, by go_num, rfl, Lib.hid fun e => absurd e HKN.out.2, Lib.hid fun _ => HE.out.symm⟩, by simp [intOf]; omega⟩ | exact ⟨⟨k + 1, x - P, by omega, by go_num, by rw [← hwd]; simp [f1, f2, f3, f4], Lib.hid fun e => absurd e HKN.out.2, Lib.hid fun _ => HE.out.symm⟩, by simp [intOf]; omega⟩
                | false =>
                  have HE := Lib.hid (show valN 0 l = x by rw [HV.out, HLY.out, HPM.out.2, HX1.out]; simp)
                  clear HT
                  go_wp2_with (fail)
                  exact ⟨⟨k + 1, x, by omega, by go_num, rfl, Lib.hid fun e => absurd e HKN.out.2, Lib.hid fun _ => HE.out.symm⟩, by simp [intOf]; omega⟩
              · have ekm : ((k : Int) == (m : Int)) = false := by rw [beq_eq_false_iff_ne]; omega
                have HKN := Lib.hid (show ¬ k + 1 = l.length by have := HM.out; omega)
                cases y with
                | true =>
                  have HE := Lib.hid (show unB (l.take (k + 1)) = x + pw k by rw [HT.out, HX1.out]; simp [b2n])
                  clear HT
                  go_upto_region 14 with fail
                  generalize pw k = P at *
                  go_wp2_with (fail)
                  first | exact ⟨⟨k + 1, x + P, by omega, by go_num, rfl, Lib.hid fun _ => HE.out.symm, Lib.hid fun e => absurd e HKN.out⟩, by simp [intOf]; omega⟩ | exact ⟨⟨k + 1, x + P, by omega, by go_num, by rw [← hws]; simp [f1, f2, f3, f4], Lib.hid fun _ => HE.out.symm, Lib.hid fun e => absurd e HKN.out⟩, by simp [intOf]; omega⟩
                | false =>
                  have HE := Lib.hid (show unB (l.take (k + 1)) = x by rw [HT.out, HX1.out]; simp [b2n])
                  clear HT
                  go_wp2_with (fail)
                  exact ⟨⟨k + 1, x, by omega, by go_num, rfl, Lib.hid fun _ => HE.out.symm, Lib.hid fun e => absurd e HKN.out⟩, by simp [intOf]; omega⟩
            · obtain rfl : k = l.length := by omega
              have HE := Lib.hid (hx2.out rfl)
              go_wp2_with (fail)
              go_ret
              rw [HE.out]
              exact ⟨rfl, rfl⟩
        · have HV := Lib.hid (show valN 0 l = 0 by unfold valN; rw [if_neg (by omega), if_neg (by simp)])
          have g1 : decide ((l.length : Int) < 1) = false := decide_eq_false (by omega)
          have g2 : decide (8 < (l.length : Int)) = true := decide_eq_true (by omega)
          have n1 : ¬ l.length < 1 := by omega
          have n2 : 8 < l.length := by omega
          have n0 : ¬ l.length = 0 := by omega
          clear h1 h8
          go_enter Try.func28, Try.ntmps28
          go_wp2_with (fail)
          go_ret
          rw [HV.out]
          exact ⟨rfl, rfl⟩
      · have HV := Lib.hid (show valN 0 l = 0 by unfold valN; rw [if_neg (by omega), if_neg (by simp)])
        have hl0 : l.length = 0 := by omega
        rw [hl0]
        clear h1 h0
        go_enter Try.func28, Try.ntmps28
        go_wp2_with (fail)
        go_ret
        rw [HV.out]
        exact ⟨rfl, rfl⟩
    · have HV := Lib.hid (show valN s l = 0 by unfold valN; rw [if_neg (by omega), if_neg h1])
      have e0 : (s != 0) = true := by simpa using hs0
      by_cases h2 : s = 1
      · have e1 : (s == 1) = true := by simpa using h2
        have e2 : ((l.length : Int) == 1) = false := by rw [beq_eq_false_iff_ne]; intro e; exact h1 ⟨h2, by omega⟩
        clear h1 h2 hs0
        go_enter Try.func28, Try.ntmps28
        go_wp2_with (fail)
        go_ret
        rw [HV.out]
        exact ⟨rfl, rfl⟩
      · have e1 : (s == 1) = false := by simpa using h2
        clear h1 h2 hs0
        go_enter Try.func28, Try.ntmps28
        go_wp2_with (fail)
        go_ret
        rw [HV.out]
        exact ⟨rfl, rfl⟩
theorem words1_eK : ∀ args w, (callFunc 67 args).run Try.prog w = .ok (.enter 67 args) w := enters_of Try.func67 (by kernel_rfl) rfl
theorem words1_any (A : Option Addr) (c : Nat) (B : Option Addr) (d : Nat) (l : List Int) (w : World) (hA : ZRow w.heap.size w A l) (hB : ZRow w.heap.size w B l) (hl : l.length ≤ 1000000) :
    Calls Try.prog 67 #[.slice A l.length c, .slice B l.length d] w fun e w' => e = .returned (.bool true) ∧ Below w.heap.size w w' := by
  have HC := Lib.hid (equalI_any A c B d l w hA hB hl)
  clear hA hB
  go_enter Try.func67, Try.ntmps67
  go_wp2_with (fail)
  refine HC.out.mono ?_
  rintro e w1 ⟨rfl, hb⟩
  have HB := Lib.hid hb
  clear hb
  go_wp2_with (fail)
  go_ret
  exact ⟨rfl, HB.out⟩
set_option maxRecDepth 100000 in
set_option maxHeartbeats 2000000 in
theorem eqfunc_any (X : Option Addr) (c : Nat) (Y : Option Addr) (d : Nat) (L : List (List Int)) (w : World) (hX : LsRow w X L) (hY : LsRow w Y L) (hL : L.length ≤ 1000) (hll : ∀ l ∈ L, l.length ≤ 1000) :
    Calls Try.prog 66 #[.slice X L.length c, .slice Y L.length d, .func (.func 67) #[] #[]] w fun e w' => e = .returned (.bool true) ∧ Below w.heap.size w w' := by
  have HX := Lib.hid hX
  have HY := Lib.hid hY
  have HLL := Lib.hid hll
  have eK := words1_eK
  have hne : ((L.length : Int) != (L.length : Int)) = false := by simp
  clear hX hY hll
  go_enter Try.func66, Try.ntmps66
  go_wp2_with (fail)
  go_loopw [17] (fun jv wr => ∃ (k : Nat), k ≤ L.length ∧ jv = .int .i64 (k : Int) ∧ Hid (Below w.heap.size w wr)) (fun jv _ => L.length - (intOf jv).toNat)
  case atStart => exact ⟨0, Nat.zero_le _, rfl, Lib.hid (Below.refl _ _)⟩
  case round =>
    obtain ⟨k, hk, rfl, hbw⟩ := hrel
    by_cases hlt' : k < L.length
    · obtain ⟨b1, o1, hA, _, h1⟩ := (HX.out.later hbw.out) (by omega)
      obtain ⟨b2, o2, hB, _, h2⟩ := (HY.out.later hbw.out) (by omega)
      obtain ⟨P, p, c1, _, r1⟩ := h1 k hlt'
      obtain ⟨Q, q, c2, _, r2⟩ := h2 k hlt'
      have HWD := Lib.hid (words1_any P p Q q L[k] wr r1.toz r2.toz (by have := HLL.out _ (List.getElem_mem hlt'); omega))
      obtain ⟨t, HT⟩ : ∃ t, Hid (L[k] = t) := ⟨_, Lib.hid rfl⟩
      rw [HT.out] at c1 c2 HWD
      subst hA
      subst hB
      clear h1 h2 r1 r2
      go_wp2_with (fail)
      refine HWD.out.mono ?_
      rintro e w2 ⟨rfl, hb⟩
      have HB2 := Lib.hid (hbw.out.trans (hb.mono hbw.out.size))
      clear hb
      go_wp2_with (fail)
      exact ⟨⟨k + 1, by omega, by go_num, HB2⟩, by simp [intOf]; omega⟩
    · obtain rfl : k = L.length := by omega
      go_wp2_with (fail)
      go_ret
      exact ⟨rfl, hbw.out⟩
theorem lwords_any (X : Option Addr) (c : Nat) (Y : Option Addr) (d : Nat) (L : List (List Int)) (w : World) (hX : LsRow w X L) (hY : LsRow w Y L) (hL : L.length ≤ 1000) (hll : ∀ l ∈ L, l.length ≤ 1000) :
    Calls Try.prog 25 #[.slice X L.length c, .slice Y L.length d] w fun e w' => e = .returned (.bool true) ∧ Below w.heap.size w w' := by
  have HC := Lib.hid (eqfunc_any X c Y d L w hX hY hL hll)
  clear hX hY hll
  go_enter Try.func25, Try.ntmps25
  go_wp2_with (fail)
  refine HC.out.mono ?_
  rintro e w1 ⟨rfl, hb⟩
  have HB := Lib.hid hb
  clear hb
  go_wp2_with (fail)
  go_ret
  exact ⟨rfl, HB.out⟩
set_option maxRecDepth 100000 in
set_option maxHeartbeats 4000000 in
theorem r_bits_any (W : Int) (A : Option Addr) (c : Nat) (l : List Int) (B : Option Addr) (d : Nat) (inp : List Int) (w : World) (hr : ZRow w.heap.size w A l) (hi : ZRow w.heap.size w B inp) (hl : l.length ≤ 1000) (hli : inp.length ≤ 1000) :
    Calls Try.prog 24 #[.int .i64 W, .slice A l.length c, .slice B inp.length d] w fun e w' => ∃ X d', e = .returned (.tuple #[.slice X (bitsL W l inp).length d', .int .i64 (bitsE W l inp)]) ∧ BRow w' X (bitsL W l inp) ∧ Below w.heap.size w w' := by
  have HS := Lib.hid (r_isSorts_any W A c l w hr hl)
  have HR := Lib.hid hr
  have HI := Lib.hid hi
  clear hi
  cases hok : okS W l with
  | false =>
    have HV := Lib.hid (show bitsL W l inp = [] ∧ bitsE W l inp = 1 by simp [bitsL, bitsE, hok])
    rw [hok] at HS
    clear hok hr
    go_enter Try.func24, Try.ntmps24
    go_wp2_with (fail)
    refine HS.out.mono ?_
    rintro e wx ⟨rfl, hwx⟩
    obtain rfl := hwx.symm
    go_wp2_with (fail)
    go_ret2
    rw [HV.out.1, HV.out.2]
    exact ⟨none, 0, rfl, BRow.nil _ _, Below.refl _ _⟩
  | true =>
    by_cases hlen : inp.length = l.length
    · obtain ⟨m, rfl, hm2, hm8, hl24⟩ := okS_nat hok
      have HV := Lib.hid (show bitsL (m : Int) l inp = (if okI (m : Int) l inp l.length = true then bsK m l inp l.length else []) ∧ bitsE (m : Int) l inp = (if okI (m : Int) l inp l.length = true then 0 else 2) by
        unfold bitsL bitsE
        rw [if_pos (show okS (m : Int) l = true ∧ inp.length = l.length from ⟨hok, hlen⟩)]
        simp [hok, hlen])
      have HSR := Lib.hid (okS_srt hok)
      have hne : ((l.length : Int) != (inp.length : Int)) = false := by rw [hlen]; simp
      have HLE := Lib.hid hlen
      have hb0 := (Below.refl w.heap.size w).alloc (Nat.le_refl _) (.cells #[] 4)
      have HB0 := Lib.hid hb0
      have HO0 := Lib.hid (show BOwn (w.alloc (.cells #[] 4)) w.heap.size (.slice (some ⟨w.heap.size, 0, none⟩) 0 0) (bsK m l inp 0) from b_empty w w.heap.size (Nat.le_refl _))
      rw [hok] at HS
      clear hok hr hlen hb0
      go_enter Try.func24, Try.ntmps24
      go_wp2_with (fail)
      refine HS.out.mono ?_
      rintro e wx ⟨rfl, hwx⟩
      obtain rfl := hwx.symm
      go_wp2_with (fail)
      go_loopw [8, 9] (fun u8 jv wr => ∃ (k : Nat), k ≤ l.length ∧ jv = .int .i64 (k : Int) ∧ Hid (okI (m : Int) l inp k = true) ∧ Hid (BOwn wr w.heap.size u8 (bsK m l inp k)) ∧ Hid (Below w.heap.size w wr)) (fun _ jv _ => l.length - (intOf jv).toNat)
      case atStart => exact ⟨0, Nat.zero_le _, rfl, Lib.hid rfl, HO0, HB0⟩
      case round =>
        obtain ⟨k, hk, rfl, hpre, hown, hbw⟩ := hrel
        by_cases hkl : k < l.length
        · have hlt' : k < inp.length := by have := HLE.out; omega
          obtain ⟨b, off, hA, _, hc0⟩ := (HR.out.below hbw.out) (by omega)
          have c0 := hc0 k hkl
          obtain ⟨b2, o2, hB, _, hc2⟩ := (HI.out.below hbw.out) (by omega)
          have c2 := hc2 k hlt'
          subst hA
          subst hB
          have HE := Lib.hid (show bsK m l inp (k + 1) = bsK m l inp k ++ bitL inp[k] (lenN m l[k]) by simp only [bsK, srtK_at hkl, srtK_at hlt'])
          have HOK := Lib.hid (show okI (m : Int) l inp (k + 1) = okV (m : Int) l[k] inp[k] by simp only [okI, srtK_at hkl, srtK_at hlt', hpre.out, Bool.true_and])
          have HBAD := Lib.hid (show okV (m : Int) l[k] inp[k] = false → okI (m : Int) l inp l.length = false from fun h => okI_bad (k := k) (by rw [srtK_at hkl, srtK_at hlt']; exact h) _ hkl)
          have hs01 := HSR.out _ (List.getElem_mem hkl)
          obtain ⟨s, HSV⟩ : ∃ s, Hid (l[k] = s) := ⟨_, Lib.hid rfl⟩
          obtain ⟨n, HNV⟩ : ∃ n, Hid (inp[k] = n) := ⟨_, Lib.hid rfl⟩
          rw [HSV.out] at c0 HE HOK HBAD hs01
          rw [HNV.out] at c2 HE HOK HBAD
          have hbl := bsK_len m l inp k
          have hbt := btK_le m (by omega) l k
          have hbt2 : (bsK m l inp k).length ≤ 200 := by
            rw [hbl]
            exact Nat.le_trans hbt (Nat.le_trans (Nat.mul_le_mul hm8 (show k ≤ 24 by omega)) (by decide))
          clear hbl hbt hc0 hc2
          rcases hs01 with rfl | rfl
          · rw [show lenN m 0 = m from rfl] at HE
            rw [show okV (m : Int) 0 n = (n == wrpP (m : Int) n) from rfl] at HOK HBAD
            have HWR := Lib.hid (fun w' => r_wrap_any (m : Int) n (by omega) w')
            by_cases hv : n = wrpP (m : Int) n
            · have hnb : -128 ≤ n ∧ n ≤ 127 := by have := wrp_bound (m : Int) n; omega
              have HOKT := Lib.hid (show okI (m : Int) l inp (k + 1) = true by rw [HOK.out]; simpa using hv)
              have HT0 := Lib.hid (show BOwn wr w.heap.size u8 (bsK m l inp k ++ bitL n 0) by simp [bitL]; exact hown.out)
              rw [← hv] at HWR
              have hne2 : (n != n) = false := by simp
              clear hv HOK HBAD
              generalize bsK m l inp k = bs at *
              go_wp2_with (fail)
              refine (HWR.out _).mono ?_
              rintro e wx ⟨rfl, hwx⟩
              obtain rfl := hwx.symm
              go_wp2_with (fail)
              clear c0 c2
              go_loopw [8, 11] (fun u8 jv wr => ∃ (j : Nat), j ≤ m ∧ jv = .int .i64 (j : Int) ∧ Hid (BOwn wr w.heap.size u8 (bs ++ bitL n j)) ∧ Hid (Below w.heap.size w wr)) (fun _ jv _ => m - (intOf jv).toNat)
              case atStart => exact ⟨0, Nat.zero_le _, rfl, HT0, hbw⟩
              case round =>
                obtain ⟨j, hj, rfl, hzo, hbz⟩ := hrel
                by_cases hjt : j < m
                · have hbo := bit_odd n j
                  obtain ⟨q, hq⟩ : ∃ q, n / 2 ^ j = q := ⟨_, rfl⟩
                  rw [show n / pw j = q from hq] at hbo
                  have hti := tmod_in q
                  have htw : IntKind.i64.wrap (q.tmod 2) = q.tmod 2 := IntWalk.i64_in _ (by omega)
                  have HT := Lib.hid (show bs ++ bitL n (j + 1) = (bs ++ bitL n j) ++ [bitP n j == 1] by rw [bitL_succ, List.append_assoc])
                  obtain ⟨p, HP⟩ : ∃ p, Hid ((bitP n j == 1) = p) := ⟨_, Lib.hid rfl⟩
                  rw [HP.out] at HT hbo
                  have hba := (Below.refl wr.heap.size wr).alloc (Nat.le_refl _) (.cells #[.bool p] 4)
                  have ho := hzo.out.later hba
                  have hsz := Nat.le_trans hbz.out.size hba.size
                  have hll : (bs ++ bitL n j).length = bs.length + j := by rw [List.length_append, bitL_len]
                  obtain ⟨X', cap', w8, hrun, hown8, hgr8⟩ := b_append (w := wr.alloc (.cells #[.bool p] 4)) w.heap.size (bs.length + j) u8 _ ho hll.symm (some ⟨wr.heap.size, 0, none⟩) 1 1 [p] rfl (BRow.one wr _) (by omega) hsz
                  have HO8 := Lib.hid (show BOwn w8 w.heap.size (.slice X' (bs.length + j + 1) cap') (bs ++ bitL n (j + 1)) by rw [HT.out]; exact hown8)
                  have HB8 := Lib.hid ((hbz.out.trans (hba.mono hbz.out.size)).trans (grown_below hgr8 (own_lo ho) hsz))
                  clear hba ho hsz hown8 hgr8 HT hll hti
                  go_wp2_with (at_builtin; refine app_by rfl _ _ 48 48 rfl _ _ rfl rfl _ _ hrun ?_; intro w9 hw9; obtain rfl := hw9.out)
                  exact ⟨⟨j + 1, by omega, by go_num, HO8, HB8⟩, by simp [intOf]; omega⟩
                · obtain rfl : m = j := by omega
                  have HO3 := Lib.hid (show BOwn wr w.heap.size u8 (bsK m l inp (k + 1)) by rw [HE.out]; exact hzo.out)
                  go_wp2_with (fail)
                  exact ⟨⟨k + 1, by omega, by go_num, HOKT, HO3, hbz⟩, by simp [intOf]; omega⟩
            · have HBD := Lib.hid (HBAD.out (by simpa using hv))
              have hne2 : (wrpP (m : Int) n != n) = true := by simp; exact fun e => hv e.symm
              generalize wrpP (m : Int) n = x at *
              clear hv HOK HBAD
              go_wp2_with (fail)
              refine (HWR.out _).mono ?_
              rintro e wx ⟨rfl, hwx⟩
              obtain rfl := hwx.symm
              go_wp2_with (fail)
              go_ret2
              rw [HV.out.1, HV.out.2, HBD.out]
              exact ⟨none, 0, rfl, BRow.nil _ _, hbw.out⟩
          · rw [show lenN m 1 = 1 from rfl] at HE
            rw [show okV (m : Int) 1 n = (n == 0 || n == 1) from rfl] at HOK HBAD
            by_cases hv : n = 0 ∨ n = 1
            · have HOKT := Lib.hid (show okI (m : Int) l inp (k + 1) = true by rw [HOK.out]; rcases hv with rfl | rfl <;> rfl)
              have HT := Lib.hid (show bsK m l inp (k + 1) = bsK m l inp k ++ [n == 1] by
                rw [HE.out]
                congr 1
                rcases hv with rfl | rfl <;> decide +kernel)
              have hba := (Below.refl wr.heap.size wr).alloc (Nat.le_refl _) (.cells #[.bool (n == 1)] 4)
              have ho := hown.out.later hba
              have hsz := Nat.le_trans hbw.out.size hba.size
              obtain ⟨X', cap', w8, hrun, hown8, hgr8⟩ := b_append (w := wr.alloc (.cells #[.bool (n == 1)] 4)) w.heap.size (bsK m l inp k).length u8 _ ho rfl (some ⟨wr.heap.size, 0, none⟩) 1 1 [n == 1] rfl (BRow.one wr _) (by omega) hsz
              have HO8 := Lib.hid (show BOwn w8 w.heap.size (.slice X' ((bsK m l inp k).length + 1) cap') (bsK m l inp (k + 1)) by rw [HT.out]; exact hown8)
              have HB8 := Lib.hid ((hbw.out.trans (hba.mono hbw.out.size)).trans (grown_below hgr8 (own_lo ho) hsz))
              clear hba ho hsz hown8 hgr8 HT HOK HBAD
              by_cases h0 : n = 0
              · subst h0
                clear hv
                have hq1 : ((0 : Int) == 1) = false := rfl
                rw [hq1] at hrun
                go_wp2_with (at_builtin; refine app_by rfl _ _ 48 48 rfl _ _ rfl rfl _ _ hrun ?_; intro w9 hw9; obtain rfl := hw9.out)
                exact ⟨⟨k + 1, by omega, by go_num, HOKT, HO8, HB8⟩, by simp [intOf]; omega⟩
              · obtain rfl : n = 1 := by omega
                clear hv h0
                have hq1 : ((1 : Int) == 1) = true := rfl
                rw [hq1] at hrun
                go_wp2_with (at_builtin; refine app_by rfl _ _ 48 48 rfl _ _ rfl rfl _ _ hrun ?_; intro w9 hw9; obtain rfl := hw9.out)
                exact ⟨⟨k + 1, by omega, by go_num, HOKT, HO8, HB8⟩, by simp [intOf]; omega⟩
            · have e0 : (n != 0) = true := by simp; omega
              have e1 : (n != 1) = true := by simp; omega
              have HBD := Lib.hid (HBAD.out (by simp; omega))
              clear hv HOK HBAD
              go_wp2_with (fail)
              go_ret2
              rw [HV.out.1, HV.out.2, HBD.out]
              exact ⟨none, 0, rfl, BRow.nil _ _, hbw.out⟩
        · obtain rfl : k = l.length := by omega
          obtain ⟨X, d', hu, _, hrow⟩ := hown.out.form
          subst hu
          have HROW := Lib.hid hrow
          have HPR := hpre
          clear hrow
          go_wp2_with (fail)
          go_ret2
          rw [HV.out.1, HV.out.2, HPR.out, if_pos rfl, if_pos rfl]
          exact ⟨X, d', rfl, HROW.out, hbw.out⟩
    · have HV := Lib.hid (show bitsL W l inp = [] ∧ bitsE W l inp = 1 by simp [bitsL, bitsE, hlen])
      have hne : ((l.length : Int) != (inp.length : Int)) = true := by simp; omega
      rw [hok] at HS
      clear hok hr hlen
      go_enter Try.func24, Try.ntmps24
      go_wp2_with (fail)
      refine HS.out.mono ?_
      rintro e wx ⟨rfl, hwx⟩
      obtain rfl := hwx.symm
      go_wp2_with (fail)
      go_ret2
      rw [HV.out.1, HV.out.2]
      exact ⟨none, 0, rfl, BRow.nil _ _, Below.refl _ _⟩
end Go.Proofs.Ytbcabnbgkicfdaa
