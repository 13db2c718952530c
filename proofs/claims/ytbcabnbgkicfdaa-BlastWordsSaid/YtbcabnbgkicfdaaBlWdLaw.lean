/- What is proved: the law BlastWords, for any two slices of numbers. -/
import Derived.Test.YtbcabnbgkicfdaaBlDvd
import Derived.Test.YtbcabnbgkicfdaaBlAwk
import Derived.Test.YtbcabnbgkicfdaaGaOpen
set_option linter.unusedVariables false
set_option linter.unusedSimpArgs false
namespace Go.Proofs.Ytbcabnbgkicfdaa
open Go.RowKit Go.Maps

theorem bits_and15 (x : Int) (h : -9223372036854775808 ≤ x ∧ x ≤ 9223372036854775807) : bits .and .i64 x 15 = x % 16 := by
  have e1 : (BitVec.ofInt 64 x).toNat = (x % 18446744073709551616).toNat := by rw [BitVec.toNat_ofInt]; rfl
  show IntKind.i64.wrap (((BitVec.ofInt 64 x &&& BitVec.ofInt 64 15).toNat : Nat) : Int) = _
  have e2 : (BitVec.ofInt 64 15).toNat = 15 := by decide
  have e3 : (x % 18446744073709551616).toNat &&& 15 = (x % 18446744073709551616).toNat % 16 := Nat.and_two_pow_sub_one_eq_mod _ 4
  rw [BitVec.toNat_and, e1, e2, IntKind.wrap_i64, e3]
  omega
def litsL (l : List Int) : List Int := l.map (fun n => 2 + n % 16 * 2)
theorem litsL_len (l : List Int) : (litsL l).length = l.length := by simp [litsL]
theorem litsL_lits (l : List Int) : Lts 24 [] (litsL l) := fun x hx => by
  obtain ⟨n, _, rfl⟩ := List.mem_map.1 hx
  unfold isLit
  simp
  omega
set_option maxRecDepth 100000 in
set_option maxHeartbeats 2000000 in
theorem literals_any (A : Option Addr) (c : Nat) (x : List Int) (w : World) (hr : ZRow w.heap.size w A x) (hx : ∀ l ∈ x, -9223372036854775808 ≤ l ∧ l ≤ 9223372036854775807) (hl : x.length ≤ 100) :
    Calls Try.prog 44 #[.slice A x.length c] w fun e w' => ∃ A' c', e = .returned (.slice A' x.length c') ∧ ZOwn w' w.heap.size (.slice A' x.length c') (litsL x) ∧ Below w.heap.size w w' := by
  have HR := Lib.hid hr
  have HX := Lib.hid hx
  have HOW := Lib.hid (show ZOwn w w.heap.size (.slice none 0 0) (litsL (x.take 0)) from World.ownsRow_nil _ _ _ _)
  clear hr hx
  go_enter Try.func44, Try.ntmps44
  go_wp2_with (fail)
  go_loopw [3, 8] (fun u jv wr => ∃ (k : Nat), k ≤ x.length ∧ jv = .int .i64 (k : Int) ∧ Hid (ZOwn wr w.heap.size u (litsL (x.take k))) ∧ Hid (Below w.heap.size w wr)) (fun _ jv _ => x.length - (intOf jv).toNat)
  case atStart => exact ⟨0, Nat.zero_le _, rfl, HOW, Lib.hid (Below.refl _ _)⟩
  case round =>
    obtain ⟨k, hk, rfl, hown, hbw⟩ := hrel
    by_cases hlt : k < x.length
    · obtain ⟨b, off, hA, _, qq⟩ := (HR.out.below hbw.out) (by omega)
      have q := qq k hlt
      clear qq
      subst hA
      have hlb := HX.out _ (List.getElem_mem hlt)
      have hand := bits_and15 x[k] hlb
      have HT := Lib.hid (show litsL (x.take (k + 1)) = litsL (x.take k) ++ [2 + x[k] % 16 * 2] by unfold litsL; rw [List.take_succ_eq_append_getElem hlt, List.map_append]; rfl)
      obtain ⟨y, HY⟩ : ∃ y, Hid (x[k] = y) := ⟨_, Lib.hid rfl⟩
      rw [HY.out] at q hand HT hlb
      obtain ⟨z, HZ⟩ : ∃ z, Hid (y % 16 = z) := ⟨_, Lib.hid rfl⟩
      have hz : 0 ≤ z ∧ z < 16 := by have := HZ.out; omega
      rw [HZ.out] at hand HT
      have hba := (Below.refl wr.heap.size wr).alloc (Nat.le_refl _) (.cells #[.int .i64 (2 + z * 2)] 3)
      have ho := hown.out.later hba
      have hsz := Nat.le_trans hbw.out.size hba.size
      have hln : (litsL (x.take k)).length = k := by rw [litsL_len, List.length_take]; omega
      obtain ⟨X', cap', w8, hrun, hown8, hgr8⟩ := z_append (w := wr.alloc (.cells #[.int .i64 (2 + z * 2)] 3)) w.heap.size k u3 _ ho hln.symm (some ⟨wr.heap.size, 0, none⟩) 1 1 [2 + z * 2] rfl (ZRow.one wr _) (by omega) hsz
      have HO8 := Lib.hid (show ZOwn w8 w.heap.size (.slice X' (k + 1) cap') (litsL (x.take (k + 1))) by rw [HT.out]; exact hown8)
      have HB8 := Lib.hid ((hbw.out.trans (hba.mono hbw.out.size)).trans (grown_below hgr8 (own_lo ho) hsz))
      have hm1 : IntKind.i64.wrap (z * 2) = z * 2 := IntWalk.i64_in _ (by omega)
      have hm2 : IntKind.i64.wrap (2 + z * 2) = 2 + z * 2 := IntWalk.i64_in _ (by omega)
      clear hba ho hsz hln hown8 hgr8 hown HT hlb
      go_wp2_with (at_builtin; refine app_by rfl _ _ 47 47 rfl _ _ rfl rfl _ _ hrun ?_; intro w9 hw9; obtain rfl := hw9.out)
      exact ⟨⟨k + 1, by omega, by go_num, HO8, HB8⟩, by simp [intOf]; omega⟩
    · obtain rfl : k = x.length := by omega
      obtain ⟨A', c', hu, _, _⟩ := hown.out.form
      rw [List.take_length] at hown hu
      rw [litsL_len] at hu
      subst hu
      go_wp2_with (fail)
      go_ret
      exact ⟨A', c', rfl, hown.out, hbw.out⟩
set_option maxRecDepth 100000 in
set_option maxHeartbeats 8000000 in
theorem words_two (A : Option Addr) (cx : Nat) (x : List Int) (B : Option Addr) (cy : Nat) (y : List Int) (w : World) (hx : ZRow w.heap.size w A x) (hy : ZRow w.heap.size w B y) (bx : ∀ l ∈ x, -9223372036854775808 ≤ l ∧ l ≤ 9223372036854775807) (by' : ∀ l ∈ y, -9223372036854775808 ≤ l ∧ l ≤ 9223372036854775807) (h0 : 0 < x.length) (h8 : x.length ≤ 8) (hxy : y.length = x.length) :
    Calls Try.prog 7 #[.slice A x.length cx, .slice B y.length cy] w fun e w' => e = .returned (.bool true) ∧ Below w.heap.size w w' := by
  have HA := Lib.hid (bawake_any w)
  have HXO := Lib.hid (fun w' (hb : Below w.heap.size w w') => literals_any A cx x w' ((hx.below hb).mono hb.size) bx (by omega))
  have HYO := Lib.hid (fun w' (hb : Below w.heap.size w w') => literals_any B cy y w' ((hy.below hb).mono hb.size) by' (by omega))
  have LX := Lib.hid (litsL_lits x)
  have LY := Lib.hid (litsL_lits y)
  have hlx0 := litsL_len x
  have hly0 := litsL_len y
  obtain ⟨n, HNX⟩ : ∃ n, Hid (x.length = n) := ⟨_, Lib.hid rfl⟩
  rw [hxy] at hly0 HYO ⊢
  rw [HNX.out] at HXO HYO hlx0 hly0 h0 h8 ⊢
  have hng : ¬ n = 0 := by omega
  have hge : decide (1 ≤ (n : Int)) = true := decide_eq_true (by omega)
  have hle : decide ((n : Int) ≤ 8) = true := decide_eq_true (by omega)
  have hgt : decide (12 < (n : Int)) = false := decide_eq_false (by omega)
  have h12 : ¬ 12 < n := by omega
  have HLX := Lib.hid hlx0
  have HLY := Lib.hid hly0
  clear hx hy bx by' hxy hlx0 hly0
  go_enter Try.func7, Try.ntmps7
  go_wp2_with (fail)
  refine HA.out.mono ?_
  rintro e w1 ⟨rfl, hb1⟩
  have HB1 := Lib.hid hb1
  have HN := Lib.hid (new_any 24 (by decide) w1)
  clear hb1
  go_wp2_with (fail)
  refine HN.out.mono ?_
  rintro e w2 ⟨bb, mb, rfl, ht, hb2⟩
  have HT2 := Lib.hid ht
  have HB2 := Lib.hid (HB1.out.trans (hb2.mono HB1.out.size))
  have HSZ := Lib.hid hb2.size
  have HX2 := Lib.hid (HXO.out w2 HB2.out)
  clear ht hb2 HN
  go_wp2_with (fail)
  refine HX2.out.mono ?_
  rintro e w3 ⟨XA, xc, rfl, ho3, hb3⟩
  have HT3 := Lib.hid (HT2.out.later hb3)
  have HB3 := Lib.hid (HB2.out.trans (hb3.mono HB2.out.size))
  have HS3 := Lib.hid (Nat.le_trans HSZ.out hb3.size)
  have HXR3 := Lib.hid ho3.wrow.2.2
  have HXC := Lib.hid ho3.wrow.2.1
  have HY3 := Lib.hid (HYO.out w3 HB3.out)
  clear ho3 hb3 HX2
  go_wp2_with (fail)
  refine HY3.out.mono ?_
  rintro e w4 ⟨YA, yc, rfl, ho4, hb4⟩
  have HT4 := Lib.hid (HT3.out.later hb4)
  have HB4 := Lib.hid (HB3.out.trans (hb4.mono HB3.out.size))
  have HXR4 := Lib.hid ((HXR3.out.later hb4).here)
  have HYR4 := Lib.hid ho4.wrow.2.2
  have HLN := Lib.hid (blen_any HT4.out)
  clear ho4 hb4 HY3
  rw [show nds 24 ([] : List Gt).length = 25 by decide] at HLN
  go_wp2_with (fail)
  refine HLN.out.mono ?_
  rintro e w5 ⟨rfl, hb5⟩
  have HT5 := Lib.hid (HT4.out.later hb5)
  have HB5 := Lib.hid (HB4.out.trans (hb5.mono HB4.out.size))
  have HXR := Lib.hid ((HXR4.out.later hb5).here)
  have HYR := Lib.hid ((HYR4.out.later hb5).here)
  have HN0 := Lib.hid (show w.heap.size ≤ w1.heap.size from HB1.out.size)
  clear hb5 HLN HXR3 HXR4 HYR4 HT4 HT3 HT2
  generalize litsL x = xs at *
  generalize litsL y = ys at *
  have HN5 := Lib.hid (show w1.heap.size ≤ w1.heap.size from Nat.le_refl _)
  have HNB : Hid (64 * n + 3 + 2 * ((10 * n + 8) * n) ≤ 1950) := Lib.hid (by
    have : n = 1 ∨ n = 2 ∨ n = 3 ∨ n = 4 ∨ n = 5 ∨ n = 6 ∨ n = 7 ∨ n = 8 := by omega
    rcases this with rfl | rfl | rfl | rfl | rfl | rfl | rfl | rfl <;> decide)
  have HNM : Hid (8 * n * n ≤ 512) := Lib.hid (by
    have : n = 1 ∨ n = 2 ∨ n = 3 ∨ n = 4 ∨ n = 5 ∨ n = 6 ∨ n = 7 ∨ n = 8 := by omega
    rcases this with rfl | rfl | rfl | rfl | rfl | rfl | rfl | rfl <;> decide)
  have HXL := Lib.hid (show 0 < xs.length ∧ xs.length ≤ 8 ∧ ys.length = xs.length ∧ xs.length = n from by have := HLX.out; have := HLY.out; omega)
  have HC := Divide_yes XA xc xs YA yc ys HT5.out HXR.out HYR.out LX.out LY.out HXL.out.1 HXL.out.2.1 HXL.out.2.2.1 (by rw [HLX.out]; have := HNB.out; simp; omega)
  rw [HLX.out, HLY.out] at HC
  have HC := Lib.hid HC
  go_wp2_with (fail)
  refine HC.out.mono ?_
  rintro e w6 ⟨QA, qc, RA, rc, q, r, rv6, gs6, rfl, hs6, _, _, _, _, _, _, _⟩
  have HS6 := Lib.hid hs6
  have HL6 := Lib.hid (show gs6.length ≤ 1950 by have h1 := hs6.len; have := HNB.out; simp at h1; omega)
  clear hs6 HC
  have HC := Add_yes XA xc xs YA yc ys HS6.out.tab ((HXR.out.stp HT5.out HS6.out).here) ((HYR.out.stp HT5.out HS6.out).here) (LX.out.more HS6.out.grow) (LY.out.more HS6.out.grow) HXL.out.1 HXL.out.2.1 HXL.out.2.2.1 (by rw [HLX.out]; have := HL6.out; have := HNM.out; omega)
  rw [HLX.out, HLY.out] at HC
  have HC := Lib.hid HC
  go_wp2_with (fail)
  refine HC.out.mono ?_
  rintro e w7 ⟨A7, c7, z7, rv7, gs7, rfl, hac, hz, hh⟩
  have HS7 := Lib.hid (HS6.out.trans hac.st HT5.out)
  have HL7 := Lib.hid (show gs7.length ≤ 2014 by have := hac.st.len; have := HL6.out; have := HNM.out; omega)
  clear hac hz hh HC
  have HC := Sub_yes XA xc xs YA yc ys HS7.out.tab ((HXR.out.stp HT5.out HS7.out).here) ((HYR.out.stp HT5.out HS7.out).here) (LX.out.more HS7.out.grow) (LY.out.more HS7.out.grow) HXL.out.1 HXL.out.2.1 HXL.out.2.2.1 (by rw [HLX.out]; have := HL7.out; have := HNM.out; omega)
  rw [HLX.out, HLY.out] at HC
  have HC := Lib.hid HC
  go_wp2_with (fail)
  refine HC.out.mono ?_
  rintro e w8 ⟨A8, c8, z8, rv8, gs8, rfl, hac, hz, hh⟩
  have HS8 := Lib.hid (HS7.out.trans hac.st HT5.out)
  have HL8 := Lib.hid (show gs8.length ≤ 2078 by have := hac.st.len; have := HL7.out; have := HNM.out; omega)
  clear hac hz hh HC
  have HC := Mul_yes XA xc xs YA yc ys HS8.out.tab ((HXR.out.stp HT5.out HS8.out).here) ((HYR.out.stp HT5.out HS8.out).here) (LX.out.more HS8.out.grow) (LY.out.more HS8.out.grow) HXL.out.1 HXL.out.2.1 HXL.out.2.2.1 HXC.out (by rw [HLX.out]; have := HL8.out; have := HNM.out; omega)
  rw [HLX.out, HLY.out] at HC
  have HC := Lib.hid HC
  go_wp2_with (fail)
  refine HC.out.mono ?_
  rintro e w9 ⟨A9, c9, z9, rv9, gs9, rfl, hac, hz, hh⟩
  have HS9 := Lib.hid (HS8.out.trans hac.st HT5.out)
  have HL9 := Lib.hid (show gs9.length ≤ 2590 by have := hac.st.len; have := HL8.out; have := HNM.out; omega)
  clear hac hz hh HC
  have HC := Choose_yes 2 XA xc xs YA yc ys HS9.out.tab ((HXR.out.stp HT5.out HS9.out).here) ((HYR.out.stp HT5.out HS9.out).here) (LX.out.more HS9.out.grow) (LY.out.more HS9.out.grow) HXL.out.1 HXL.out.2.1 HXL.out.2.2.1 (show isLit 24 _ 2 from ⟨by omega, by have := HS9.out.grow; omega⟩) (by rw [HLX.out]; have := HL9.out; have := HNM.out; omega)
  rw [HLX.out, HLY.out] at HC
  have HC := Lib.hid HC
  go_wp2_with (fail)
  refine HC.out.mono ?_
  rintro e w10 ⟨A10, c10, z10, rv10, gs10, rfl, hac, hz, hh⟩
  have HS10 := Lib.hid (HS9.out.trans hac.st HT5.out)
  have HL10 := Lib.hid (show gs10.length ≤ 2654 by have := hac.st.len; have := HL9.out; have := HNM.out; omega)
  clear hac hz hh HC
  have hba := (Below.refl w10.heap.size w10).alloc (Nat.le_refl _) (.cells #[.int .i64 (n : Int), .int .i64 (n : Int), .int .i64 (n : Int), .int .i64 (n : Int), .int .i64 (n : Int), .int .i64 (n : Int)] 3)
  have HS10A := Lib.hid (HS10.out.later hba HT5.out)
  have HRW := Lib.hid (row_of w10 #[.int .i64 (n : Int), .int .i64 (n : Int), .int .i64 (n : Int), .int .i64 (n : Int), .int .i64 (n : Int), .int .i64 (n : Int)] (List.replicate 6 (n : Int)) rfl)
  clear hba
  have HC := Equal_yes XA xc xs YA yc ys HS10A.out.tab ((HXR.out.stp HT5.out HS10A.out).here) ((HYR.out.stp HT5.out HS10A.out).here) (LX.out.more HS10A.out.grow) (LY.out.more HS10A.out.grow) HXL.out.1 HXL.out.2.1 HXL.out.2.2.1 (by rw [HLX.out]; have := HL10.out; have := HNM.out; omega)
  rw [HLX.out, HLY.out] at HC
  have HC := Lib.hid HC
  go_wp2_with (fail)
  refine HC.out.mono ?_
  rintro e w11 ⟨z11, rv11, gs11, rfl, hs, hz, hh⟩
  have HS11 := Lib.hid (HS10A.out.trans hs HT5.out)
  have HL11 := Lib.hid (show gs11.length ≤ 2718 by have := hs.len; have := HL10.out; omega)
  have HRW := Lib.hid (HRW.out.stp (HS10A.out.tab) hs)
  clear hs hz hh HC
  have HC := Less_yes XA xc xs YA yc ys HS11.out.tab ((HXR.out.stp HT5.out HS11.out).here) ((HYR.out.stp HT5.out HS11.out).here) (LX.out.more HS11.out.grow) (LY.out.more HS11.out.grow) HXL.out.1 HXL.out.2.1 HXL.out.2.2.1 (by rw [HLX.out]; have := HL11.out; have := HNM.out; omega)
  rw [HLX.out, HLY.out] at HC
  have HC := Lib.hid HC
  go_wp2_with (fail)
  refine HC.out.mono ?_
  rintro e w12 ⟨z12, rv12, gs12, rfl, hs, hz, hh⟩
  have HS12 := Lib.hid (HS11.out.trans hs HT5.out)
  have HL12 := Lib.hid (show gs12.length ≤ 2782 by have := hs.len; have := HL11.out; omega)
  have HRW := Lib.hid (HRW.out.stp HS11.out.tab hs)
  clear hs hz hh HC
  have HC := Neg_yes XA xc xs HS12.out.tab ((HXR.out.stp HT5.out HS12.out).here) (LX.out.more HS12.out.grow) HXL.out.1 HXL.out.2.1 (by rw [HLX.out]; have := HL12.out; have := HNM.out; omega)
  rw [HLX.out] at HC
  have HC := Lib.hid HC
  go_wp2_with (fail)
  refine HC.out.mono ?_
  rintro e w13 ⟨A13, c13, z13, rv13, gs13, rfl, hac, hz, hh⟩
  have HS13 := Lib.hid (HS12.out.trans hac.st HT5.out)
  have HL13 := Lib.hid (show gs13.length ≤ 2846 by have := hac.st.len; have := HL12.out; have := HNM.out; omega)
  have HRW := Lib.hid (HRW.out.stp HS12.out.tab hac.st)
  clear hac hz hh HC
  have HER := Lib.hid (berr_any HS13.out.tab)
  have HFB := Lib.hid (HS13.out.res.below (w0 := w) HT5.out (by have := HB1.out.size; exact this) HB5.out)
  go_wp2_with (fail)
  go_loop [101] (fun jv => ∃ (k : Nat), k ≤ 6 ∧ jv = .int .i64 (k : Int)) (fun jv => 6 - (intOf jv).toNat)
  case atStart => exact ⟨0, Nat.zero_le _, rfl⟩
  case round =>
    obtain ⟨k, hk, rfl⟩ := hrel
    by_cases hlt' : k < 6
    · obtain ⟨rb, ro, hRA, c0⟩ := HRW.out.at (i := k) (by simpa using hlt')
      rw [List.getElem_replicate] at c0
      cases hRA
      rw [Nat.zero_add] at c0
      go_wp2_with (fail)
      exact ⟨⟨k + 1, by omega, by go_num⟩, by simp [intOf]; omega⟩
    · obtain rfl : k = 6 := by omega
      go_wp2_with (fail)
      refine HER.out.mono ?_
      rintro e wx ⟨rfl, hwx⟩
      obtain rfl := hwx.symm
      go_wp2_with (fail)
      go_ret
      exact ⟨rfl, HFB.out⟩
set_option maxRecDepth 100000 in
set_option maxHeartbeats 8000000 in
theorem words_one (A : Option Addr) (cx : Nat) (x : List Int) (B : Option Addr) (cy : Nat) (y : List Int) (w : World) (hx : ZRow w.heap.size w A x) (hy : ZRow w.heap.size w B y) (bx : ∀ l ∈ x, -9223372036854775808 ≤ l ∧ l ≤ 9223372036854775807) (by' : ∀ l ∈ y, -9223372036854775808 ≤ l ∧ l ≤ 9223372036854775807) (hx12 : x.length ≤ 12) (hy12 : y.length ≤ 12) (h0 : 0 < x.length) (h8 : x.length ≤ 8) (hne : y.length ≠ x.length) :
    Calls Try.prog 7 #[.slice A x.length cx, .slice B y.length cy] w fun e w' => e = .returned (.bool true) ∧ Below w.heap.size w w' := by
  have HA := Lib.hid (bawake_any w)
  have HXO := Lib.hid (fun w' (hb : Below w.heap.size w w') => literals_any A cx x w' ((hx.below hb).mono hb.size) bx (by omega))
  have HYO := Lib.hid (fun w' (hb : Below w.heap.size w w') => literals_any B cy y w' ((hy.below hb).mono hb.size) by' (by omega))
  have LX := Lib.hid (litsL_lits x)
  have LY := Lib.hid (litsL_lits y)
  have hlx0 := litsL_len x
  have hly0 := litsL_len y
  obtain ⟨n, HNX⟩ : ∃ n, Hid (x.length = n) := ⟨_, Lib.hid rfl⟩
  obtain ⟨m, HNY⟩ : ∃ m, Hid (y.length = m) := ⟨_, Lib.hid rfl⟩
  rw [HNX.out] at HXO hlx0 hx12 ⊢
  rw [HNY.out] at HYO hly0 hy12 ⊢
  rw [HNX.out] at h0 h8 hne
  rw [HNY.out] at hne
  have hng : ¬ n = 0 := by omega
  have hge : decide (1 ≤ (n : Int)) = true := decide_eq_true (by omega)
  have hle : decide ((n : Int) ≤ 8) = true := decide_eq_true (by omega)
  have heq : ((n : Int) == (m : Int)) = false := by rw [beq_eq_false_iff_ne]; omega
  have HNE := Lib.hid (show ¬ (m = n ∧ 0 < n ∧ n ≤ 8) by omega)
  have HN08 := Lib.hid (And.intro h0 h8)
  have hgt : decide (12 < (n : Int)) = false := decide_eq_false (by omega)
  have hgt2 : decide (12 < (m : Int)) = false := decide_eq_false (by omega)
  have h12 : ¬ 12 < n := by omega
  have h12m : ¬ 12 < m := by omega
  clear hne
  have HLX := Lib.hid hlx0
  have HLY := Lib.hid hly0
  clear hx hy bx by' hlx0 hly0
  go_enter Try.func7, Try.ntmps7
  go_wp2_with (fail)
  refine HA.out.mono ?_
  rintro e w1 ⟨rfl, hb1⟩
  have HB1 := Lib.hid hb1
  have HN := Lib.hid (new_any 24 (by decide) w1)
  clear hb1
  go_wp2_with (fail)
  refine HN.out.mono ?_
  rintro e w2 ⟨bb, mb, rfl, ht, hb2⟩
  have HT2 := Lib.hid ht
  have HB2 := Lib.hid (HB1.out.trans (hb2.mono HB1.out.size))
  have HSZ := Lib.hid hb2.size
  have HX2 := Lib.hid (HXO.out w2 HB2.out)
  clear ht hb2 HN
  go_wp2_with (fail)
  refine HX2.out.mono ?_
  rintro e w3 ⟨XA, xc, rfl, ho3, hb3⟩
  have HT3 := Lib.hid (HT2.out.later hb3)
  have HB3 := Lib.hid (HB2.out.trans (hb3.mono HB2.out.size))
  have HS3 := Lib.hid (Nat.le_trans HSZ.out hb3.size)
  have HXR3 := Lib.hid ho3.wrow.2.2
  have HXC := Lib.hid ho3.wrow.2.1
  have HY3 := Lib.hid (HYO.out w3 HB3.out)
  clear ho3 hb3 HX2
  go_wp2_with (fail)
  refine HY3.out.mono ?_
  rintro e w4 ⟨YA, yc, rfl, ho4, hb4⟩
  have HT4 := Lib.hid (HT3.out.later hb4)
  have HB4 := Lib.hid (HB3.out.trans (hb4.mono HB3.out.size))
  have HXR4 := Lib.hid ((HXR3.out.later hb4).here)
  have HYR4 := Lib.hid ho4.wrow.2.2
  have HLN := Lib.hid (blen_any HT4.out)
  clear ho4 hb4 HY3
  rw [show nds 24 ([] : List Gt).length = 25 by decide] at HLN
  go_wp2_with (fail)
  refine HLN.out.mono ?_
  rintro e w5 ⟨rfl, hb5⟩
  have HT5 := Lib.hid (HT4.out.later hb5)
  have HB5 := Lib.hid (HB4.out.trans (hb5.mono HB4.out.size))
  have HXR := Lib.hid ((HXR4.out.later hb5).here)
  have HYR := Lib.hid ((HYR4.out.later hb5).here)
  have HN0 := Lib.hid (show w.heap.size ≤ w1.heap.size from HB1.out.size)
  clear hb5 HLN HXR3 HXR4 HYR4 HT4 HT3 HT2
  generalize litsL x = xs at *
  generalize litsL y = ys at *
  have HNE2 := Lib.hid (show ¬ (ys.length = xs.length ∧ 0 < xs.length ∧ xs.length ≤ 8) from by rw [HLX.out, HLY.out]; exact HNE.out)
  have HNN := Lib.hid (show n ≤ 1000000 ∧ m ≤ 1000000 from by omega)
  have HC := Divide_no XA xc xs YA yc ys HT5.out HXR.out HYR.out LX.out LY.out HNE2.out (by rw [HLX.out]; exact HNN.out.1) (by rw [HLY.out]; exact HNN.out.2)
  rw [HLX.out, HLY.out] at HC
  have HC := Lib.hid HC
  go_wp2_with (fail)
  refine HC.out.mono ?_
  rintro e w6 ⟨rfl, hb⟩
  have HB6 := Lib.hid hb
  clear hb HC
  have HC := Add_no XA xc xs YA yc ys (HT5.out.later HB6.out) ((HXR.out.later HB6.out).here) ((HYR.out.later HB6.out).here) LX.out LY.out HNE2.out (by rw [HLX.out]; exact HNN.out.1) (by rw [HLY.out]; exact HNN.out.2)
  rw [HLX.out, HLY.out] at HC
  have HC := Lib.hid HC
  go_wp2_with (fail)
  refine HC.out.mono ?_
  rintro e w7 ⟨rfl, hb⟩
  have HB7 := Lib.hid (HB6.out.trans (hb.mono HB6.out.size))
  clear hb HC
  have HC := Sub_no XA xc xs YA yc ys (HT5.out.later HB7.out) ((HXR.out.later HB7.out).here) ((HYR.out.later HB7.out).here) LX.out LY.out HNE2.out (by rw [HLX.out]; exact HNN.out.1) (by rw [HLY.out]; exact HNN.out.2)
  rw [HLX.out, HLY.out] at HC
  have HC := Lib.hid HC
  go_wp2_with (fail)
  refine HC.out.mono ?_
  rintro e w8 ⟨rfl, hb⟩
  have HB8 := Lib.hid (HB7.out.trans (hb.mono HB7.out.size))
  clear hb HC
  have HC := Mul_no XA xc xs YA yc ys (HT5.out.later HB8.out) ((HXR.out.later HB8.out).here) ((HYR.out.later HB8.out).here) LX.out LY.out HNE2.out (by rw [HLX.out]; exact HNN.out.1) (by rw [HLY.out]; exact HNN.out.2)
  rw [HLX.out, HLY.out] at HC
  have HC := Lib.hid HC
  go_wp2_with (fail)
  refine HC.out.mono ?_
  rintro e w9 ⟨rfl, hb⟩
  have HB9 := Lib.hid (HB8.out.trans (hb.mono HB8.out.size))
  clear hb HC
  have HC := Choose_no 2 XA xc xs YA yc ys (HT5.out.later HB9.out) ((HXR.out.later HB9.out).here) ((HYR.out.later HB9.out).here) LX.out LY.out HNE2.out (by rw [HLX.out]; exact HNN.out.1) (by rw [HLY.out]; exact HNN.out.2)
  rw [HLX.out, HLY.out] at HC
  have HC := Lib.hid HC
  go_wp2_with (fail)
  refine HC.out.mono ?_
  rintro e w10 ⟨rfl, hb⟩
  have HB10 := Lib.hid (HB9.out.trans (hb.mono HB9.out.size))
  clear hb HC
  have hba := (Below.refl w10.heap.size w10).alloc (Nat.le_refl _) (.cells #[.int .i64 0, .int .i64 0, .int .i64 0, .int .i64 0, .int .i64 0, .int .i64 0] 3)
  have HB10 := Lib.hid (HB10.out.trans (hba.mono HB10.out.size))
  have HRW := Lib.hid (row_of w10 #[.int .i64 0, .int .i64 0, .int .i64 0, .int .i64 0, .int .i64 0, .int .i64 0] (List.replicate 6 0) rfl)
  clear hba
  have HC := Equal_no XA xc xs YA yc ys (HT5.out.later HB10.out) ((HXR.out.later HB10.out).here) ((HYR.out.later HB10.out).here) LX.out LY.out HNE2.out (by rw [HLX.out]; exact HNN.out.1) (by rw [HLY.out]; exact HNN.out.2)
  rw [HLX.out, HLY.out] at HC
  have HC := Lib.hid HC
  go_wp2_with (fail)
  refine HC.out.mono ?_
  rintro e w11 ⟨rfl, hb⟩
  have HB11 := Lib.hid (HB10.out.trans (hb.mono HB10.out.size))
  have HRW := Lib.hid (HRW.out.later hb)
  clear hb HC
  have HC := Less_no XA xc xs YA yc ys (HT5.out.later HB11.out) ((HXR.out.later HB11.out).here) ((HYR.out.later HB11.out).here) LX.out LY.out HNE2.out (by rw [HLX.out]; exact HNN.out.1) (by rw [HLY.out]; exact HNN.out.2)
  rw [HLX.out, HLY.out] at HC
  have HC := Lib.hid HC
  go_wp2_with (fail)
  refine HC.out.mono ?_
  rintro e w12 ⟨rfl, hb⟩
  have HB12 := Lib.hid (HB11.out.trans (hb.mono HB11.out.size))
  have HRW := Lib.hid (HRW.out.later hb)
  clear hb HC
  have HC := Neg_yes XA xc xs (HT5.out.later HB12.out) ((HXR.out.later HB12.out).here) LX.out (by rw [HLX.out]; exact HN08.out.1) (by rw [HLX.out]; exact HN08.out.2) (by rw [HLX.out]; have := HN08.out; simp; omega)
  rw [HLX.out] at HC
  have HC := Lib.hid HC
  go_wp2_with (fail)
  refine HC.out.mono ?_
  rintro e w13 ⟨A13, c13, z13, rv13, gs13, rfl, hac, hz, hh⟩
  have HS13 := Lib.hid hac.st
  have HRW := Lib.hid (HRW.out.stp (HT5.out.later HB12.out) hac.st)
  have HER := Lib.hid (berr_any hac.st.tab)
  have HFB := Lib.hid (hac.st.res.below (w0 := w) (HT5.out.later HB12.out) HB1.out.size (HB5.out.trans (HB12.out.mono HB5.out.size)))
  clear hac hz hh HC
  go_wp2_with (fail)
  go_loop [101] (fun jv => ∃ (k : Nat), k ≤ 6 ∧ jv = .int .i64 (k : Int)) (fun jv => 6 - (intOf jv).toNat)
  case atStart => exact ⟨0, Nat.zero_le _, rfl⟩
  case round =>
    obtain ⟨k, hk, rfl⟩ := hrel
    by_cases hlt' : k < 6
    · obtain ⟨rb, ro, hRA, c0⟩ := HRW.out.at (i := k) (by simpa using hlt')
      rw [List.getElem_replicate] at c0
      cases hRA
      rw [Nat.zero_add] at c0
      go_wp2_with (fail)
      exact ⟨⟨k + 1, by omega, by go_num⟩, by simp [intOf]; omega⟩
    · obtain rfl : k = 6 := by omega
      go_wp2_with (fail)
      refine HER.out.mono ?_
      rintro e wx ⟨rfl, hwx⟩
      obtain rfl := hwx.symm
      go_wp2_with (fail)
      go_ret
      exact ⟨rfl, HFB.out⟩
set_option maxRecDepth 100000 in
set_option maxHeartbeats 8000000 in
theorem words_none (A : Option Addr) (cx : Nat) (x : List Int) (B : Option Addr) (cy : Nat) (y : List Int) (w : World) (hx : ZRow w.heap.size w A x) (hy : ZRow w.heap.size w B y) (bx : ∀ l ∈ x, -9223372036854775808 ≤ l ∧ l ≤ 9223372036854775807) (by' : ∀ l ∈ y, -9223372036854775808 ≤ l ∧ l ≤ 9223372036854775807) (hx12 : x.length ≤ 12) (hy12 : y.length ≤ 12) (hno : ¬ (0 < x.length ∧ x.length ≤ 8)) :
    Calls Try.prog 7 #[.slice A x.length cx, .slice B y.length cy] w fun e w' => e = .returned (.bool true) ∧ Below w.heap.size w w' := by
  have HA := Lib.hid (bawake_any w)
  have HXO := Lib.hid (fun w' (hb : Below w.heap.size w w') => literals_any A cx x w' ((hx.below hb).mono hb.size) bx (by omega))
  have HYO := Lib.hid (fun w' (hb : Below w.heap.size w w') => literals_any B cy y w' ((hy.below hb).mono hb.size) by' (by omega))
  have LX := Lib.hid (litsL_lits x)
  have LY := Lib.hid (litsL_lits y)
  have hlx0 := litsL_len x
  have hly0 := litsL_len y
  obtain ⟨n, HNX⟩ : ∃ n, Hid (x.length = n) := ⟨_, Lib.hid rfl⟩
  obtain ⟨m, HNY⟩ : ∃ m, Hid (y.length = m) := ⟨_, Lib.hid rfl⟩
  rw [HNX.out] at HXO hlx0 hx12 ⊢
  rw [HNY.out] at HYO hly0 hy12 ⊢
  rw [HNX.out] at hno
  have HNE := Lib.hid (show ¬ (m = n ∧ 0 < n ∧ n ≤ 8) by omega)
  have HNO := Lib.hid hno
  have hgt : decide (12 < (n : Int)) = false := decide_eq_false (by omega)
  have hgt2 : decide (12 < (m : Int)) = false := decide_eq_false (by omega)
  have h12 : ¬ 12 < n := by omega
  have h12m : ¬ 12 < m := by omega
  have h1b : ∀ b : Bool, b = (decide (1 ≤ (n : Int)) && decide ((n : Int) ≤ 8)) → b = false := fun b h => by
    rw [h]
    by_cases h0 : 1 ≤ (n : Int)
    · have : decide ((n : Int) ≤ 8) = false := decide_eq_false (by omega)
      rw [this, Bool.and_false]
    · have : decide (1 ≤ (n : Int)) = false := decide_eq_false h0
      rw [this, Bool.false_and]
  clear h1b
  have HLX := Lib.hid hlx0
  have HLY := Lib.hid hly0
  clear hx hy bx by' hlx0 hly0 hno
  by_cases hn0 : n = 0
  · subst hn0
    have hge : decide (1 ≤ ((0 : Nat) : Int)) = false := by decide
    go_enter Try.func7, Try.ntmps7
    go_wp2_with (fail)
    refine HA.out.mono ?_
    rintro e w1 ⟨rfl, hb1⟩
    have HB1 := Lib.hid hb1
    have HN := Lib.hid (new_any 24 (by decide) w1)
    clear hb1
    go_wp2_with (fail)
    refine HN.out.mono ?_
    rintro e w2 ⟨bb, mb, rfl, ht, hb2⟩
    have HT2 := Lib.hid ht
    have HB2 := Lib.hid (HB1.out.trans (hb2.mono HB1.out.size))
    have HSZ := Lib.hid hb2.size
    have HX2 := Lib.hid (HXO.out w2 HB2.out)
    clear ht hb2 HN
    go_wp2_with (fail)
    refine HX2.out.mono ?_
    rintro e w3 ⟨XA, xc, rfl, ho3, hb3⟩
    have HT3 := Lib.hid (HT2.out.later hb3)
    have HB3 := Lib.hid (HB2.out.trans (hb3.mono HB2.out.size))
    have HS3 := Lib.hid (Nat.le_trans HSZ.out hb3.size)
    have HXR3 := Lib.hid ho3.wrow.2.2
    have HXC := Lib.hid ho3.wrow.2.1
    have HY3 := Lib.hid (HYO.out w3 HB3.out)
    clear ho3 hb3 HX2
    go_wp2_with (fail)
    refine HY3.out.mono ?_
    rintro e w4 ⟨YA, yc, rfl, ho4, hb4⟩
    have HT4 := Lib.hid (HT3.out.later hb4)
    have HB4 := Lib.hid (HB3.out.trans (hb4.mono HB3.out.size))
    have HXR4 := Lib.hid ((HXR3.out.later hb4).here)
    have HYR4 := Lib.hid ho4.wrow.2.2
    have HLN := Lib.hid (blen_any HT4.out)
    clear ho4 hb4 HY3
    rw [show nds 24 ([] : List Gt).length = 25 by decide] at HLN
    go_wp2_with (fail)
    refine HLN.out.mono ?_
    rintro e w5 ⟨rfl, hb5⟩
    have HT5 := Lib.hid (HT4.out.later hb5)
    have HB5 := Lib.hid (HB4.out.trans (hb5.mono HB4.out.size))
    have HXR := Lib.hid ((HXR4.out.later hb5).here)
    have HYR := Lib.hid ((HYR4.out.later hb5).here)
    have HN0 := Lib.hid (show w.heap.size ≤ w1.heap.size from HB1.out.size)
    clear hb5 HLN HXR3 HXR4 HYR4 HT4 HT3 HT2
    generalize litsL x = xs at *
    generalize litsL y = ys at *
    have HNE2 := Lib.hid (show ¬ (ys.length = xs.length ∧ 0 < xs.length ∧ xs.length ≤ 8) from by rw [HLX.out, HLY.out]; exact HNE.out)
    have HNN := Lib.hid (show 0 ≤ 1000000 ∧ m ≤ 1000000 from by omega)
    have HC := Divide_no XA xc xs YA yc ys HT5.out HXR.out HYR.out LX.out LY.out HNE2.out (by rw [HLX.out]; exact HNN.out.1) (by rw [HLY.out]; exact HNN.out.2)
    rw [HLX.out, HLY.out] at HC
    have HC := Lib.hid HC
    go_wp2_with (fail)
    refine HC.out.mono ?_
    rintro e w6 ⟨rfl, hb⟩
    have HB6 := Lib.hid hb
    clear hb HC
    have HC := Add_no XA xc xs YA yc ys (HT5.out.later HB6.out) ((HXR.out.later HB6.out).here) ((HYR.out.later HB6.out).here) LX.out LY.out HNE2.out (by rw [HLX.out]; exact HNN.out.1) (by rw [HLY.out]; exact HNN.out.2)
    rw [HLX.out, HLY.out] at HC
    have HC := Lib.hid HC
    go_wp2_with (fail)
    refine HC.out.mono ?_
    rintro e w7 ⟨rfl, hb⟩
    have HB7 := Lib.hid (HB6.out.trans (hb.mono HB6.out.size))
    clear hb HC
    have HC := Sub_no XA xc xs YA yc ys (HT5.out.later HB7.out) ((HXR.out.later HB7.out).here) ((HYR.out.later HB7.out).here) LX.out LY.out HNE2.out (by rw [HLX.out]; exact HNN.out.1) (by rw [HLY.out]; exact HNN.out.2)
    rw [HLX.out, HLY.out] at HC
    have HC := Lib.hid HC
    go_wp2_with (fail)
    refine HC.out.mono ?_
    rintro e w8 ⟨rfl, hb⟩
    have HB8 := Lib.hid (HB7.out.trans (hb.mono HB7.out.size))
    clear hb HC
    have HC := Mul_no XA xc xs YA yc ys (HT5.out.later HB8.out) ((HXR.out.later HB8.out).here) ((HYR.out.later HB8.out).here) LX.out LY.out HNE2.out (by rw [HLX.out]; exact HNN.out.1) (by rw [HLY.out]; exact HNN.out.2)
    rw [HLX.out, HLY.out] at HC
    have HC := Lib.hid HC
    go_wp2_with (fail)
    refine HC.out.mono ?_
    rintro e w9 ⟨rfl, hb⟩
    have HB9 := Lib.hid (HB8.out.trans (hb.mono HB8.out.size))
    clear hb HC
    have HC := Choose_no 2 XA xc xs YA yc ys (HT5.out.later HB9.out) ((HXR.out.later HB9.out).here) ((HYR.out.later HB9.out).here) LX.out LY.out HNE2.out (by rw [HLX.out]; exact HNN.out.1) (by rw [HLY.out]; exact HNN.out.2)
    rw [HLX.out, HLY.out] at HC
    have HC := Lib.hid HC
    go_wp2_with (fail)
    refine HC.out.mono ?_
    rintro e w10 ⟨rfl, hb⟩
    have HB10 := Lib.hid (HB9.out.trans (hb.mono HB9.out.size))
    clear hb HC
    have hba := (Below.refl w10.heap.size w10).alloc (Nat.le_refl _) (.cells #[.int .i64 0, .int .i64 0, .int .i64 0, .int .i64 0, .int .i64 0, .int .i64 0] 3)
    have HB10 := Lib.hid (HB10.out.trans (hba.mono HB10.out.size))
    have HRW := Lib.hid (row_of w10 #[.int .i64 0, .int .i64 0, .int .i64 0, .int .i64 0, .int .i64 0, .int .i64 0] (List.replicate 6 0) rfl)
    clear hba
    have HC := Equal_no XA xc xs YA yc ys (HT5.out.later HB10.out) ((HXR.out.later HB10.out).here) ((HYR.out.later HB10.out).here) LX.out LY.out HNE2.out (by rw [HLX.out]; exact HNN.out.1) (by rw [HLY.out]; exact HNN.out.2)
    rw [HLX.out, HLY.out] at HC
    have HC := Lib.hid HC
    go_wp2_with (fail)
    refine HC.out.mono ?_
    rintro e w11 ⟨rfl, hb⟩
    have HB11 := Lib.hid (HB10.out.trans (hb.mono HB10.out.size))
    have HRW := Lib.hid (HRW.out.later hb)
    clear hb HC
    have HC := Less_no XA xc xs YA yc ys (HT5.out.later HB11.out) ((HXR.out.later HB11.out).here) ((HYR.out.later HB11.out).here) LX.out LY.out HNE2.out (by rw [HLX.out]; exact HNN.out.1) (by rw [HLY.out]; exact HNN.out.2)
    rw [HLX.out, HLY.out] at HC
    have HC := Lib.hid HC
    go_wp2_with (fail)
    refine HC.out.mono ?_
    rintro e w12 ⟨rfl, hb⟩
    have HB12 := Lib.hid (HB11.out.trans (hb.mono HB11.out.size))
    have HRW := Lib.hid (HRW.out.later hb)
    clear hb HC
    have HC := Neg_no XA xc xs (HT5.out.later HB12.out) ((HXR.out.later HB12.out).here) LX.out (by rw [HLX.out]; exact HNO.out) (by rw [HLX.out]; exact HNN.out.1)
    rw [HLX.out] at HC
    have HC := Lib.hid HC
    go_wp2_with (fail)
    refine HC.out.mono ?_
    rintro e w13 ⟨rfl, hb⟩
    have HB13 := Lib.hid (HB12.out.trans (hb.mono HB12.out.size))
    have HRW := Lib.hid (HRW.out.later hb)
    have HLN := Lib.hid (blen_any (HT5.out.later HB13.out))
    rw [show nds 24 ([] : List Gt).length = 25 by decide] at HLN
    have HER := Lib.hid (fun W (hb : Below w5.heap.size w5 W) => berr_any (HT5.out.later hb))
    clear hb HC
    go_wp2_with (fail)
    go_loop [101] (fun jv => ∃ (k : Nat), k ≤ 6 ∧ jv = .int .i64 (k : Int)) (fun jv => 6 - (intOf jv).toNat)
    case atStart => exact ⟨0, Nat.zero_le _, rfl⟩
    case round =>
      obtain ⟨k, hk, rfl⟩ := hrel
      by_cases hlt' : k < 6
      · obtain ⟨rb, ro, hRA, c0⟩ := HRW.out.at (i := k) (by simpa using hlt')
        rw [List.getElem_replicate] at c0
        cases hRA
        rw [Nat.zero_add] at c0
        go_wp2_with (fail)
        exact ⟨⟨k + 1, by omega, by go_num⟩, by simp [intOf]; omega⟩
      · obtain rfl : k = 6 := by omega
        go_wp2_with (fail)
        refine HLN.out.mono ?_
        rintro e w14 ⟨rfl, hb⟩
        have HB14 := Lib.hid (HB13.out.trans (hb.mono HB13.out.size))
        clear hb
        go_wp2_with (fail)
        refine (HER.out _ HB14.out).mono ?_
        rintro e wx ⟨rfl, hwx⟩
        obtain rfl := hwx.symm
        go_wp2_with (fail)
        go_ret
        exact ⟨rfl, HB5.out.trans (HB14.out.mono HB5.out.size)⟩
  · have hge : decide (1 ≤ (n : Int)) = true := decide_eq_true (by omega)
    have hle : decide ((n : Int) ≤ 8) = false := decide_eq_false (by have := HNO.out; omega)
    have hn9 : ¬ n ≤ 8 := by have := HNO.out; omega
    go_enter Try.func7, Try.ntmps7
    go_wp2_with (fail)
    refine HA.out.mono ?_
    rintro e w1 ⟨rfl, hb1⟩
    have HB1 := Lib.hid hb1
    have HN := Lib.hid (new_any 24 (by decide) w1)
    clear hb1
    go_wp2_with (fail)
    refine HN.out.mono ?_
    rintro e w2 ⟨bb, mb, rfl, ht, hb2⟩
    have HT2 := Lib.hid ht
    have HB2 := Lib.hid (HB1.out.trans (hb2.mono HB1.out.size))
    have HSZ := Lib.hid hb2.size
    have HX2 := Lib.hid (HXO.out w2 HB2.out)
    clear ht hb2 HN
    go_wp2_with (fail)
    refine HX2.out.mono ?_
    rintro e w3 ⟨XA, xc, rfl, ho3, hb3⟩
    have HT3 := Lib.hid (HT2.out.later hb3)
    have HB3 := Lib.hid (HB2.out.trans (hb3.mono HB2.out.size))
    have HS3 := Lib.hid (Nat.le_trans HSZ.out hb3.size)
    have HXR3 := Lib.hid ho3.wrow.2.2
    have HXC := Lib.hid ho3.wrow.2.1
    have HY3 := Lib.hid (HYO.out w3 HB3.out)
    clear ho3 hb3 HX2
    go_wp2_with (fail)
    refine HY3.out.mono ?_
    rintro e w4 ⟨YA, yc, rfl, ho4, hb4⟩
    have HT4 := Lib.hid (HT3.out.later hb4)
    have HB4 := Lib.hid (HB3.out.trans (hb4.mono HB3.out.size))
    have HXR4 := Lib.hid ((HXR3.out.later hb4).here)
    have HYR4 := Lib.hid ho4.wrow.2.2
    have HLN := Lib.hid (blen_any HT4.out)
    clear ho4 hb4 HY3
    rw [show nds 24 ([] : List Gt).length = 25 by decide] at HLN
    go_wp2_with (fail)
    refine HLN.out.mono ?_
    rintro e w5 ⟨rfl, hb5⟩
    have HT5 := Lib.hid (HT4.out.later hb5)
    have HB5 := Lib.hid (HB4.out.trans (hb5.mono HB4.out.size))
    have HXR := Lib.hid ((HXR4.out.later hb5).here)
    have HYR := Lib.hid ((HYR4.out.later hb5).here)
    have HN0 := Lib.hid (show w.heap.size ≤ w1.heap.size from HB1.out.size)
    clear hb5 HLN HXR3 HXR4 HYR4 HT4 HT3 HT2
    generalize litsL x = xs at *
    generalize litsL y = ys at *
    have HNE2 := Lib.hid (show ¬ (ys.length = xs.length ∧ 0 < xs.length ∧ xs.length ≤ 8) from by rw [HLX.out, HLY.out]; exact HNE.out)
    have HNN := Lib.hid (show n ≤ 1000000 ∧ m ≤ 1000000 from by omega)
    have HC := Divide_no XA xc xs YA yc ys HT5.out HXR.out HYR.out LX.out LY.out HNE2.out (by rw [HLX.out]; exact HNN.out.1) (by rw [HLY.out]; exact HNN.out.2)
    rw [HLX.out, HLY.out] at HC
    have HC := Lib.hid HC
    go_wp2_with (fail)
    refine HC.out.mono ?_
    rintro e w6 ⟨rfl, hb⟩
    have HB6 := Lib.hid hb
    clear hb HC
    have HC := Add_no XA xc xs YA yc ys (HT5.out.later HB6.out) ((HXR.out.later HB6.out).here) ((HYR.out.later HB6.out).here) LX.out LY.out HNE2.out (by rw [HLX.out]; exact HNN.out.1) (by rw [HLY.out]; exact HNN.out.2)
    rw [HLX.out, HLY.out] at HC
    have HC := Lib.hid HC
    go_wp2_with (fail)
    refine HC.out.mono ?_
    rintro e w7 ⟨rfl, hb⟩
    have HB7 := Lib.hid (HB6.out.trans (hb.mono HB6.out.size))
    clear hb HC
    have HC := Sub_no XA xc xs YA yc ys (HT5.out.later HB7.out) ((HXR.out.later HB7.out).here) ((HYR.out.later HB7.out).here) LX.out LY.out HNE2.out (by rw [HLX.out]; exact HNN.out.1) (by rw [HLY.out]; exact HNN.out.2)
    rw [HLX.out, HLY.out] at HC
    have HC := Lib.hid HC
    go_wp2_with (fail)
    refine HC.out.mono ?_
    rintro e w8 ⟨rfl, hb⟩
    have HB8 := Lib.hid (HB7.out.trans (hb.mono HB7.out.size))
    clear hb HC
    have HC := Mul_no XA xc xs YA yc ys (HT5.out.later HB8.out) ((HXR.out.later HB8.out).here) ((HYR.out.later HB8.out).here) LX.out LY.out HNE2.out (by rw [HLX.out]; exact HNN.out.1) (by rw [HLY.out]; exact HNN.out.2)
    rw [HLX.out, HLY.out] at HC
    have HC := Lib.hid HC
    go_wp2_with (fail)
    refine HC.out.mono ?_
    rintro e w9 ⟨rfl, hb⟩
    have HB9 := Lib.hid (HB8.out.trans (hb.mono HB8.out.size))
    clear hb HC
    have HC := Choose_no 2 XA xc xs YA yc ys (HT5.out.later HB9.out) ((HXR.out.later HB9.out).here) ((HYR.out.later HB9.out).here) LX.out LY.out HNE2.out (by rw [HLX.out]; exact HNN.out.1) (by rw [HLY.out]; exact HNN.out.2)
    rw [HLX.out, HLY.out] at HC
    have HC := Lib.hid HC
    go_wp2_with (fail)
    refine HC.out.mono ?_
    rintro e w10 ⟨rfl, hb⟩
    have HB10 := Lib.hid (HB9.out.trans (hb.mono HB9.out.size))
    clear hb HC
    have hba := (Below.refl w10.heap.size w10).alloc (Nat.le_refl _) (.cells #[.int .i64 0, .int .i64 0, .int .i64 0, .int .i64 0, .int .i64 0, .int .i64 0] 3)
    have HB10 := Lib.hid (HB10.out.trans (hba.mono HB10.out.size))
    have HRW := Lib.hid (row_of w10 #[.int .i64 0, .int .i64 0, .int .i64 0, .int .i64 0, .int .i64 0, .int .i64 0] (List.replicate 6 0) rfl)
    clear hba
    have HC := Equal_no XA xc xs YA yc ys (HT5.out.later HB10.out) ((HXR.out.later HB10.out).here) ((HYR.out.later HB10.out).here) LX.out LY.out HNE2.out (by rw [HLX.out]; exact HNN.out.1) (by rw [HLY.out]; exact HNN.out.2)
    rw [HLX.out, HLY.out] at HC
    have HC := Lib.hid HC
    go_wp2_with (fail)
    refine HC.out.mono ?_
    rintro e w11 ⟨rfl, hb⟩
    have HB11 := Lib.hid (HB10.out.trans (hb.mono HB10.out.size))
    have HRW := Lib.hid (HRW.out.later hb)
    clear hb HC
    have HC := Less_no XA xc xs YA yc ys (HT5.out.later HB11.out) ((HXR.out.later HB11.out).here) ((HYR.out.later HB11.out).here) LX.out LY.out HNE2.out (by rw [HLX.out]; exact HNN.out.1) (by rw [HLY.out]; exact HNN.out.2)
    rw [HLX.out, HLY.out] at HC
    have HC := Lib.hid HC
    go_wp2_with (fail)
    refine HC.out.mono ?_
    rintro e w12 ⟨rfl, hb⟩
    have HB12 := Lib.hid (HB11.out.trans (hb.mono HB11.out.size))
    have HRW := Lib.hid (HRW.out.later hb)
    clear hb HC
    have HC := Neg_no XA xc xs (HT5.out.later HB12.out) ((HXR.out.later HB12.out).here) LX.out (by rw [HLX.out]; exact HNO.out) (by rw [HLX.out]; exact HNN.out.1)
    rw [HLX.out] at HC
    have HC := Lib.hid HC
    go_wp2_with (fail)
    refine HC.out.mono ?_
    rintro e w13 ⟨rfl, hb⟩
    have HB13 := Lib.hid (HB12.out.trans (hb.mono HB12.out.size))
    have HRW := Lib.hid (HRW.out.later hb)
    have HLN := Lib.hid (blen_any (HT5.out.later HB13.out))
    rw [show nds 24 ([] : List Gt).length = 25 by decide] at HLN
    have HER := Lib.hid (fun W (hb : Below w5.heap.size w5 W) => berr_any (HT5.out.later hb))
    clear hb HC
    go_wp2_with (fail)
    go_loop [101] (fun jv => ∃ (k : Nat), k ≤ 6 ∧ jv = .int .i64 (k : Int)) (fun jv => 6 - (intOf jv).toNat)
    case atStart => exact ⟨0, Nat.zero_le _, rfl⟩
    case round =>
      obtain ⟨k, hk, rfl⟩ := hrel
      by_cases hlt' : k < 6
      · obtain ⟨rb, ro, hRA, c0⟩ := HRW.out.at (i := k) (by simpa using hlt')
        rw [List.getElem_replicate] at c0
        cases hRA
        rw [Nat.zero_add] at c0
        go_wp2_with (fail)
        exact ⟨⟨k + 1, by omega, by go_num⟩, by simp [intOf]; omega⟩
      · obtain rfl : k = 6 := by omega
        go_wp2_with (fail)
        refine HLN.out.mono ?_
        rintro e w14 ⟨rfl, hb⟩
        have HB14 := Lib.hid (HB13.out.trans (hb.mono HB13.out.size))
        clear hb
        go_wp2_with (fail)
        refine (HER.out _ HB14.out).mono ?_
        rintro e wx ⟨rfl, hwx⟩
        obtain rfl := hwx.symm
        go_wp2_with (fail)
        go_ret
        exact ⟨rfl, HB5.out.trans (HB14.out.mono HB5.out.size)⟩
set_option maxRecDepth 100000 in
set_option maxHeartbeats 4000000 in
theorem law_words (A : Option Addr) (cx : Nat) (x : List Int) (B : Option Addr) (cy : Nat) (y : List Int) (w : World) (hx : ZOpn w A cx x) (hy : ZOpn w B cy y) :
    Calls Try.prog 7 #[.slice A x.length cx, .slice B y.length cy] w fun e w' => e = .returned (.bool true) ∧ Below w.heap.size w w' := by
  obtain ⟨hx1, hx2, hx3, hx4⟩ := hx
  obtain ⟨hy1, hy2, hy3, hy4⟩ := hy
  have bx : ∀ l ∈ x, -9223372036854775808 ≤ l ∧ l ≤ 9223372036854775807 := fun l hl => by
    obtain ⟨i, hi, rfl⟩ := List.getElem_of_mem hl
    have := hx4 i
    rwa [List.getD_eq_getElem?_getD, List.getElem?_eq_getElem hi] at this
  have by' : ∀ l ∈ y, -9223372036854775808 ≤ l ∧ l ≤ 9223372036854775807 := fun l hl => by
    obtain ⟨i, hi, rfl⟩ := List.getElem_of_mem hl
    have := hy4 i
    rwa [List.getD_eq_getElem?_getD, List.getElem?_eq_getElem hi] at this
  by_cases h12 : x.length ≤ 12 ∧ y.length ≤ 12
  · by_cases h1 : 0 < x.length ∧ x.length ≤ 8
    · by_cases h2 : y.length = x.length
      · exact words_two A cx x B cy y w hx3 hy3 bx by' h1.1 h1.2 h2
      · exact words_one A cx x B cy y w hx3 hy3 bx by' h12.1 h12.2 h1.1 h1.2 h2
    · exact words_none A cx x B cy y w hx3 hy3 bx by' h12.1 h12.2 h1
  · have HA := Lib.hid (bawake_any w)
    by_cases hx12 : x.length ≤ 12
    · have d1 : decide (12 < (x.length : Int)) = false := decide_eq_false (by omega)
      have d2 : decide (12 < (y.length : Int)) = true := decide_eq_true (by omega)
      have e1 : ¬ 12 < x.length := by omega
      have e2 : 12 < y.length := by omega
      clear hx3 hy3 bx by' hx4 hy4 h12
      go_enter Try.func7, Try.ntmps7
      go_wp2_with (fail)
      refine HA.out.mono ?_
      rintro e w1 ⟨rfl, hb1⟩
      have HB1 := Lib.hid hb1
      clear hb1
      go_wp2_with (fail)
      go_ret
      exact ⟨rfl, HB1.out⟩
    · have d1 : decide (12 < (x.length : Int)) = true := decide_eq_true (by omega)
      have e1 : 12 < x.length := by omega
      clear hx3 hy3 bx by' hx4 hy4 h12
      go_enter Try.func7, Try.ntmps7
      go_wp2_with (fail)
      refine HA.out.mono ?_
      rintro e w1 ⟨rfl, hb1⟩
      have HB1 := Lib.hid hb1
      clear hb1
      go_wp2_with (fail)
      go_ret
      exact ⟨rfl, HB1.out⟩
end Go.Proofs.Ytbcabnbgkicfdaa
