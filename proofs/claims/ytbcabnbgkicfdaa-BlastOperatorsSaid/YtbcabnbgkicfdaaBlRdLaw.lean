/- What is proved: the law BlastReads, for any width and any number. -/
import Derived.Test.YtbcabnbgkicfdaaBlAwk
set_option linter.unusedVariables false
namespace Go.Proofs.Ytbcabnbgkicfdaa
open Go.RowKit Go.Maps

theorem emod_pw (n : Int) (k : Nat) : n % pw (k + 1) = n % pw k + pw k * bitP n k := by
  have hp := pw_pos k
  have h1 := Int.mul_ediv_add_emod n (pw k)
  have h2 := Int.emod_nonneg n (show pw k ≠ 0 by omega)
  have h3 := Int.emod_lt_of_pos n hp
  have h4 := Int.mul_ediv_add_emod (n / pw k) 2
  unfold bitP
  have h5 : (n / pw k) % 2 = 0 ∨ (n / pw k) % 2 = 1 := by omega
  have hk := (Int.ediv_emod_unique (a := n) (b := pw (k + 1)) (r := n % pw k + pw k * ((n / pw k) % 2)) (q := n / pw k / 2) (pw_pos _)).2 ⟨by
    rw [pw_succ]
    generalize n / pw k = q at *
    generalize n % pw k = r at *
    generalize q % 2 = s at *
    generalize q / 2 = t at *
    generalize pw k = P at *
    clear h5 h3 h2
    subst h4
    grind, by
    rcases h5 with h5 | h5 <;> rw [h5] <;> omega, by
    rw [pw_succ]
    rcases h5 with h5 | h5 <;> rw [h5] <;> omega⟩
  exact hk.2
theorem unB_bits (n : Int) (k : Nat) : unB (bitL n k) = n % pw k := by
  induction k with
  | zero => simp [bitL, unB, pw_zero, Int.emod_one]
  | succ k ih =>
    rw [bitL_succ, unB_snoc, ih, bitL_len, emod_pw]
    rcases bitP_lo n k with h | h <;> rw [h] <;> simp [b2n]
theorem val_bits {m : Nat} (hm : 2 ≤ m ∧ m ≤ 8) (n : Int) : valN 0 (bitL n m) = wrpP (m : Int) n :=
  con_val (by omega) (by rw [bitL_len]) (q := n / pw m) (by rw [unB_bits, bitL_len]; have := Int.mul_ediv_add_emod n (pw m); omega)
theorem con_bits {m : Nat} (hm : 2 ≤ m ∧ m ≤ 8) (n : Int) : conL (m : Int) n = (List.range m).map (bitP n) := by
  unfold conL
  rw [if_pos (by omega), Int.toNat_natCast]
theorem rd_bits {m : Nat} (hm : 2 ≤ m ∧ m ≤ 8) {n : Int} (hn : wrpP (m : Int) n = n) : bitsL (m : Int) [0] [n] = bitL n m ∧ bitsE (m : Int) [0] [n] = 0 := by
  have h1 : okS (m : Int) [0] = true := by
    unfold okS
    have : decide (2 ≤ (m : Int) ∧ (m : Int) ≤ 8) = true := decide_eq_true (by omega)
    rw [this]; decide
  have h2 : okI (m : Int) [0] [n] ([0] : List Int).length = true := by
    simp [okI, okV, srtK, hn]
  unfold bitsL bitsE
  rw [if_pos ⟨h1, rfl, h2⟩, if_pos ⟨h1, rfl⟩, if_pos h2]
  refine ⟨?_, rfl⟩
  simp [bsK, srtK, lenN, Int.toNat_natCast]
set_option maxRecDepth 100000 in
set_option maxHeartbeats 8000000 in
theorem law_reads (W n : Int) (w : World) (hW : (Lit.int .i64 W).wf = true) (hn : (Lit.int .i64 n).wf = true) :
    Calls Try.prog 5 #[.int .i64 W, .int .i64 n] w fun e w' => e = .returned (.bool true) ∧ Below w.heap.size w w' := by
  have HA := Lib.hid (bawake_any w)
  have HI := Lib.hid (fun w' => r_isWidth_any W w')
  have hW64 : IntKind.i64.wrap W = W := IntWalk.i64_in _ (by have := wf_int hW; omega)
  have hn64 := wf_int hn
  by_cases h : 2 ≤ W ∧ W ≤ 8
  · rw [decide_eq_true h] at HI
    obtain ⟨m, rfl⟩ : ∃ m : Nat, W = (m : Int) := ⟨W.toNat, by omega⟩
    have hm : 2 ≤ m ∧ m ≤ 8 := by omega
    have HWR := Lib.hid (fun w' => wrap_any (m : Int) n hW64 w')
    have hb := wrp_bound (m : Int) n
    have hs := wrp_wrp (m : Int) n (by omega)
    generalize wrpP (m : Int) n = x at *
    obtain ⟨e1, e2⟩ := rd_bits hm hs
    have HBI := Lib.hid (fun (A B : Option Addr) (w' : World) (hA : ZRow w'.heap.size w' A [0]) (hB : ZRow w'.heap.size w' B [x]) => bits_any (m : Int) A 1 [0] B 1 [x] w' hA hB (by simp) (by simp) (fun y hy => by simp at hy; omega))
    rw [e1, e2, bitL_len] at HBI
    have HCO := Lib.hid (fun w' => constant_any (m : Int) x (by omega) w')
    rw [con_bits hm] at HCO
    have HVL := Lib.hid (show valN 0 (bitL x m) = x by rw [val_bits hm, hs])
    have hl : ((List.range m).map (bitP x)).length = m := by simp
    rw [hl] at HCO
    have hm8 : m ≤ 8 := hm.2
    clear h hm hs e1 e2 hl hW hn hn64 hW64
    go_enter Try.func5, Try.ntmps5
    go_wp2_with (fail)
    refine HA.out.mono ?_
    rintro e w1 ⟨rfl, hb1⟩
    have HB1 := Lib.hid hb1
    clear hb1
    go_wp2_with (fail)
    refine (HI.out _).mono ?_
    rintro e wx ⟨rfl, hwx⟩
    obtain rfl := hwx.symm
    go_wp2_with (fail)
    refine (HWR.out _).mono ?_
    rintro e wx ⟨rfl, hwx⟩
    obtain rfl := hwx.symm
    have hba := (Below.refl w1.heap.size w1).alloc (Nat.le_refl _) (.cells #[.int .i64 0] 3)
    have hbb := (Below.refl (w1.alloc (.cells #[.int .i64 0] 3)).heap.size _).alloc (Nat.le_refl _) (.cells #[.int .i64 x] 3)
    have hbc := hba.trans (hbb.mono hba.size)
    have HBC := HBI.out (some ⟨w1.heap.size, 0, none⟩) (some ⟨(w1.alloc (.cells #[.int .i64 0] 3)).heap.size, 0, none⟩) _ ((row_of w1 _ [0] rfl).later hbb).toz (row_of (w1.alloc (.cells #[.int .i64 0] 3)) _ [x] rfl).toz
    rw [show (w1.alloc (.cells #[.int .i64 0] 3)).heap.size = w1.heap.size + 1 by simp] at HBC
    have HBC := Lib.hid HBC
    have HB2 := Lib.hid (HB1.out.trans (hbc.mono HB1.out.size))
    clear hba hbb hbc
    go_wp2_with (fail)
    refine HBC.out.mono ?_
    rintro e w2 ⟨LA, lc, rfl, hlr, hb2⟩
    have HLR := Lib.hid hlr
    have HB3 := Lib.hid (HB2.out.trans (hb2.mono HB2.out.size))
    clear hlr hb2 HBC
    go_wp2_with (fail)
    refine (HCO.out _).mono ?_
    rintro e w3 ⟨CA, cc, rfl, hco, hb3⟩
    have HCR := Lib.hid hco.wrow.2.2
    have HB4 := Lib.hid hb3
    have HO0 := Lib.hid (BOwn.nil w3 w3.heap.size)
    have hml : ((List.range m).map (bitP x)).length = m := by simp
    have HML := Lib.hid hml
    clear hco hb3 hml
    go_wp2_with (fail)
    go_loopw [7, 35] (fun u7 jv wr => ∃ (k : Nat), k ≤ m ∧ jv = .int .i64 (k : Int) ∧ Hid (BOwn wr w3.heap.size u7 (bitL x k)) ∧ Hid (Below w3.heap.size w3 wr)) (fun _ jv _ => m - (intOf jv).toNat)
    case atStart => exact ⟨0, Nat.zero_le _, rfl, HO0, Lib.hid (Below.refl _ _)⟩
    case round =>
      obtain ⟨k, hk, rfl, hown, hbw⟩ := hrel
      by_cases hlt' : k < m
      · obtain ⟨b, off, hA, c0⟩ := (HCR.out.later hbw.out).at (i := k) (by rw [HML.out]; exact hlt')
        rw [show ((List.range m).map (bitP x))[k]'(by rw [HML.out]; exact hlt') = bitP x k by simp] at c0
        subst hA
        have HT := Lib.hid (bitL_succ x k)
        obtain ⟨p, HP⟩ : ∃ p, Hid (bitP x k = p) := ⟨_, Lib.hid rfl⟩
        rw [HP.out] at c0 HT
        have hba := (Below.refl wr.heap.size wr).alloc (Nat.le_refl _) (.cells #[.bool (p == 1)] 4)
        have ho := hown.out.later hba
        have hsz := Nat.le_trans hbw.out.size hba.size
        obtain ⟨X', cap', w8, hrun, hown8, hgr8⟩ := b_append (w := wr.alloc (.cells #[.bool (p == 1)] 4)) w3.heap.size k u7 _ ho (bitL_len x k).symm (some ⟨wr.heap.size, 0, none⟩) 1 1 [p == 1] rfl (BRow.one wr _) (by omega) hsz
        have HO8 := Lib.hid (show BOwn w8 w3.heap.size (.slice X' (k + 1) cap') (bitL x (k + 1)) by rw [HT.out]; exact hown8)
        have HB8 := Lib.hid ((hbw.out.trans (hba.mono hbw.out.size)).trans (grown_below hgr8 (own_lo ho) hsz))
        clear hba ho hsz hown8 hgr8 HT
        go_wp2_with (at_builtin; refine app_by rfl _ _ 48 48 rfl _ _ rfl rfl _ _ hrun ?_; intro w9 hw9; obtain rfl := hw9.out)
        exact ⟨⟨k + 1, by omega, by go_num, HO8, HB8⟩, by simp [intOf]; omega⟩
      · obtain rfl : k = m := by omega
        obtain ⟨BA, bc, hu, _, hrow⟩ := hown.out.form
        rw [bitL_len] at hu
        subst hu
        have HBW := Lib.hid (HB4.out.trans (hbw.out.mono HB4.out.size))
        have HVA := value_any 0 LA lc (bitL x k) wr (HLR.out.later HBW.out) (by rw [bitL_len]; omega)
        rw [bitL_len, HVL.out] at HVA
        have HVA := Lib.hid HVA
        have HEB := equalB_any LA lc (bitL x k) BA bc (bitL x k) wr (HLR.out.later HBW.out) hrow (by rw [bitL_len]; omega)
        rw [bitL_len, decide_eq_true rfl] at HEB
        have HEB := Lib.hid HEB
        clear hrow
        go_wp2_with (fail)
        refine HVA.out.mono ?_
        rintro e wx ⟨rfl, hwx⟩
        obtain rfl := hwx.symm
        go_wp2_with (fail)
        refine HEB.out.mono ?_
        rintro e w9 ⟨rfl, hb9⟩
        have HB9 := Lib.hid (HB3.out.trans ((HBW.out.trans (hb9.mono HBW.out.size)).mono HB3.out.size))
        clear hb9
        go_wp2_with (fail)
        go_ret
        exact ⟨rfl, HB9.out⟩
  · rw [decide_eq_false h] at HI
    have HCO := constant_any W n hn64
    unfold conL at HCO
    rw [if_neg h] at HCO
    have HCO := Lib.hid HCO
    clear h hW hn hn64 hW64
    go_enter Try.func5, Try.ntmps5
    go_wp2_with (fail)
    refine HA.out.mono ?_
    rintro e w1 ⟨rfl, hb1⟩
    have HB1 := Lib.hid hb1
    clear hb1
    go_wp2_with (fail)
    refine (HI.out _).mono ?_
    rintro e wx ⟨rfl, hwx⟩
    obtain rfl := hwx.symm
    go_wp2_with (fail)
    refine (HCO.out _).mono ?_
    rintro e w2 ⟨CA, cc, rfl, _, hb2⟩
    have HB2 := Lib.hid (HB1.out.trans (hb2.mono HB1.out.size))
    clear hb2
    go_wp2_with (fail)
    go_ret
    exact ⟨rfl, HB2.out⟩
end Go.Proofs.Ytbcabnbgkicfdaa
