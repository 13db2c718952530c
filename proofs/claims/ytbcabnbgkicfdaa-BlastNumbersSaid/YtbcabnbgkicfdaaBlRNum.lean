/- What is proved: the reference of package blast: IsSorts, Words, Bits, Value, Constant. -/
import Derived.Test.YtbcabnbgkicfdaaBlRdLaw
set_option linter.unusedVariables false
set_option linter.unusedSimpArgs false
namespace Go.Proofs.Ytbcabnbgkicfdaa
open Go.RowKit Go.Maps

theorem z_empty (w : World) (B : Nat) (hB : B ≤ w.heap.size) : ZOwn (w.alloc (.cells #[] 3)) B (.slice (some ⟨w.heap.size, 0, none⟩) 0 0) [] := ⟨rfl, .inr ⟨w.heap.size, 0, #[], rfl, hB, heap_alloc_new w _, Nat.le_refl _, by decide, rfl, rfl⟩⟩
theorem b_empty (w : World) (B : Nat) (hB : B ≤ w.heap.size) : BOwn (w.alloc (.cells #[] 4)) B (.slice (some ⟨w.heap.size, 0, none⟩) 0 0) [] := ⟨rfl, .inr ⟨w.heap.size, 0, #[], rfl, hB, heap_alloc_new w _, Nat.le_refl _, by decide, rfl, rfl⟩⟩
theorem sl_empty (w : World) (B : Nat) (hB : B ≤ w.heap.size) : SlOwn (w.alloc (.cells #[] 47)) B (.slice (some ⟨w.heap.size, 0, none⟩) 0 0) [] := ⟨[], ⟨rfl, .inr ⟨w.heap.size, 0, #[], rfl, hB, heap_alloc_new w _, Nat.le_refl _, by decide, rfl, rfl⟩⟩, rfl, fun u hu => by simp at hu, fun i h => by simp at h⟩
def badS (s : Int) : Bool := s != 0 && s != 1
theorem okS_any (W : Int) (l : List Int) : okS W l = (decide (2 ≤ W ∧ W ≤ 8) && decide (l.length ≤ 24) && !(l.any badS)) := rfl
set_option maxRecDepth 100000 in
set_option maxHeartbeats 2000000 in
theorem r_isSorts_any (W : Int) (A : Option Addr) (c : Nat) (l : List Int) (w : World) (hr : ZRow w.heap.size w A l) (hl : l.length ≤ 1000) :
    Calls Try.prog 62 #[.int .i64 W, .slice A l.length c] w fun e w' => e = .returned (.bool (okS W l)) ∧ w' = w := by
  have HW := Lib.hid (r_isWidth_any W w)
  have HR := Lib.hid hr
  clear hr
  go_enter Try.func62, Try.ntmps62
  go_wp2_with (fail)
  go_loop [5] (fun jv => ∃ (k : Nat), k ≤ l.length ∧ jv = .int .i64 (k : Int) ∧ Hid ((l.take k).any badS = false)) (fun jv => l.length - (intOf jv).toNat)
  case atStart => exact ⟨0, Nat.zero_le _, rfl, Lib.hid rfl⟩
  case round =>
    obtain ⟨k, hk, rfl, hpre⟩ := hrel
    by_cases hlt' : k < l.length
    · obtain ⟨b, off, hA, _, hc0⟩ := HR.out (by omega)
      have c0 := hc0 k hlt'
      subst hA
      have HT := Lib.hid (show (l.take (k + 1)).any badS = badS l[k] by rw [List.take_succ_eq_append_getElem hlt', List.any_append, hpre.out]; simp)
      have HF := Lib.hid (show badS l[k] = true → okS W l = false from fun h => by
        rw [okS_any, List.any_eq_true.2 ⟨_, List.getElem_mem hlt', h⟩]; simp)
      obtain ⟨s, HS⟩ : ∃ s, Hid (l[k] = s) := ⟨_, Lib.hid rfl⟩
      rw [HS.out] at c0 HT HF
      clear hc0
      by_cases h0 : s = 0
      · have e0 : (s != 0) = false := by simpa using h0
        have HE := Lib.hid (show (l.take (k + 1)).any badS = false by rw [HT.out]; simp [badS, h0])
        clear h0
        go_wp2_with (fail)
        exact ⟨⟨k + 1, by omega, by go_num, HE⟩, by simp [intOf]; omega⟩
      · have e0 : (s != 0) = true := by simpa using h0
        by_cases h1 : s = 1
        · have e1 : (s != 1) = false := by simpa using h1
          have HE := Lib.hid (show (l.take (k + 1)).any badS = false by rw [HT.out]; simp [badS, h1])
          clear h0 h1
          go_wp2_with (fail)
          exact ⟨⟨k + 1, by omega, by go_num, HE⟩, by simp [intOf]; omega⟩
        · have e1 : (s != 1) = true := by simpa using h1
          have HE := Lib.hid (HF.out (by simp [badS, h0, h1]))
          clear h0 h1
          go_wp2_with (fail)
          go_ret
          rw [HE.out]
          exact ⟨rfl, rfl⟩
    · obtain rfl : k = l.length := by omega
      have HE := Lib.hid (show okS W l = (decide (2 ≤ W ∧ W ≤ 8) && decide (l.length ≤ 24)) by
        have := hpre.out
        rw [List.take_length] at this
        rw [okS_any, this]; simp)
      by_cases h : 2 ≤ W ∧ W ≤ 8
      · rw [decide_eq_true h] at HW HE
        rw [Bool.true_and] at HE
        clear h
        by_cases h2 : l.length ≤ 24
        · have d2 : decide ((l.length : Int) ≤ 24) = true := decide_eq_true (by omega)
          rw [decide_eq_true h2] at HE
          go_wp2_with (fail)
          refine HW.out.mono ?_
          rintro e wx ⟨rfl, hwx⟩
          obtain rfl := hwx.symm
          go_wp2_with (fail)
          go_ret
          rw [HE.out]
          exact ⟨rfl, rfl⟩
        · have d2 : decide ((l.length : Int) ≤ 24) = false := decide_eq_false (by omega)
          rw [decide_eq_false h2] at HE
          go_wp2_with (fail)
          refine HW.out.mono ?_
          rintro e wx ⟨rfl, hwx⟩
          obtain rfl := hwx.symm
          go_wp2_with (fail)
          go_ret
          rw [HE.out]
          exact ⟨rfl, rfl⟩
      · rw [decide_eq_false h] at HW HE
        rw [Bool.false_and] at HE
        clear h
        go_wp2_with (fail)
        refine HW.out.mono ?_
        rintro e wx ⟨rfl, hwx⟩
        obtain rfl := hwx.symm
        go_wp2_with (fail)
        go_ret
        rw [HE.out]
        exact ⟨rfl, rfl⟩
theorem okS_srt {W : Int} {l : List Int} (h : okS W l = true) : ∀ s ∈ l, s = 0 ∨ s = 1 := fun s hs => by
  rw [okS_any] at h
  simp only [Bool.and_eq_true, Bool.not_eq_true'] at h
  have := List.any_eq_false.1 h.2 s hs
  unfold badS at this
  by_cases h0 : s = 0
  · exact .inl h0
  · by_cases h1 : s = 1
    · exact .inr h1
    · simp [h0, h1] at this
set_option maxRecDepth 100000 in
set_option maxHeartbeats 4000000 in
theorem r_words_any (W : Int) (A : Option Addr) (c : Nat) (l : List Int) (w : World) (hr : ZRow w.heap.size w A l) (hl : l.length ≤ 1000) :
    Calls Try.prog 22 #[.int .i64 W, .slice A l.length c] w fun e w' => ∃ X d, e = .returned (.tuple #[.slice X (wdsL W l).length d, .int .i64 (wdsN W l), .int .i64 (wdsE W l)]) ∧ LsRow w' X (wdsL W l) ∧ Below w.heap.size w w' := by
  have HS := Lib.hid (r_isSorts_any W A c l w hr hl)
  have HR := Lib.hid hr
  cases hok : okS W l with
  | false =>
    have HV := Lib.hid (show wdsL W l = [] ∧ wdsN W l = 0 ∧ wdsE W l = 1 by simp [wdsL, wdsN, wdsE, hok])
    rw [hok] at HS
    clear hok hr
    go_enter Try.func22, Try.ntmps22
    go_wp2_with (fail)
    refine HS.out.mono ?_
    rintro e wx ⟨rfl, hwx⟩
    obtain rfl := hwx.symm
    go_wp2_with (fail)
    go_ret3
    rw [HV.out.1, HV.out.2.1, HV.out.2.2]
    exact ⟨none, 0, rfl, LsRow.nil _ _, Below.refl _ _⟩
  | true =>
    obtain ⟨m, rfl, hm2, hm8, hl24⟩ := okS_nat hok
    have HV := Lib.hid (show wdsL (m : Int) l = wdK m l l.length ∧ wdsN (m : Int) l = (btK m l l.length : Int) ∧ wdsE (m : Int) l = 0 by simp [wdsL, wdsN, wdsE, hok])
    have HSR := Lib.hid (okS_srt hok)
    rw [hok] at HS
    have hb0 := (Below.refl w.heap.size w).alloc (Nat.le_refl _) (.cells #[] 47)
    have HB0 := Lib.hid hb0
    have HO0 := Lib.hid (show SlOwn (w.alloc (.cells #[] 47)) w.heap.size (.slice (some ⟨w.heap.size, 0, none⟩) 0 0) (wdK m l 0) from sl_empty w w.heap.size (Nat.le_refl _))
    clear hok hr hb0
    go_enter Try.func22, Try.ntmps22
    go_wp2_with (fail)
    refine HS.out.mono ?_
    rintro e wx ⟨rfl, hwx⟩
    obtain rfl := hwx.symm
    go_wp2_with (fail)
    go_loopw [7, 8, 9] (fun u7 u8 jv wr => ∃ (k : Nat), k ≤ l.length ∧ jv = .int .i64 (k : Int) ∧ u8 = .int .i64 (btK m l k : Int) ∧ Hid (SlOwn wr w.heap.size u7 (wdK m l k)) ∧ Hid (Below w.heap.size w wr)) (fun _ _ jv _ => l.length - (intOf jv).toNat)
    case atStart => exact ⟨0, Nat.zero_le _, rfl, rfl, HO0, HB0⟩
    case round =>
      obtain ⟨k, hk, rfl, rfl, hown, hbw⟩ := hrel
      by_cases hlt' : k < l.length
      · obtain ⟨b, off, hA, hbl, hc0⟩ := (HR.out.below hbw.out) (by omega)
        have c0 := hc0 k hlt'
        subst hA
        have hba := (Below.refl wr.heap.size wr).alloc (Nat.le_refl _) (.cells #[] 3)
        have c1 : (wr.alloc (.cells #[] 3)).cell? ⟨b, off + k, none⟩ = some (.int .i64 l[k]) := (hba.cell (p := ⟨b, off + k, none⟩) (by have := hbw.out.size; show b < _; omega)).trans c0
        have HE := Lib.hid (show btK m l (k + 1) = btK m l k + lenN m l[k] ∧ wdK m l (k + 1) = wdK m l k ++ [wordL (btK m l k) (lenN m l[k])] by simp only [btK, wdK, srtK_at hlt']; exact ⟨trivial, trivial⟩)
        have hbt := btK_le m (by omega) l k
        have hbt2 : btK m l k ≤ 200 := Nat.le_trans hbt (Nat.le_trans (Nat.mul_le_mul hm8 (show k ≤ 24 by omega)) (by decide))
        have hs01 := HSR.out _ (List.getElem_mem hlt')
        obtain ⟨s, HSV⟩ : ∃ s, Hid (l[k] = s) := ⟨_, Lib.hid rfl⟩
        rw [HSV.out] at c0 c1 HE hs01
        have HZ0 := Lib.hid (show ZOwn (wr.alloc (.cells #[] 3)) wr.heap.size (.slice (some ⟨wr.heap.size, 0, none⟩) 0 0) (wordL (btK m l k) 0) from z_empty wr wr.heap.size (Nat.le_refl _))
        have HBA := Lib.hid hba
        clear hc0 hbt hba
        generalize btK m l k = bt at *
        generalize hgo : wr = w2 at *
        clear hgo
        rcases hs01 with rfl | rfl
        · rw [show lenN m 0 = m from rfl] at HE
          go_wp2_with (fail)
          clear c0 c1
          go_loopw [8, 10, 12] (fun u8 u10 jv wr => ∃ (j : Nat), j ≤ m ∧ jv = .int .i64 (j : Int) ∧ u8 = .int .i64 ((bt + j : Nat) : Int) ∧ Hid (ZOwn wr w2.heap.size u10 (wordL bt j)) ∧ Hid (Below w2.heap.size w2 wr)) (fun _ _ jv _ => m - (intOf jv).toNat)
          case atStart => exact ⟨0, Nat.zero_le _, rfl, rfl, HZ0, HBA⟩
          case round =>
            obtain ⟨j, hj, rfl, rfl, hzo, hbz⟩ := hrel
            by_cases hjt : j < m
            · obtain ⟨p, HP⟩ : ∃ p, Hid (bt + j = p) := ⟨_, Lib.hid rfl⟩
              have hp : p ≤ 300 := by have := HP.out; omega
              have HT := Lib.hid (wordL_succ bt j)
              rw [HP.out] at HT ⊢
              have hba := (Below.refl wr.heap.size wr).alloc (Nat.le_refl _) (.cells #[.int .i64 (2 * ((p : Int) + 1))] 3)
              have ho := hzo.out.later hba
              have hsz := Nat.le_trans hbz.out.size hba.size
              obtain ⟨X', cap', w8, hrun, hown8, hgr8⟩ := z_append (w := wr.alloc (.cells #[.int .i64 (2 * ((p : Int) + 1))] 3)) w2.heap.size j u10 _ ho (wordL_len bt j).symm (some ⟨wr.heap.size, 0, none⟩) 1 1 [2 * ((p : Int) + 1)] rfl (ZRow.one wr _) (by omega) hsz
              have HO8 := Lib.hid (show ZOwn w8 w2.heap.size (.slice X' (j + 1) cap') (wordL bt (j + 1)) by rw [HT.out]; exact hown8)
              have HB8 := Lib.hid ((hbz.out.trans (hba.mono hbz.out.size)).trans (grown_below hgr8 (own_lo ho) hsz))
              have hmul : IntKind.i64.wrap (2 * ((p : Int) + 1)) = 2 * ((p : Int) + 1) := IntWalk.i64_in _ (by omega)
              have HPN := Lib.hid (show ((p : Int) + 1) = ((bt + (j + 1) : Nat) : Int) by have := HP.out; omega)
              clear hba ho hsz hown8 hgr8 HT
              go_wp2_with (at_builtin; refine app_by rfl _ _ 47 47 rfl _ _ rfl rfl _ _ hrun ?_; intro w9 hw9; obtain rfl := hw9.out)
              exact ⟨⟨j + 1, by omega, by go_num, by rw [← HPN.out], HO8, HB8⟩, by simp [intOf]; omega⟩
            · obtain rfl : m = j := by omega
              obtain ⟨X, cc, hu, hcc, _⟩ := hzo.out.form
              rw [wordL_len] at hu hcc
              subst hu
              have hwl := wordL_len bt m
              obtain ⟨Y, cap, w3, hrun, hsl, hbl2⟩ := (hown.out.later hbz.out).push (by rw [wdK_len]; omega) (X := X) (c := cc) (l := wordL bt m) (by omega) (by have := hzo.out.wrow.2.2; exact this) (by have := hbw.out.size; have := hbz.out.size; omega)
              rw [wdK_len, hwl] at hrun
              rw [wdK_len] at hsl
              have HO3 := Lib.hid (show SlOwn w3 w.heap.size (.slice Y (k + 1) cap) (wdK m l (k + 1)) by rw [HE.out.2]; exact hsl)
              have HB3 := Lib.hid ((hbw.out.trans (hbz.out.mono hbw.out.size)).trans hbl2)
              have HBN := Lib.hid (show ((bt + m : Nat) : Int) = (btK m l (k + 1) : Int) by rw [HE.out.1])
              clear hsl hbl2 hwl
              go_wp2_with (at_builtin; refine app_by rfl _ _ 49 49 rfl _ _ rfl rfl _ _ hrun ?_; intro w9 hw9; obtain rfl := hw9.out)
              exact ⟨⟨k + 1, by omega, by go_num, by rw [← HBN.out]; simp, HO3, HB3⟩, by simp [intOf]; omega⟩
        · rw [show lenN m 1 = 1 from rfl] at HE
          go_wp2_with (fail)
          clear c0 c1
          go_loopw [8, 10, 12] (fun u8 u10 jv wr => ∃ (j : Nat), j ≤ 1 ∧ jv = .int .i64 (j : Int) ∧ u8 = .int .i64 ((bt + j : Nat) : Int) ∧ Hid (ZOwn wr w2.heap.size u10 (wordL bt j)) ∧ Hid (Below w2.heap.size w2 wr)) (fun _ _ jv _ => 1 - (intOf jv).toNat)
          case atStart => exact ⟨0, Nat.zero_le _, rfl, rfl, HZ0, HBA⟩
          case round =>
            obtain ⟨j, hj, rfl, rfl, hzo, hbz⟩ := hrel
            by_cases hjt : j < 1
            · obtain ⟨p, HP⟩ : ∃ p, Hid (bt + j = p) := ⟨_, Lib.hid rfl⟩
              have hp : p ≤ 300 := by have := HP.out; omega
              have HT := Lib.hid (wordL_succ bt j)
              rw [HP.out] at HT ⊢
              have hba := (Below.refl wr.heap.size wr).alloc (Nat.le_refl _) (.cells #[.int .i64 (2 * ((p : Int) + 1))] 3)
              have ho := hzo.out.later hba
              have hsz := Nat.le_trans hbz.out.size hba.size
              obtain ⟨X', cap', w8, hrun, hown8, hgr8⟩ := z_append (w := wr.alloc (.cells #[.int .i64 (2 * ((p : Int) + 1))] 3)) w2.heap.size j u10 _ ho (wordL_len bt j).symm (some ⟨wr.heap.size, 0, none⟩) 1 1 [2 * ((p : Int) + 1)] rfl (ZRow.one wr _) (by omega) hsz
              have HO8 := Lib.hid (show ZOwn w8 w2.heap.size (.slice X' (j + 1) cap') (wordL bt (j + 1)) by rw [HT.out]; exact hown8)
              have HB8 := Lib.hid ((hbz.out.trans (hba.mono hbz.out.size)).trans (grown_below hgr8 (own_lo ho) hsz))
              have hmul : IntKind.i64.wrap (2 * ((p : Int) + 1)) = 2 * ((p : Int) + 1) := IntWalk.i64_in _ (by omega)
              have HPN := Lib.hid (show ((p : Int) + 1) = ((bt + (j + 1) : Nat) : Int) by have := HP.out; omega)
              clear hba ho hsz hown8 hgr8 HT
              go_wp2_with (at_builtin; refine app_by rfl _ _ 47 47 rfl _ _ rfl rfl _ _ hrun ?_; intro w9 hw9; obtain rfl := hw9.out)
              exact ⟨⟨j + 1, by omega, by go_num, by rw [← HPN.out], HO8, HB8⟩, by simp [intOf]; omega⟩
            · obtain rfl : j = 1 := by omega
              obtain ⟨X, cc, hu, hcc, _⟩ := hzo.out.form
              rw [wordL_len] at hu hcc
              subst hu
              have hwl := wordL_len bt 1
              obtain ⟨Y, cap, w3, hrun, hsl, hbl2⟩ := (hown.out.later hbz.out).push (by rw [wdK_len]; omega) (X := X) (c := cc) (l := wordL bt 1) (by omega) (by have := hzo.out.wrow.2.2; exact this) (by have := hbw.out.size; have := hbz.out.size; omega)
              rw [wdK_len, hwl] at hrun
              rw [wdK_len] at hsl
              have HO3 := Lib.hid (show SlOwn w3 w.heap.size (.slice Y (k + 1) cap) (wdK m l (k + 1)) by rw [HE.out.2]; exact hsl)
              have HB3 := Lib.hid ((hbw.out.trans (hbz.out.mono hbw.out.size)).trans hbl2)
              have HBN := Lib.hid (show ((bt + 1 : Nat) : Int) = (btK m l (k + 1) : Int) by rw [HE.out.1])
              clear hsl hbl2 hwl
              go_wp2_with (at_builtin; refine app_by rfl _ _ 49 49 rfl _ _ rfl rfl _ _ hrun ?_; intro w9 hw9; obtain rfl := hw9.out)
              exact ⟨⟨k + 1, by omega, by go_num, by rw [← HBN.out]; simp, HO3, HB3⟩, by simp [intOf]; omega⟩
      · obtain rfl : k = l.length := by omega
        obtain ⟨X, d, hu, hd, hrow⟩ := hown.out.form
        have hwl := wdK_len m l l.length
        rw [hwl] at hu hd
        subst hu
        have HROW := Lib.hid hrow
        have HWL := Lib.hid hwl
        clear hrow hwl hd
        go_wp2_with (fail)
        go_ret3
        rw [HV.out.1, HV.out.2.1, HV.out.2.2, HWL.out]
        exact ⟨X, d, rfl, HROW.out, hbw.out⟩
theorem bitP_cong {W : Nat} {n m t : Int} {k : Nat} (hk : k < W) (h : m = n + pw W * t) : bitP m k = bitP n k := by
  obtain ⟨d, rfl⟩ : ∃ d, W = k + 1 + d := ⟨W - k - 1, by omega⟩
  have e : pw (k + 1 + d) = pw k * (2 * pw d) := by rw [pw_add, pw_succ]; generalize pw k = P; generalize pw d = Q; grind
  unfold bitP
  rw [h, e, Int.mul_assoc, Int.add_mul_ediv_left _ _ (by have := pw_pos k; omega)]
  generalize n / pw k = q
  rw [Int.mul_assoc]
  omega
theorem bit_odd (n : Int) (k : Nat) : ((n / pw k).tmod 2 != 0) = (bitP n k == 1) := by
  unfold bitP
  have h := tmod2 (n / pw k)
  generalize n / pw k = q at *
  by_cases e : q % 2 = 0
  · rw [h.2 e, e]; rfl
  · have h1 : q % 2 = 1 := by omega
    have h2 : ¬ q.tmod 2 = 0 := fun h3 => e (h.1 h3)
    rw [h1]
    simpa using h2
theorem tmod_in (q : Int) : -1 ≤ q.tmod 2 ∧ q.tmod 2 ≤ 1 := by
  have := Int.tmod_lt_of_pos q (show (0 : Int) < 2 by omega)
  have := Int.lt_tmod_of_pos q (show (0 : Int) < 2 by omega)
  omega
set_option maxRecDepth 100000 in
set_option maxHeartbeats 2000000 in
theorem r_constant_any (W n : Int) (w : World) :
    Calls Try.prog 31 #[.int .i64 W, .int .i64 n] w fun e w' => ∃ A' c', e = .returned (.slice A' (conL W n).length c') ∧ ZOwn w' w.heap.size (.slice A' (conL W n).length c') (conL W n) ∧ Below w.heap.size w w' := by
  have HW := Lib.hid (fun w' => r_isWidth_any W w')
  have hb0 := (Below.refl w.heap.size w).alloc (Nat.le_refl _) (.cells #[] 3)
  have HB0 := Lib.hid hb0
  have HOW := Lib.hid (show ZOwn (w.alloc (.cells #[] 3)) w.heap.size (.slice (some ⟨w.heap.size, 0, none⟩) 0 0) [] from z_empty w w.heap.size (Nat.le_refl _))
  unfold conL
  clear hb0
  by_cases h : 2 ≤ W ∧ W ≤ 8
  · rw [if_pos h]
    rw [decide_eq_true h] at HW
    obtain ⟨m, rfl⟩ : ∃ m : Nat, W = (m : Int) := ⟨W.toNat, by omega⟩
    rw [Int.toNat_natCast]
    have hm : m ≤ 8 := by omega
    have HWR := Lib.hid (fun w' => r_wrap_any (m : Int) n (by omega) w')
    have hwb := wrp_bound (m : Int) n
    have HBQ := Lib.hid (fun (k : Nat) (hk : k < m) => show bitP (wrpP (m : Int) n) k = bitP n k by
      obtain ⟨t, ht⟩ := wrp_diff (m : Int) n (by omega)
      refine bitP_cong hk (t := t) ?_
      rw [ht]
      have := (hf_pow (W := (m : Int)) (by omega)).2
      rw [← this]
      rfl)
    generalize wrpP (m : Int) n = x at *
    clear h
    go_enter Try.func31, Try.ntmps31
    go_wp2_with (fail)
    refine (HW.out _).mono ?_
    rintro e wx ⟨rfl, hwx⟩
    obtain rfl := hwx.symm
    go_wp2_with (fail)
    refine (HWR.out _).mono ?_
    rintro e wx ⟨rfl, hwx⟩
    obtain rfl := hwx.symm
    generalize hgw : w.alloc (.cells #[] 3) = w1 at *
    clear hgw
    go_wp2_with (fail)
    go_loopw [5, 6] (fun u jv wr => ∃ (k : Nat), k ≤ m ∧ jv = .int .i64 (k : Int) ∧ Hid (ZOwn wr w.heap.size u ((List.range k).map (bitP n))) ∧ Hid (Below w.heap.size w wr)) (fun _ jv _ => m - (intOf jv).toNat)
    case atStart => exact ⟨0, Nat.zero_le _, rfl, HOW, HB0⟩
    case round =>
      obtain ⟨k, hk, rfl, hown, hbw⟩ := hrel
      by_cases hlt : k < m
      · have HT := Lib.hid (show (List.range (k + 1)).map (bitP n) = (List.range k).map (bitP n) ++ [bitP n k] by rw [List.range_succ, List.map_append]; rfl)
        have hbo := bit_odd x k
        rw [HBQ.out k hlt] at hbo
        obtain ⟨q, hq⟩ : ∃ q, x / 2 ^ k = q := ⟨_, rfl⟩
        rw [show x / pw k = q from hq] at hbo
        have hti := tmod_in q
        have htw : IntKind.i64.wrap (q.tmod 2) = q.tmod 2 := IntWalk.i64_in _ (by omega)
        rcases bitP_lo n k with hb | hb
        all_goals
          rw [hb] at hbo HT
        · have hbo2 : (q.tmod 2 != 0) = false := by rw [hbo]; rfl
          clear hbo hti
          have hba := (Below.refl wr.heap.size wr).alloc (Nat.le_refl _) (.cells #[.int .i64 0] 3)
          have ho := hown.out.later hba
          have hsz := Nat.le_trans hbw.out.size hba.size
          obtain ⟨X', cap', w8, hrun, hown8, hgr8⟩ := z_append (w := wr.alloc (.cells #[.int .i64 0] 3)) w.heap.size k u5 _ ho (by simp) (some ⟨wr.heap.size, 0, none⟩) 1 1 [0] rfl (ZRow.one wr _) (by omega) hsz
          have HO8 := Lib.hid (show ZOwn w8 w.heap.size (.slice X' (k + 1) cap') ((List.range (k + 1)).map (bitP n)) by rw [HT.out]; exact hown8)
          have HB8 := Lib.hid ((hbw.out.trans (hba.mono hbw.out.size)).trans (grown_below hgr8 (own_lo ho) hsz))
          clear hba ho hsz hown8 hgr8 hown HT
          go_wp2_with (at_builtin; refine app_by rfl _ _ 47 47 rfl _ _ rfl rfl _ _ hrun ?_; intro w9 hw9; obtain rfl := hw9.out)
          exact ⟨⟨k + 1, by omega, by go_num, HO8, HB8⟩, by simp [intOf]; omega⟩
        · have hbo2 : (q.tmod 2 != 0) = true := by rw [hbo]; rfl
          clear hbo hti
          have hba := (Below.refl wr.heap.size wr).alloc (Nat.le_refl _) (.cells #[.int .i64 1] 3)
          have ho := hown.out.later hba
          have hsz := Nat.le_trans hbw.out.size hba.size
          obtain ⟨X', cap', w8, hrun, hown8, hgr8⟩ := z_append (w := wr.alloc (.cells #[.int .i64 1] 3)) w.heap.size k u5 _ ho (by simp) (some ⟨wr.heap.size, 0, none⟩) 1 1 [1] rfl (ZRow.one wr _) (by omega) hsz
          have HO8 := Lib.hid (show ZOwn w8 w.heap.size (.slice X' (k + 1) cap') ((List.range (k + 1)).map (bitP n)) by rw [HT.out]; exact hown8)
          have HB8 := Lib.hid ((hbw.out.trans (hba.mono hbw.out.size)).trans (grown_below hgr8 (own_lo ho) hsz))
          clear hba ho hsz hown8 hgr8 hown HT
          go_wp2_with (at_builtin; refine app_by rfl _ _ 47 47 rfl _ _ rfl rfl _ _ hrun ?_; intro w9 hw9; obtain rfl := hw9.out)
          exact ⟨⟨k + 1, by omega, by go_num, HO8, HB8⟩, by simp [intOf]; omega⟩
      · obtain rfl : k = m := by omega
        obtain ⟨A', c', hu, _, _⟩ := hown.out.form
        subst hu
        go_wp2_with (fail)
        go_ret
        exact ⟨A', c', rfl, hown.out, hbw.out⟩
  · rw [if_neg h]
    rw [decide_eq_false h] at HW
    clear h
    go_enter Try.func31, Try.ntmps31
    go_wp2_with (fail)
    refine (HW.out _).mono ?_
    rintro e wx ⟨rfl, hwx⟩
    obtain rfl := hwx.symm
    go_wp2_with (fail)
    go_ret
    exact ⟨_, 0, rfl, HOW.out, HB0.out⟩
end Go.Proofs.Ytbcabnbgkicfdaa
