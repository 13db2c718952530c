/- What is proved: package blast: bits of numbers, sorts, constants, values of bits. -/
import Derived.Test.YtbcabnbgkicfdaaBlInt
set_option linter.unusedVariables false
set_option linter.unusedSimpArgs false
namespace Go.Proofs.Ytbcabnbgkicfdaa
open Go.RowKit Go.Maps

theorem bits_and1 (x : Int) (h : -9223372036854775808 ≤ x ∧ x ≤ 9223372036854775807) : bits .and .i64 x 1 = x % 2 := by
  have e1 : (BitVec.ofInt 64 x).toNat = (x % 18446744073709551616).toNat := by rw [BitVec.toNat_ofInt]; rfl
  show IntKind.i64.wrap (((BitVec.ofInt 64 x &&& BitVec.ofInt 64 1).toNat : Nat) : Int) = _
  have e2 : (BitVec.ofInt 64 1).toNat = 1 := by decide
  rw [BitVec.toNat_and, e1, e2, IntKind.wrap_i64, Nat.and_one_is_mod]
  omega
/-- a bit of a number -/
def bitP (n : Int) (i : Nat) : Int := n / pw i % 2
theorem bitP_lo (n : Int) (i : Nat) : bitP n i = 0 ∨ bitP n i = 1 := by unfold bitP; omega
theorem pw_small : ∀ i, i ≤ 8 → pw i ≤ 256 := fun i hi => by
  have : i = 0 ∨ i = 1 ∨ i = 2 ∨ i = 3 ∨ i = 4 ∨ i = 5 ∨ i = 6 ∨ i = 7 ∨ i = 8 := by omega
  rcases this with rfl | rfl | rfl | rfl | rfl | rfl | rfl | rfl | rfl <;> decide
theorem div_in (n : Int) (i : Nat) (h : -9223372036854775808 ≤ n ∧ n ≤ 9223372036854775807) : -9223372036854775808 ≤ n / pw i ∧ n / pw i ≤ 9223372036854775807 := by
  have hp := pw_pos i
  have h1 := Int.mul_ediv_add_emod n (pw i)
  have h2 := Int.emod_nonneg n (show pw i ≠ 0 by omega)
  have h3 := Int.emod_lt_of_pos n hp
  generalize n / pw i = q at *
  generalize n % pw i = r at *
  refine ⟨?_, ?_⟩
  · by_cases hq : q < -9223372036854775808
    · exfalso
      have : pw i * q ≤ pw i * (-9223372036854775809) := Int.mul_le_mul_of_nonneg_left (by omega) (by omega)
      have : pw i * (-9223372036854775809) ≤ 1 * (-9223372036854775809) := Int.mul_le_mul_of_nonpos_right (by omega) (by omega)
      have : r ≤ pw i - 1 := by omega
      have h9 : pw i * q + r ≤ pw i * (-9223372036854775809) + (pw i - 1) := by omega
      have h10 : pw i * (-9223372036854775809) + (pw i - 1) ≤ -9223372036854775809 := by omega
      omega
    · omega
  · by_cases hq : 9223372036854775807 < q
    · exfalso
      have : pw i * 9223372036854775808 ≤ pw i * q := Int.mul_le_mul_of_nonneg_left (by omega) (by omega)
      have : 1 * 9223372036854775808 ≤ pw i * 9223372036854775808 := Int.mul_le_mul_of_nonneg_right (by omega) (by omega)
      omega
    · omega
theorem bit_any (n : Int) (i : Nat) (h : -9223372036854775808 ≤ n ∧ n ≤ 9223372036854775807) (hi : i ≤ 8) (w : World) :
    Calls Try.prog 64 #[.int .i64 n, .int .i64 (i : Int)] w fun e w' => e = .returned (.int .i64 (bitP n i)) ∧ w' = w := by
  have HS : ∀ w', (Op.shift BinOp.shr IntKind.i64 n IntKind.i64 (i : Int)).run Try.prog w' = .ok (.int .i64 (n / pw i)) w' := fun w' => by
    rw [shift_shr_any _ _ _ _ (by omega), show IntKind.i64.bits = 64 from rfl, show min (i : Int).toNat 64 = i by omega]; rfl
  have hb := bits_and1 (n / pw i) (div_in n i h)
  have HE := Lib.hid (show bitP n i = n / pw i % 2 from rfl)
  obtain ⟨q, HQ⟩ : ∃ q, Hid (n / pw i = q) := ⟨_, Lib.hid rfl⟩
  rw [HQ.out] at HS hb HE
  clear h
  go_enter Try.func64, Try.ntmps64
  go_wp2_with (fail)
  go_ret
  rw [HE.out]
  refine ⟨?_, rfl⟩
  show Ending.returned (.int .i64 (bits .and .i64 (n / pw i) 1)) = _
  rw [HQ.out, hb]
theorem bisWidth_any (W : Int) (w : World) : Calls Try.prog 68 #[.int .i64 W] w fun e w' => e = .returned (.bool (decide (2 ≤ W ∧ W ≤ 8))) ∧ w' = w := by
  go_enter Try.func68, Try.ntmps68
  by_cases h : 2 ≤ W
  · have d : decide (2 ≤ W) = true := by simpa using h
    have HE := Lib.hid (show decide (2 ≤ W ∧ W ≤ 8) = decide (W ≤ 8) by simp [h])
    rw [HE.out]
    clear h HE
    go_wp2_with (fail)
    go_ret
    exact ⟨rfl, rfl⟩
  · have d : decide (2 ≤ W) = false := by simpa using h
    have HE := Lib.hid (show decide (2 ≤ W ∧ W ≤ 8) = false by simp [h])
    rw [HE.out]
    clear h HE
    go_wp2_with (fail)
    go_ret
    exact ⟨rfl, rfl⟩
/-- how many bits a value of a sort has -/
def lenS (W s : Int) : Int := if s = 1 then 1 else W
theorem length_any (W s : Int) (w : World) : Calls Try.prog 61 #[.int .i64 W, .int .i64 s] w fun e w' => e = .returned (.int .i64 (lenS W s)) ∧ w' = w := by
  unfold lenS
  by_cases h : s = 1
  · rw [if_pos h]
    have d : (s == 1) = true := by simpa using h
    clear h
    go_enter Try.func61, Try.ntmps61
    go_wp2_with (fail)
    go_ret
    exact ⟨rfl, rfl⟩
  · rw [if_neg h]
    have d : (s == 1) = false := by simpa using h
    clear h
    go_enter Try.func61, Try.ntmps61
    go_wp2_with (fail)
    go_ret
    exact ⟨rfl, rfl⟩
/-- a number is a value of a sort -/
def okV (W s n : Int) : Bool := if s = 1 then (n == 0 || n == 1) else (n == wrpP W n)
theorem isValue_any (W s n : Int) (hW : IntKind.i64.wrap W = W) (w : World) : Calls Try.prog 63 #[.int .i64 W, .int .i64 s, .int .i64 n] w fun e w' => e = .returned (.bool (okV W s n)) ∧ w' = w := by
  unfold okV
  by_cases h : s = 1
  · rw [if_pos h]
    have d : (s == 1) = true := by simpa using h
    clear h
    by_cases h0 : n = 0
    · have d0 : (n == 0) = true := by simpa using h0
      have HE := Lib.hid (show (n == 0 || n == 1) = true by rw [d0]; rfl)
      rw [HE.out]
      clear h0
      go_enter Try.func63, Try.ntmps63
      go_wp2_with (fail)
      go_ret
      exact ⟨rfl, rfl⟩
    · have d0 : (n == 0) = false := by simpa using h0
      have HE := Lib.hid (show (n == 0 || n == 1) = (n == 1) by rw [d0]; rfl)
      rw [HE.out]
      clear h0 HE
      go_enter Try.func63, Try.ntmps63
      go_wp2_with (fail)
      go_ret
      exact ⟨rfl, rfl⟩
  · rw [if_neg h]
    have d : (s == 1) = false := by simpa using h
    have HW := Lib.hid (wrap_any W n hW w)
    clear h
    generalize wrpP W n = m at *
    go_enter Try.func63, Try.ntmps63
    go_wp2_with (fail)
    refine HW.out.mono ?_
    rintro e wx ⟨rfl, hwx⟩
    obtain rfl := hwx.symm
    go_wp2_with (fail)
    go_ret
    exact ⟨rfl, rfl⟩
theorem isNone_any (s : Int) (w : World) : Calls Try.prog 100 #[.int .i64 s] w fun e w' => e = .returned (.bool (s != 0 && s != 1)) ∧ w' = w := by
  by_cases h : s = 0
  · have d : (s != 0) = false := by simpa using h
    rw [d, Bool.false_and]
    clear h
    go_enter Try.func100, Try.ntmps100
    go_wp2_with (fail)
    go_ret
    exact ⟨rfl, rfl⟩
  · have d : (s != 0) = true := by simpa using h
    rw [d, Bool.true_and]
    clear h
    go_enter Try.func100, Try.ntmps100
    go_wp2_with (fail)
    go_ret
    exact ⟨rfl, rfl⟩
theorem isNone_eK : ∀ args w, (callFunc 100 args).run Try.prog w = .ok (.enter 100 args) w := enters_of Try.func100 (by kernel_rfl) rfl
/-- a function that says yes or no of a number -/
def PrOk (P : Int → Bool) (l : List Int) (g : Nat) (caps : Array Value) (w : World) : Prop :=
  ∀ (W : World) (x : Int), Below w.heap.size w W → x ∈ l → Calls Try.prog g (#[.int .i64 x] ++ caps) W fun e W' => e = .returned (.bool (P x)) ∧ Below W.heap.size W W'
/-- where the first one is -/
def IxRes {α : Type} (P : α → Bool) (l : List α) (w : World) (e : Ending) (W : World) : Prop :=
  ((∃ k, ∃ hk : k < l.length, P l[k] = true ∧ (∀ x ∈ l.take k, P x = false) ∧ e = .returned (.int .i64 (k : Int))) ∨ ((∀ x ∈ l, P x = false) ∧ e = .returned (.int .i64 (-1)))) ∧ Below w.heap.size w W

set_option maxHeartbeats 1000000 in
theorem index_any (w : World) (A : Option Addr) (c : Nat) (l : List Int) (g : Nat) (caps : Array Value) (P : Int → Bool) (hl : ZRow w.heap.size w A l) (hn : l.length ≤ 1000000000) (hP : PrOk P l g caps w) (eK : ∀ args w, (callFunc g args).run Try.prog w = .ok (.enter g args) w) :
    Calls Try.prog 111 #[.slice A l.length c, .func (.func g) #[] caps] w (IxRes P l w) := by
  have HL := Lib.hid hl
  have HP := Lib.hid hP
  clear hl hP
  go_enter Try.func111, Try.ntmps111
  go_wp2_with (fail)
  go_loopw [8] (fun i wr => ∃ k : Nat, i = .int .i64 (k : Int) ∧ k ≤ l.length ∧ Hid (∀ x ∈ l.take k, P x = false) ∧ Hid (Below w.heap.size w wr)) (fun i _ => l.length - (intOf i).toNat)
  case atStart => exact ⟨0, rfl, Nat.zero_le _, Lib.hid (by simp), Lib.hid (Below.refl _ _)⟩
  case round =>
    obtain ⟨k, rfl, hk, hpre, hbw⟩ := hrel
    by_cases hlt' : k < l.length
    · obtain ⟨b, off, rfl, hb, hcs⟩ := (HL.out.below hbw.out) (by omega)
      have r0 := hcs k hlt'
      clear hcs
      have HTK := Lib.hid (List.take_succ_eq_append_getElem hlt')
      have HC := Lib.hid (HP.out wr l[k] hbw.out (List.getElem_mem hlt'))
      obtain ⟨x, HX⟩ : ∃ x, Hid (l[k] = x) := ⟨_, Lib.hid rfl⟩
      rw [HX.out] at HTK HC r0
      go_wp2_with (fail)
      refine HC.out.mono ?_
      rintro e w2 ⟨rfl, hb2⟩
      have HB2 := Lib.hid (hbw.out.trans (hb2.mono hbw.out.size))
      clear hb2
      cases hpx : P x with
      | true =>
        have HH := Lib.hid (show IxRes P l w (.returned (.int .i64 (k : Int))) w2 from ⟨.inl ⟨k, hlt', by rw [HX.out]; exact hpx, hpre.out, rfl⟩, HB2.out⟩)
        clear hpx
        go_wp2_with (fail)
        go_ret
        exact HH.out
      | false =>
        have HN := Lib.hid (show ∀ y ∈ l.take (k + 1), P y = false from fun y hy => by
          rw [HTK.out] at hy
          rcases List.mem_append.1 hy with h | h
          · exact hpre.out y h
          · rw [List.mem_singleton.1 h]; exact hpx)
        clear hpx
        go_wp2_with (fail)
        exact ⟨⟨k + 1, by go_num, by omega, HN, HB2⟩, by simp [intOf]; omega⟩
    · obtain rfl : k = l.length := by omega
      rw [List.take_length] at hpre
      go_wp2_with (fail)
      go_ret
      exact ⟨.inr ⟨hpre.out, rfl⟩, hbw.out⟩
theorem indexC_any (w : World) (A : Option Addr) (c : Nat) (l : List Int) (g : Nat) (caps : Array Value) (P : Int → Bool) (hl : ZRow w.heap.size w A l) (hn : l.length ≤ 1000000000) (hP : PrOk P l g caps w) (eK : ∀ args w, (callFunc g args).run Try.prog w = .ok (.enter g args) w) :
    Calls Try.prog 101 #[.slice A l.length c, .func (.func g) #[] caps] w fun e W => e = .returned (.bool (l.any P)) ∧ Below w.heap.size w W := by
  have HC := Lib.hid (index_any w A c l g caps P hl hn hP eK)
  clear hl hP
  go_enter Try.func101, Try.ntmps101
  go_wp2_with (fail)
  refine HC.out.mono ?_
  rintro e w2 ⟨⟨k, hk, hp, _, rfl⟩ | ⟨hp, rfl⟩, hb⟩
  · have HH := Lib.hid (show l.any P = true ∧ Below w.heap.size w w2 from ⟨List.any_eq_true.2 ⟨_, List.getElem_mem hk, hp⟩, hb⟩)
    have h0 : (0 : Int) ≤ (k : Int) := by omega
    clear hp hb
    go_wp2_with (fail)
    go_ret
    exact ⟨by rw [HH.out.1]; first | rfl | simp, HH.out.2⟩
  · have HH := Lib.hid (show l.any P = false ∧ Below w.heap.size w w2 from ⟨by rw [List.any_eq_false]; intro x hx; rw [hp x hx]; simp, hb⟩)
    clear hp hb
    go_wp2_with (fail)
    go_ret
    exact ⟨by rw [HH.out.1]; first | rfl | simp, HH.out.2⟩

/-- numbers are sorts, and a width is one -/
def okS (W : Int) (l : List Int) : Bool := decide (2 ≤ W ∧ W ≤ 8) && decide (l.length ≤ 24) && !(l.any fun s => s != 0 && s != 1)
theorem areSorts_any (W : Int) (A : Option Addr) (c : Nat) (l : List Int) (w : World) (hr : ZRow w.heap.size w A l) (hl : l.length ≤ 1000) :
    Calls Try.prog 60 #[.int .i64 W, .slice A l.length c] w fun e w' => e = .returned (.bool (okS W l)) ∧ Below w.heap.size w w' := by
  have HW := Lib.hid (bisWidth_any W w)
  have HC := Lib.hid (indexC_any w A c l 100 #[] (fun s => s != 0 && s != 1) hr (by omega) (fun W x hb _ => (isNone_any x W).mono fun e w' ⟨h1, h2⟩ => ⟨h1, by rw [h2]; exact Below.refl _ _⟩) isNone_eK)
  unfold okS
  by_cases h : 2 ≤ W ∧ W ≤ 8
  · rw [decide_eq_true h] at HW ⊢
    clear h
    by_cases h2 : l.length ≤ 24
    · have d2 : decide ((l.length : Int) ≤ 24) = true := decide_eq_true (by omega)
      rw [decide_eq_true h2, Bool.and_self, Bool.true_and]
      clear h2
      go_enter Try.func60, Try.ntmps60
      go_wp2_with (fail)
      refine HW.out.mono ?_
      rintro e wx ⟨rfl, hwx⟩
      obtain rfl := hwx.symm
      go_wp2_with (fail)
      refine HC.out.mono ?_
      rintro e w2 ⟨rfl, hb⟩
      have HB := Lib.hid hb
      clear hb
      go_wp2_with (fail)
      go_ret
      exact ⟨rfl, HB.out⟩
    · have d2 : decide ((l.length : Int) ≤ 24) = false := decide_eq_false (by omega)
      rw [decide_eq_false h2, Bool.and_false, Bool.false_and]
      clear h2
      go_enter Try.func60, Try.ntmps60
      go_wp2_with (fail)
      refine HW.out.mono ?_
      rintro e wx ⟨rfl, hwx⟩
      obtain rfl := hwx.symm
      go_wp2_with (fail)
      go_ret
      exact ⟨rfl, Below.refl _ _⟩
  · rw [decide_eq_false h] at HW ⊢
    rw [Bool.false_and, Bool.false_and]
    clear h
    go_enter Try.func60, Try.ntmps60
    go_wp2_with (fail)
    refine HW.out.mono ?_
    rintro e wx ⟨rfl, hwx⟩
    obtain rfl := hwx.symm
    go_wp2_with (fail)
    go_ret
    exact ⟨rfl, Below.refl _ _⟩
/-- the word of a constant -/
def conL (W n : Int) : List Int := if 2 ≤ W ∧ W ≤ 8 then (List.range W.toNat).map (bitP n) else []
set_option maxRecDepth 100000 in
set_option maxHeartbeats 2000000 in
theorem constant_any (W n : Int) (hn : -9223372036854775808 ≤ n ∧ n ≤ 9223372036854775807) (w : World) :
    Calls Try.prog 30 #[.int .i64 W, .int .i64 n] w fun e w' => ∃ A' c', e = .returned (.slice A' (conL W n).length c') ∧ ZOwn w' w.heap.size (.slice A' (conL W n).length c') (conL W n) ∧ Below w.heap.size w w' := by
  have HW := Lib.hid (bisWidth_any W w)
  have HOW := Lib.hid (show ZOwn w w.heap.size (.slice none 0 0) [] from World.ownsRow_nil _ _ _ _)
  unfold conL
  by_cases h : 2 ≤ W ∧ W ≤ 8
  · rw [if_pos h]
    rw [decide_eq_true h] at HW
    obtain ⟨m, rfl⟩ : ∃ m : Nat, W = (m : Int) := ⟨W.toNat, by omega⟩
    rw [Int.toNat_natCast]
    have hm : m ≤ 8 := by omega
    have HB := Lib.hid (fun (i : Nat) (hi : i < m) (w : World) => bit_any n i hn (by omega) w)
    clear h hn
    go_enter Try.func30, Try.ntmps30
    go_wp2_with (fail)
    refine HW.out.mono ?_
    rintro e wx ⟨rfl, hwx⟩
    obtain rfl := hwx.symm
    go_wp2_with (fail)
    go_loopw [5, 11] (fun u jv wr => ∃ (k : Nat), k ≤ m ∧ jv = .int .i64 (k : Int) ∧ Hid (ZOwn wr w.heap.size u ((List.range k).map (bitP n))) ∧ Hid (Below w.heap.size w wr)) (fun _ jv _ => m - (intOf jv).toNat)
    case atStart => exact ⟨0, Nat.zero_le _, rfl, HOW, Lib.hid (Below.refl _ _)⟩
    case round =>
      obtain ⟨k, hk, rfl, hown, hbw⟩ := hrel
      by_cases hlt : k < m
      · have HT := Lib.hid (show (List.range (k + 1)).map (bitP n) = (List.range k).map (bitP n) ++ [bitP n k] by rw [List.range_succ, List.map_append]; rfl)
        have HBI := Lib.hid (HB.out k hlt)
        generalize bitP n k = b at *
        have hba := (Below.refl wr.heap.size wr).alloc (Nat.le_refl _) (.cells #[.int .i64 b] 3)
        have ho := hown.out.later hba
        have hsz := Nat.le_trans hbw.out.size hba.size
        obtain ⟨X', cap', w8, hrun, hown8, hgr8⟩ := z_append (w := wr.alloc (.cells #[.int .i64 b] 3)) w.heap.size k u5 _ ho (by simp) (some ⟨wr.heap.size, 0, none⟩) 1 1 [b] rfl (ZRow.one wr _) (by omega) hsz
        have HO8 := Lib.hid (show ZOwn w8 w.heap.size (.slice X' (k + 1) cap') ((List.range (k + 1)).map (bitP n)) by rw [HT.out]; exact hown8)
        have HB8 := Lib.hid ((hbw.out.trans (hba.mono hbw.out.size)).trans (grown_below hgr8 (own_lo ho) hsz))
        clear hba ho hsz hown8 hgr8 hown HT
        go_wp2_with (fail)
        refine (HBI.out _).mono ?_
        rintro e wy ⟨rfl, hwy⟩
        obtain rfl := hwy.symm
        go_wp2_with (at_builtin; refine app_by rfl _ _ 47 47 rfl _ _ rfl rfl _ _ hrun ?_; intro w9 hw9; obtain rfl := hw9.out)
        exact ⟨⟨k + 1, by omega, by go_num, HO8, HB8⟩, by simp [intOf]; omega⟩
      · obtain rfl : k = m := by omega
        obtain ⟨A', c', hu, _, _⟩ := hown.out.form
        subst hu
        go_wp2_with (fail)
        go_ret
        exact ⟨A', c', rfl, hown.out, hbw.out⟩
  · rw [if_neg h]
    rw [decide_eq_false h] at HW
    clear h hn
    go_enter Try.func30, Try.ntmps30
    go_wp2_with (fail)
    refine HW.out.mono ?_
    rintro e wx ⟨rfl, hwx⟩
    obtain rfl := hwx.symm
    go_wp2_with (fail)
    go_ret
    exact ⟨none, 0, rfl, HOW.out, Below.refl _ _⟩
end Go.Proofs.Ytbcabnbgkicfdaa
