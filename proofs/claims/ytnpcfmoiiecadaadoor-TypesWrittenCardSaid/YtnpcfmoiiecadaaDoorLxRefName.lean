/- What is proved: the reference's Number and Name return what the plain functions say. -/
import Derived.Test.YtnpcfmoiiecadaaDoorLxRefWords
set_option linter.unusedVariables false
namespace Go.Proofs.YtnpcfmoiiecadaaDoor.Lx
open Go.RowKit

def dbl : List ByteArray := [⟨#[61, 61]⟩, ⟨#[33, 61]⟩, ⟨#[60, 61]⟩, ⟨#[62, 61]⟩]
def sgl : List ByteArray := [⟨#[60]⟩, ⟨#[62]⟩, ⟨#[61]⟩, ⟨#[43]⟩, ⟨#[45]⟩, ⟨#[42]⟩, ⟨#[47]⟩, ⟨#[37]⟩, ⟨#[40]⟩, ⟨#[41]⟩, ⟨#[123]⟩, ⟨#[125]⟩, ⟨#[91]⟩, ⟨#[93]⟩, ⟨#[44]⟩, ⟨#[59]⟩, ⟨#[58]⟩, ⟨#[46]⟩]
theorem beq_flip (a b : List UInt8) : (a == b) = (b == a) := by
  rw [Bool.eq_iff_iff, beq_iff_eq, beq_iff_eq]
  exact eq_comm
theorem dbl_eq (s : ByteArray) (i : Nat) (hi : i + 1 < s.size) : hasB dbl (s.extract i (i + 2)) = two s.data.toList i := by
  rw [two_eq s i (i + 2) (by omega) (by omega)]
  unfold hasB dbl
  simp only [List.any_cons, List.any_nil, Bool.or_false]
  generalize (s.extract i (i + 2)).toList = x
  rw [beq_flip x, beq_flip x, beq_flip x, beq_flip x, Bool.or_assoc, Bool.or_assoc]
  simp only [ByteArray.toList_eq]
theorem ext_one (s : ByteArray) (i : Nat) (hi : i < s.size) : (s.extract i (i + 1)).toList = [at_ s.data.toList i] := by
  have hl : s.data.toList.length = s.size := by simp
  rw [ByteArray.toList_eq]
  have e : (s.extract i (i + 1)).data.toList = (s.data.toList.take (i + 1)).drop i := by simp [ByteArray.data_extract, List.drop_take]
  rw [e, List.drop_take, show i + 1 - i = 1 from by omega, List.drop_eq_getElem_cons (by omega)]
  unfold at_
  simp [List.getD_eq_getElem?_getD, hl, hi]
theorem any_one (l : List UInt8) (b : UInt8) : l.any (fun x => (([x] : List UInt8) == [b])) = l.contains b := by
  induction l with
  | nil => rfl
  | cons x l ih =>
    rw [List.any_cons, ih, List.contains_cons]
    congr 1
    rw [Bool.eq_iff_iff, beq_iff_eq, beq_iff_eq]
    constructor
    · intro h
      injection h with h1 _
      exact h1.symm
    · rintro rfl
      rfl
theorem sgl_eq (s : ByteArray) (i : Nat) (hi : i < s.size) : hasB sgl (s.extract i (i + 1)) = symB (at_ s.data.toList i) := by
  unfold hasB symB
  rw [ext_one s i hi]
  generalize at_ s.data.toList i = b
  rw [← any_one, show sgl = ([60, 62, 61, 43, 45, 42, 47, 37, 40, 41, 123, 125, 91, 93, 44, 59, 58, 46] : List UInt8).map (fun x => ⟨#[x]⟩) from rfl, List.any_map]
  congr 1
  funext x
  simp [Function.comp, ByteArray.toList_eq]

theorem sym_two (l : List UInt8) (i : Nat) (h : two l i = true) : sym l i = 2 := by unfold sym; rw [if_pos h]
theorem sym_one (l : List UInt8) (i : Nat) (h : two l i = false) (h2 : symB (at_ l i) = true) : sym l i = 1 := by unfold sym; rw [h, if_neg (by simp), if_pos h2]
theorem sym_none (l : List UInt8) (i : Nat) (h : two l i = false) (h2 : symB (at_ l i) = false) : sym l i = 0 := by unfold sym; rw [h, if_neg (by simp), h2, if_neg (by simp)]
theorem two_last (l : List UInt8) (i : Nat) (h : ¬ i + 1 < l.length) : two l i = false := by
  unfold two
  rw [show decide (i + 1 < l.length) = false from by simpa using h]
  simp

def litW (w : World) (l : List ByteArray) : World := w.alloc (.cells (scells l).toArray 9)
theorem litW_below (w : World) (l : List ByteArray) : Below w.heap.size w (litW w l) := (Below.refl w.heap.size w).alloc (Nat.le_refl _) _

theorem ret_i64 {a b : Int} (h : a = b) : Ending.returned (.int .i64 a) = .returned (.int .i64 b) := by rw [h]

set_option maxHeartbeats 1000000 in
theorem r_symbol_any (s : ByteArray) (i : Nat) (w : World) (hs : s.size ≤ 1000000) (hi : i < s.size) :
    Calls Tryd.prog 38 #[.string s, .int .i64 (i : Int)] w fun e w' => e = .returned (.int .i64 (sym s.data.toList i : Int)) ∧ Below w.heap.size w w' := by
  have hl : s.data.toList.length = s.size := by simp
  have H1 := Lib.hid (fun (w : World) => has_any (some ⟨w.heap.size, 0, none⟩) 4 dbl (s.extract i (i + 2)) (litW w dbl) (by decide) (lit_strs w dbl _))
  have H2 := Lib.hid (fun (w : World) => has_any (some ⟨w.heap.size, 0, none⟩) 18 sgl (s.extract i (i + 1)) (litW w sgl) (by decide) (lit_strs w sgl _))
  rw [sgl_eq s i hi] at H2
  have B1 := Lib.hid (litW_below w dbl)
  have B2 := Lib.hid ((litW_below w dbl).trans ((litW_below (litW w dbl) sgl).mono (litW_below w dbl).size))
  have hi' : (i : Int) < (s.size : Int) := by omega
  have hll : s.data.toList.length = s.size := by simp
  obtain ⟨m, hm⟩ : ∃ m, m = i + 1 := ⟨_, rfl⟩
  obtain ⟨n, hn⟩ : ∃ n, n = i + 2 := ⟨_, rfl⟩
  have em : (i : Int) + 1 = (m : Int) := by omega
  have en : (i : Int) + 2 = (n : Int) := by omega
  have S2 := Lib.hid (sym_one s.data.toList i)
  have S3 := Lib.hid (sym_none s.data.toList i)
  have y1 : i ≤ m := by omega
  have y2 : m ≤ s.size := by omega
  have y5 : (i : Int) ≤ (m : Int) := by omega
  have y6 : (m : Int) ≤ (s.size : Int) := by omega
  by_cases h2 : i + 1 < s.size
  · have h2' : (n : Int) ≤ (s.size : Int) := by omega
    have y3 : i ≤ n := by omega
    have y4 : n ≤ s.size := by omega
    have y7 : (i : Int) ≤ (n : Int) := by omega
    rw [dbl_eq s i h2] at H1
    rw [← hn] at H1
    rw [← hm] at H2
    clear hm hn
    have S1 := Lib.hid (sym_two s.data.toList i)
    generalize two s.data.toList i = t at *
    generalize symB (at_ s.data.toList i) = t1 at *
    clear h2 hll
    go_enter Tryd.func38, Tryd.ntmps38
    go_wp2_with (fail)
    refine (H1.out _).mono ?_
    rintro e w1 ⟨rfl, rfl⟩
    cases t with
    | true =>
      go_wp2_with (fail)
      go_ret
      exact ⟨ret_i64 (by rw [S1.out (by first | rfl | trivial)]; rfl), B1.out⟩
    | false =>
      go_wp2_with (fail)
      refine (H2.out _).mono ?_
      rintro e w1 ⟨rfl, rfl⟩
      cases t1 with
      | true =>
        go_wp2_with (fail)
        go_ret
        exact ⟨ret_i64 (by rw [S2.out (by first | rfl | trivial) (by first | rfl | trivial)]; rfl), B2.out⟩
      | false =>
        go_wp2_with (fail)
        go_ret
        exact ⟨ret_i64 (by rw [S3.out (by first | rfl | trivial) (by first | rfl | trivial)]; rfl), B2.out⟩
  · have h2' : (s.size : Int) < (n : Int) := by omega
    rw [← hm] at H2
    rw [two_last s.data.toList i (by rw [hll]; exact h2)] at S2 S3
    generalize symB (at_ s.data.toList i) = t1 at *
    clear h2 H1 hm hn hll
    go_enter Tryd.func38, Tryd.ntmps38
    go_wp2_with (fail)
    refine (H2.out _).mono ?_
    rintro e w1 ⟨rfl, rfl⟩
    cases t1 with
    | true =>
      go_wp2_with (fail)
      go_ret
      exact ⟨ret_i64 (by rw [S2.out (by first | rfl | trivial) (by first | rfl | trivial)]; rfl), litW_below w sgl⟩
    | false =>
      go_wp2_with (fail)
      go_ret
      exact ⟨ret_i64 (by rw [S3.out (by first | rfl | trivial) (by first | rfl | trivial)]; rfl), litW_below w sgl⟩

def beginsAt (l : List UInt8) (i : Nat) : Bool := letter (at_ l i) || digit (at_ l i) || decide (0 < sym l i)

set_option maxHeartbeats 1000000 in
theorem r_begins_any (s : ByteArray) (i : Nat) (w : World) (hs : s.size ≤ 1000000) (hi : i < s.size) :
    Calls Tryd.prog 40 #[.string s, .int .i64 (i : Int)] w fun e w' => e = .returned (.bool (beginsAt s.data.toList i)) ∧ Below w.heap.size w w' := by
  have hV : beginsAt s.data.toList i = (letter s[i] || digit s[i] || decide (0 < sym s.data.toList i)) := by unfold beginsAt; rw [at_get s i hi]
  have HV := Lib.hid hV
  have HL := Lib.hid (r_letter_any s[i] w)
  have HD := Lib.hid (r_digit_any s[i] w)
  have HS := Lib.hid (r_symbol_any s i w hs hi)
  have hi' : (i : Int) < (s.size : Int) := by omega
  clear hV
  generalize beginsAt s.data.toList i = z at *
  generalize sym s.data.toList i = y at *
  cases c1 : letter s[i] with
  | true =>
    rw [c1] at HL HV
    go_enter Tryd.func40, Tryd.ntmps40
    go_wp2_with (fail)
    refine HL.out.mono ?_
    rintro e w' ⟨rfl, rfl⟩
    go_wp2_with (fail)
    go_ret
    exact ⟨ret_bool (by rw [HV.out]; rfl), Below.refl _ _⟩
  | false =>
    rw [c1] at HL HV
    cases c2 : digit s[i] with
    | true =>
      rw [c2] at HD HV
      go_enter Tryd.func40, Tryd.ntmps40
      go_wp2_with (fail)
      refine HL.out.mono ?_
      rintro e w' ⟨rfl, rfl⟩
      go_wp2_with (fail)
      refine HD.out.mono ?_
      rintro e w' ⟨rfl, rfl⟩
      go_wp2_with (fail)
      go_ret
      exact ⟨ret_bool (by rw [HV.out]; rfl), Below.refl _ _⟩
    | false =>
      rw [c2] at HD HV
      go_enter Tryd.func40, Tryd.ntmps40
      go_wp2_with (fail)
      refine HL.out.mono ?_
      rintro e w' ⟨rfl, rfl⟩
      go_wp2_with (fail)
      refine HD.out.mono ?_
      rintro e w' ⟨rfl, rfl⟩
      go_wp2_with (fail)
      refine HS.out.mono ?_
      rintro e w' ⟨rfl, hb⟩
      go_wp2_with (fail)
      go_ret
      exact ⟨ret_bool (by rw [HV.out]; simp <;> omega), hb⟩
end Go.Proofs.YtnpcfmoiiecadaaDoor.Lx
set_option linter.unusedVariables false
namespace Go.Proofs.YtnpcfmoiiecadaaDoor.Lx
open Go.RowKit

theorem run_next (l : List UInt8) (p : UInt8 → Bool) (i : Nat) (hi : i < l.length) (h : p (at_ l i) = true) : run l p i = run l p (i + 1) := by
  unfold run
  exact whl_yes _ _ _ hi h
theorem run_halt (l : List UInt8) (p : UInt8 → Bool) (i : Nat) (h : p (at_ l i) = false) : run l p i = i := by
  unfold run
  exact whl_no _ _ _ h
theorem run_out (l : List UInt8) (p : UInt8 → Bool) (i : Nat) (h : ¬ i < l.length) : run l p i = i := by
  unfold run
  exact whl_end _ _ _ h
theorem blank_white (l : List UInt8) (i : Nat) (hi : i < l.length) (h : white (at_ l i) = true) : blank l i = blank l (i + 1) := by
  unfold blank
  rw [blk_step, blk_step, run_next l white i hi h]
theorem blank_hash (l : List UInt8) (i : Nat) (hi : i < l.length) (h : at_ l i = 35) : blank l i = blank l (run l notNl i) := by
  have hw : run l white i = i := run_halt l white i (by rw [h]; rfl)
  have hy := run_yes l notNl i hi (by rw [h]; rfl)
  have hb := run_bd l notNl i (by omega)
  have e : blank l i = blk l l.length (run l notNl i) := by
    unfold blank
    rw [blk_step, hw, if_neg]
    intro hh
    rcases hh with hh | hh
    · omega
    · exact hh h
  rw [e]
  exact blk_more l _ _ hb.2 (by omega)
theorem blank_none (l : List UInt8) (i : Nat) (hi : i < l.length) (h : white (at_ l i) = false) (h2 : at_ l i ≠ 35) : blank l i = i := by
  have hw : run l white i = i := run_halt l white i h
  unfold blank
  rw [blk_step, hw, if_pos (.inr h2)]
theorem blank_out (l : List UInt8) (i : Nat) (hi : i = l.length) : blank l i = i := by
  have hw : run l white i = i := run_out l white i (by omega)
  unfold blank
  rw [blk_step, hw, if_pos (.inl hi)]

theorem u8_35 (b : UInt8) : (b = 35) ↔ (((b.toNat : Int) == 35) = true) := by
  rw [← beq_iff_eq (a := b), u8_eq b 35]
  exact Iff.rfl
theorem notNl_eq (b : UInt8) : notNl b = !((b.toNat : Int) == 10) := by
  unfold notNl bne
  rw [u8_eq b 10]
  rfl
end Go.Proofs.YtnpcfmoiiecadaaDoor.Lx
set_option linter.unusedVariables false
namespace Go.Proofs.YtnpcfmoiiecadaaDoor.Lx
open Go.RowKit

theorem inName_eq (b : UInt8) : inName b = (letter b || digit b || ((b.toNat : Int) == 95)) := by
  unfold inName
  rw [u8_eq b 95]
  rfl

set_option maxHeartbeats 1000000 in
theorem r_token_word0 (s : ByteArray) (i : Nat) (kd m : Int) (w : World) (hs : s.size ≤ 1000000) (hi : i < s.size) (hl : letter s[i] = true) (hm : m = (run s.data.toList inName i : Int)) (hkd : kd = if isKw ((s.data.toList.take (run s.data.toList inName i)).drop i) then 1 else 0) :
    Calls Tryd.prog 16 #[.string s, .int .i64 (i : Int)] w fun e w' => e = .returned (.tuple #[.int .i64 kd, .int .i64 m]) ∧ Below w.heap.size w w' := by
  have hll : s.data.toList.length = s.size := by simp
  have HL := Lib.hid hll
  have H1 := Lib.hid (fun (k : Nat) (h : k < s.size) => r_letter_any s[k] w)
  have H2 := Lib.hid (fun (k : Nat) (h : k < s.size) => r_digit_any s[k] w)
  have H0 := Lib.hid (r_letter_any s[i] w)
  rw [hl] at H0
  have hi' : (i : Int) < (s.size : Int) := by omega
  have hbd := run_bd s.data.toList inName i (by omega)
  have HKW := Lib.hid (fun m => r_keyword_any (s.extract i m) w)
  rw [hll] at hbd
  have HT : Hid (∀ j : Nat, run s.data.toList inName i = j → isKw (s.extract i j).data.toList = true → kd = 1 ∧ m = (j : Int)) := by
    intro j hj hq
    rw [← slice_list, hj, hq] at hkd
    exact ⟨hkd, by rw [hm, hj]⟩
  have HF : Hid (∀ j : Nat, run s.data.toList inName i = j → isKw (s.extract i j).data.toList = false → kd = 0 ∧ m = (j : Int)) := by
    intro j hj hq
    rw [← slice_list, hj, hq] at hkd
    exact ⟨hkd, by rw [hm, hj]⟩
  clear hm hkd
  clear hl hll
  go_enter Tryd.func16, Tryd.ntmps16
  go_wp2_with (fail)
  refine H0.out.mono ?_
  rintro e w' ⟨rfl, rfl⟩
  go_wp2_with (fail)
  go_loop [6] (fun x => ∃ k : Nat, i ≤ k ∧ k ≤ s.size ∧ x = .int .i64 (k : Int) ∧ Hid (run s.data.toList inName i = run s.data.toList inName k)) (fun x => s.size - (intOf x).toNat)
  case atStart => exact ⟨i, Nat.le_refl _, by omega, rfl, rfl⟩
  case round =>
    obtain ⟨k, hik, hk, rfl, hr⟩ := hrel
    by_cases hlt : k < s.size
    · have hlt' : (k : Int) < (s.size : Int) := by omega
      have hat := at_get s k hlt
      have hll := HL.out
      have hnm := inName_eq s[k]
      have h1 := Lib.hid (H1.out k hlt)
      have h2 := Lib.hid (H2.out k hlt)
      cases c1 : letter s[k] with
      | true =>
        have HN := Lib.hid (hr.out.trans (run_next s.data.toList inName k (by omega) (by rw [hat, hnm, c1]; rfl)))
        rw [c1] at h1
        clear hat hll hnm c1
        go_wp2_with (fail)
        refine h1.out.mono ?_
        rintro e w' ⟨rfl, rfl⟩
        go_wp2_with (fail)
        exact ⟨⟨k + 1, by omega, by omega, by go_num, HN⟩, by simp [intOf]; omega⟩
      | false =>
        rw [c1] at h1
        cases c2 : digit s[k] with
        | true =>
          have HN := Lib.hid (hr.out.trans (run_next s.data.toList inName k (by omega) (by rw [hat, hnm, c1, c2]; rfl)))
          rw [c2] at h2
          clear hat hll hnm c1 c2
          go_wp2_with (fail)
          refine h1.out.mono ?_
          rintro e w' ⟨rfl, rfl⟩
          go_wp2_with (fail)
          refine h2.out.mono ?_
          rintro e w' ⟨rfl, rfl⟩
          go_wp2_with (fail)
          exact ⟨⟨k + 1, by omega, by omega, by go_num, HN⟩, by simp [intOf]; omega⟩
        | false =>
          rw [c2] at h2
          cases c3 : ((s[k].toNat : Int) == 95) with
          | true =>
            have HN := Lib.hid (hr.out.trans (run_next s.data.toList inName k (by omega) (by rw [hat, hnm, c1, c2, c3]; rfl)))
            clear hat hll hnm c1 c2
            go_wp2_with (fail)
            refine h1.out.mono ?_
            rintro e w' ⟨rfl, rfl⟩
            go_wp2_with (fail)
            refine h2.out.mono ?_
            rintro e w' ⟨rfl, rfl⟩
            go_wp2_with (fail)
            exact ⟨⟨k + 1, by omega, by omega, by go_num, HN⟩, by simp [intOf]; omega⟩
          | false =>
            have HN := Lib.hid (hr.out.trans (run_halt s.data.toList inName k (by rw [hat, hnm, c1, c2, c3]; rfl)))
            have hik' : (i : Int) ≤ (k : Int) := by omega
            have hk' : (k : Int) ≤ (s.size : Int) := by omega
            clear hat hll hnm c1 c2
            have hkw := Lib.hid (HKW.out k)
            cases hq : isKw (s.extract i k).data.toList with
            | true =>
              have HW := Lib.hid (HT.out k HN.out hq)
              rw [hq] at hkw
              clear hq
              go_wp2_with (fail)
              refine h1.out.mono ?_
              rintro e w' ⟨rfl, rfl⟩
              go_wp2_with (fail)
              refine h2.out.mono ?_
              rintro e w' ⟨rfl, rfl⟩
              go_wp2_with (fail)
              refine hkw.out.mono ?_
              rintro e w' ⟨rfl, hb⟩
              go_wp2_with (fail)
              go_ret2
              exact ⟨ret_tok HW.out.1.symm HW.out.2.symm, hb⟩
            | false =>
              have HW := Lib.hid (HF.out k HN.out hq)
              rw [hq] at hkw
              clear hq
              go_wp2_with (fail)
              refine h1.out.mono ?_
              rintro e w' ⟨rfl, rfl⟩
              go_wp2_with (fail)
              refine h2.out.mono ?_
              rintro e w' ⟨rfl, rfl⟩
              go_wp2_with (fail)
              refine hkw.out.mono ?_
              rintro e w' ⟨rfl, hb⟩
              go_wp2_with (fail)
              go_ret2
              exact ⟨ret_tok HW.out.1.symm HW.out.2.symm, hb⟩
    · have HN := Lib.hid (hr.out.trans (run_out s.data.toList inName k (by rw [HL.out]; exact hlt)))
      have hlt' : (s.size : Int) ≤ (k : Int) := by omega
      have hik' : (i : Int) ≤ (k : Int) := by omega
      have hk' : (k : Int) ≤ (s.size : Int) := by omega
      have hkw := Lib.hid (HKW.out k)
      cases hq : isKw (s.extract i k).data.toList with
      | true =>
        have HW := Lib.hid (HT.out k HN.out hq)
        rw [hq] at hkw
        clear hq
        go_wp2_with (fail)
        refine hkw.out.mono ?_
        rintro e w' ⟨rfl, hb⟩
        go_wp2_with (fail)
        go_ret2
        exact ⟨ret_tok HW.out.1.symm HW.out.2.symm, hb⟩
      | false =>
        have HW := Lib.hid (HF.out k HN.out hq)
        rw [hq] at hkw
        clear hq
        go_wp2_with (fail)
        refine hkw.out.mono ?_
        rintro e w' ⟨rfl, hb⟩
        go_wp2_with (fail)
        go_ret2
        exact ⟨ret_tok HW.out.1.symm HW.out.2.symm, hb⟩

theorem r_token_word (s : ByteArray) (i : Nat) (w : World) (hs : s.size ≤ 1000000) (hi : i < s.size) (hl : letter s[i] = true) :
    Calls Tryd.prog 16 #[.string s, .int .i64 (i : Int)] w fun e w' => e = .returned (.tuple #[.int .i64 (if isKw ((s.data.toList.take (run s.data.toList inName i)).drop i) then 1 else 0), .int .i64 (run s.data.toList inName i : Int)]) ∧ Below w.heap.size w w' :=
  r_token_word0 s i _ _ w hs hi hl rfl rfl

set_option maxHeartbeats 1000000 in
theorem r_token_number (s : ByteArray) (i : Nat) (w : World) (hs : s.size ≤ 1000000) (hi : i < s.size) (hl : letter s[i] = false) (hd : digit s[i] = true) :
    Calls Tryd.prog 16 #[.string s, .int .i64 (i : Int)] w fun e w' => e = .returned (.tuple #[.int .i64 2, .int .i64 (run s.data.toList digit i : Int)]) ∧ Below w.heap.size w w' := by
  have hll : s.data.toList.length = s.size := by simp
  have HL := Lib.hid hll
  have H2 := Lib.hid (fun (k : Nat) (h : k < s.size) => r_digit_any s[k] w)
  have H0 := Lib.hid (r_letter_any s[i] w)
  have H1 := Lib.hid (r_digit_any s[i] w)
  rw [hl] at H0
  rw [hd] at H1
  have hi' : (i : Int) < (s.size : Int) := by omega
  clear hl hll hd
  go_enter Tryd.func16, Tryd.ntmps16
  go_wp2_with (fail)
  refine H0.out.mono ?_
  rintro e w' ⟨rfl, rfl⟩
  go_wp2_with (fail)
  refine H1.out.mono ?_
  rintro e w' ⟨rfl, rfl⟩
  go_wp2_with (fail)
  go_loop [6] (fun x => ∃ k : Nat, i ≤ k ∧ k ≤ s.size ∧ x = .int .i64 (k : Int) ∧ Hid (run s.data.toList digit i = run s.data.toList digit k)) (fun x => s.size - (intOf x).toNat)
  case atStart => exact ⟨i, Nat.le_refl _, by omega, rfl, rfl⟩
  case round =>
    obtain ⟨k, hik, hk, rfl, hr⟩ := hrel
    by_cases hlt : k < s.size
    · have hlt' : (k : Int) < (s.size : Int) := by omega
      have hat := at_get s k hlt
      have hll := HL.out
      have h2 := Lib.hid (H2.out k hlt)
      cases c2 : digit s[k] with
      | true =>
        have HN := Lib.hid (hr.out.trans (run_next s.data.toList digit k (by omega) (by rw [hat, c2])))
        rw [c2] at h2
        clear hat hll c2
        go_wp2_with (fail)
        refine h2.out.mono ?_
        rintro e w' ⟨rfl, rfl⟩
        go_wp2_with (fail)
        exact ⟨⟨k + 1, by omega, by omega, by go_num, HN⟩, by simp [intOf]; omega⟩
      | false =>
        have HN := Lib.hid (hr.out.trans (run_halt s.data.toList digit k (by rw [hat, c2])))
        rw [c2] at h2
        clear hat hll c2
        go_wp2_with (fail)
        refine h2.out.mono ?_
        rintro e w' ⟨rfl, rfl⟩
        go_wp2_with (fail)
        go_ret2
        exact ⟨ret_tok rfl (by rw [HN.out]), Below.refl _ _⟩
    · have HN := Lib.hid (hr.out.trans (run_out s.data.toList digit k (by rw [HL.out]; exact hlt)))
      have hlt' : (s.size : Int) ≤ (k : Int) := by omega
      go_wp2_with (fail)
      go_ret2
      exact ⟨ret_tok rfl (by rw [HN.out]), Below.refl _ _⟩
end Go.Proofs.YtnpcfmoiiecadaaDoor.Lx
set_option linter.unusedVariables false
namespace Go.Proofs.YtnpcfmoiiecadaaDoor.Lx
open Go.RowKit

theorem wrongTo_next (l : List UInt8) (i : Nat) (hi : i < l.length) (h : wrongAt l i = true) : wrongTo l i = wrongTo l (i + 1) := whl_yes _ _ _ hi h
theorem wrongTo_halt (l : List UInt8) (i : Nat) (h : wrongAt l i = false) : wrongTo l i = i := whl_no _ _ _ h
theorem wrongTo_out (l : List UInt8) (i : Nat) (h : ¬ i < l.length) : wrongTo l i = i := whl_end _ _ _ h
theorem wrongAt_eq (s : ByteArray) (i : Nat) (hi : i < s.size) : wrongAt s.data.toList i = (!white s[i] && !((s[i].toNat : Int) == 35) && !beginsAt s.data.toList i) := by
  unfold wrongAt beginsAt
  rw [at_get s i hi]
  have h35 : (s[i] != 35) = !((s[i].toNat : Int) == 35) := by
    unfold bne
    rw [u8_eq s[i] 35]
    rfl
  rw [h35]
  have h0 : (sym s.data.toList i == 0) = !decide (0 < sym s.data.toList i) := by
    rw [Bool.eq_iff_iff]
    simp
  rw [h0]
  cases white s[i] <;> cases ((s[i].toNat : Int) == 35) <;> cases letter s[i] <;> cases digit s[i] <;> cases decide (0 < sym s.data.toList i) <;> rfl

set_option maxHeartbeats 1000000 in
theorem r_token_sym (s : ByteArray) (i : Nat) (w : World) (hs : s.size ≤ 1000000) (hi : i < s.size) (hl : letter s[i] = false) (hd : digit s[i] = false) (hy : 0 < sym s.data.toList i) :
    Calls Tryd.prog 16 #[.string s, .int .i64 (i : Int)] w fun e w' => e = .returned (.tuple #[.int .i64 3, .int .i64 ((i + sym s.data.toList i : Nat) : Int)]) ∧ Below w.heap.size w w' := by
  have H0 := Lib.hid (r_letter_any s[i] w)
  have H1 := Lib.hid (r_digit_any s[i] w)
  have HS := Lib.hid (fun w => r_symbol_any s i w hs hi)
  rw [hl] at H0
  rw [hd] at H1
  have hi' : (i : Int) < (s.size : Int) := by omega
  have hsy : sym s.data.toList i ≤ 2 := by unfold sym; split <;> (try split) <;> omega
  generalize sym s.data.toList i = y at *
  have hy' : (0 : Int) < (y : Int) := by omega
  clear hl hd
  go_enter Tryd.func16, Tryd.ntmps16
  go_wp2_with (fail)
  refine H0.out.mono ?_
  rintro e w' ⟨rfl, rfl⟩
  go_wp2_with (fail)
  refine H1.out.mono ?_
  rintro e w' ⟨rfl, rfl⟩
  go_wp2_with (fail)
  refine (HS.out _).mono ?_
  rintro e w1 ⟨rfl, hb1⟩
  have B1 := Lib.hid hb1
  have z1 := hb1.size
  clear hb1
  go_wp2_with (fail)
  refine (HS.out _).mono ?_
  rintro e w2 ⟨rfl, hb2⟩
  have B2 := Lib.hid (B1.out.trans (hb2.mono z1))
  clear hb2
  go_wp2_with (fail)
  go_ret2
  exact ⟨ret_tok rfl (by omega), B2.out⟩

set_option maxHeartbeats 1000000 in
theorem r_token_wrong (s : ByteArray) (i : Nat) (w : World) (hs : s.size ≤ 1000000) (hi : i < s.size) (hl : letter s[i] = false) (hd : digit s[i] = false) (hy : ¬ 0 < sym s.data.toList i) :
    Calls Tryd.prog 16 #[.string s, .int .i64 (i : Int)] w fun e w' => e = .returned (.tuple #[.int .i64 4, .int .i64 (wrongTo s.data.toList i : Int)]) ∧ Below w.heap.size w w' := by
  have hll : s.data.toList.length = s.size := by simp
  have HL := Lib.hid hll
  have H0 := Lib.hid (r_letter_any s[i] w)
  have H1 := Lib.hid (r_digit_any s[i] w)
  have HS := Lib.hid (fun w => r_symbol_any s i w hs hi)
  have HW := Lib.hid (fun (k : Nat) (h : k < s.size) (w : World) => r_blank_any s[k] w)
  have HB := Lib.hid (fun (k : Nat) (h : k < s.size) (w : World) => r_begins_any s k w hs h)
  rw [hl] at H0
  rw [hd] at H1
  have hi' : (i : Int) < (s.size : Int) := by omega
  generalize sym s.data.toList i = y at *
  have hy' : (y : Int) ≤ 0 := by omega
  clear hl hd hll
  go_enter Tryd.func16, Tryd.ntmps16
  go_wp2_with (fail)
  refine H0.out.mono ?_
  rintro e w' ⟨rfl, rfl⟩
  go_wp2_with (fail)
  refine H1.out.mono ?_
  rintro e w' ⟨rfl, rfl⟩
  go_wp2_with (fail)
  refine (HS.out _).mono ?_
  rintro e w1 ⟨rfl, hb1⟩
  have B1 := Lib.hid hb1
  clear hb1
  go_wp2_with (fail)
  go_loopw [6] (fun x wr => ∃ k : Nat, i ≤ k ∧ k ≤ s.size ∧ x = .int .i64 (k : Int) ∧ Hid (wrongTo s.data.toList i = wrongTo s.data.toList k) ∧ Hid (Below w.heap.size w wr)) (fun x _ => s.size - (intOf x).toNat)
  case atStart => exact ⟨i, Nat.le_refl _, by omega, rfl, rfl, B1⟩
  case round =>
    obtain ⟨k, hik, hk, rfl, hr, hbw⟩ := hrel
    by_cases hlt : k < s.size
    · have hlt' : (k : Int) < (s.size : Int) := by omega
      have hll := HL.out
      have hwe := wrongAt_eq s k hlt
      have hw := Lib.hid (HW.out k hlt wr)
      have hbz := hbw.out.size
      cases c1 : white s[k] with
      | true =>
        have HN := Lib.hid (hr.out.trans (wrongTo_halt s.data.toList k (by rw [hwe, c1]; rfl)))
        rw [c1] at hw
        clear hll hwe c1
        go_wp2_with (fail)
        refine hw.out.mono ?_
        rintro e w' ⟨rfl, rfl⟩
        go_wp2_with (fail)
        go_ret2
        exact ⟨ret_tok rfl (by rw [HN.out]), hbw.out⟩
      | false =>
        rw [c1] at hw
        cases c2 : ((s[k].toNat : Int) == 35) with
        | true =>
          have HN := Lib.hid (hr.out.trans (wrongTo_halt s.data.toList k (by rw [hwe, c1, c2]; rfl)))
          have c2' : ((s[k].toNat : Int) != 35) = false := by unfold bne; rw [c2]; rfl
          clear hll hwe c1
          go_wp2_with (fail)
          refine hw.out.mono ?_
          rintro e w' ⟨rfl, rfl⟩
          go_wp2_with (fail)
          go_ret2
          exact ⟨ret_tok rfl (by rw [HN.out]), hbw.out⟩
        | false =>
          have c2' : ((s[k].toNat : Int) != 35) = true := by unfold bne; rw [c2]; rfl
          have hbg := Lib.hid (HB.out k hlt wr)
          cases c3 : beginsAt s.data.toList k with
          | true =>
            have HN := Lib.hid (hr.out.trans (wrongTo_halt s.data.toList k (by rw [hwe, c1, c2, c3]; rfl)))
            rw [c3] at hbg
            clear hll hwe c1 c3
            go_wp2_with (fail)
            refine hw.out.mono ?_
            rintro e w' ⟨rfl, rfl⟩
            go_wp2_with (fail)
            refine hbg.out.mono ?_
            rintro e w2 ⟨rfl, hb2⟩
            have B2 := Lib.hid (hbw.out.trans (hb2.mono hbz))
            clear hb2
            go_wp2_with (fail)
            go_ret2
            exact ⟨ret_tok rfl (by rw [HN.out]), B2.out⟩
          | false =>
            have HN := Lib.hid (hr.out.trans (wrongTo_next s.data.toList k (by omega) (by rw [hwe, c1, c2, c3]; rfl)))
            rw [c3] at hbg
            clear hll hwe c1 c3
            go_wp2_with (fail)
            refine hw.out.mono ?_
            rintro e w' ⟨rfl, rfl⟩
            go_wp2_with (fail)
            refine hbg.out.mono ?_
            rintro e w2 ⟨rfl, hb2⟩
            have B2 := Lib.hid (hbw.out.trans (hb2.mono hbz))
            clear hb2
            go_wp2_with (fail)
            exact ⟨⟨k + 1, by omega, by omega, by go_num, HN, B2⟩, by simp [intOf]; omega⟩
    · have HN := Lib.hid (hr.out.trans (wrongTo_out s.data.toList k (by rw [HL.out]; exact hlt)))
      have hlt' : (s.size : Int) ≤ (k : Int) := by omega
      go_wp2_with (fail)
      go_ret2
      exact ⟨ret_tok rfl (by rw [HN.out]), hbw.out⟩

theorem r_token_any (s : ByteArray) (i : Nat) (w : World) (hs : s.size ≤ 1000000) (hi : i < s.size) :
    Calls Tryd.prog 16 #[.string s, .int .i64 (i : Int)] w fun e w' => e = .returned (.tuple #[.int .i64 ((tokAt s.data.toList i).1 : Int), .int .i64 ((tokAt s.data.toList i).2 : Int)]) ∧ Below w.heap.size w w' := by
  have hl : s.data.toList.length = s.size := by simp
  unfold tokAt
  rw [hl, if_neg (by omega), at_get s i hi]
  cases h1 : letter s[i] with
  | true =>
    rw [if_pos rfl]
    refine (r_token_word s i w hs hi h1).mono ?_
    rintro e w' ⟨rfl, hb⟩
    refine ⟨ret_tok ?_ rfl, hb⟩
    split <;> rfl
  | false =>
    rw [if_neg (by simp)]
    cases h2 : digit s[i] with
    | true =>
      rw [if_pos rfl]
      exact r_token_number s i w hs hi h1 h2
    | false =>
      rw [if_neg (by simp)]
      by_cases hy : 0 < sym s.data.toList i
      · rw [if_pos hy]
        exact r_token_sym s i w hs hi h1 h2 hy
      · rw [if_neg hy]
        exact r_token_wrong s i w hs hi h1 h2 hy
end Go.Proofs.YtnpcfmoiiecadaaDoor.Lx
set_option linter.unusedVariables false
namespace Go.Proofs.YtnpcfmoiiecadaaDoor.Lx
open Go.RowKit

set_option maxHeartbeats 1000000 in
theorem r_number_any (s : ByteArray) (w : World) :
    Calls Tryd.prog 53 #[.string s] w fun e w' => e = .returned (.tuple #[.int .i64 (numV s : Int), .bool (numOk s)]) ∧ w = w' := by
  by_cases hsz : s.size < 1 ∨ 9 < s.size
  · have h1 := numOk_len s hsz
    have h2 := numV_no s h1
    have HV := Lib.hid (And.intro h1 h2)
    clear h1 h2
    rcases hsz with h | h
    · go_enter Tryd.func53, Tryd.ntmps53
      go_wp2_with (fail)
      go_ret2
      exact ⟨ret_num (by rw [HV.out.2]; rfl) HV.out.1.symm, rfl⟩
    · go_enter Tryd.func53, Tryd.ntmps53
      go_wp2_with (fail)
      go_ret2
      exact ⟨ret_num (by rw [HV.out.2]; rfl) HV.out.1.symm, rfl⟩
  · have hll : s.data.toList.length = s.size := by simp
    have HL := Lib.hid hll
    have hs1 : 1 ≤ s.size := by omega
    have hs9 : s.size ≤ 9 := by omega
    have HD := Lib.hid (fun (k : Nat) (h : k < s.size) => r_digit_any s[k] w)
    have HS := Lib.hid (fun n => numOk_some s n hs1 hs9)
    have HN := Lib.hid (numOk_none s)
    clear hsz hll
    go_enter Tryd.func53, Tryd.ntmps53
    go_wp2_with (fail)
    go_loop [4, 5] (fun x i => ∃ k n : Nat, k ≤ s.size ∧ i = .int .i64 (k : Int) ∧ x = .int .i64 (n : Int) ∧ Hid (n < 10 ^ k) ∧ Hid (num s.data.toList 0 = num (s.data.toList.drop k) n)) (fun _ i => s.size - (intOf i).toNat)
    case atStart => exact ⟨0, 0, Nat.zero_le _, rfl, rfl, by show 0 < 10 ^ 0; decide, rfl⟩
    case round =>
      obtain ⟨k, n, hk, rfl, rfl, hp, hq⟩ := hrel
      by_cases hlt : k < s.size
      · have hlt' : (k : Int) < (s.size : Int) := by omega
        have hll := HL.out
        have hget : s.data.toList[k]'(by omega) = s[k] := rfl
        have hd := Lib.hid (HD.out k hlt)
        have hn := pow_small n k hp.out (by omega)
        cases c : digit s[k] with
        | true =>
          have hb := digit_bd s[k] c
          have HP := Lib.hid (pow_step n k (s[k].toNat - 48) hp.out (by omega))
          have HQ := Lib.hid (hq.out.trans (num_step s.data.toList k n (by omega) (by rw [hget]; exact c)))
          rw [hget] at HQ
          rw [c] at hd
          clear c hget hll
          obtain ⟨d, hdd⟩ : ∃ d, d = s[k].toNat - 48 := ⟨_, rfl⟩
          rw [← hdd] at HP HQ
          have e1 : (s[k].toNat : Int) - 48 = (d : Int) := by omega
          have e2 : d ≤ 9 := by omega
          clear hdd
          go_wp2_with (fail)
          refine hd.out.mono ?_
          rintro e w' ⟨rfl, rfl⟩
          go_wp2_with (fail)
          exact ⟨⟨k + 1, 10 * n + d, by omega, by go_num, by go_num, HP, HQ⟩, by simp [intOf]; omega⟩
        | false =>
          have h1 := HN.out (hq.out.trans (num_halt s.data.toList k n (by omega) (by rw [hget]; exact c)))
          have HV := Lib.hid (And.intro h1 (numV_no s h1))
          rw [c] at hd
          clear c hget hll h1
          go_wp2_with (fail)
          refine hd.out.mono ?_
          rintro e w' ⟨rfl, rfl⟩
          go_wp2_with (fail)
          go_ret2
          exact ⟨ret_num (by rw [HV.out.2]; rfl) HV.out.1.symm, rfl⟩
      · have HV := Lib.hid (HS.out n (hq.out.trans (num_end s.data.toList k n (by rw [HL.out]; exact hlt))))
        have hlt' : (s.size : Int) ≤ (k : Int) := by omega
        go_wp2_with (fail)
        go_ret2
        exact ⟨ret_num (by rw [HV.out.2]) HV.out.1.symm, rfl⟩
set_option maxHeartbeats 1000000 in
theorem r_name_any (s : ByteArray) (w : World) :
    Calls Tryd.prog 6 #[.string s] w fun e w' => e = .returned (.bool (nameB s.data.toList)) ∧ Below w.heap.size w w' := by
  have hll : s.data.toList.length = s.size := by simp
  have hv : nameB s.data.toList = (decide (1 ≤ s.size) && decide (s.size ≤ 16) && letter (at_ s.data.toList 0) && !isKw s.data.toList && (tokAt s.data.toList 0).2 == s.size) := by unfold nameB; rw [hll]
  by_cases h1 : s.size < 1
  · rw [show decide (1 ≤ s.size) = false from decide_eq_false (by omega)] at hv
    have HV := Lib.hid hv
    clear hv hll
    go_enter Tryd.func6, Tryd.ntmps6
    go_wp2_with (fail)
    go_ret
    exact ⟨ret_bool (by rw [HV.out]; rfl), Below.refl _ _⟩
  · by_cases h2 : 16 < s.size
    · rw [show decide (s.size ≤ 16) = false from decide_eq_false (by omega)] at hv
      have HV := Lib.hid hv
      clear hv hll
      go_enter Tryd.func6, Tryd.ntmps6
      go_wp2_with (fail)
      go_ret
      exact ⟨ret_bool (by rw [HV.out]; simp), Below.refl _ _⟩
    · rw [show decide (1 ≤ s.size) = true from decide_eq_true (by omega), show decide (s.size ≤ 16) = true from decide_eq_true (by omega), at_get s 0 (by omega)] at hv
      have h0 : 0 < s.size := by omega
      have HL := Lib.hid (r_letter_any s[0] w)
      have HK := Lib.hid (r_keyword_any s w)
      have HT := Lib.hid (fun w => r_token_any s 0 w (by omega) h0)
      clear hll
      have hte : ((tokAt s.data.toList 0).2 == s.size) = ((((tokAt s.data.toList 0).2 : Nat) : Int) == (s.size : Int)) := by
        rw [Bool.eq_iff_iff, beq_iff_eq, beq_iff_eq]
        omega
      rw [hte] at hv
      generalize nameB s.data.toList = z at *
      generalize tokAt s.data.toList 0 = tk at *
      generalize isKw s.data.toList = q at *
      generalize hc : letter s[0] = c at *
      have HV := Lib.hid hv
      clear hv hte hc
      cases c with
      | false =>
        go_enter Tryd.func6, Tryd.ntmps6
        go_wp2_with (fail)
        refine HL.out.mono ?_
        rintro e w' ⟨rfl, rfl⟩
        go_wp2_with (fail)
        go_ret
        exact ⟨ret_bool (by rw [HV.out]; rfl), Below.refl _ _⟩
      | true =>
        cases q with
        | true =>
          go_enter Tryd.func6, Tryd.ntmps6
          go_wp2_with (fail)
          refine HL.out.mono ?_
          rintro e w' ⟨rfl, rfl⟩
          go_wp2_with (fail)
          refine HK.out.mono ?_
          rintro e w1 ⟨rfl, hb⟩
          go_wp2_with (fail)
          go_ret
          exact ⟨ret_bool (by rw [HV.out]; rfl), hb⟩
        | false =>
          go_enter Tryd.func6, Tryd.ntmps6
          go_wp2_with (fail)
          refine HL.out.mono ?_
          rintro e w' ⟨rfl, rfl⟩
          go_wp2_with (fail)
          refine HK.out.mono ?_
          rintro e w1 ⟨rfl, hb⟩
          have B1 := Lib.hid hb
          have z1 := hb.size
          clear hb
          go_wp2_with (fail)
          refine (HT.out _).mono ?_
          rintro e w2 ⟨rfl, hb⟩
          have B2 := Lib.hid (B1.out.trans (hb.mono z1))
          clear hb
          go_wp2_with (fail)
          go_ret
          exact ⟨ret_bool (by rw [HV.out]; rfl), B2.out⟩
end Go.Proofs.YtnpcfmoiiecadaaDoor.Lx
