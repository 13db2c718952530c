/- What is proved: the reference's symbol, begins and skip return what the plain functions say. -/
import Derived.Test.YtoopnddlcofhoaaGreatDoorLxRefWords
set_option linter.unusedVariables false
namespace Go.Proofs.YtoopnddlcofhoaaGreatDoor.Lx
open Go.RowKit

def dbl : List ByteArray := [⟨#[61, 61]⟩, ⟨#[33, 61]⟩, ⟨#[60, 61]⟩, ⟨#[62, 61]⟩]
def sgl : List ByteArray := [⟨#[60]⟩, ⟨#[62]⟩, ⟨#[61]⟩, ⟨#[43]⟩, ⟨#[45]⟩, ⟨#[42]⟩, ⟨#[47]⟩, ⟨#[37]⟩, ⟨#[40]⟩, ⟨#[41]⟩, ⟨#[123]⟩, ⟨#[125]⟩, ⟨#[91]⟩, ⟨#[93]⟩, ⟨#[44]⟩, ⟨#[59]⟩, ⟨#[58]⟩, ⟨#[46]⟩]
theorem beq_flip (a b : List UInt8) : (a == b) = (b == a) := by
  rw [Bool.eq_iff_iff, beq_iff_eq, beq_iff_eq]
  exact eq_comm
theorem dbl_eq (s : ByteArray) (i : Nat) (hi : i + 1 < s.size) : hasB dbl (s.extract i (i + 2)) = two s.data.toList i := by
  rw [two_eq s i (i + 2) (by omega) (by omega)]
  unfold hasB dbl
  simp only [List.any_cons, List.any_nil, Bool.or_false]
  generalize (s.extract i (i + 2)).toList = x
  rw [beq_flip x, beq_flip x, beq_flip x, beq_flip x, Bool.or_assoc, Bool.or_assoc]
  simp only [ByteArray.toList_eq]
theorem ext_one (s : ByteArray) (i : Nat) (hi : i < s.size) : (s.extract i (i + 1)).toList = [at_ s.data.toList i] := by
  have hl : s.data.toList.length = s.size := by simp
  rw [ByteArray.toList_eq]
  have e : (s.extract i (i + 1)).data.toList = (s.data.toList.take (i + 1)).drop i := by simp [ByteArray.data_extract, List.drop_take]
  rw [e, List.drop_take, show i + 1 - i = 1 from by omega, List.drop_eq_getElem_cons (by omega)]
  unfold at_
  simp [List.getD_eq_getElem?_getD, hl, hi]
theorem any_one (l : List UInt8) (b : UInt8) : l.any (fun x => (([x] : List UInt8) == [b])) = l.contains b := by
  induction l with
  | nil => rfl
  | cons x l ih =>
    rw [List.any_cons, ih, List.contains_cons]
    congr 1
    rw [Bool.eq_iff_iff, beq_iff_eq, beq_iff_eq]
    constructor
    · intro h
      injection h with h1 _
      exact h1.symm
    · rintro rfl
      rfl
theorem sgl_eq (s : ByteArray) (i : Nat) (hi : i < s.size) : hasB sgl (s.extract i (i + 1)) = symB (at_ s.data.toList i) := by
  unfold hasB symB
  rw [ext_one s i hi]
  generalize at_ s.data.toList i = b
  rw [← any_one, show sgl = ([60, 62, 61, 43, 45, 42, 47, 37, 40, 41, 123, 125, 91, 93, 44, 59, 58, 46] : List UInt8).map (fun x => ⟨#[x]⟩) from rfl, List.any_map]
  congr 1
  funext x
  simp [Function.comp, ByteArray.toList_eq]

theorem sym_two (l : List UInt8) (i : Nat) (h : two l i = true) : sym l i = 2 := by unfold sym; rw [if_pos h]
theorem sym_one (l : List UInt8) (i : Nat) (h : two l i = false) (h2 : symB (at_ l i) = true) : sym l i = 1 := by unfold sym; rw [h, if_neg (by simp), if_pos h2]
theorem sym_none (l : List UInt8) (i : Nat) (h : two l i = false) (h2 : symB (at_ l i) = false) : sym l i = 0 := by unfold sym; rw [h, if_neg (by simp), h2, if_neg (by simp)]
theorem two_last (l : List UInt8) (i : Nat) (h : ¬ i + 1 < l.length) : two l i = false := by
  unfold two
  rw [show decide (i + 1 < l.length) = false from by simpa using h]
  simp

def litW (w : World) (l : List ByteArray) : World := w.alloc (.cells (scells l).toArray 9)
theorem litW_below (w : World) (l : List ByteArray) : Below w.heap.size w (litW w l) := (Below.refl w.heap.size w).alloc (Nat.le_refl _) _

theorem ret_i64 {a b : Int} (h : a = b) : Ending.returned (.int .i64 a) = .returned (.int .i64 b) := by rw [h]

set_option maxHeartbeats 1000000 in
theorem r_symbol_any (s : ByteArray) (i : Nat) (w : World) (hs : s.size ≤ 1000000) (hi : i < s.size) :
    Calls Tryz.prog 38 #[.string s, .int .i64 (i : Int)] w fun e w' => e = .returned (.int .i64 (sym s.data.toList i : Int)) ∧ Below w.heap.size w w' := by
  have hl : s.data.toList.length = s.size := by simp
  have H1 := Lib.hid (fun (w : World) => has_any (some ⟨w.heap.size, 0, none⟩) 4 dbl (s.extract i (i + 2)) (litW w dbl) (by decide) (lit_strs w dbl _))
  have H2 := Lib.hid (fun (w : World) => has_any (some ⟨w.heap.size, 0, none⟩) 18 sgl (s.extract i (i + 1)) (litW w sgl) (by decide) (lit_strs w sgl _))
  rw [sgl_eq s i hi] at H2
  have B1 := Lib.hid (litW_below w dbl)
  have B2 := Lib.hid ((litW_below w dbl).trans ((litW_below (litW w dbl) sgl).mono (litW_below w dbl).size))
  have hi' : (i : Int) < (s.size : Int) := by omega
  have hll : s.data.toList.length = s.size := by simp
  obtain ⟨m, hm⟩ : ∃ m, m = i + 1 := ⟨_, rfl⟩
  obtain ⟨n, hn⟩ : ∃ n, n = i + 2 := ⟨_, rfl⟩
  have em : (i : Int) + 1 = (m : Int) := by omega
  have en : (i : Int) + 2 = (n : Int) := by omega
  have S2 := Lib.hid (sym_one s.data.toList i)
  have S3 := Lib.hid (sym_none s.data.toList i)
  have y1 : i ≤ m := by omega
  have y2 : m ≤ s.size := by omega
  have y5 : (i : Int) ≤ (m : Int) := by omega
  have y6 : (m : Int) ≤ (s.size : Int) := by omega
  by_cases h2 : i + 1 < s.size
  · have h2' : (n : Int) ≤ (s.size : Int) := by omega
    have y3 : i ≤ n := by omega
    have y4 : n ≤ s.size := by omega
    have y7 : (i : Int) ≤ (n : Int) := by omega
    rw [dbl_eq s i h2] at H1
    rw [← hn] at H1
    rw [← hm] at H2
    clear hm hn
    have S1 := Lib.hid (sym_two s.data.toList i)
    generalize two s.data.toList i = t at *
    generalize symB (at_ s.data.toList i) = t1 at *
    clear h2 hll
    go_enter Tryz.func38, Tryz.ntmps38
    go_wp2_with (fail)
    refine (H1.out _).mono ?_
    rintro e w1 ⟨rfl, rfl⟩
    cases t with
    | true =>
      go_wp2_with (fail)
      go_ret
      exact ⟨ret_i64 (by rw [S1.out (by first | rfl | trivial)]; rfl), B1.out⟩
    | false =>
      go_wp2_with (fail)
      refine (H2.out _).mono ?_
      rintro e w1 ⟨rfl, rfl⟩
      cases t1 with
      | true =>
        go_wp2_with (fail)
        go_ret
        exact ⟨ret_i64 (by rw [S2.out (by first | rfl | trivial) (by first | rfl | trivial)]; rfl), B2.out⟩
      | false =>
        go_wp2_with (fail)
        go_ret
        exact ⟨ret_i64 (by rw [S3.out (by first | rfl | trivial) (by first | rfl | trivial)]; rfl), B2.out⟩
  · have h2' : (s.size : Int) < (n : Int) := by omega
    rw [← hm] at H2
    rw [two_last s.data.toList i (by rw [hll]; exact h2)] at S2 S3
    generalize symB (at_ s.data.toList i) = t1 at *
    clear h2 H1 hm hn hll
    go_enter Tryz.func38, Tryz.ntmps38
    go_wp2_with (fail)
    refine (H2.out _).mono ?_
    rintro e w1 ⟨rfl, rfl⟩
    cases t1 with
    | true =>
      go_wp2_with (fail)
      go_ret
      exact ⟨ret_i64 (by rw [S2.out (by first | rfl | trivial) (by first | rfl | trivial)]; rfl), litW_below w sgl⟩
    | false =>
      go_wp2_with (fail)
      go_ret
      exact ⟨ret_i64 (by rw [S3.out (by first | rfl | trivial) (by first | rfl | trivial)]; rfl), litW_below w sgl⟩

def beginsAt (l : List UInt8) (i : Nat) : Bool := letter (at_ l i) || digit (at_ l i) || decide (0 < sym l i)

set_option maxHeartbeats 1000000 in
theorem r_begins_any (s : ByteArray) (i : Nat) (w : World) (hs : s.size ≤ 1000000) (hi : i < s.size) :
    Calls Tryz.prog 40 #[.string s, .int .i64 (i : Int)] w fun e w' => e = .returned (.bool (beginsAt s.data.toList i)) ∧ Below w.heap.size w w' := by
  have hV : beginsAt s.data.toList i = (letter s[i] || digit s[i] || decide (0 < sym s.data.toList i)) := by unfold beginsAt; rw [at_get s i hi]
  have HV := Lib.hid hV
  have HL := Lib.hid (r_letter_any s[i] w)
  have HD := Lib.hid (r_digit_any s[i] w)
  have HS := Lib.hid (r_symbol_any s i w hs hi)
  have hi' : (i : Int) < (s.size : Int) := by omega
  clear hV
  generalize beginsAt s.data.toList i = z at *
  generalize sym s.data.toList i = y at *
  cases c1 : letter s[i] with
  | true =>
    rw [c1] at HL HV
    go_enter Tryz.func40, Tryz.ntmps40
    go_wp2_with (fail)
    refine HL.out.mono ?_
    rintro e w' ⟨rfl, rfl⟩
    go_wp2_with (fail)
    go_ret
    exact ⟨ret_bool (by rw [HV.out]; rfl), Below.refl _ _⟩
  | false =>
    rw [c1] at HL HV
    cases c2 : digit s[i] with
    | true =>
      rw [c2] at HD HV
      go_enter Tryz.func40, Tryz.ntmps40
      go_wp2_with (fail)
      refine HL.out.mono ?_
      rintro e w' ⟨rfl, rfl⟩
      go_wp2_with (fail)
      refine HD.out.mono ?_
      rintro e w' ⟨rfl, rfl⟩
      go_wp2_with (fail)
      go_ret
      exact ⟨ret_bool (by rw [HV.out]; rfl), Below.refl _ _⟩
    | false =>
      rw [c2] at HD HV
      go_enter Tryz.func40, Tryz.ntmps40
      go_wp2_with (fail)
      refine HL.out.mono ?_
      rintro e w' ⟨rfl, rfl⟩
      go_wp2_with (fail)
      refine HD.out.mono ?_
      rintro e w' ⟨rfl, rfl⟩
      go_wp2_with (fail)
      refine HS.out.mono ?_
      rintro e w' ⟨rfl, hb⟩
      go_wp2_with (fail)
      go_ret
      exact ⟨ret_bool (by rw [HV.out]; simp <;> omega), hb⟩
end Go.Proofs.YtoopnddlcofhoaaGreatDoor.Lx
