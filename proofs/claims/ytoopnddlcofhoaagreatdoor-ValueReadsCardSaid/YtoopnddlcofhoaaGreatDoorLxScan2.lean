/- What is proved: the scanner's closures, symbol, wrong and blank return what the plain functions say. -/
import Derived.Test.YtoopnddlcofhoaaGreatDoorLxScan
import Derived.Test.YtoopnddlcofhoaaGreatDoorShelf
set_option linter.unusedVariables false
namespace Go.Proofs.YtoopnddlcofhoaaGreatDoor.Lx
open Go.RowKit

theorem at_get (s : ByteArray) (j : Nat) (hj : j < s.size) : at_ s.data.toList j = s[j] := by
  unfold at_
  rw [List.getD_eq_getElem?_getD, List.getElem?_eq_getElem (by simpa using hj)]
  rfl

theorem clo_white (s : ByteArray) (h g j : Nat) (w : World) (hj : j < s.size) (h1 : w.cell? ⟨h, 0, none⟩ = some (.pointer (some ⟨g, 0, none⟩))) (h2 : w.cell? ⟨g, 0, none⟩ = some (.string s)) :
    Calls Tryz.prog 102 #[.int .i64 (j : Int), .pointer (some ⟨h, 0, none⟩)] w fun e w' => e = .returned (.bool (white (at_ s.data.toList j))) ∧ w = w' := by
  have HC := Lib.hid (white_any s[j] w)
  rw [at_get s j hj]
  go_enter Tryz.func102, Tryz.ntmps102
  go_wp2_with (fail)
  refine HC.out.mono ?_
  rintro e w' ⟨rfl, rfl⟩
  go_wp2_with (fail)
  go_ret
  exact ⟨rfl, rfl⟩

theorem clo_notNl (s : ByteArray) (h g j : Nat) (w : World) (hj : j < s.size) (h1 : w.cell? ⟨h, 0, none⟩ = some (.pointer (some ⟨g, 0, none⟩))) (h2 : w.cell? ⟨g, 0, none⟩ = some (.string s)) :
    Calls Tryz.prog 104 #[.int .i64 (j : Int), .pointer (some ⟨h, 0, none⟩)] w fun e w' => e = .returned (.bool (notNl (at_ s.data.toList j))) ∧ w = w' := by
  have HV := Lib.hid (show notNl s[j] = ((s[j].toNat : Int) != 10) by
    unfold notNl bne
    rw [u8_eq s[j] 10]
    rfl)
  rw [at_get s j hj]
  go_enter Tryz.func104, Tryz.ntmps104
  go_wp2_with (fail)
  go_ret
  exact ⟨congrArg (fun x => Ending.returned (Value.bool x)) HV.out.symm, rfl⟩

theorem clo_inName (s : ByteArray) (h g j : Nat) (w : World) (hj : j < s.size) (h1 : w.cell? ⟨h, 0, none⟩ = some (.pointer (some ⟨g, 0, none⟩))) (h2 : w.cell? ⟨g, 0, none⟩ = some (.string s)) :
    Calls Tryz.prog 106 #[.int .i64 (j : Int), .pointer (some ⟨h, 0, none⟩)] w fun e w' => e = .returned (.bool (inName (at_ s.data.toList j))) ∧ w = w' := by
  have HC := Lib.hid (inName_any s[j] w)
  rw [at_get s j hj]
  go_enter Tryz.func106, Tryz.ntmps106
  go_wp2_with (fail)
  refine HC.out.mono ?_
  rintro e w' ⟨rfl, rfl⟩
  go_wp2_with (fail)
  go_ret
  exact ⟨rfl, rfl⟩

theorem clo_digit (s : ByteArray) (h g j : Nat) (w : World) (hj : j < s.size) (h1 : w.cell? ⟨h, 0, none⟩ = some (.pointer (some ⟨g, 0, none⟩))) (h2 : w.cell? ⟨g, 0, none⟩ = some (.string s)) :
    Calls Tryz.prog 108 #[.int .i64 (j : Int), .pointer (some ⟨h, 0, none⟩)] w fun e w' => e = .returned (.bool (digit (at_ s.data.toList j))) ∧ w = w' := by
  have HC := Lib.hid (digit_any s[j] w)
  rw [at_get s j hj]
  go_enter Tryz.func108, Tryz.ntmps108
  go_wp2_with (fail)
  refine HC.out.mono ?_
  rintro e w' ⟨rfl, rfl⟩
  go_wp2_with (fail)
  go_ret
  exact ⟨rfl, rfl⟩

theorem ext2 (s : ByteArray) (i : Nat) (hi : i + 1 < s.size) : (s.extract i (i + 2)).toList = [at_ s.data.toList i, at_ s.data.toList (i + 1)] := by
  have hl : s.data.toList.length = s.size := by simp
  rw [ByteArray.toList_eq]
  have e : (s.extract i (i + 2)).data.toList = (s.data.toList.take (i + 2)).drop i := by simp [ByteArray.data_extract, List.drop_take]
  rw [e, List.drop_take, show i + 2 - i = 2 from by omega, List.drop_eq_getElem_cons (by omega), List.drop_eq_getElem_cons (by omega)]
  unfold at_
  simp [List.getD_eq_getElem?_getD, hl, hi, show i < s.size from by omega]
theorem ext1 (s : ByteArray) (i : Nat) (hi : i + 1 = s.size) : (s.extract i s.size).toList = [at_ s.data.toList i] := by
  have hl : s.data.toList.length = s.size := by simp
  rw [ByteArray.toList_eq]
  have e : (s.extract i s.size).data.toList = (s.data.toList.take s.size).drop i := by simp [ByteArray.data_extract, List.drop_take]
  rw [e, List.take_of_length_le (by omega), List.drop_eq_getElem_cons (by omega), List.drop_of_length_le (by omega)]
  unfold at_
  simp [List.getD_eq_getElem?_getD, hl, show i < s.size from by omega]

theorem two_eq (s : ByteArray) (i m : Nat) (hi : i < s.size) (hm : m = min (i + 2) s.size) : two s.data.toList i = ((s.extract i m).toList == [61, 61] || (s.extract i m).toList == [33, 61] || (s.extract i m).toList == [60, 61] || (s.extract i m).toList == [62, 61]) := by
  have hl : s.data.toList.length = s.size := by simp
  unfold two
  rw [hl]
  by_cases h : i + 1 < s.size
  · rw [show m = i + 2 from by omega, ext2 s i h]
    generalize at_ s.data.toList i = a
    generalize at_ s.data.toList (i + 1) = b
    have key : ∀ x : UInt8, (([a, b] : List UInt8) == [x, 61]) = (a == x && b == 61) := by intro x; simp [List.cons_beq_cons]
    rw [key, key, key, key]
    cases (b == 61) <;> cases (a == 61) <;> cases (a == 33) <;> cases (a == 60) <;> cases (a == 62) <;> simp [h]
  · rw [show m = s.size from by omega, ext1 s i (by omega)]
    generalize at_ s.data.toList i = a
    have key : ∀ x : UInt8, (([a] : List UInt8) == [x, 61]) = false := by intro x; simp
    rw [key, key, key, key]
    simp [h]

theorem index_mem (l : List UInt8) (c : UInt8) : (0 ≤ Lib.indexByte l c) ↔ c ∈ l := by
  induction l with
  | nil => simp [Lib.indexByte]
  | cons b l ih =>
    have hge := Lib.indexByte_ge l c
    unfold Lib.indexByte
    by_cases h : b = c
    · simp [h]
    · have h2 : (b == c) = false := by simpa using h
      rw [h2]
      by_cases h3 : Lib.indexByte l c = -1
      · simp [h3]
        exact ⟨fun e => h e.symm, fun hm => by have := ih.2 hm; omega⟩
      · have h4 : (Lib.indexByte l c == -1) = false := by simpa using h3
        simp [h4]
        constructor
        · intro _; exact .inr (ih.1 (by omega))
        · intro _; omega

def symList : List UInt8 := [60, 62, 61, 43, 45, 42, 47, 37, 40, 41, 123, 125, 91, 93, 44, 59, 58, 46]
theorem symB_mem (b : UInt8) : symB b = decide (b ∈ symList) := by
  unfold symB
  rw [Bool.eq_iff_iff]
  simp [symList]

theorem symIndex_any (b : UInt8) (w : World) : Calls Tryz.prog 111 #[.string ⟨#[60, 62, 61, 43, 45, 42, 47, 37, 40, 41, 123, 125, 91, 93, 44, 59, 58, 46]⟩, .int .u8 (b.toNat : Int)] w fun e w' => ∃ x : Int, e = .returned (.int .i64 x) ∧ (0 ≤ x ↔ symB b = true) ∧ w = w' := by
  refine (Tryz.strings_IndexByte _ _ w).mono fun e w' he => ⟨_, he.1, ?_, he.2.symm⟩
  rw [index_mem, symB_mem]
  have e : ((b.toNat : Int)).toNat.toUInt8 = b := by
    rw [Int.toNat_natCast]
    exact UInt8.ofNat_toNat
  rw [e]
  simp [symList]

set_option maxHeartbeats 1000000 in
theorem symbol_core (s : ByteArray) (g i m : Nat) (w : World) (hs : s.size ≤ 1000000) (hi : i < s.size) (hm : m = min (i + 2) s.size) (h2 : w.cell? ⟨g, 0, none⟩ = some (.string s)) :
    Calls Tryz.prog 109 #[.pointer (some ⟨g, 0, none⟩), .int .i64 (i : Int)] w fun e w' => e = .returned (.int .i64 (sym s.data.toList i : Int)) ∧ ∃ n, w' = w.drewN n := by
  have x1 : m ≤ s.size := by omega
  have x2 : i ≤ m := by omega
  have x3 : (i : Int) ≤ (m : Int) := by omega
  have x4 : (m : Int) ≤ (s.size : Int) := by omega
  have HT := Lib.hid (two_eq s i m hi hm)
  have HI := Lib.hid (fun w1 => symIndex_any s[i] w1)
  have HA := Lib.hid (at_get s i hi)
  have m2 : min ((i : Int) + 2) (s.size : Int) = (m : Int) := by omega
  have M2 := Lib.hid m2
  have S1 := Lib.hid (show two s.data.toList i = true → ((sym s.data.toList i : Nat) : Int) = 2 from fun h => by unfold sym; rw [if_pos h]; rfl)
  have S2 := Lib.hid (show two s.data.toList i = false → symB (at_ s.data.toList i) = true → ((sym s.data.toList i : Nat) : Int) = 1 from fun h h' => by unfold sym; rw [h, if_neg (by simp), if_pos h']; rfl)
  have S3 := Lib.hid (show two s.data.toList i = false → symB (at_ s.data.toList i) = false → ((sym s.data.toList i : Nat) : Int) = 0 from fun h h' => by unfold sym; rw [h, if_neg (by simp), h', if_neg (by simp)]; rfl)
  clear hm m2
  go_enter Tryz.func109, Tryz.ntmps109
  go_wp2_with (fail)
  have m1 : IntKind.i64.wrap ((i : Int) + 2) = (i : Int) + 2 := IntWalk.i64_in _ (by omega)
  have m2 := M2.out
  go_quiet (fail)
  clear m1 m2
  cases q1 : ((s.extract i m).toList == [61, 61]) with
  | true =>
    go_wp2_with (fail)
    go_ret
    exact ⟨by rw [S1.out (by rw [HT.out, q1]; rfl)]; rfl, _, rfl⟩
  | false =>
    cases q2 : ((s.extract i m).toList == [33, 61]) with
    | true =>
      go_wp2_with (fail)
      go_ret
      exact ⟨by rw [S1.out (by rw [HT.out, q1, q2]; rfl)]; rfl, _, rfl⟩
    | false =>
      cases q3 : ((s.extract i m).toList == [60, 61]) with
      | true =>
        go_wp2_with (fail)
        go_ret
        exact ⟨by rw [S1.out (by rw [HT.out, q1, q2, q3]; rfl)]; rfl, _, rfl⟩
      | false =>
        cases q4 : ((s.extract i m).toList == [62, 61]) with
        | true =>
          go_wp2_with (fail)
          go_ret
          exact ⟨by rw [S1.out (by rw [HT.out, q1, q2, q3, q4]; rfl)]; rfl, _, rfl⟩
        | false =>
          have HF := Lib.hid (show two s.data.toList i = false by rw [HT.out, q1, q2, q3, q4]; rfl)
          go_wp2_with (fail)
          refine (HI.out _).mono ?_
          rintro e w1 ⟨x, rfl, hx, rfl⟩
          cases hb : symB s[i] with
          | true =>
            have hx0 : 0 ≤ x := hx.2 hb
            clear hx
            have HB := Lib.hid hb
            clear hb
            go_wp2_with (fail)
            go_ret
            exact ⟨by rw [S2.out HF.out (by rw [HA.out]; exact HB.out)]; rfl, _, rfl⟩
          | false =>
            have hx0 : x < 0 := by
              rcases Int.lt_or_le x 0 with h | h
              · exact h
              · have := hx.1 h
                rw [hb] at this
                cases this
            clear hx
            have HB := Lib.hid hb
            clear hb
            go_wp2_with (fail)
            go_ret
            exact ⟨by rw [S3.out HF.out (by rw [HA.out]; exact HB.out)]; rfl, _, rfl⟩

theorem symbol_any (s : ByteArray) (g i : Nat) (w : World) (hs : s.size ≤ 1000000) (hi : i < s.size) (h2 : w.cell? ⟨g, 0, none⟩ = some (.string s)) :
    Calls Tryz.prog 109 #[.pointer (some ⟨g, 0, none⟩), .int .i64 (i : Int)] w fun e w' => e = .returned (.int .i64 (sym s.data.toList i : Int)) ∧ ∃ n, w' = w.drewN n :=
  symbol_core s g i _ w hs hi rfl h2
end Go.Proofs.YtoopnddlcofhoaaGreatDoor.Lx
