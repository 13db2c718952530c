/- What is proved: Name of the lexer returns what the plain function says. -/
import Derived.Test.YtlpoeflbnpbmgaaGreatDoorLxScan
import Derived.Test.YtlpoeflbnpbmgaaGreatDoorShelf
import Derived.Laws.AppendOwn
import Derived.Maps.AppendAt
set_option linter.unusedVariables false
namespace Go.Proofs.YtlpoeflbnpbmgaaGreatDoor.Lx
open Go.RowKit

theorem at_get (s : ByteArray) (j : Nat) (hj : j < s.size) : at_ s.data.toList j = s[j] := by
  unfold at_
  rw [List.getD_eq_getElem?_getD, List.getElem?_eq_getElem (by simpa using hj)]
  rfl

theorem clo_white (s : ByteArray) (h g j : Nat) (w : World) (hj : j < s.size) (h1 : w.cell? ⟨h, 0, none⟩ = some (.pointer (some ⟨g, 0, none⟩))) (h2 : w.cell? ⟨g, 0, none⟩ = some (.string s)) :
    Calls Tryz.prog 108 #[.int .i64 (j : Int), .pointer (some ⟨h, 0, none⟩)] w fun e w' => e = .returned (.bool (white (at_ s.data.toList j))) ∧ w = w' := by
  have HC := Lib.hid (white_any s[j] w)
  rw [at_get s j hj]
  go_enter Tryz.func108, Tryz.ntmps108
  go_wp2_with (fail)
  refine HC.out.mono ?_
  rintro e w' ⟨rfl, rfl⟩
  go_wp2_with (fail)
  go_ret
  exact ⟨rfl, rfl⟩

theorem clo_notNl (s : ByteArray) (h g j : Nat) (w : World) (hj : j < s.size) (h1 : w.cell? ⟨h, 0, none⟩ = some (.pointer (some ⟨g, 0, none⟩))) (h2 : w.cell? ⟨g, 0, none⟩ = some (.string s)) :
    Calls Tryz.prog 110 #[.int .i64 (j : Int), .pointer (some ⟨h, 0, none⟩)] w fun e w' => e = .returned (.bool (notNl (at_ s.data.toList j))) ∧ w = w' := by
  have HV := Lib.hid (show notNl s[j] = ((s[j].toNat : Int) != 10) by
    unfold notNl bne
    rw [u8_eq s[j] 10]
    rfl)
  rw [at_get s j hj]
  go_enter Tryz.func110, Tryz.ntmps110
  go_wp2_with (fail)
  go_ret
  exact ⟨congrArg (fun x => Ending.returned (Value.bool x)) HV.out.symm, rfl⟩

theorem clo_inName (s : ByteArray) (h g j : Nat) (w : World) (hj : j < s.size) (h1 : w.cell? ⟨h, 0, none⟩ = some (.pointer (some ⟨g, 0, none⟩))) (h2 : w.cell? ⟨g, 0, none⟩ = some (.string s)) :
    Calls Tryz.prog 112 #[.int .i64 (j : Int), .pointer (some ⟨h, 0, none⟩)] w fun e w' => e = .returned (.bool (inName (at_ s.data.toList j))) ∧ w = w' := by
  have HC := Lib.hid (inName_any s[j] w)
  rw [at_get s j hj]
  go_enter Tryz.func112, Tryz.ntmps112
  go_wp2_with (fail)
  refine HC.out.mono ?_
  rintro e w' ⟨rfl, rfl⟩
  go_wp2_with (fail)
  go_ret
  exact ⟨rfl, rfl⟩

theorem clo_digit (s : ByteArray) (h g j : Nat) (w : World) (hj : j < s.size) (h1 : w.cell? ⟨h, 0, none⟩ = some (.pointer (some ⟨g, 0, none⟩))) (h2 : w.cell? ⟨g, 0, none⟩ = some (.string s)) :
    Calls Tryz.prog 114 #[.int .i64 (j : Int), .pointer (some ⟨h, 0, none⟩)] w fun e w' => e = .returned (.bool (digit (at_ s.data.toList j))) ∧ w = w' := by
  have HC := Lib.hid (digit_any s[j] w)
  rw [at_get s j hj]
  go_enter Tryz.func114, Tryz.ntmps114
  go_wp2_with (fail)
  refine HC.out.mono ?_
  rintro e w' ⟨rfl, rfl⟩
  go_wp2_with (fail)
  go_ret
  exact ⟨rfl, rfl⟩

theorem ext2 (s : ByteArray) (i : Nat) (hi : i + 1 < s.size) : (s.extract i (i + 2)).toList = [at_ s.data.toList i, at_ s.data.toList (i + 1)] := by
  have hl : s.data.toList.length = s.size := by simp
  rw [ByteArray.toList_eq]
  have e : (s.extract i (i + 2)).data.toList = (s.data.toList.take (i + 2)).drop i := by simp [ByteArray.data_extract, List.drop_take]
  rw [e, List.drop_take, show i + 2 - i = 2 from by omega, List.drop_eq_getElem_cons (by omega), List.drop_eq_getElem_cons (by omega)]
  unfold at_
  simp [List.getD_eq_getElem?_getD, hl, hi, show i < s.size from by omega]
theorem ext1 (s : ByteArray) (i : Nat) (hi : i + 1 = s.size) : (s.extract i s.size).toList = [at_ s.data.toList i] := by
  have hl : s.data.toList.length = s.size := by simp
  rw [ByteArray.toList_eq]
  have e : (s.extract i s.size).data.toList = (s.data.toList.take s.size).drop i := by simp [ByteArray.data_extract, List.drop_take]
  rw [e, List.take_of_length_le (by omega), List.drop_eq_getElem_cons (by omega), List.drop_of_length_le (by omega)]
  unfold at_
  simp [List.getD_eq_getElem?_getD, hl, show i < s.size from by omega]

theorem two_eq (s : ByteArray) (i m : Nat) (hi : i < s.size) (hm : m = min (i + 2) s.size) : two s.data.toList i = ((s.extract i m).toList == [61, 61] || (s.extract i m).toList == [33, 61] || (s.extract i m).toList == [60, 61] || (s.extract i m).toList == [62, 61]) := by
  have hl : s.data.toList.length = s.size := by simp
  unfold two
  rw [hl]
  by_cases h : i + 1 < s.size
  · rw [show m = i + 2 from by omega, ext2 s i h]
    generalize at_ s.data.toList i = a
    generalize at_ s.data.toList (i + 1) = b
    have key : ∀ x : UInt8, (([a, b] : List UInt8) == [x, 61]) = (a == x && b == 61) := by intro x; simp [List.cons_beq_cons]
    rw [key, key, key, key]
    cases (b == 61) <;> cases (a == 61) <;> cases (a == 33) <;> cases (a == 60) <;> cases (a == 62) <;> simp [h]
  · rw [show m = s.size from by omega, ext1 s i (by omega)]
    generalize at_ s.data.toList i = a
    have key : ∀ x : UInt8, (([a] : List UInt8) == [x, 61]) = false := by intro x; simp
    rw [key, key, key, key]
    simp [h]

theorem index_mem (l : List UInt8) (c : UInt8) : (0 ≤ Lib.indexByte l c) ↔ c ∈ l := by
  induction l with
  | nil => simp [Lib.indexByte]
  | cons b l ih =>
    have hge := Lib.indexByte_ge l c
    unfold Lib.indexByte
    by_cases h : b = c
    · simp [h]
    · have h2 : (b == c) = false := by simpa using h
      rw [h2]
      by_cases h3 : Lib.indexByte l c = -1
      · simp [h3]
        exact ⟨fun e => h e.symm, fun hm => by have := ih.2 hm; omega⟩
      · have h4 : (Lib.indexByte l c == -1) = false := by simpa using h3
        simp [h4]
        constructor
        · intro _; exact .inr (ih.1 (by omega))
        · intro _; omega

def symList : List UInt8 := [60, 62, 61, 43, 45, 42, 47, 37, 40, 41, 123, 125, 91, 93, 44, 59, 58, 46]
theorem symB_mem (b : UInt8) : symB b = decide (b ∈ symList) := by
  unfold symB
  rw [Bool.eq_iff_iff]
  simp [symList]

theorem symIndex_any (b : UInt8) (w : World) : Calls Tryz.prog 117 #[.string ⟨#[60, 62, 61, 43, 45, 42, 47, 37, 40, 41, 123, 125, 91, 93, 44, 59, 58, 46]⟩, .int .u8 (b.toNat : Int)] w fun e w' => ∃ x : Int, e = .returned (.int .i64 x) ∧ (0 ≤ x ↔ symB b = true) ∧ w = w' := by
  refine (Tryz.strings_IndexByte _ _ w).mono fun e w' he => ⟨_, he.1, ?_, he.2.symm⟩
  rw [index_mem, symB_mem]
  have e : ((b.toNat : Int)).toNat.toUInt8 = b := by
    rw [Int.toNat_natCast]
    exact UInt8.ofNat_toNat
  rw [e]
  simp [symList]

set_option maxHeartbeats 1000000 in
theorem symbol_core (s : ByteArray) (g i m : Nat) (w : World) (hs : s.size ≤ 1000000) (hi : i < s.size) (hm : m = min (i + 2) s.size) (h2 : w.cell? ⟨g, 0, none⟩ = some (.string s)) :
    Calls Tryz.prog 115 #[.pointer (some ⟨g, 0, none⟩), .int .i64 (i : Int)] w fun e w' => e = .returned (.int .i64 (sym s.data.toList i : Int)) ∧ ∃ n, w' = w.drewN n := by
  have x1 : m ≤ s.size := by omega
  have x2 : i ≤ m := by omega
  have x3 : (i : Int) ≤ (m : Int) := by omega
  have x4 : (m : Int) ≤ (s.size : Int) := by omega
  have HT := Lib.hid (two_eq s i m hi hm)
  have HI := Lib.hid (fun w1 => symIndex_any s[i] w1)
  have HA := Lib.hid (at_get s i hi)
  have m2 : min ((i : Int) + 2) (s.size : Int) = (m : Int) := by omega
  have M2 := Lib.hid m2
  have S1 := Lib.hid (show two s.data.toList i = true → ((sym s.data.toList i : Nat) : Int) = 2 from fun h => by unfold sym; rw [if_pos h]; rfl)
  have S2 := Lib.hid (show two s.data.toList i = false → symB (at_ s.data.toList i) = true → ((sym s.data.toList i : Nat) : Int) = 1 from fun h h' => by unfold sym; rw [h, if_neg (by simp), if_pos h']; rfl)
  have S3 := Lib.hid (show two s.data.toList i = false → symB (at_ s.data.toList i) = false → ((sym s.data.toList i : Nat) : Int) = 0 from fun h h' => by unfold sym; rw [h, if_neg (by simp), h', if_neg (by simp)]; rfl)
  clear hm m2
  go_enter Tryz.func115, Tryz.ntmps115
  go_wp2_with (fail)
  have m1 : IntKind.i64.wrap ((i : Int) + 2) = (i : Int) + 2 := IntWalk.i64_in _ (by omega)
  have m2 := M2.out
  go_quiet (fail)
  clear m1 m2
  cases q1 : ((s.extract i m).toList == [61, 61]) with
  | true =>
    go_wp2_with (fail)
    go_ret
    exact ⟨by rw [S1.out (by rw [HT.out, q1]; rfl)]; rfl, _, rfl⟩
  | false =>
    cases q2 : ((s.extract i m).toList == [33, 61]) with
    | true =>
      go_wp2_with (fail)
      go_ret
      exact ⟨by rw [S1.out (by rw [HT.out, q1, q2]; rfl)]; rfl, _, rfl⟩
    | false =>
      cases q3 : ((s.extract i m).toList == [60, 61]) with
      | true =>
        go_wp2_with (fail)
        go_ret
        exact ⟨by rw [S1.out (by rw [HT.out, q1, q2, q3]; rfl)]; rfl, _, rfl⟩
      | false =>
        cases q4 : ((s.extract i m).toList == [62, 61]) with
        | true =>
          go_wp2_with (fail)
          go_ret
          exact ⟨by rw [S1.out (by rw [HT.out, q1, q2, q3, q4]; rfl)]; rfl, _, rfl⟩
        | false =>
          have HF := Lib.hid (show two s.data.toList i = false by rw [HT.out, q1, q2, q3, q4]; rfl)
          go_wp2_with (fail)
          refine (HI.out _).mono ?_
          rintro e w1 ⟨x, rfl, hx, rfl⟩
          cases hb : symB s[i] with
          | true =>
            have hx0 : 0 ≤ x := hx.2 hb
            clear hx
            have HB := Lib.hid hb
            clear hb
            go_wp2_with (fail)
            go_ret
            exact ⟨by rw [S2.out HF.out (by rw [HA.out]; exact HB.out)]; rfl, _, rfl⟩
          | false =>
            have hx0 : x < 0 := by
              rcases Int.lt_or_le x 0 with h | h
              · exact h
              · have := hx.1 h
                rw [hb] at this
                cases this
            clear hx
            have HB := Lib.hid hb
            clear hb
            go_wp2_with (fail)
            go_ret
            exact ⟨by rw [S3.out HF.out (by rw [HA.out]; exact HB.out)]; rfl, _, rfl⟩

theorem symbol_any (s : ByteArray) (g i : Nat) (w : World) (hs : s.size ≤ 1000000) (hi : i < s.size) (h2 : w.cell? ⟨g, 0, none⟩ = some (.string s)) :
    Calls Tryz.prog 115 #[.pointer (some ⟨g, 0, none⟩), .int .i64 (i : Int)] w fun e w' => e = .returned (.int .i64 (sym s.data.toList i : Int)) ∧ ∃ n, w' = w.drewN n :=
  symbol_core s g i _ w hs hi rfl h2
end Go.Proofs.YtlpoeflbnpbmgaaGreatDoor.Lx
set_option linter.unusedVariables false
namespace Go.Proofs.YtlpoeflbnpbmgaaGreatDoor.Lx
open Go.RowKit

set_option maxHeartbeats 1000000 in
theorem wrong_any (s : ByteArray) (g i : Nat) (w : World) (hs : s.size ≤ 1000000) (hi : i < s.size) (h2 : w.cell? ⟨g, 0, none⟩ = some (.string s)) :
    Calls Tryz.prog 116 #[.pointer (some ⟨g, 0, none⟩), .int .i64 (i : Int)] w fun e w' => e = .returned (.bool (wrongAt s.data.toList i)) ∧ ∃ n, w' = w.drewN n := by
  have HV := Lib.hid (show wrongAt s.data.toList i = (!white s[i] && s[i] != 35 && !letter s[i] && !digit s[i] && sym s.data.toList i == 0) by unfold wrongAt; rw [at_get s i hi])
  have H1 := Lib.hid (white_any s[i] w)
  have H2 := Lib.hid (letter_any s[i] w)
  have H3 := Lib.hid (digit_any s[i] w)
  have H4 := Lib.hid (symbol_any s g i w hs hi h2)
  have h35 : (s[i] != 35) = ((s[i].toNat : Int) != 35) := by
    unfold bne
    rw [u8_eq s[i] 35]
    rfl
  have H35 := Lib.hid h35
  clear h35
  cases c1 : white s[i] with
  | true =>
    rw [c1] at H1 HV
    go_enter Tryz.func116, Tryz.ntmps116
    go_wp2_with (fail)
    refine H1.out.mono ?_
    rintro e w' ⟨rfl, rfl⟩
    go_wp2_with (fail)
    go_ret
    exact ⟨congrArg (fun x => Ending.returned (Value.bool x)) (by rw [HV.out]; rfl), 0, rfl⟩
  | false =>
    rw [c1] at H1 HV
    cases c2 : ((s[i].toNat : Int) != 35) with
    | false =>
      have HC := Lib.hid c2
      go_enter Tryz.func116, Tryz.ntmps116
      go_wp2_with (fail)
      refine H1.out.mono ?_
      rintro e w' ⟨rfl, rfl⟩
      go_wp2_with (fail)
      go_ret
      exact ⟨congrArg (fun x => Ending.returned (Value.bool x)) (by rw [HV.out, H35.out, HC.out]; rfl), 0, rfl⟩
    | true =>
      have HC := Lib.hid c2
      cases c3 : letter s[i] with
      | true =>
        rw [c3] at H2 HV
        go_enter Tryz.func116, Tryz.ntmps116
        go_wp2_with (fail)
        refine H1.out.mono ?_
        rintro e w' ⟨rfl, rfl⟩
        go_wp2_with (fail)
        refine H2.out.mono ?_
        rintro e w' ⟨rfl, rfl⟩
        go_wp2_with (fail)
        go_ret
        exact ⟨congrArg (fun x => Ending.returned (Value.bool x)) (by rw [HV.out, H35.out, HC.out]; rfl), 0, rfl⟩
      | false =>
        rw [c3] at H2 HV
        cases c4 : digit s[i] with
        | true =>
          rw [c4] at H3 HV
          go_enter Tryz.func116, Tryz.ntmps116
          go_wp2_with (fail)
          refine H1.out.mono ?_
          rintro e w' ⟨rfl, rfl⟩
          go_wp2_with (fail)
          refine H2.out.mono ?_
          rintro e w' ⟨rfl, rfl⟩
          go_wp2_with (fail)
          refine H3.out.mono ?_
          rintro e w' ⟨rfl, rfl⟩
          go_wp2_with (fail)
          go_ret
          exact ⟨congrArg (fun x => Ending.returned (Value.bool x)) (by rw [HV.out, H35.out, HC.out]; rfl), 0, rfl⟩
        | false =>
          rw [c4] at H3 HV
          have HS := Lib.hid (show (sym s.data.toList i == 0) = (((sym s.data.toList i : Nat) : Int) == 0) by
            rw [Bool.eq_iff_iff]
            simp only [beq_iff_eq]
            omega)
          generalize sym s.data.toList i = y at *
          go_enter Tryz.func116, Tryz.ntmps116
          go_wp2_with (fail)
          refine H1.out.mono ?_
          rintro e w' ⟨rfl, rfl⟩
          go_wp2_with (fail)
          refine H2.out.mono ?_
          rintro e w' ⟨rfl, rfl⟩
          go_wp2_with (fail)
          refine H3.out.mono ?_
          rintro e w' ⟨rfl, rfl⟩
          go_wp2_with (fail)
          refine H4.out.mono ?_
          rintro e w' ⟨rfl, n, rfl⟩
          go_wp2_with (fail)
          go_ret
          exact ⟨congrArg (fun x => Ending.returned (Value.bool x)) (by rw [HV.out, H35.out, HC.out, HS.out]; rfl), n, rfl⟩

/-- the scanner's struct in block g, its map in block b, its place at -/
def Sc (w : World) (g b : Nat) (s : ByteArray) (at_ : Int) : Prop := w.heap[g]? = some (.cells #[.string s, .map (some b), .int .i64 at_] 133 (0, 0)) ∧ KwMap w b
theorem Sc.c0 {w : World} {g b : Nat} {s : ByteArray} {a : Int} (h : Sc w g b s a) : w.cell? ⟨g, 0, none⟩ = some (.string s) := by simp [World.cell?, h.1]
theorem Sc.c1 {w : World} {g b : Nat} {s : ByteArray} {a : Int} (h : Sc w g b s a) : w.cell? ⟨g, 1, none⟩ = some (.map (some b)) := by simp [World.cell?, h.1]
theorem Sc.c2 {w : World} {g b : Nat} {s : ByteArray} {a : Int} (h : Sc w g b s a) : w.cell? ⟨g, 2, none⟩ = some (.int .i64 a) := by simp [World.cell?, h.1]
theorem Sc.fz {w : World} {g b : Nat} {s : ByteArray} {a : Int} (h : Sc w g b s a) : w.frozen? ⟨g, 2, none⟩ = false := by simp [World.frozen?, h.1]
theorem Sc.lt {w : World} {g b : Nat} {s : ByteArray} {a : Int} (h : Sc w g b s a) : g < w.heap.size := World.block_lt_of_cell? w _ h.c0
theorem Sc.below {w w' : World} {g b : Nat} {s : ByteArray} {a : Int} (h : Sc w g b s a) (hb : Below w.heap.size w w') : Sc w' g b s a := ⟨(hb.block g h.lt).trans h.1, h.2.below hb⟩
theorem Sc.drew {w : World} {g b : Nat} {s : ByteArray} {a : Int} (h : Sc w g b s a) (n : Nat) : Sc (w.drewN n) g b s a := h

theorem enterK50 : ∀ args w, (callFunc 108 args).run Tryz.prog w = .ok (.enter 108 args) w := enters_of Tryz.func108 (by kernel_rfl) rfl
theorem enterK52 : ∀ args w, (callFunc 110 args).run Tryz.prog w = .ok (.enter 110 args) w := enters_of Tryz.func110 (by kernel_rfl) rfl
theorem enterK54 : ∀ args w, (callFunc 112 args).run Tryz.prog w = .ok (.enter 112 args) w := enters_of Tryz.func112 (by kernel_rfl) rfl
theorem enterK56 : ∀ args w, (callFunc 114 args).run Tryz.prog w = .ok (.enter 114 args) w := enters_of Tryz.func114 (by kernel_rfl) rfl

theorem run_size (s : ByteArray) (p : UInt8 → Bool) (i : Nat) : whl (fun j => p (at_ s.data.toList j)) (s.size - i) i = run s.data.toList p i := by
  unfold run
  rw [show s.data.toList.length = s.size from by simp]

theorem while_white (s : ByteArray) (h g i : Nat) (w : World) (hs : s.size ≤ 1000000) (hi : i ≤ s.size) (h1 : w.cell? ⟨h, 0, none⟩ = some (.pointer (some ⟨g, 0, none⟩))) (h2 : w.cell? ⟨g, 0, none⟩ = some (.string s)) :
    Calls Tryz.prog 107 #[.pointer (some ⟨g, 0, none⟩), .int .i64 (i : Int), .func (.func 108) #[] #[.pointer (some ⟨h, 0, none⟩)]] w fun e w' => e = .returned (.int .i64 (run s.data.toList white i : Int)) ∧ w = w' := by
  have a := while_cap _ (.pointer (some ⟨h, 0, none⟩)) (fun j => white (at_ s.data.toList j)) s g i w hs hi h2 enterK50 (fun j hj => clo_white s h g j w hj h1 h2)
  rwa [run_size] at a
theorem while_notNl (s : ByteArray) (h g i : Nat) (w : World) (hs : s.size ≤ 1000000) (hi : i ≤ s.size) (h1 : w.cell? ⟨h, 0, none⟩ = some (.pointer (some ⟨g, 0, none⟩))) (h2 : w.cell? ⟨g, 0, none⟩ = some (.string s)) :
    Calls Tryz.prog 107 #[.pointer (some ⟨g, 0, none⟩), .int .i64 (i : Int), .func (.func 110) #[] #[.pointer (some ⟨h, 0, none⟩)]] w fun e w' => e = .returned (.int .i64 (run s.data.toList notNl i : Int)) ∧ w = w' := by
  have a := while_cap _ (.pointer (some ⟨h, 0, none⟩)) (fun j => notNl (at_ s.data.toList j)) s g i w hs hi h2 enterK52 (fun j hj => clo_notNl s h g j w hj h1 h2)
  rwa [run_size] at a
theorem while_inName (s : ByteArray) (h g i : Nat) (w : World) (hs : s.size ≤ 1000000) (hi : i ≤ s.size) (h1 : w.cell? ⟨h, 0, none⟩ = some (.pointer (some ⟨g, 0, none⟩))) (h2 : w.cell? ⟨g, 0, none⟩ = some (.string s)) :
    Calls Tryz.prog 107 #[.pointer (some ⟨g, 0, none⟩), .int .i64 (i : Int), .func (.func 112) #[] #[.pointer (some ⟨h, 0, none⟩)]] w fun e w' => e = .returned (.int .i64 (run s.data.toList inName i : Int)) ∧ w = w' := by
  have a := while_cap _ (.pointer (some ⟨h, 0, none⟩)) (fun j => inName (at_ s.data.toList j)) s g i w hs hi h2 enterK54 (fun j hj => clo_inName s h g j w hj h1 h2)
  rwa [run_size] at a
theorem while_digit (s : ByteArray) (h g i : Nat) (w : World) (hs : s.size ≤ 1000000) (hi : i ≤ s.size) (h1 : w.cell? ⟨h, 0, none⟩ = some (.pointer (some ⟨g, 0, none⟩))) (h2 : w.cell? ⟨g, 0, none⟩ = some (.string s)) :
    Calls Tryz.prog 107 #[.pointer (some ⟨g, 0, none⟩), .int .i64 (i : Int), .func (.func 114) #[] #[.pointer (some ⟨h, 0, none⟩)]] w fun e w' => e = .returned (.int .i64 (run s.data.toList digit i : Int)) ∧ w = w' := by
  have a := while_cap _ (.pointer (some ⟨h, 0, none⟩)) (fun j => digit (at_ s.data.toList j)) s g i w hs hi h2 enterK56 (fun j hj => clo_digit s h g j w hj h1 h2)
  rwa [run_size] at a

set_option maxHeartbeats 1000000 in
theorem blank_any (s : ByteArray) (g i : Nat) (w : World) (hs : s.size ≤ 1000000) (hi : i ≤ s.size) (h2 : w.cell? ⟨g, 0, none⟩ = some (.string s)) (hg : g < w.heap.size) :
    Calls Tryz.prog 100 #[.pointer (some ⟨g, 0, none⟩), .int .i64 (i : Int)] w fun e w' => e = .returned (.int .i64 (blank s.data.toList i : Int)) ∧ Below w.heap.size w w' := by
  have hmf : ∀ (fn : Fn) (first cap : Array Value) (w : World), (Instr.makeFunc fn first cap).run Tryz.prog w = .ok (.func fn first cap) w := fun _ _ _ _ => rfl
  have k1 : (w.alloc (.cells #[.pointer (some ⟨g, 0, none⟩)] 119)).cell? ⟨w.heap.size, 0, none⟩ = some (.pointer (some ⟨g, 0, none⟩)) := by
    rw [Lib.cell_of_heap (heap_alloc_new w _)]
    rfl
  have k2 : (w.alloc (.cells #[.pointer (some ⟨g, 0, none⟩)] 119)).cell? ⟨g, 0, none⟩ = some (.string s) := (World.cell?_alloc_lt w _ _ hg).trans h2
  have K1 := Lib.hid k1
  have K2 := Lib.hid k2
  have HB := Lib.hid ((Below.refl w.heap.size w).alloc (Nat.le_refl _) (.cells #[.pointer (some ⟨g, 0, none⟩)] 119))
  clear k1 k2 h2
  go_enter Tryz.func100, Tryz.ntmps100
  go_wp2_with (fail)
  have hsz : s.data.toList.length = s.size := by simp
  go_loop [1] (fun x => ∃ k f : Nat, k ≤ s.size ∧ x = .int .i64 (k : Int) ∧ s.size - k < f ∧ Hid (blank s.data.toList i = blk s.data.toList f k)) (fun x => s.size - (intOf x).toNat)
  case atStart => exact ⟨i, s.data.toList.length + 1, hi, rfl, by omega, rfl⟩
  case round =>
    obtain ⟨k, f, hk, rfl, hf, hbl⟩ := hrel
    obtain ⟨f', rfl⟩ : ∃ f', f = f' + 1 := ⟨f - 1, by omega⟩
    have hw := Lib.hid (while_white s w.heap.size g k _ hs hk K1.out K2.out)
    have hbd := run_bd s.data.toList white k (by omega)
    have hst := Lib.hid (hbl.out.trans (blk_step s.data.toList f' k))
    have hy := Lib.hid (run_yes s.data.toList notNl (run s.data.toList white k))
    have hb2 := Lib.hid (run_bd s.data.toList notNl (run s.data.toList white k))
    have hn := Lib.hid (fun h => while_notNl s w.heap.size g (run s.data.toList white k) _ hs h K1.out K2.out)
    rw [hsz] at hbd hst hy hb2
    generalize run s.data.toList white k = j at *
    have hk1 := K1.out
    have hk2 := K2.out
    by_cases hj : j = s.size
    · have HV := Lib.hid (hst.out.trans (if_pos (.inl hj)))
      have hjb : ((j : Int) == (s.size : Int)) = true := by simp [hj]
      clear hj
      go_wp2_with (fail)
      refine hw.out.mono ?_
      rintro e w' ⟨rfl, rfl⟩
      go_wp2_with (fail)
      go_ret
      exact ⟨by rw [HV.out]; rfl, HB.out⟩
    · have hjl : j < s.size := by omega
      have hjl' : (j : Int) < (s.size : Int) := by omega
      have hjb : ((j : Int) == (s.size : Int)) = false := by simp; omega
      have hat := at_get s j hjl
      have h35 : (s[j] != 35) = ((s[j].toNat : Int) != 35) := by
        unfold bne
        rw [u8_eq s[j] 35]
        rfl
      cases hc : ((s[j].toNat : Int) != 35) with
      | true =>
        have HV := Lib.hid (hst.out.trans (if_pos (.inr (by rw [hat]; intro e; rw [hc, e] at h35; cases h35))))
        clear hat h35 hj
        go_wp2_with (fail)
        refine hw.out.mono ?_
        rintro e w' ⟨rfl, rfl⟩
        go_wp2_with (fail)
        go_ret
        exact ⟨by rw [HV.out]; rfl, HB.out⟩
      | false =>
        have e35 : at_ s.data.toList j = 35 := by
          rw [hat]
          rw [hc] at h35
          simpa using h35
        have HV := Lib.hid (hst.out.trans (if_neg (by intro h; rcases h with h | h; exact hj h; exact h e35)))
        have hy2 := hy.out hjl (by rw [e35]; rfl)
        have hb3 := (hb2.out (by omega)).2
        have hn2 := Lib.hid (hn.out (by omega))
        generalize run s.data.toList notNl j = m at *
        clear hat h35 hj e35 hn hy hb2 hst
        go_wp2_with (fail)
        refine hw.out.mono ?_
        rintro e w' ⟨rfl, rfl⟩
        go_wp2_with (fail)
        refine hn2.out.mono ?_
        rintro e w' ⟨rfl, rfl⟩
        go_wp2_with (fail)
        exact ⟨⟨m, f', hb3, rfl, by omega, HV⟩, by simp [intOf]; omega⟩
end Go.Proofs.YtlpoeflbnpbmgaaGreatDoor.Lx
set_option linter.unusedVariables false
namespace Go.Proofs.YtlpoeflbnpbmgaaGreatDoor.Lx
open Go.RowKit

theorem enterK58 : ∀ args w, (callFunc 116 args).run Tryz.prog w = .ok (.enter 116 args) w := enters_of Tryz.func116 (by kernel_rfl) rfl

set_option maxHeartbeats 400000 in
/-- 'while' with a method value -/
theorem while_first (K : Nat) (first : Value) (p : Nat → Bool) (s : ByteArray) (g i : Nat) (w : World) (hs : s.size ≤ 1000000) (hi : i ≤ s.size) (hg : w.cell? ⟨g, 0, none⟩ = some (.string s))
    (eK : ∀ args w, (callFunc K args).run Tryz.prog w = .ok (.enter K args) w)
    (hK : ∀ j n : Nat, j < s.size → Calls Tryz.prog K #[first, .int .i64 (j : Int)] (w.drewN n) fun e w' => e = .returned (.bool (p j)) ∧ ∃ m, w' = w.drewN m) :
    Calls Tryz.prog 107 #[.pointer (some ⟨g, 0, none⟩), .int .i64 (i : Int), .func (.func K) #[first] #[]] w fun e w' => e = .returned (.int .i64 (whl p (s.size - i) i : Int)) ∧ ∃ m, w' = w.drewN m := by
  have HK := Lib.hid hK
  clear hK
  go_enter Tryz.func107, Tryz.ntmps107
  go_wp2_with (fail)
  go_loopw [1] (fun x wr => ∃ k n : Nat, k ≤ s.size ∧ x = .int .i64 (k : Int) ∧ wr = w.drewN n ∧ Hid (whl p (s.size - i) i = whl p (s.size - k) k)) (fun x _ => s.size - (intOf x).toNat)
  case atStart => exact ⟨i, 0, hi, rfl, rfl, rfl⟩
  case round =>
    obtain ⟨k, n, hk, rfl, rfl, hw⟩ := hrel
    by_cases hlt : k < s.size
    · have hlt' : (k : Int) < (s.size : Int) := by omega
      have hc := Lib.hid (HK.out k n hlt)
      cases hp : p k with
      | true =>
        have HN := Lib.hid (hw.out.trans (whl_yes p s.size k hlt hp))
        rw [hp] at hc
        clear hp
        go_wp2_with (fail)
        refine hc.out.mono ?_
        rintro e w' ⟨rfl, m, rfl⟩
        go_wp2_with (fail)
        exact ⟨⟨k + 1, m, by omega, by go_num, rfl, HN⟩, by simp [intOf]; omega⟩
      | false =>
        have HN := Lib.hid (hw.out.trans (whl_no p (s.size - k) k hp))
        rw [hp] at hc
        clear hp
        go_wp2_with (fail)
        refine hc.out.mono ?_
        rintro e w' ⟨rfl, m, rfl⟩
        go_wp2_with (fail)
        go_ret
        exact ⟨by rw [HN.out]; rfl, m, rfl⟩
    · have hlt' : (s.size : Int) ≤ (k : Int) := by omega
      have HN := Lib.hid (hw.out.trans (whl_end p s.size k hlt))
      go_wp2_with (fail)
      go_ret
      exact ⟨by rw [HN.out]; rfl, n, rfl⟩

/-- the end of the wrong bytes from a place on -/
def wrongTo (l : List UInt8) (i : Nat) : Nat := whl (wrongAt l) (l.length - i) i

theorem while_wrong (s : ByteArray) (g i : Nat) (w : World) (hs : s.size ≤ 1000000) (hi : i ≤ s.size) (h2 : w.cell? ⟨g, 0, none⟩ = some (.string s)) :
    Calls Tryz.prog 107 #[.pointer (some ⟨g, 0, none⟩), .int .i64 (i : Int), .func (.func 116) #[.pointer (some ⟨g, 0, none⟩)] #[]] w fun e w' => e = .returned (.int .i64 (wrongTo s.data.toList i : Int)) ∧ ∃ m, w' = w.drewN m := by
  have a := while_first _ (.pointer (some ⟨g, 0, none⟩)) (wrongAt s.data.toList) s g i w hs hi h2 enterK58 (fun j n hj => (wrong_any s g j (w.drewN n) hs hj h2).mono fun e w' h => ⟨h.1, by obtain ⟨m, hm⟩ := h.2; exact ⟨n + m, by rw [hm, World.drewN_drewN]⟩⟩)
  unfold wrongTo
  rwa [show s.data.toList.length = s.size from by simp]

/-- the kind and the end of the token at a place -/
def tokAt (l : List UInt8) (i : Nat) : Nat × Nat :=
  if i = l.length then (5, i)
  else if letter (at_ l i) then (if isKw ((l.take (run l inName i)).drop i) then 1 else 0, run l inName i)
  else if digit (at_ l i) then (2, run l digit i)
  else if 0 < sym l i then (3, i + sym l i)
  else (4, wrongTo l i)

theorem slice_list (s : ByteArray) (i m : Nat) : (s.extract i m).data.toList = (s.data.toList.take m).drop i := by simp [ByteArray.data_extract, List.drop_take]

end Go.Proofs.YtlpoeflbnpbmgaaGreatDoor.Lx
set_option linter.unusedVariables false
namespace Go.Proofs.YtlpoeflbnpbmgaaGreatDoor.Lx
open Go.RowKit

/-- the world with the receiver's box -/
def scBox (w : World) (g : Nat) : World := w.alloc (.cells #[.pointer (some ⟨g, 0, none⟩)] 119)
theorem scBox_own (w : World) (g : Nat) : (scBox w g).cell? ⟨w.heap.size, 0, none⟩ = some (.pointer (some ⟨g, 0, none⟩)) := by
  unfold scBox
  rw [Lib.cell_of_heap (heap_alloc_new w _)]
  rfl
theorem scBox_far (w : World) (g : Nat) (v : Value) (o : Nat) (h : w.cell? ⟨g, o, none⟩ = some v) : (scBox w g).cell? ⟨g, o, none⟩ = some v := (World.cell?_alloc_lt w _ _ (World.block_lt_of_cell? w _ h)).trans h
theorem scBox_below (w : World) (g : Nat) : Below w.heap.size w (scBox w g) := (Below.refl w.heap.size w).alloc (Nat.le_refl _) _

theorem run_makeFunc (fn : Fn) (first cap : Array Value) (w : World) : (Instr.makeFunc fn first cap).run Tryz.prog w = .ok (.func fn first cap) w := rfl

theorem ret_tok {a b c d : Int} (h1 : a = b) (h2 : c = d) : Ending.returned (.tuple #[.int .i64 a, .int .i64 c]) = .returned (.tuple #[.int .i64 b, .int .i64 d]) := by rw [h1, h2]

set_option maxHeartbeats 1000000 in
theorem token_end (s : ByteArray) (g b : Nat) (a : Int) (w : World) (hs : s.size ≤ 1000000) (h : Sc w g b s a) :
    Calls Tryz.prog 101 #[.pointer (some ⟨g, 0, none⟩), .int .i64 (s.size : Int)] w fun e w' => e = .returned (.tuple #[.int .i64 5, .int .i64 (s.size : Int)]) ∧ Below w.heap.size w w' := by
  have k1 := scBox_own w g
  have k2 := scBox_far w g _ _ h.c0
  have HB := Lib.hid (scBox_below w g)
  unfold scBox at k1 k2 HB
  clear h
  go_enter Tryz.func101, Tryz.ntmps101
  go_wp2_with (fail)
  go_ret2
  exact ⟨rfl, HB.out⟩

set_option maxHeartbeats 1000000 in
theorem token_word (s : ByteArray) (g b i : Nat) (a : Int) (w : World) (hs : s.size ≤ 1000000) (hi : i < s.size) (h : Sc w g b s a) (hl : letter s[i] = true) :
    Calls Tryz.prog 101 #[.pointer (some ⟨g, 0, none⟩), .int .i64 (i : Int)] w fun e w' => e = .returned (.tuple #[.int .i64 (if isKw ((s.data.toList.take (run s.data.toList inName i)).drop i) then 1 else 0), .int .i64 (run s.data.toList inName i : Int)]) ∧ Below w.heap.size w w' := by
  have k1 := scBox_own w g
  have k2 := scBox_far w g _ _ h.c0
  have k3 := scBox_far w g _ _ h.c1
  have HB := Lib.hid (scBox_below w g)
  have HW := Lib.hid (while_inName s w.heap.size g i (scBox w g) hs (by omega) k1 k2)
  have HL := Lib.hid (letter_any s[i] (scBox w g))
  rw [hl] at HL
  have hbd := run_bd s.data.toList inName i (by simp; omega)
  rw [show s.data.toList.length = s.size from by simp] at hbd
  have hK : KwMap (scBox w g) b := h.2.below (scBox_below w g)
  generalize run s.data.toList inName i = m at *
  rw [← slice_list]
  have hsz : (s.extract i m).size ≤ maxLen := by simp [ByteArray.size_extract, maxLen]; omega
  cases hq : isKw (s.extract i m).data.toList with
  | true =>
    have hlk : ∀ n : Nat, (Instr.lookup 130 (.map (some b)) (.string (s.extract i m)) false).run Tryz.prog ((scBox w g).drewN n) = .ok (.bool true) ((scBox w g).drewN n) := fun n => ((hK.drew n).look _ hsz).trans (by rw [hq])
    have hi' : (i : Int) < (s.size : Int) := by omega
    have hne : ((i : Int) == (s.size : Int)) = false := by simp; omega
    have hbd1 : (i : Int) ≤ (m : Int) := by omega
    have hbd2 : (m : Int) ≤ (s.size : Int) := by omega
    have hmf := run_makeFunc
    unfold scBox at k1 k2 k3 HB HW HL hlk
    clear h hK hl hq
    go_enter Tryz.func101, Tryz.ntmps101
    go_wp2_with (fail)
    refine HL.out.mono ?_
    rintro e w' ⟨rfl, rfl⟩
    go_wp2_with (fail)
    refine HW.out.mono ?_
    rintro e w' ⟨rfl, rfl⟩
    go_wp2_with (fail)
    go_quiet (fail)
    go_wp2_with (fail)
    go_ret2
    exact ⟨rfl, below_drewN HB.out _⟩
  | false =>
    have hlk : ∀ n : Nat, (Instr.lookup 130 (.map (some b)) (.string (s.extract i m)) false).run Tryz.prog ((scBox w g).drewN n) = .ok (.bool false) ((scBox w g).drewN n) := fun n => ((hK.drew n).look _ hsz).trans (by rw [hq])
    have hi' : (i : Int) < (s.size : Int) := by omega
    have hne : ((i : Int) == (s.size : Int)) = false := by simp; omega
    have hbd1 : (i : Int) ≤ (m : Int) := by omega
    have hbd2 : (m : Int) ≤ (s.size : Int) := by omega
    have hmf := run_makeFunc
    unfold scBox at k1 k2 k3 HB HW HL hlk
    clear h hK hl hq
    go_enter Tryz.func101, Tryz.ntmps101
    go_wp2_with (fail)
    refine HL.out.mono ?_
    rintro e w' ⟨rfl, rfl⟩
    go_wp2_with (fail)
    refine HW.out.mono ?_
    rintro e w' ⟨rfl, rfl⟩
    go_wp2_with (fail)
    go_quiet (fail)
    go_wp2_with (fail)
    go_ret2
    exact ⟨rfl, below_drewN HB.out _⟩

set_option maxHeartbeats 1000000 in
theorem token_number (s : ByteArray) (g b i : Nat) (a : Int) (w : World) (hs : s.size ≤ 1000000) (hi : i < s.size) (h : Sc w g b s a) (hl : letter s[i] = false) (hd : digit s[i] = true) :
    Calls Tryz.prog 101 #[.pointer (some ⟨g, 0, none⟩), .int .i64 (i : Int)] w fun e w' => e = .returned (.tuple #[.int .i64 2, .int .i64 (run s.data.toList digit i : Int)]) ∧ Below w.heap.size w w' := by
  have k1 := scBox_own w g
  have k2 := scBox_far w g _ _ h.c0
  have HB := Lib.hid (scBox_below w g)
  have HW := Lib.hid (while_digit s w.heap.size g i (scBox w g) hs (by omega) k1 k2)
  have HL := Lib.hid (letter_any s[i] (scBox w g))
  have HD := Lib.hid (digit_any s[i] (scBox w g))
  rw [hl] at HL
  rw [hd] at HD
  generalize run s.data.toList digit i = m at *
  have hi' : (i : Int) < (s.size : Int) := by omega
  have hne : ((i : Int) == (s.size : Int)) = false := by simp; omega
  have hmf := run_makeFunc
  unfold scBox at k1 k2 HB HW HL HD
  clear h hl hd
  go_enter Tryz.func101, Tryz.ntmps101
  go_wp2_with (fail)
  refine HL.out.mono ?_
  rintro e w' ⟨rfl, rfl⟩
  go_wp2_with (fail)
  refine HD.out.mono ?_
  rintro e w' ⟨rfl, rfl⟩
  go_wp2_with (fail)
  refine HW.out.mono ?_
  rintro e w' ⟨rfl, rfl⟩
  go_wp2_with (fail)
  go_ret2
  exact ⟨rfl, HB.out⟩

set_option maxHeartbeats 1000000 in
theorem token_other (s : ByteArray) (g b i : Nat) (a : Int) (w : World) (hs : s.size ≤ 1000000) (hi : i < s.size) (h : Sc w g b s a) (hl : letter s[i] = false) (hd : digit s[i] = false) :
    Calls Tryz.prog 101 #[.pointer (some ⟨g, 0, none⟩), .int .i64 (i : Int)] w fun e w' => e = .returned (.tuple #[.int .i64 (if 0 < sym s.data.toList i then 3 else 4), .int .i64 ((if 0 < sym s.data.toList i then i + sym s.data.toList i else wrongTo s.data.toList i : Nat) : Int)]) ∧ Below w.heap.size w w' := by
  have k1 := scBox_own w g
  have k2 := scBox_far w g _ _ h.c0
  have hgl := Nat.lt_of_lt_of_le h.lt (scBox_below w g).size
  have HB := Lib.hid (scBox_below w g)
  have HS := Lib.hid (symbol_any s g i (scBox w g) hs hi k2)
  have HW := Lib.hid (fun n => while_wrong s g i ((scBox w g).drewN n) hs (by omega) k2)
  have HL := Lib.hid (letter_any s[i] (scBox w g))
  have HD := Lib.hid (digit_any s[i] (scBox w g))
  rw [hl] at HL
  rw [hd] at HD
  have hsy : sym s.data.toList i ≤ 2 := by unfold sym; split <;> (try split) <;> omega
  generalize sym s.data.toList i = y at *
  generalize wrongTo s.data.toList i = m at *
  have hi' : (i : Int) < (s.size : Int) := by omega
  have hne : ((i : Int) == (s.size : Int)) = false := by simp; omega
  have hmf := run_makeFunc
  unfold scBox at k1 k2 HB HW HL HD HS
  clear h hl hd hgl
  by_cases hy : 0 < y
  · have hy' : (0 : Int) < (y : Int) := by omega
    go_enter Tryz.func101, Tryz.ntmps101
    go_wp2_with (fail)
    refine HL.out.mono ?_
    rintro e w' ⟨rfl, rfl⟩
    go_wp2_with (fail)
    refine HD.out.mono ?_
    rintro e w' ⟨rfl, rfl⟩
    go_wp2_with (fail)
    refine HS.out.mono ?_
    rintro e w' ⟨rfl, n, rfl⟩
    go_wp2_with (fail)
    go_ret2
    exact ⟨ret_tok (by first | rfl | rw [if_pos hy]) (by first | rfl | (rw [if_pos hy]; rfl)), below_drewN HB.out _⟩
  · have hy' : (y : Int) ≤ 0 := by omega
    go_enter Tryz.func101, Tryz.ntmps101
    go_wp2_with (fail)
    refine HL.out.mono ?_
    rintro e w' ⟨rfl, rfl⟩
    go_wp2_with (fail)
    refine HD.out.mono ?_
    rintro e w' ⟨rfl, rfl⟩
    go_wp2_with (fail)
    refine HS.out.mono ?_
    rintro e w' ⟨rfl, n, rfl⟩
    go_wp2_with (fail)
    refine (HW.out n).mono ?_
    rintro e w' ⟨rfl, n2, rfl⟩
    go_wp2_with (fail)
    go_ret2
    exact ⟨ret_tok (by first | rfl | rw [if_neg hy]) (by first | rfl | rw [if_neg hy]), below_drewN HB.out _⟩

theorem token_any (s : ByteArray) (g b i : Nat) (a : Int) (w : World) (hs : s.size ≤ 1000000) (hi : i ≤ s.size) (h : Sc w g b s a) :
    Calls Tryz.prog 101 #[.pointer (some ⟨g, 0, none⟩), .int .i64 (i : Int)] w fun e w' => e = .returned (.tuple #[.int .i64 ((tokAt s.data.toList i).1 : Int), .int .i64 ((tokAt s.data.toList i).2 : Int)]) ∧ Below w.heap.size w w' := by
  have hl : s.data.toList.length = s.size := by simp
  unfold tokAt
  rw [hl]
  by_cases h0 : i = s.size
  · subst h0
    rw [if_pos rfl]
    exact token_end s g b a w hs h
  · rw [if_neg h0]
    have hlt : i < s.size := by omega
    rw [at_get s i hlt]
    cases h1 : letter s[i] with
    | true =>
      rw [if_pos rfl]
      have := token_word s g b i a w hs hlt h h1
      refine this.mono ?_
      rintro e w' ⟨rfl, hb⟩
      refine ⟨ret_tok ?_ rfl, hb⟩
      split <;> rfl
    | false =>
      rw [if_neg (by simp)]
      cases h2 : digit s[i] with
      | true =>
        rw [if_pos rfl]
        exact token_number s g b i a w hs hlt h h1 h2
      | false =>
        rw [if_neg (by simp)]
        refine (token_other s g b i a w hs hlt h h1 h2).mono ?_
        rintro e w' ⟨rfl, hb⟩
        refine ⟨ret_tok ?_ ?_, hb⟩
        · split <;> rfl
        · split <;> rfl
end Go.Proofs.YtlpoeflbnpbmgaaGreatDoor.Lx
set_option linter.unusedVariables false
namespace Go.Proofs.YtlpoeflbnpbmgaaGreatDoor.Lx
open Go.RowKit

/-- a token -/
structure Tok where
  kind : Int
  lo : Int
  at_ : Int
  hi : Int
  deriving DecidableEq
def tokV (t : Tok) : Value := .agg #[.int .i64 t.kind, .int .i64 t.lo, .int .i64 t.at_, .int .i64 t.hi]

/-- the token behind a place -/
def nextTok (l : List UInt8) (i : Nat) : Tok := ⟨((tokAt l (blank l i)).1 : Nat), i, (blank l i : Nat), ((tokAt l (blank l i)).2 : Nat)⟩

theorem blank_bd (l : List UInt8) (i : Nat) (hi : i ≤ l.length) : i ≤ blank l i ∧ blank l i ≤ l.length := blk_bd l _ i hi
theorem sym_bd (l : List UInt8) (i : Nat) (hi : i < l.length) : i + sym l i ≤ l.length := by
  unfold sym
  split
  · rename_i h
    unfold two at h
    simp at h
    omega
  · split <;> omega
theorem tokAt_bd (l : List UInt8) (i : Nat) (hi : i ≤ l.length) : i ≤ (tokAt l i).2 ∧ (tokAt l i).2 ≤ l.length := by
  unfold tokAt
  split
  · exact ⟨Nat.le_refl _, hi⟩
  · split
    · exact run_bd l inName i hi
    · split
      · exact run_bd l digit i hi
      · split
        · exact ⟨by show i ≤ i + sym l i; omega, sym_bd l i (by omega)⟩
        · have := whl_bd (wrongAt l) (l.length - i) i
          exact ⟨by show i ≤ wrongTo l i; unfold wrongTo; omega, by show wrongTo l i ≤ l.length; unfold wrongTo; omega⟩

theorem grownBy_of_below {w w' : World} (h : Below w.heap.size w w') (row : Option Nat) : w.grownBy w' row := ⟨h.os, h.tape, h.output, h.size, fun k hk _ => h.block k hk⟩
theorem grownBy_setCell {w : World} {p : Addr} (u : Value) : w.grownBy (w.setCell p u) (some p.block) :=
  ⟨rfl, rfl, rfl, by simp [World.setCell], fun k hk hne => Below.heap_setCell w p u k (fun e => hne (by rw [e]))⟩

theorem cells4 {w : World} {g : Nat} {E : TypeId} {a b c d : Value} (h : w.heap[g]? = some (.cells #[a, b, c, d] E (0, 0))) : w.cell? ⟨g, 0, none⟩ = some a ∧ w.cell? ⟨g, 1, none⟩ = some b ∧ w.cell? ⟨g, 2, none⟩ = some c ∧ w.cell? ⟨g, 3, none⟩ = some d ∧ w.frozen? ⟨g, 0, none⟩ = false := by simp [World.cell?, World.frozen?, h]

theorem KwMap.lt {w : World} {b : Nat} (h : KwMap w b) : b < w.heap.size := by
  obtain ⟨n, h⟩ := h
  exact h.lt
theorem KwMap.kept {w w' : World} {b : Nat} {row : Option Nat} (h : KwMap w b) (hg : w.grownBy w' row) (hne : some b ≠ row) : KwMap w' b := by
  obtain ⟨n, h⟩ := h
  exact ⟨n, h.kept hg hne⟩
theorem Sc.ne {w : World} {g b : Nat} {s : ByteArray} {a : Int} (h : Sc w g b s a) : b ≠ g := by
  intro e
  obtain ⟨h1, n, es, clock, hb, _⟩ := h
  rw [e, h1] at hb
  simp at hb
theorem Sc.kept {w w' : World} {g b : Nat} {s : ByteArray} {a : Int} {row : Option Nat} (h : Sc w g b s a) (hg : w.grownBy w' row) (h1 : some g ≠ row) (h2 : some b ≠ row) : Sc w' g b s a := ⟨(hg.block g h.lt h1).trans h.1, h.2.kept hg h2⟩
theorem Sc.set {w : World} {g b : Nat} {s : ByteArray} {a : Int} (h : Sc w g b s a) (c : Int) : Sc (w.setCell ⟨g, 2, none⟩ (.int .i64 c)) g b s c := by
  refine ⟨?_, h.2.kept (grownBy_setCell (p := ⟨g, 2, none⟩) _) (by simpa using h.ne)⟩
  simp only [World.setCell, Array.getElem?_modify]
  rw [h.1]
  simp

set_option maxHeartbeats 1000000 in
theorem next_any (s : ByteArray) (g b i : Nat) (w : World) (hs : s.size ≤ 1000000) (hi : i ≤ s.size) (h : Sc w g b s i) :
    Calls Tryz.prog 88 #[.pointer (some ⟨g, 0, none⟩)] w fun e w' => e = .returned (tokV (nextTok s.data.toList i)) ∧ Sc w' g b s (nextTok s.data.toList i).hi ∧ w.grownBy w' (some g) := by
  have hl : s.data.toList.length = s.size := by simp
  have hbd := blank_bd s.data.toList i (by omega)
  have htb := tokAt_bd s.data.toList (blank s.data.toList i) (by omega)
  unfold nextTok tokV
  rw [hl] at hbd htb
  have hb0 := (Below.refl w.heap.size w).alloc (Nat.le_refl _) (.cells #[.int .i64 0, .int .i64 0, .int .i64 0, .int .i64 0] 118)
  have h1 := h.below hb0
  have k2 := h1.c2
  have HBl := Lib.hid (blank_any s g i (w.alloc (.cells #[.int .i64 0, .int .i64 0, .int .i64 0, .int .i64 0] 118)) hs hi h1.c0 h1.lt)
  have HT := Lib.hid (fun w1 (h : Sc w1 g b s i) => token_any s g b (blank s.data.toList i) i w1 hs hbd.2 h)
  have HS := Lib.hid h1
  have HB := Lib.hid hb0
  clear hb0 h1
  generalize blank s.data.toList i = m at *
  generalize tokAt s.data.toList m = z at *
  go_enter Tryz.func88, Tryz.ntmps88
  go_wp2_with (fail)
  refine HBl.out.mono ?_
  rintro e w1 ⟨rfl, hb1⟩
  have s1 := HS.out.below hb1
  go_wp2_with (fail)
  refine (HT.out w1 s1).mono ?_
  rintro e w2 ⟨rfl, hb2⟩
  have s2 := s1.below hb2
  have c2 := s2.c2
  have f2 := s2.fz
  have hbn : w2.heap[w.heap.size]? = some (.cells #[.int .i64 0, .int .i64 0, .int .i64 0, .int .i64 0] 118 (0, 0)) := by
    rw [hb2.block _ (by have := hb1.size; simp at this; omega), hb1.block _ (by simp)]
    exact heap_alloc_new w _
  obtain ⟨z0, z1, z2, z3, y0⟩ := cells4 hbn
  have hgn : (g = w.heap.size) = False := by simp; have := h.lt; omega
  have hgn2 : (w.heap.size = g) = False := by simp; have := h.lt; omega
  have hgw : ∀ k, w2.frozen? ⟨w.heap.size, k, none⟩ = false := fun k => by simp [World.frozen?, hbn]
  clear hbn
  have hsz2 : w.heap.size < w2.heap.size := by have e1 := hb1.size; have e2 := hb2.size; simp at e1; omega
  have HS2 := Lib.hid s2
  have HB2 := Lib.hid ((HB.out.trans (hb1.mono (by simp))).trans (hb2.mono (by have e1 := hb1.size; simp at e1; omega)))
  clear s1 s2 hb1 hb2
  go_wp2_with (fail)
  refine bodyPost_ret (v := .agg #[.int .i64 (z.1 : Int), .int .i64 (i : Int), .int .i64 (m : Int), .int .i64 (z.2 : Int)]) (by simp [results, Tryz.results88, go_sem, hgn, z0, z1, z2, z3]) rfl ⟨rfl, ?_⟩
  have hg0 := h.lt
  have hb0 := h.2.lt
  refine ⟨?_, ?_⟩
  · refine ((((HS2.out.set _).kept (grownBy_setCell (p := ⟨w.heap.size, 0, none⟩) _) ?_ ?_).kept (grownBy_setCell (p := ⟨w.heap.size, 1, none⟩) _) ?_ ?_).kept (grownBy_setCell (p := ⟨w.heap.size, 2, none⟩) _) ?_ ?_).kept (grownBy_setCell (p := ⟨w.heap.size, 3, none⟩) _) ?_ ?_
    all_goals simp; omega
  · have q0 := grownBy_of_below HB2.out (some g)
    have q1 := q0.trans (grownBy_setCell (p := ⟨g, 2, none⟩) (.int .i64 (z.2 : Int)))
    have hh : ∀ (W : World) (k : Nat) (v : Value), w.grownBy W (some g) → w.grownBy (W.setCell ⟨w.heap.size, k, none⟩ v) (some g) := fun W k v hW => ⟨hW.os, hW.tape, hW.output, by simpa [World.setCell] using hW.size, fun j hj hne => (Below.heap_setCell W ⟨w.heap.size, k, none⟩ v j (by show j ≠ w.heap.size; omega)).trans (hW.block j hj hne)⟩
    exact hh _ _ _ (hh _ _ _ (hh _ _ _ (hh _ _ _ q1)))

set_option maxHeartbeats 1000000 in
theorem newScanner_any (s : ByteArray) (w : World) :
    Calls Tryz.prog 87 #[.string s] w fun e w' => ∃ g b, e = .returned (.pointer (some ⟨g, 0, none⟩)) ∧ Sc w' g b s ((0 : Nat) : Int) ∧ w.heap.size ≤ g ∧ Below w.heap.size w w' := by
  have HK := Lib.hid (keywords_any w)
  go_enter Tryz.func87, Tryz.ntmps87
  go_wp2_with (fail)
  refine HK.out.mono ?_
  rintro e w1 ⟨rfl, hk, hb⟩
  have HK1 := Lib.hid hk
  have HB := Lib.hid hb
  clear hk hb
  go_wp2_with (fail)
  go_ret
  have hz := HB.out.size
  exact ⟨_, _, rfl, ⟨heap_alloc_new w1 _, HK1.out.below ((Below.refl _ _).alloc (Nat.le_refl _) _)⟩, hz, HB.out.alloc hz _⟩
end Go.Proofs.YtlpoeflbnpbmgaaGreatDoor.Lx
set_option linter.unusedVariables false
namespace Go.Proofs.YtlpoeflbnpbmgaaGreatDoor.Lx
open Go.RowKit

/-- behind blanks there is neither white space nor a comment -/
theorem blk_stop (l : List UInt8) : ∀ f i, i ≤ l.length → l.length - i < f → blk l f i < l.length → white (at_ l (blk l f i)) = false ∧ at_ l (blk l f i) ≠ 35 := by
  intro f
  induction f with
  | zero => intro i h1 h2; omega
  | succ f ih =>
    intro i h1 h2 h3
    rw [blk_step] at h3 ⊢
    have a := run_bd l white i h1
    split at h3
    · rename_i h
      rw [if_pos h]
      have hne : at_ l (run l white i) ≠ 35 := by
        rcases h with h | h
        · omega
        · exact h
      refine ⟨?_, hne⟩
      have := whl_stop (fun j => white (at_ l j)) (l.length - i) i (by unfold run at h3; omega)
      exact this
    · rename_i h
      rw [if_neg h]
      have hlt : run l white i < l.length := by
        rcases Nat.lt_or_ge (run l white i) l.length with h' | h'
        · exact h'
        · exact absurd (.inl (by omega)) h
      have h35 : at_ l (run l white i) = 35 := by
        rcases Classical.em (at_ l (run l white i) = 35) with e | e
        · exact e
        · exact absurd (.inr e) h
      have b := run_yes l notNl (run l white i) hlt (by rw [h35]; rfl)
      have c := run_bd l notNl (run l white i) a.2
      exact ih _ c.2 (by omega) h3
theorem blank_stop (l : List UInt8) (i : Nat) (hi : i ≤ l.length) (h : blank l i < l.length) : white (at_ l (blank l i)) = false ∧ at_ l (blank l i) ≠ 35 :=
  blk_stop l _ i hi (by omega) h

theorem tokAt_end (l : List UInt8) (i : Nat) (hi : i ≤ l.length) : ((tokAt l i).1 = 5 ↔ i = l.length) := by
  unfold tokAt
  constructor
  · intro h
    split at h
    · assumption
    · split at h
      · simp only at h
        split at h <;> omega
      · split at h
        · simp at h
        · split at h <;> simp at h
  · intro h
    rw [if_pos h]
theorem tokAt_le (l : List UInt8) (i : Nat) : (tokAt l i).1 ≤ 5 := by
  unfold tokAt
  split
  · simp
  · split
    · simp only
      split <;> omega
    · split
      · simp
      · split <;> simp
theorem inName_letter (b : UInt8) (h : letter b = true) : inName b = true := by unfold inName; rw [h]; rfl
theorem tokAt_more (l : List UInt8) (i : Nat) (hi : i < l.length) (h1 : white (at_ l i) = false) (h2 : at_ l i ≠ 35) : i < (tokAt l i).2 := by
  unfold tokAt
  rw [if_neg (by omega)]
  split
  · rename_i h
    exact run_yes l inName i hi (inName_letter _ h)
  · split
    · rename_i h
      exact run_yes l digit i hi h
    · split
      · show i < i + sym l i
        omega
      · rename_i n1 n2 n3
        show i < wrongTo l i
        unfold wrongTo
        have hw : wrongAt l i = true := by
          unfold wrongAt
          rw [h1, show (at_ l i != 35) = true from by simpa using h2, show letter (at_ l i) = false from by simpa using n1, show digit (at_ l i) = false from by simpa using n2, show sym l i = 0 from by omega]
          rfl
        rw [whl_yes _ _ _ hi hw]
        have := whl_bd (wrongAt l) (l.length - (i + 1)) (i + 1)
        omega

theorem nextTok_end (l : List UInt8) (i : Nat) (hi : i ≤ l.length) : (nextTok l i).kind = 5 ↔ blank l i = l.length := by
  have := tokAt_end l (blank l i) (blank_bd l i hi).2
  unfold nextTok
  constructor
  · intro h
    exact this.1 (by have h' : ((tokAt l (blank l i)).1 : Int) = 5 := h; omega)
  · intro h
    show ((tokAt l (blank l i)).1 : Int) = 5
    rw [this.2 h]
    rfl
theorem nextTok_more (l : List UInt8) (i : Nat) (hi : i ≤ l.length) (h : (nextTok l i).kind ≠ 5) : (blank l i : Int) < (nextTok l i).hi := by
  have hb := blank_bd l i hi
  have hlt : blank l i < l.length := by
    rcases Nat.lt_or_ge (blank l i) l.length with h' | h'
    · exact h'
    · exact absurd ((nextTok_end l i hi).2 (by omega)) h
  have s := blank_stop l i hi hlt
  have := tokAt_more l (blank l i) hlt s.1 s.2
  show (blank l i : Int) < ((tokAt l (blank l i)).2 : Nat)
  omega
theorem nextTok_bd (l : List UInt8) (i : Nat) (hi : i ≤ l.length) : (i : Int) ≤ (nextTok l i).at_ ∧ (nextTok l i).at_ ≤ (nextTok l i).hi ∧ (nextTok l i).hi ≤ l.length ∧ 0 ≤ (nextTok l i).kind ∧ (nextTok l i).kind ≤ 5 ∧ (nextTok l i).lo = i := by
  have a := blank_bd l i hi
  have b := tokAt_bd l (blank l i) a.2
  have c := tokAt_le l (blank l i)
  unfold nextTok
  refine ⟨?_, ?_, ?_, ?_, ?_, rfl⟩ <;> simp only <;> omega

/-- the tokens from a place on -/
def scanTo (l : List UInt8) : Nat → Nat → List Tok
  | 0, _ => []
  | f + 1, i => nextTok l i :: if (nextTok l i).kind = 5 then [] else scanTo l f (nextTok l i).hi.toNat
theorem scanTo_step (l : List UInt8) (f i : Nat) : scanTo l (f + 1) i = nextTok l i :: if (nextTok l i).kind = 5 then [] else scanTo l f (nextTok l i).hi.toNat := rfl
theorem scanTo_fuel (l : List UInt8) : ∀ f g i, i ≤ l.length → l.length - i < f → l.length - i < g → scanTo l f i = scanTo l g i := by
  intro f
  induction f with
  | zero => intro g i h1 h2; omega
  | succ f ih =>
    intro g i h1 h2 h3
    obtain ⟨g', rfl⟩ : ∃ g', g = g' + 1 := ⟨g - 1, by omega⟩
    rw [scanTo_step, scanTo_step]
    split
    · rfl
    · rename_i h
      have a := nextTok_bd l i h1
      have b := nextTok_more l i h1 h
      have c := blank_bd l i h1
      rw [ih g' _ (by omega) (by omega) (by omega)]
/-- the tokens of a text -/
def scan (l : List UInt8) : List Tok := scanTo l (l.length + 1) 0
end Go.Proofs.YtlpoeflbnpbmgaaGreatDoor.Lx
set_option linter.unusedVariables false
namespace Go.Proofs.YtlpoeflbnpbmgaaGreatDoor.Lx
open Go.RowKit

/-- the number that digits are, behind a number -/
def num : List UInt8 → Nat → Option Nat
  | [], n => some n
  | b :: bs, n => if digit b then num bs (10 * n + (b.toNat - 48)) else none
def numOk (s : ByteArray) : Bool := decide (1 ≤ s.size) && decide (s.size ≤ 9) && (num s.data.toList 0).isSome
def numV (s : ByteArray) : Nat := if numOk s then (num s.data.toList 0).getD 0 else 0
theorem num_cons (b : UInt8) (bs : List UInt8) (n : Nat) : num (b :: bs) n = if digit b then num bs (10 * n + (b.toNat - 48)) else none := rfl
theorem num_step (l : List UInt8) (k n : Nat) (hk : k < l.length) (h : digit l[k] = true) : num (l.drop k) n = num (l.drop (k + 1)) (10 * n + (l[k].toNat - 48)) := by
  rw [List.drop_eq_getElem_cons hk, num_cons, if_pos h]
theorem num_halt (l : List UInt8) (k n : Nat) (hk : k < l.length) (h : digit l[k] = false) : num (l.drop k) n = none := by
  rw [List.drop_eq_getElem_cons hk, num_cons, h]
  rfl
theorem num_end (l : List UInt8) (k n : Nat) (hk : ¬ k < l.length) : num (l.drop k) n = some n := by
  rw [List.drop_of_length_le (by omega)]
  rfl
theorem digit_bd (b : UInt8) (h : digit b = true) : 48 ≤ b.toNat ∧ b.toNat ≤ 57 := by
  unfold digit at h
  simpa using h
theorem pow_step (n k d : Nat) (h : n < 10 ^ k) (hd : d ≤ 9) : 10 * n + d < 10 ^ (k + 1) := by
  rw [Nat.pow_succ]
  omega
theorem pow_small (n k : Nat) (h : n < 10 ^ k) (hk : k ≤ 9) : n < 1000000000 := by
  have : 10 ^ k ≤ 10 ^ 9 := Nat.pow_le_pow_right (by omega) hk
  have e : 10 ^ 9 = 1000000000 := by decide
  omega
theorem ret_num {a b : Int} {x y : Bool} (h1 : a = b) (h2 : x = y) : Ending.returned (.tuple #[.int .i64 a, .bool x]) = .returned (.tuple #[.int .i64 b, .bool y]) := by rw [h1, h2]
theorem numOk_len (s : ByteArray) (h : s.size < 1 ∨ 9 < s.size) : numOk s = false := by
  unfold numOk
  rcases h with h | h
  · rw [show decide (1 ≤ s.size) = false from decide_eq_false (by omega)]
    rfl
  · rw [show decide (s.size ≤ 9) = false from decide_eq_false (by omega)]
    simp
theorem numOk_some (s : ByteArray) (n : Nat) (h1 : 1 ≤ s.size) (h2 : s.size ≤ 9) (h : num s.data.toList 0 = some n) : numOk s = true ∧ numV s = n := by
  have a : numOk s = true := by
    unfold numOk
    rw [h]
    simp [h1, h2]
  exact ⟨a, by unfold numV; rw [a, h]; rfl⟩
theorem numOk_none (s : ByteArray) (h : num s.data.toList 0 = none) : numOk s = false := by
  unfold numOk
  rw [h]
  simp
theorem numV_no (s : ByteArray) (h : numOk s = false) : numV s = 0 := by unfold numV; rw [h]; rfl

set_option maxHeartbeats 1000000 in
theorem number_any (s : ByteArray) (w : World) :
    Calls Tryz.prog 31 #[.string s] w fun e w' => e = .returned (.tuple #[.int .i64 (numV s : Int), .bool (numOk s)]) ∧ w = w' := by
  by_cases hsz : s.size < 1 ∨ 9 < s.size
  · have h1 := numOk_len s hsz
    have h2 := numV_no s h1
    have HV := Lib.hid (And.intro h1 h2)
    clear h1 h2
    rcases hsz with h | h
    · go_enter Tryz.func31, Tryz.ntmps31
      go_wp2_with (fail)
      go_ret2
      exact ⟨ret_num (by rw [HV.out.2]; rfl) HV.out.1.symm, rfl⟩
    · go_enter Tryz.func31, Tryz.ntmps31
      go_wp2_with (fail)
      go_ret2
      exact ⟨ret_num (by rw [HV.out.2]; rfl) HV.out.1.symm, rfl⟩
  · have hll : s.data.toList.length = s.size := by simp
    have HL := Lib.hid hll
    have hs1 : 1 ≤ s.size := by omega
    have hs9 : s.size ≤ 9 := by omega
    have HD := Lib.hid (fun (k : Nat) (h : k < s.size) => digit_any s[k] w)
    have HS := Lib.hid (fun n => numOk_some s n hs1 hs9)
    have HN := Lib.hid (numOk_none s)
    clear hsz hll
    go_enter Tryz.func31, Tryz.ntmps31
    go_wp2_with (fail)
    go_loop [4, 5] (fun x i => ∃ k n : Nat, k ≤ s.size ∧ i = .int .i64 (k : Int) ∧ x = .int .i64 (n : Int) ∧ Hid (n < 10 ^ k) ∧ Hid (num s.data.toList 0 = num (s.data.toList.drop k) n)) (fun _ i => s.size - (intOf i).toNat)
    case atStart => exact ⟨0, 0, Nat.zero_le _, rfl, rfl, by show 0 < 10 ^ 0; decide, rfl⟩
    case round =>
      obtain ⟨k, n, hk, rfl, rfl, hp, hq⟩ := hrel
      by_cases hlt : k < s.size
      · have hlt' : (k : Int) < (s.size : Int) := by omega
        have hll := HL.out
        have hget : s.data.toList[k]'(by omega) = s[k] := rfl
        have hd := Lib.hid (HD.out k hlt)
        have hn := pow_small n k hp.out (by omega)
        cases c : digit s[k] with
        | true =>
          have hb := digit_bd s[k] c
          have HP := Lib.hid (pow_step n k (s[k].toNat - 48) hp.out (by omega))
          have HQ := Lib.hid (hq.out.trans (num_step s.data.toList k n (by omega) (by rw [hget]; exact c)))
          rw [hget] at HQ
          rw [c] at hd
          clear c hget hll
          obtain ⟨d, hdd⟩ : ∃ d, d = s[k].toNat - 48 := ⟨_, rfl⟩
          rw [← hdd] at HP HQ
          have e1 : (s[k].toNat : Int) - 48 = (d : Int) := by omega
          have e2 : d ≤ 9 := by omega
          clear hdd
          go_wp2_with (fail)
          refine hd.out.mono ?_
          rintro e w' ⟨rfl, rfl⟩
          go_wp2_with (fail)
          exact ⟨⟨k + 1, 10 * n + d, by omega, by go_num, by go_num, HP, HQ⟩, by simp [intOf]; omega⟩
        | false =>
          have h1 := HN.out (hq.out.trans (num_halt s.data.toList k n (by omega) (by rw [hget]; exact c)))
          have HV := Lib.hid (And.intro h1 (numV_no s h1))
          rw [c] at hd
          clear c hget hll h1
          go_wp2_with (fail)
          refine hd.out.mono ?_
          rintro e w' ⟨rfl, rfl⟩
          go_wp2_with (fail)
          go_ret2
          exact ⟨ret_num (by rw [HV.out.2]; rfl) HV.out.1.symm, rfl⟩
      · have HV := Lib.hid (HS.out n (hq.out.trans (num_end s.data.toList k n (by rw [HL.out]; exact hlt))))
        have hlt' : (s.size : Int) ≤ (k : Int) := by omega
        go_wp2_with (fail)
        go_ret2
        exact ⟨ret_num (by rw [HV.out.2]) HV.out.1.symm, rfl⟩

end Go.Proofs.YtlpoeflbnpbmgaaGreatDoor.Lx
set_option linter.unusedVariables false
namespace Go.Proofs.YtlpoeflbnpbmgaaGreatDoor.Lx
open Go.RowKit

theorem ret_bool {a b : Bool} (h : a = b) : Ending.returned (.bool a) = .returned (.bool b) := by rw [h]
def covB (t : Tok) (a e : Int) : Bool := decide (a < e) && t.at_ == a && t.hi == e

set_option maxHeartbeats 400000 in
theorem covers_any (t : Tok) (a e : Int) (w : World) :
    Calls Tryz.prog 89 #[tokV t, .int .i64 a, .int .i64 e] w fun r w' => r = .returned (.bool (covB t a e)) ∧ Below w.heap.size w w' := by
  have HV := Lib.hid (show covB t a e = (decide (a < e) && t.at_ == a && t.hi == e) from rfl)
  generalize covB t a e = z at *
  obtain ⟨kd, lo, ta, th⟩ := t
  unfold tokV
  simp only at HV
  go_enter Tryz.func89, Tryz.ntmps89
  go_wp2_with (fail)
  all_goals
    go_ret
    refine ⟨ret_bool ?_, (Below.refl _ _).alloc (Nat.le_refl _) _⟩
    rw [HV.out]
    simp_all
    try omega

theorem run_haltN (l : List UInt8) (p : UInt8 → Bool) (i : Nat) (h : p (at_ l i) = false) : run l p i = i := by
  unfold run
  exact whl_no _ _ _ h
theorem blank_noneN (l : List UInt8) (i : Nat) (hi : i < l.length) (h : white (at_ l i) = false) (h2 : at_ l i ≠ 35) : blank l i = i := by
  have hw : run l white i = i := run_haltN l white i h
  unfold blank
  rw [blk_step, hw, if_pos (.inr h2)]
def nameB (l : List UInt8) : Bool := decide (1 ≤ l.length) && decide (l.length ≤ 16) && letter (at_ l 0) && !isKw l && (tokAt l 0).2 == l.length

theorem letter_not (b : UInt8) (h : letter b = true) : white b = false ∧ b ≠ 35 := by
  unfold letter at h
  simp at h
  constructor
  · cases hw : white b with
    | false => rfl
    | true =>
      rw [white_eq] at hw
      simp at hw
      omega
  · rintro rfl
    have : (35 : UInt8).toNat = 35 := rfl
    omega
theorem letter_out (l : List UInt8) (h : letter (at_ l 0) = true) : 0 < l.length := by
  cases l with
  | nil => exact absurd h (by decide)
  | cons b bs => simp

theorem name_eq (l : List UInt8) : nameB l = (decide (l.length ≤ 16) && ((nextTok l 0).kind == 0 && covB (nextTok l 0) 0 l.length)) := by
  unfold nameB covB nextTok
  simp only
  rw [Bool.eq_iff_iff]
  simp only [Bool.and_eq_true, decide_eq_true_eq, beq_iff_eq, Bool.not_eq_true']
  constructor
  · rintro ⟨⟨⟨⟨h1, h2⟩, h3⟩, h4⟩, h5⟩
    have hb : blank l 0 = 0 := blank_noneN l 0 (by omega) (letter_not _ h3).1 (letter_not _ h3).2
    rw [hb]
    refine ⟨h2, ?_, ⟨by omega, rfl⟩, by omega⟩
    unfold tokAt at h5 ⊢
    rw [if_neg (by omega), if_pos h3] at h5 ⊢
    simp only at h5 ⊢
    rw [h5, List.take_length, List.drop_zero, h4]
    rfl
  · rintro ⟨h1, h2, ⟨h3, h4⟩, h5⟩
    have hb : blank l 0 = 0 := by omega
    rw [hb] at h2 h5
    have hlt : 0 < l.length := by omega
    have hle : letter (at_ l 0) = true := by
      cases hc : letter (at_ l 0) with
      | true => rfl
      | false =>
        unfold tokAt at h2
        rw [if_neg (by omega), hc, if_neg (by simp)] at h2
        split at h2
        · simp at h2
        · split at h2 <;> simp at h2
    refine ⟨⟨⟨⟨by omega, h1⟩, hle⟩, ?_⟩, by omega⟩
    unfold tokAt at h2 h5
    rw [if_neg (by omega), if_pos hle] at h2 h5
    simp only at h2 h5
    have e : run l inName 0 = l.length := by omega
    rw [e, List.take_length, List.drop_zero] at h2
    cases hk : isKw l with
    | false => rfl
    | true => rw [hk] at h2; simp at h2

set_option maxHeartbeats 1000000 in
theorem name_any (s : ByteArray) (w : World) :
    Calls Tryz.prog 64 #[.string s] w fun e w' => e = .returned (.bool (nameB s.data.toList)) ∧ Below w.heap.size w w' := by
  have hll : s.data.toList.length = s.size := by simp
  have hv := name_eq s.data.toList
  rw [hll] at hv
  by_cases hs : 16 < s.size
  · rw [show decide (s.size ≤ 16) = false from decide_eq_false (by omega)] at hv
    have HV := Lib.hid hv
    clear hv hll
    go_enter Tryz.func64, Tryz.ntmps64
    go_wp2_with (fail)
    go_ret
    exact ⟨ret_bool (by rw [HV.out]; rfl), Below.refl _ _⟩
  · rw [show decide (s.size ≤ 16) = true from decide_eq_true (by omega)] at hv
    have HN := Lib.hid (newScanner_any s w)
    have HX := Lib.hid (fun g b wr h => next_any s g b 0 wr (by omega) (Nat.zero_le _) h)
    generalize nextTok s.data.toList 0 = t at *
    have HC := Lib.hid (fun w => covers_any t 0 s.size w)
    unfold tokV at HX HC
    generalize nameB s.data.toList = z at *
    generalize covB t 0 s.size = y at *
    have HV := Lib.hid hv
    clear hv hll
    go_enter Tryz.func64, Tryz.ntmps64
    go_wp2_with (fail)
    refine HN.out.mono ?_
    rintro e w1 ⟨g, k, rfl, hsc, hge, hb1⟩
    have S1 := Lib.hid hsc
    have z1 := hb1.size
    have B1 := Lib.hid hb1
    clear hsc hb1
    go_wp2_with (fail)
    refine (HX.out g k w1 S1.out).mono ?_
    rintro e w2 ⟨rfl, hsc, hg⟩
    have hb2 := B1.out.grown hg z1 (fun k hk => by injection hk with hk; omega)
    have z2 := hb2.size
    have B2 := Lib.hid (hb2.alloc z2 (.cells #[.int .i64 t.kind, .int .i64 t.lo, .int .i64 t.at_, .int .i64 t.hi] 118))
    clear hsc hg hb2
    cases hk : (t.kind == 0) with
    | false =>
      rw [hk] at HV
      go_wp2_with (fail)
      go_ret
      exact ⟨ret_bool (by rw [HV.out]; rfl), B2.out⟩
    | true =>
      rw [hk] at HV
      go_wp2_with (fail)
      refine (HC.out _).mono ?_
      rintro e w3 ⟨rfl, hb3⟩
      have B3 := Lib.hid (B2.out.trans (hb3.mono (by simp; omega)))
      clear hb3
      go_wp2_with (fail)
      go_ret
      exact ⟨ret_bool (by rw [HV.out]; rfl), B3.out⟩

end Go.Proofs.YtlpoeflbnpbmgaaGreatDoor.Lx
