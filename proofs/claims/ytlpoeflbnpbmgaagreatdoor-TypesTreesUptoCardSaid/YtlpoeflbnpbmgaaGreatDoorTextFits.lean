/- What is proved: textFits says whether a node has a text that its kind can have. -/
import Derived.Test.YtlpoeflbnpbmgaaGreatDoorChecks
import Derived.Test.YtlpoeflbnpbmgaaGreatDoorLxName
set_option linter.unusedVariables false
namespace Go.Proofs.YtlpoeflbnpbmgaaGreatDoor
open Go.RowKit

/-- an operator with two operands -/
def opB (s : ByteArray) : Bool := decide (s.toList ∈ ([[111, 114], [97, 110, 100], [61, 61], [33, 61], [60], [60, 61], [62], [62, 61], [43], [45], [42], [47], [37]] : List (List UInt8)))
/-- a number without leading zeros -/
def plainB (s : ByteArray) : Bool := Lx.numOk s && (s.toList == [48] || !(Lx.at_ s.data.toList 0 == 48))
def nameT (s : ByteArray) : Bool := Lx.nameB s.data.toList
/-- the text that a kind can have -/
def textB (k : Int) (t : ByteArray) : Bool :=
  if k = 3 ∨ k = 4 ∨ k = 5 ∨ k = 7 ∨ k = 8 ∨ k = 12 ∨ k = 16 ∨ k = 19 ∨ k = 20 ∨ k = 22 ∨ k = 27 then nameT t
  else if k = 9 then (t.toList == [105, 110, 116] || t.toList == [98, 111, 111, 108]) || nameT t
  else if k = 10 ∨ k = 24 then plainB t
  else if k = 25 then t.toList == [116, 114, 117, 101] || t.toList == [102, 97, 108, 115, 101]
  else if k = 28 then t.toList == [45] || t.toList == [110, 111, 116]
  else if k = 29 then opB t
  else t.toList.isEmpty

set_option maxHeartbeats 4000000 in
theorem operator_any (s : ByteArray) (w : World) : Calls Tryz.prog 66 #[.string s] w fun e w' => e = .returned (.bool (opB s)) ∧ w = w' := by
  cases h0 : (s.toList == [111, 114]) with
  | true =>
    have hv := Lib.hid (show opB s = true by have := beq_iff_eq.1 h0; simp [opB, this])
    go_enter Tryz.func66, Tryz.ntmps66
    go_wp2_with (fail)
    go_ret
    exact ⟨retB hv.out, rfl⟩
  | false =>
    cases h1 : (s.toList == [97, 110, 100]) with
    | true =>
      have hv := Lib.hid (show opB s = true by have := beq_iff_eq.1 h1; simp [opB, this])
      go_enter Tryz.func66, Tryz.ntmps66
      go_wp2_with (fail)
      go_ret
      exact ⟨retB hv.out, rfl⟩
    | false =>
      cases h2 : (s.toList == [61, 61]) with
      | true =>
        have hv := Lib.hid (show opB s = true by have := beq_iff_eq.1 h2; simp [opB, this])
        go_enter Tryz.func66, Tryz.ntmps66
        go_wp2_with (fail)
        go_ret
        exact ⟨retB hv.out, rfl⟩
      | false =>
        cases h3 : (s.toList == [33, 61]) with
        | true =>
          have hv := Lib.hid (show opB s = true by have := beq_iff_eq.1 h3; simp [opB, this])
          go_enter Tryz.func66, Tryz.ntmps66
          go_wp2_with (fail)
          go_ret
          exact ⟨retB hv.out, rfl⟩
        | false =>
          cases h4 : (s.toList == [60]) with
          | true =>
            have hv := Lib.hid (show opB s = true by have := beq_iff_eq.1 h4; simp [opB, this])
            go_enter Tryz.func66, Tryz.ntmps66
            go_wp2_with (fail)
            go_ret
            exact ⟨retB hv.out, rfl⟩
          | false =>
            cases h5 : (s.toList == [60, 61]) with
            | true =>
              have hv := Lib.hid (show opB s = true by have := beq_iff_eq.1 h5; simp [opB, this])
              go_enter Tryz.func66, Tryz.ntmps66
              go_wp2_with (fail)
              go_ret
              exact ⟨retB hv.out, rfl⟩
            | false =>
              cases h6 : (s.toList == [62]) with
              | true =>
                have hv := Lib.hid (show opB s = true by have := beq_iff_eq.1 h6; simp [opB, this])
                go_enter Tryz.func66, Tryz.ntmps66
                go_wp2_with (fail)
                go_ret
                exact ⟨retB hv.out, rfl⟩
              | false =>
                cases h7 : (s.toList == [62, 61]) with
                | true =>
                  have hv := Lib.hid (show opB s = true by have := beq_iff_eq.1 h7; simp [opB, this])
                  go_enter Tryz.func66, Tryz.ntmps66
                  go_wp2_with (fail)
                  go_ret
                  exact ⟨retB hv.out, rfl⟩
                | false =>
                  cases h8 : (s.toList == [43]) with
                  | true =>
                    have hv := Lib.hid (show opB s = true by have := beq_iff_eq.1 h8; simp [opB, this])
                    go_enter Tryz.func66, Tryz.ntmps66
                    go_wp2_with (fail)
                    go_ret
                    exact ⟨retB hv.out, rfl⟩
                  | false =>
                    cases h9 : (s.toList == [45]) with
                    | true =>
                      have hv := Lib.hid (show opB s = true by have := beq_iff_eq.1 h9; simp [opB, this])
                      go_enter Tryz.func66, Tryz.ntmps66
                      go_wp2_with (fail)
                      go_ret
                      exact ⟨retB hv.out, rfl⟩
                    | false =>
                      cases h10 : (s.toList == [42]) with
                      | true =>
                        have hv := Lib.hid (show opB s = true by have := beq_iff_eq.1 h10; simp [opB, this])
                        go_enter Tryz.func66, Tryz.ntmps66
                        go_wp2_with (fail)
                        go_ret
                        exact ⟨retB hv.out, rfl⟩
                      | false =>
                        cases h11 : (s.toList == [47]) with
                        | true =>
                          have hv := Lib.hid (show opB s = true by have := beq_iff_eq.1 h11; simp [opB, this])
                          go_enter Tryz.func66, Tryz.ntmps66
                          go_wp2_with (fail)
                          go_ret
                          exact ⟨retB hv.out, rfl⟩
                        | false =>
                          cases h12 : (s.toList == [37]) with
                          | true =>
                            have hv := Lib.hid (show opB s = true by have := beq_iff_eq.1 h12; simp [opB, this])
                            go_enter Tryz.func66, Tryz.ntmps66
                            go_wp2_with (fail)
                            go_ret
                            exact ⟨retB hv.out, rfl⟩
                          | false =>
                            have hv := Lib.hid (show opB s = false by unfold opB; rw [decide_eq_false_iff_not]; intro hm; simp only [List.mem_cons, List.not_mem_nil, or_false] at hm; rcases hm with e | e | e | e | e | e | e | e | e | e | e | e | e <;> simp_all)
                            go_enter Tryz.func66, Tryz.ntmps66
                            go_wp2_with (fail)
                            go_ret
                            exact ⟨retB hv.out, rfl⟩

theorem at_zero (s : ByteArray) (h : 0 < s.size) : Lx.at_ s.data.toList 0 = s[0] := by
  unfold Lx.at_
  simp [List.getD_eq_getElem?_getD, List.getElem?_eq_getElem (show 0 < s.data.toList.length by simpa using h)]
  rfl
set_option maxHeartbeats 1000000 in
theorem plain_any (s : ByteArray) (w : World) : Calls Tryz.prog 65 #[.string s] w fun e w' => e = .returned (.bool (plainB s)) ∧ w = w' := by
  have HN := Lib.hid (Lx.number_any s w)
  cases hok : Lx.numOk s with
  | false =>
    have hv := Lib.hid (show plainB s = false by unfold plainB; rw [hok]; rfl)
    rw [hok] at HN
    clear hok
    go_enter Tryz.func65, Tryz.ntmps65
    go_wp2_with (fail)
    refine HN.out.mono ?_
    rintro e w' ⟨rfl, rfl⟩
    go_wp2_with (fail)
    go_ret
    exact ⟨retB hv.out, rfl⟩
  | true =>
    have hsz : 0 < s.size := by
      have h := hok
      unfold Lx.numOk at h
      simp at h
      omega
    have ha := at_zero s hsz
    cases h0 : (s.toList == [48]) with
    | true =>
      have hv := Lib.hid (show plainB s = true by unfold plainB; rw [hok, h0]; rfl)
      rw [hok] at HN
      clear hok ha
      go_enter Tryz.func65, Tryz.ntmps65
      go_wp2_with (fail)
      refine HN.out.mono ?_
      rintro e w' ⟨rfl, rfl⟩
      go_wp2_with (fail)
      go_ret
      exact ⟨retB hv.out, rfl⟩
    | false =>
      have hb : (!(Lx.at_ s.data.toList 0 == 48)) = ((s[0].toNat : Int) != 48) := by
        rw [ha]
        by_cases h : s[0] = 48
        · rw [h]; rfl
        · have h2 : s[0].toNat ≠ 48 := fun e => h (UInt8.toNat_inj.1 e)
          have h3 : ((s[0].toNat : Int) != 48) = true := by rw [bne_iff_ne]; omega
          rw [h3]
          simpa using h
      have hv := Lib.hid (show plainB s = ((s[0].toNat : Int) != 48) by unfold plainB; rw [hok, h0, hb]; rfl)
      rw [hok] at HN
      clear hok ha hb
      go_enter Tryz.func65, Tryz.ntmps65
      go_wp2_with (fail)
      refine HN.out.mono ?_
      rintro e w' ⟨rfl, rfl⟩
      go_wp2_with (fail)
      go_ret
      exact ⟨retB hv.out, rfl⟩

set_option maxHeartbeats 8000000 in
theorem textFits_any (n : NT) (w : World) : Calls Tryz.prog 48 #[.agg #[.int .i64 n.kind, .string n.text, .int .i64 n.lo, .int .i64 n.hi, .slice n.A n.kids.length n.c]] w fun e w' => e = .returned (.bool (textB n.kind n.text)) ∧ Below w.heap.size w w' := by
  have HB := Lib.hid ((Below.refl w.heap.size w).alloc (Nat.le_refl _) (.cells #[.int .i64 n.kind, .string n.text, .int .i64 n.lo, .int .i64 n.hi, .slice n.A n.kids.length n.c] 24))
  have HN := Lib.hid (fun w1 => Lx.name_any n.text w1)
  have HP := Lib.hid (fun w1 => plain_any n.text w1)
  have HO := Lib.hid (fun w1 => operator_any n.text w1)
  have HX := Lib.hid (fun w1 => basic_any n w1)
  have hbk : n.kind = 9 → basicB n = (n.text.toList == [105, 110, 116] || n.text.toList == [98, 111, 111, 108]) := fun h => by unfold basicB; rw [h]; rfl
  have HBK := Lib.hid hbk
  clear hbk
  generalize basicB n = bz at *
  generalize n.kind = k at *
  by_cases hn : k = 3 ∨ k = 4 ∨ k = 5 ∨ k = 7 ∨ k = 8 ∨ k = 12 ∨ k = 16 ∨ k = 19 ∨ k = 20 ∨ k = 22 ∨ k = 27
  · have hv := Lib.hid (show textB k n.text = nameT n.text by unfold textB; rw [if_pos hn])
    rcases hn with rfl | rfl | rfl | rfl | rfl | rfl | rfl | rfl | rfl | rfl | rfl
    all_goals
      go_enter Tryz.func48, Tryz.ntmps48
      go_wp2_with (fail)
      refine (HN.out _).mono ?_
      rintro e w' ⟨rfl, hb⟩
      go_wp2_with (fail)
      go_ret
      exact ⟨retB hv.out, HB.out.trans (hb.mono (by simp))⟩
  · have hv1 : textB k n.text = (if k = 9 then (n.text.toList == [105, 110, 116] || n.text.toList == [98, 111, 111, 108]) || nameT n.text
  else if k = 10 ∨ k = 24 then plainB n.text
  else if k = 25 then n.text.toList == [116, 114, 117, 101] || n.text.toList == [102, 97, 108, 115, 101]
  else if k = 28 then n.text.toList == [45] || n.text.toList == [110, 111, 116]
  else if k = 29 then opB n.text
  else n.text.toList.isEmpty) := by unfold textB; rw [if_neg hn]
    have HV := Lib.hid hv1
    clear hv1
    by_cases h9 : k = 9
    · subst h9
      have hbz := HBK.out rfl
      cases bz with
      | true =>
        have hv := Lib.hid (show textB 9 n.text = true by rw [HV.out, if_pos rfl, ← hbz]; rfl)
        clear hbz hn
        go_enter Tryz.func48, Tryz.ntmps48
        go_wp2_with (fail)
        refine (HX.out _).mono ?_
        rintro e w' ⟨rfl, hb⟩
        go_wp2_with (fail)
        go_ret
        exact ⟨retB hv.out, HB.out.trans (hb.mono (by simp))⟩
      | false =>
        have hv := Lib.hid (show textB 9 n.text = nameT n.text by rw [HV.out, if_pos rfl, ← hbz]; rfl)
        clear hbz hn
        go_enter Tryz.func48, Tryz.ntmps48
        go_wp2_with (fail)
        refine (HX.out _).mono ?_
        rintro e w' ⟨rfl, hb⟩
        have c1 : w'.cell? ⟨w.heap.size, 1, none⟩ = some (.string n.text) := (hb.cell (p := ⟨w.heap.size, 1, none⟩) (by simp)).trans (Lib.cell_of_heap (heap_alloc_new w (.cells #[.int .i64 9, .string n.text, .int .i64 n.lo, .int .i64 n.hi, .slice n.A n.kids.length n.c] 24)) 1)
        have HB2 := Lib.hid (HB.out.trans (hb.mono (by simp)))
        have hz2 := hb.size
        clear hb
        go_wp2_with (fail)
        refine (HN.out _).mono ?_
        rintro e w2 ⟨rfl, hb2⟩
        go_wp2_with (fail)
        go_ret
        exact ⟨retB hv.out, HB2.out.trans (hb2.mono (HB2.out.size))⟩
    · by_cases h10 : k = 10 ∨ k = 24
      · have hv := Lib.hid (show textB k n.text = plainB n.text by rw [HV.out, if_neg h9, if_pos h10])
        clear hn h9
        rcases h10 with rfl | rfl
        all_goals
          go_enter Tryz.func48, Tryz.ntmps48
          go_wp2_with (fail)
          refine (HP.out _).mono ?_
          rintro e w' ⟨rfl, rfl⟩
          go_wp2_with (fail)
          go_ret
          exact ⟨retB hv.out, HB.out⟩
      · by_cases h25 : k = 25
        · have hv1 := Lib.hid (show textB k n.text = (n.text.toList == [116, 114, 117, 101] || n.text.toList == [102, 97, 108, 115, 101]) by rw [HV.out, if_neg h9, if_neg h10, if_pos h25])
          clear hn h9 h10 HV
          subst h25
          cases ht : (n.text.toList == [116, 114, 117, 101]) with
          | true =>
            have hv := Lib.hid (show textB 25 n.text = true by rw [hv1.out, ht]; rfl)
            go_enter Tryz.func48, Tryz.ntmps48
            go_wp2_with (fail)
            go_ret
            exact ⟨retB hv.out, HB.out⟩
          | false =>
            have hv := Lib.hid (show textB 25 n.text = (n.text.toList == [102, 97, 108, 115, 101]) by rw [hv1.out, ht]; rfl)
            go_enter Tryz.func48, Tryz.ntmps48
            go_wp2_with (fail)
            go_ret
            exact ⟨retB hv.out, HB.out⟩
        · by_cases h28 : k = 28
          · have hv1 := Lib.hid (show textB k n.text = (n.text.toList == [45] || n.text.toList == [110, 111, 116]) by rw [HV.out, if_neg h9, if_neg h10, if_neg h25, if_pos h28])
            clear hn h9 h10 h25 HV
            subst h28
            cases ht : (n.text.toList == [45]) with
            | true =>
              have hv := Lib.hid (show textB 28 n.text = true by rw [hv1.out, ht]; rfl)
              go_enter Tryz.func48, Tryz.ntmps48
              go_wp2_with (fail)
              go_ret
              exact ⟨retB hv.out, HB.out⟩
            | false =>
              have hv := Lib.hid (show textB 28 n.text = (n.text.toList == [110, 111, 116]) by rw [hv1.out, ht]; rfl)
              go_enter Tryz.func48, Tryz.ntmps48
              go_wp2_with (fail)
              go_ret
              exact ⟨retB hv.out, HB.out⟩
          · by_cases h29 : k = 29
            · have hv := Lib.hid (show textB k n.text = opB n.text by rw [HV.out, if_neg h9, if_neg h10, if_neg h25, if_neg h28, if_pos h29])
              clear hn h9 h10 h25 h28 HV
              subst h29
              go_enter Tryz.func48, Tryz.ntmps48
              go_wp2_with (fail)
              refine (HO.out _).mono ?_
              rintro e w' ⟨rfl, rfl⟩
              go_wp2_with (fail)
              go_ret
              exact ⟨retB hv.out, HB.out⟩
            · have hv := Lib.hid (show textB k n.text = n.text.toList.isEmpty by rw [HV.out, if_neg h9, if_neg h10, if_neg h25, if_neg h28, if_neg h29])
              have e1 : (k == 3) = false := by simp; omega
              have e2 : (k == 4) = false := by simp; omega
              have e3 : (k == 5) = false := by simp; omega
              have e4 : (k == 7) = false := by simp; omega
              have e5 : (k == 8) = false := by simp; omega
              have e6 : (k == 12) = false := by simp; omega
              have e7 : (k == 16) = false := by simp; omega
              have e8 : (k == 19) = false := by simp; omega
              have e9 : (k == 20) = false := by simp; omega
              have e10 : (k == 22) = false := by simp; omega
              have e11 : (k == 27) = false := by simp; omega
              have e12 : (k == 9) = false := by simp; omega
              have e13 : (k == 10) = false := by simp; omega
              have e14 : (k == 24) = false := by simp; omega
              have e15 : (k == 25) = false := by simp; omega
              have e16 : (k == 28) = false := by simp; omega
              have e17 : (k == 29) = false := by simp; omega
              clear hn h9 h10 h25 h28 h29 HV
              go_enter Tryz.func48, Tryz.ntmps48
              go_wp2_with (fail)
              go_ret
              exact ⟨retB hv.out, HB.out⟩
end Go.Proofs.YtlpoeflbnpbmgaaGreatDoor
