/- What is proved: the reference's skip and token return what the plain functions say. -/
import Derived.Test.YtgihfnnffailiabRefSym
set_option linter.unusedVariables false
namespace Go.Proofs.Ytgihfnnffailiab
open Go.RowKit

theorem run_next (l : List UInt8) (p : UInt8 → Bool) (i : Nat) (hi : i < l.length) (h : p (at_ l i) = true) : run l p i = run l p (i + 1) := by
  unfold run
  exact whl_yes _ _ _ hi h
theorem run_halt (l : List UInt8) (p : UInt8 → Bool) (i : Nat) (h : p (at_ l i) = false) : run l p i = i := by
  unfold run
  exact whl_no _ _ _ h
theorem run_out (l : List UInt8) (p : UInt8 → Bool) (i : Nat) (h : ¬ i < l.length) : run l p i = i := by
  unfold run
  exact whl_end _ _ _ h
theorem blank_white (l : List UInt8) (i : Nat) (hi : i < l.length) (h : white (at_ l i) = true) : blank l i = blank l (i + 1) := by
  unfold blank
  rw [blk_step, blk_step, run_next l white i hi h]
theorem blank_hash (l : List UInt8) (i : Nat) (hi : i < l.length) (h : at_ l i = 35) : blank l i = blank l (run l notNl i) := by
  have hw : run l white i = i := run_halt l white i (by rw [h]; rfl)
  have hy := run_yes l notNl i hi (by rw [h]; rfl)
  have hb := run_bd l notNl i (by omega)
  have e : blank l i = blk l l.length (run l notNl i) := by
    unfold blank
    rw [blk_step, hw, if_neg]
    intro hh
    rcases hh with hh | hh
    · omega
    · exact hh h
  rw [e]
  exact blk_more l _ _ hb.2 (by omega)
theorem blank_none (l : List UInt8) (i : Nat) (hi : i < l.length) (h : white (at_ l i) = false) (h2 : at_ l i ≠ 35) : blank l i = i := by
  have hw : run l white i = i := run_halt l white i h
  unfold blank
  rw [blk_step, hw, if_pos (.inr h2)]
theorem blank_out (l : List UInt8) (i : Nat) (hi : i = l.length) : blank l i = i := by
  have hw : run l white i = i := run_out l white i (by omega)
  unfold blank
  rw [blk_step, hw, if_pos (.inl hi)]

theorem u8_35 (b : UInt8) : (b = 35) ↔ (((b.toNat : Int) == 35) = true) := by
  rw [← beq_iff_eq (a := b), u8_eq b 35]
  exact Iff.rfl
theorem notNl_eq (b : UInt8) : notNl b = !((b.toNat : Int) == 10) := by
  unfold notNl bne
  rw [u8_eq b 10]
  rfl

set_option maxHeartbeats 1000000 in
theorem r_skip_any (s : ByteArray) (i : Nat) (w : World) (hs : s.size ≤ 1000000) (hi : i ≤ s.size) :
    Calls Try.prog 29 #[.string s, .int .i64 (i : Int)] w fun e w' => e = .returned (.int .i64 (blank s.data.toList i : Int)) ∧ w = w' := by
  have hl : s.data.toList.length = s.size := by simp
  have HW := Lib.hid (fun (k : Nat) (h : k < s.size) => r_blank_any s[k] w)
  have HL := Lib.hid hl
  clear hl
  go_enter Try.func29, Try.ntmps29
  go_wp2_with (fail)
  go_loop [1] (fun x => ∃ k : Nat, k ≤ s.size ∧ x = .int .i64 (k : Int) ∧ Hid (blank s.data.toList i = blank s.data.toList k)) (fun x => s.size - (intOf x).toNat)
  case atStart => exact ⟨i, hi, rfl, rfl⟩
  case round =>
    obtain ⟨k, hk, rfl, hq⟩ := hrel
    by_cases hlt : k < s.size
    · have hlt' : (k : Int) < (s.size : Int) := by omega
      have hat := at_get s k hlt
      have hl := HL.out
      have hw := Lib.hid (HW.out k hlt)
      cases hc : white s[k] with
      | true =>
        have HV := Lib.hid (hq.out.trans (blank_white s.data.toList k (by omega) (by rw [hat]; exact hc)))
        have h35 : ((s[k].toNat : Int) == 35) = false := by
          cases hx : ((s[k].toNat : Int) == 35) with
          | false => rfl
          | true =>
            rw [(u8_35 _).2 hx] at hc
            cases hc
        rw [hc] at hw
        clear hc hat hl
        go_wp2_with (fail)
        refine hw.out.mono ?_
        rintro e w' ⟨rfl, rfl⟩
        go_wp2_with (fail)
        exact ⟨⟨k + 1, by omega, by go_num, HV⟩, by simp [intOf]; omega⟩
      | false =>
        rw [hc] at hw
        cases h35 : ((s[k].toNat : Int) == 35) with
        | false =>
          have HV := Lib.hid (hq.out.trans (blank_none s.data.toList k (by omega) (by rw [hat]; exact hc) (by rw [hat]; intro e; rw [(u8_35 _).1 e] at h35; cases h35)))
          clear hc hat hl
          go_wp2_with (fail)
          refine hw.out.mono ?_
          rintro e w' ⟨rfl, rfl⟩
          go_wp2_with (fail)
          go_ret
          exact ⟨by rw [HV.out]; rfl, rfl⟩
        | true =>
          have HV := Lib.hid (hq.out.trans (blank_hash s.data.toList k (by omega) (by rw [hat]; exact (u8_35 _).2 h35)))
          have HY := Lib.hid (run_yes s.data.toList notNl k (by omega) (by rw [hat, (u8_35 _).2 h35]; rfl))
          have HB := Lib.hid (run_bd s.data.toList notNl k (by omega))
          clear hc hat hl
          go_wp2_with (fail)
          refine hw.out.mono ?_
          rintro e w' ⟨rfl, rfl⟩
          go_wp2_with (fail)
          go_loop [1] (fun x => ∃ j : Nat, j ≤ s.size ∧ x = .int .i64 (j : Int) ∧ Hid (run s.data.toList notNl k = run s.data.toList notNl j)) (fun x => s.size - (intOf x).toNat)
          case atStart => exact ⟨k, hk, rfl, rfl⟩
          case round =>
            obtain ⟨j, hj, rfl, hr⟩ := hrel
            by_cases hjl : j < s.size
            · have hjl' : (j : Int) < (s.size : Int) := by omega
              have hat := at_get s j hjl
              have hl := HL.out
              have hnn := notNl_eq s[j]
              cases h10 : ((s[j].toNat : Int) == 10) with
              | false =>
                have HR := Lib.hid (hr.out.trans (run_next s.data.toList notNl j (by omega) (by rw [hat, hnn, h10]; rfl)))
                have h10' : ((s[j].toNat : Int) != 10) = true := by unfold bne; rw [h10]; rfl
                clear hat hl hnn
                go_wp2_with (fail)
                exact ⟨⟨j + 1, by omega, by go_num, HR⟩, by simp [intOf]; omega⟩
              | true =>
                have HR := Lib.hid (hr.out.trans (run_halt s.data.toList notNl j (by rw [hat, hnn, h10]; rfl)))
                have h10' : ((s[j].toNat : Int) != 10) = false := by unfold bne; rw [h10]; rfl
                have hy := HY.out
                have e := HR.out
                clear hat hl hnn
                go_wp2_with (fail)
                have HF := Lib.hid (HV.out.trans (by rw [HR.out]))
                exact ⟨⟨j, by omega, rfl, HF⟩, by simp [intOf]; omega⟩
            · have hl := HL.out
              have HR := Lib.hid (hr.out.trans (run_out s.data.toList notNl j (by omega)))
              have hy := HY.out
              have e := HR.out
              have hjl' : (s.size : Int) ≤ (j : Int) := by omega
              clear hl
              go_wp2_with (fail)
              have HF := Lib.hid (HV.out.trans (by rw [HR.out]))
              exact ⟨⟨j, by omega, rfl, HF⟩, by simp [intOf]; omega⟩
    · have HV := Lib.hid (hq.out.trans (blank_out s.data.toList k (by rw [HL.out]; omega)))
      have hlt' : (s.size : Int) ≤ (k : Int) := by omega
      go_wp2_with (fail)
      go_ret
      exact ⟨by rw [HV.out]; rfl, rfl⟩
end Go.Proofs.Ytgihfnnffailiab
