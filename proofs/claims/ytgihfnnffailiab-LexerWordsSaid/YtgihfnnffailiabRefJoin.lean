/- What is proved: the reference's fits, Join and Words return what the plain functions say. -/
import Derived.Test.YtgihfnnffailiabJoin
import Derived.Test.YtgihfnnffailiabNumber
import Derived.Deep.Draws
set_option linter.unusedVariables false
namespace Go.Proofs.Ytgihfnnffailiab
open Go.RowKit

theorem fit_end2 (n : Int) (l : List Tok) (k : Nat) (hk : ¬ k < l.length) (h : (l.take k).all (okTok n) = true) : fitB n l = decide (l.length ≤ 4097) := by
  rw [List.take_of_length_le (by omega)] at h
  unfold fitB
  rw [h]
  rfl

set_option maxHeartbeats 1000000 in
theorem r_fits_any (s : ByteArray) (A : Option Addr) (c : Nat) (l : List Tok) (w : World) (hs : s.size ≤ 1000000) (hl : l.length ≤ 4097) (hr : TokA w A l) :
    Calls Try.prog 34 #[.string s, .slice A l.length c] w fun e w' => e = .returned (.bool (fitB s.size l)) ∧ ∃ n, w' = w.drewN n := by
  have HR := Lib.hid hr
  clear hr
  go_enter Try.func34, Try.ntmps34
  go_wp2_with (fail)
  go_loopw [5] (fun i wr => ∃ k n : Nat, k ≤ l.length ∧ i = .int .i64 (k : Int) ∧ Hid ((l.take k).all (okTok s.size) = true) ∧ wr = w.drewN n) (fun i _ => l.length - (intOf i).toNat)
  case atStart => exact ⟨0, 0, Nat.zero_le _, rfl, rfl, rfl⟩
  case round =>
    obtain ⟨k, n, hk, rfl, hal, rfl⟩ := hrel
    by_cases hlt : k < l.length
    · obtain ⟨b, off, rfl, _, hr⟩ := HR.out (by omega)
      obtain ⟨c1, c2, c3, c4⟩ := hr k hlt
      have HY := Lib.hid (ok_step s.size l k hlt hal.out)
      have HN := Lib.hid (ok_halt s.size l k hlt)
      have HI := Lib.hid (okTok_iff s.size l[k])
      generalize l[k] = t at *
      obtain ⟨kd, p, q, r⟩ := t
      simp only at c1 c2 c3 c4 HI
      clear hr
      by_cases g1 : p < 0
      · have HV := Lib.hid (HN.out (fun h => by have := HI.out.1 h; omega))
        have b1 : decide (p < 0) = true := by simpa using g1
        go_wp2_with (fail)
        go_quiet (fail)
        go_wp2_with (fail)
        go_ret
        exact ⟨ret_bool HV.out.symm, _, by first | rfl | exact World.drewN_drewN _ _ _⟩
      · have b1 : decide (p < 0) = false := by simpa using g1
        by_cases g2 : q < p
        · have HV := Lib.hid (HN.out (fun h => by have := HI.out.1 h; omega))
          have b2 : decide (q < p) = true := by simpa using g2
          go_wp2_with (fail)
          go_quiet (fail)
          go_wp2_with (fail)
          go_ret
          exact ⟨ret_bool HV.out.symm, _, by first | rfl | exact World.drewN_drewN _ _ _⟩
        · have b2 : decide (q < p) = false := by simpa using g2
          by_cases g3 : r < q
          · have HV := Lib.hid (HN.out (fun h => by have := HI.out.1 h; omega))
            have b3 : decide (r < q) = true := by simpa using g3
            go_wp2_with (fail)
            go_quiet (fail)
            go_wp2_with (fail)
            go_ret
            exact ⟨ret_bool HV.out.symm, _, by first | rfl | exact World.drewN_drewN _ _ _⟩
          · have b3 : decide (r < q) = false := by simpa using g3
            by_cases g4 : (s.size : Int) < r
            · have HV := Lib.hid (HN.out (fun h => by have := HI.out.1 h; omega))
              have b4 : decide ((s.size : Int) < r) = true := by simpa using g4
              go_wp2_with (fail)
              go_quiet (fail)
              go_wp2_with (fail)
              go_ret
              exact ⟨ret_bool HV.out.symm, _, by first | rfl | exact World.drewN_drewN _ _ _⟩
            · have HV := Lib.hid (HY.out (HI.out.2 (by omega)))
              have b4 : decide ((s.size : Int) < r) = false := by simpa using g4
              go_wp2_with (fail)
              go_quiet (fail)
              go_wp2_with (fail)
              exact ⟨⟨k + 1, _, by omega, by go_num, HV, by first | rfl | exact World.drewN_drewN _ _ _⟩, by simp [intOf]; omega⟩
    · have HV := Lib.hid (fit_end2 s.size l k hlt hal.out)
      have hd : decide (l.length ≤ 4097) = true := by simpa using hl
      rw [hd] at HV
      clear hd
      go_wp2_with (fail)
      go_ret
      exact ⟨ret_bool (by rw [HV.out]; simp <;> omega), _, rfl⟩

set_option maxHeartbeats 400000 in
theorem r_join_bad (s : ByteArray) (A : Option Addr) (c : Nat) (l : List Tok) (w : World) (hs : s.size ≤ 100000) (hl : l.length ≤ 4097) (hr : TokA w A l) (hf : fitB s.size l = false) :
    Calls Try.prog 14 #[.string s, .slice A l.length c] w fun e w' => e = .returned (.string ⟨#[]⟩) ∧ ∃ n, w' = w.drewN n := by
  have HF := Lib.hid (r_fits_any s A c l w (by omega) hl hr)
  rw [hf] at HF
  clear hf hr
  go_enter Try.func14, Try.ntmps14
  go_wp2_with (fail)
  refine HF.out.mono ?_
  rintro e w1 ⟨rfl, n, rfl⟩
  go_wp2_with (fail)
  go_ret
  exact ⟨rfl, n, rfl⟩

theorem joinL_glue (s : ByteArray) (x : List UInt8) (p q : Nat) : (⟨x.toArray⟩ : ByteArray) ++ s.extract p q = ⟨(x ++ (s.data.toList.take q).drop p).toArray⟩ := by
  apply ByteArray.ext
  rw [ByteArray.data_append]
  apply Array.ext'
  simp [ByteArray.data_extract, List.drop_take]

set_option maxHeartbeats 1000000 in
theorem r_join_good (s : ByteArray) (A : Option Addr) (c : Nat) (l : List Tok) (w : World) (hs : s.size ≤ 100000) (hr : TokA w A l) (hf : fitB s.size l = true) :
    Calls Try.prog 14 #[.string s, .slice A l.length c] w fun e w' => e = .returned (.string ⟨(joinL s.data.toList l).toArray⟩) ∧ ∃ n, w' = w.drewN n := by
  have hlen := fit_len _ _ hf
  have HG := Lib.hid (fit_get _ _ hf)
  have HF := Lib.hid (r_fits_any s A c l w (by omega) hlen hr)
  rw [hf] at HF
  have HR := Lib.hid hr
  have hsz : s.data.toList.length = s.size := by simp
  have HSZ := Lib.hid hsz
  clear hf hr hsz
  go_enter Try.func14, Try.ntmps14
  go_wp2_with (fail)
  refine HF.out.mono ?_
  rintro e w1 ⟨rfl, n0, rfl⟩
  go_wp2_with (fail)
  go_loopw [5, 6] (fun x i wr => ∃ (k n : Nat) (ob : ByteArray), k ≤ l.length ∧ i = .int .i64 (k : Int) ∧ x = .string ob ∧ Hid (ob = ⟨(joinL s.data.toList (l.take k)).toArray⟩) ∧ wr = w.drewN n) (fun _ i _ => l.length - (intOf i).toNat)
  case atStart => exact ⟨0, n0, _, Nat.zero_le _, rfl, rfl, rfl, rfl⟩
  case round =>
    obtain ⟨k, n, ob, hk, rfl, rfl, hob, rfl⟩ := hrel
    by_cases hlt : k < l.length
    · obtain ⟨b, off, rfl, hb, hr⟩ := HR.out (by omega)
      obtain ⟨c1, c2, c3, c4⟩ := hr k hlt
      obtain ⟨g1, g2, g3, g4⟩ := HG.out k hlt
      have hjs := joinL_step s.data.toList l k hlt
      have hpl : part s.data.toList l[k] = (s.data.toList.take l[k].hi.toNat).drop l[k].lo.toNat := rfl
      have hjl := joinL_length s.data.toList (l.take k)
      rw [HSZ.out] at hjl
      have hjm : (joinL s.data.toList (l.take k)).length ≤ 4097 * 100000 := by
        refine Nat.le_trans hjl (Nat.mul_le_mul ?_ hs)
        simp
        omega
      have hos : ob.size ≤ 409700000 := by rw [hob.out]; simpa [ByteArray.size] using hjm
      have HJ := Lib.hid hjs
      have HP := Lib.hid hpl
      clear hr hjs hjl hpl hjm
      generalize l[k] = t at *
      obtain ⟨kd, lo, ta, th⟩ := t
      simp only at c1 c2 c3 c4 g1 g2 g3 g4 HP
      obtain ⟨p, rfl⟩ := Int.eq_ofNat_of_zero_le g1
      obtain ⟨q, rfl⟩ := Int.eq_ofNat_of_zero_le (show 0 ≤ th by omega)
      simp only [Int.toNat_natCast] at HP
      have x1 : p ≤ q := by omega
      have x2 : q ≤ s.size := by omega
      have x3 : (p : Int) ≤ (q : Int) := by omega
      have x4 : (q : Int) ≤ (s.size : Int) := by omega
      clear g2 g3 g4
      go_wp2_with (fail)
      go_quiet (fail)
      go_wp2_with (fail)
      refine ⟨⟨k + 1, _, _, by omega, by go_num, rfl, ?_, by first | rfl | exact World.drewN_drewN _ _ _⟩, by simp [intOf]; omega⟩
      show _ = _
      rw [HJ.out, HP.out, hob.out, joinL_glue]
    · have hT : l.take k = l := List.take_of_length_le (by omega)
      have HI := Lib.hid hob.out
      rw [hT] at HI
      clear hT
      go_wp2_with (fail)
      go_ret
      exact ⟨congrArg (fun x => Ending.returned (Value.string x)) HI.out, n, rfl⟩

theorem r_join_any (s : ByteArray) (A : Option Addr) (c : Nat) (l : List Tok) (w : World) (hs : s.size ≤ 100000) (hl : l.length ≤ 4097) (hr : TokA w A l) :
    Calls Try.prog 14 #[.string s, .slice A l.length c] w fun e w' => e = .returned (.string (joinS s l)) ∧ ∃ n, w' = w.drewN n := by
  cases hf : fitB s.size l with
  | true =>
    have e : joinS s l = ⟨(joinL s.data.toList l).toArray⟩ := if_pos hf
    rw [e]
    exact r_join_good s A c l w hs hr hf
  | false =>
    have e : joinS s l = ⟨#[]⟩ := if_neg (by simp [hf])
    rw [e]
    exact r_join_bad s A c l w hs hl hr hf
end Go.Proofs.Ytgihfnnffailiab
