/- What is proved: the reference's Unary answers what the plain function says. -/
import Derived.Test.YtlndlipicbkhiaaDoorVaRBin
set_option linter.unusedVariables false
namespace Go.Proofs.YtlndlipicbkhiaaDoor
open Go.RowKit

theorem un_bytes (s : ByteArray) : (unN s.data.toList = 0 ∧ s = ⟨#[45]⟩) ∨ (unN s.data.toList = 1 ∧ s = ⟨#[110, 111, 116]⟩) ∨ (unN s.data.toList = 2 ∧ s ≠ ⟨#[45]⟩ ∧ s ≠ ⟨#[110, 111, 116]⟩) := by
  have hb : ∀ x : Array UInt8, s.data.toList = x.toList → s = ⟨x⟩ := fun x h => ByteArray.ext (Array.ext' h)
  by_cases h0 : s.data.toList = [45]
  · exact .inl ⟨by rw [h0]; rfl, hb #[45] h0⟩
  by_cases h1 : s.data.toList = [110, 111, 116]
  · exact .inr (.inl ⟨by rw [h1]; rfl, hb #[110, 111, 116] h1⟩)
  exact .inr (.inr ⟨by simp [unN, h0, h1], fun e => h0 (by rw [e]), fun e => h1 (by rw [e])⟩)

set_option maxRecDepth 100000 in
set_option maxHeartbeats 4000000 in
theorem r_unary_any (W a : Int) (ha : -9223372036854775808 ≤ a ∧ a ≤ 9223372036854775807) (s : ByteArray) (w : World) :
    Calls Tryd.prog 11 #[.int .i64 W, .string s, .int .i64 a] w fun e w' => e = .returned (unV (unP W (unN s.data.toList) a)) ∧ w' = w := by
  have HP := Lib.hid (r_width_any W w)
  by_cases h : W < 2 ∨ 8 < W
  · rw [wok_no h] at HP
    have HR := Lib.hid (unP_out h (unN s.data.toList) a)
    clear h
    go_enter Tryd.func11, Tryd.ntmps11
    go_wp2_with (fail)
    refine HP.out.mono ?_
    rintro e w1 ⟨rfl, rfl⟩
    go_wp2_with (fail)
    go_ret2
    exact ⟨by rw [HR.out]; rfl, rfl⟩
  rw [wok_yes h] at HP
  rcases un_bytes s with ⟨hk, rfl⟩ | ⟨hk, rfl⟩ | ⟨hk, n1, n2⟩
  · have HI := Lib.hid (fun w => r_isInt_any W a w)
    rw [sc_int W a h] at HI
    have HBAD := Lib.hid (fun hh => unP_bad (a := a) (k := 0) h (by decide) hh)
    have HGOOD := Lib.hid (fun hh => unP_good (a := a) (k := 0) h (by decide) hh)
    rw [show decide ((0 : Nat) = 1) = false from rfl] at HBAD HGOOD
    have HK := Lib.hid hk
    clear hk
    obtain ⟨x, HX⟩ : ∃ x, Hid (scB W false a = x) := ⟨_, Lib.hid rfl⟩
    rw [HX.out] at HI HBAD HGOOD
    cases x with
    | false =>
      have HG := Lib.hid (HBAD.out rfl)
      clear h ha HBAD HGOOD
      go_enter Tryd.func11, Tryd.ntmps11
      go_wp2_with (fail)
      refine HP.out.mono ?_
      rintro e w1 ⟨rfl, rfl⟩
      go_wp2_with (fail)
      refine (HI.out _).mono ?_
      rintro e w2 ⟨rfl, rfl⟩
      go_wp2_with (fail)
      go_ret2
      exact ⟨by rw [HK.out, HG.out]; rfl, rfl⟩
    | true =>
      have hb := sc_bound HX.out
      have hw : IntKind.i64.wrap (-a) = -a := by simp [IntKind.wrap, IntKind.bits, IntKind.signed]; omega
      have HW := Lib.hid (fun w => r_wrap_any W (-a) (by omega) w)
      have HG := Lib.hid (show unP W 0 a = (wrpP W (-a), 0) from (HGOOD.out rfl).trans (by rw [if_pos rfl]))
      clear h ha HBAD HGOOD
      go_enter Tryd.func11, Tryd.ntmps11
      go_wp2_with (fail)
      refine HP.out.mono ?_
      rintro e w1 ⟨rfl, rfl⟩
      go_wp2_with (fail)
      refine (HI.out _).mono ?_
      rintro e w2 ⟨rfl, rfl⟩
      go_wp2_with (fail)
      refine (HW.out _).mono ?_
      rintro e w3 ⟨rfl, rfl⟩
      go_wp2_with (fail)
      go_ret2
      exact ⟨by rw [HK.out, HG.out]; rfl, rfl⟩
  · have HI := Lib.hid (fun w => r_isBit_any a w)
    rw [show (a == 0 || a == 1) = scB W true a from rfl] at HI
    have HBAD := Lib.hid (fun hh => unP_bad (a := a) (k := 1) h (by decide) hh)
    have HGOOD := Lib.hid (fun hh => unP_good (a := a) (k := 1) h (by decide) hh)
    rw [show decide ((1 : Nat) = 1) = true from rfl] at HBAD HGOOD
    have HK := Lib.hid hk
    clear hk
    obtain ⟨x, HX⟩ : ∃ x, Hid (scB W true a = x) := ⟨_, Lib.hid rfl⟩
    rw [HX.out] at HI HBAD HGOOD
    cases x with
    | false =>
      have HG := Lib.hid (HBAD.out rfl)
      clear h ha HBAD HGOOD
      go_enter Tryd.func11, Tryd.ntmps11
      go_wp2_with (fail)
      refine HP.out.mono ?_
      rintro e w1 ⟨rfl, rfl⟩
      go_wp2_with (fail)
      refine (HI.out _).mono ?_
      rintro e w2 ⟨rfl, rfl⟩
      go_wp2_with (fail)
      go_ret2
      exact ⟨by rw [HK.out, HG.out]; rfl, rfl⟩
    | true =>
      have hb := sc_bound HX.out
      have hw : IntKind.i64.wrap (1 - a) = 1 - a := by simp [IntKind.wrap, IntKind.bits, IntKind.signed]; omega
      have h3 : wrpP W (1 - a) = 1 - a := by
        have hq := hf_bound h
        have h4 := HX.out
        rw [wrp_same W _ (hf_in h)]
        unfold loP hiP
        rw [if_neg (hf_in h)]
        simp [scB] at h4
        omega
      have HG := Lib.hid (show unP W 1 a = (1 - a, 0) by rw [HGOOD.out rfl, if_neg (by decide), h3])
      clear h ha h3 HBAD HGOOD
      go_enter Tryd.func11, Tryd.ntmps11
      go_wp2_with (fail)
      refine HP.out.mono ?_
      rintro e w1 ⟨rfl, rfl⟩
      go_wp2_with (fail)
      refine (HI.out _).mono ?_
      rintro e w2 ⟨rfl, rfl⟩
      go_wp2_with (fail)
      go_ret2
      exact ⟨by rw [HK.out, HG.out]; rfl, rfl⟩
  · have HR := Lib.hid (unP_none h a)
    have HK := Lib.hid hk
    have m1 : (s.toList == [45]) = false := by rw [ByteArray.toList_eq]; simp; exact fun e => n1 (ByteArray.ext (Array.ext' (by simpa using e)))
    have m2 : (s.toList == [110, 111, 116]) = false := by rw [ByteArray.toList_eq]; simp; exact fun e => n2 (ByteArray.ext (Array.ext' (by simpa using e)))
    clear h ha hk n1 n2
    go_enter Tryd.func11, Tryd.ntmps11
    go_wp2_with (fail)
    refine HP.out.mono ?_
    rintro e w1 ⟨rfl, rfl⟩
    go_wp2_with (fail)
    go_ret2
    exact ⟨by rw [HK.out, HR.out]; rfl, rfl⟩
end Go.Proofs.YtlndlipicbkhiaaDoor
