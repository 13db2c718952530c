/- What is proved: the law ConstraintsChains. -/
import Derived.Test.YtmamajillkajoaaCoTyp
import Derived.Test.YtmamajillkajoaaCoFits
import Derived.Test.YtmamajillkajoaaCoOrdLaw
set_option linter.unusedVariables false
namespace Go.Proofs.Ytmamajillkajoaa
open Go.RowKit Go.Shelf

set_option maxRecDepth 100000 in
set_option maxHeartbeats 1000000 in
theorem chains_few (n : Int) (A : Option Addr) (c : Nat) (l : List Con) (w : World) (hf : fewB n l = false) :
    Calls Try.prog 4 #[.int .i64 n, .slice A l.length c] w fun e w' => e = .returned (.bool true) ∧ Below w.heap.size w w' := by
  have HAW := Lib.hid (fun W => awake_any W)
  have HF := Lib.hid (few_f n A c l false hf w)
  clear hf
  go_enter Try.func4, Try.ntmps4
  go_wp2_with (fail)
  refine HF.out.mono ?_
  rintro e w1 ⟨rfl, hb1⟩
  have HB1 := Lib.hid hb1
  clear hb1
  go_wp2_with (fail)
  refine (HAW.out w1).mono ?_
  rintro e w2 ⟨rfl, hb2⟩
  have HB2 := Lib.hid (HB1.out.trans (hb2.mono HB1.out.size))
  clear hb2
  go_wp2_with (fail)
  go_ret
  exact ⟨rfl, HB2.out⟩
set_option maxRecDepth 100000 in
set_option maxHeartbeats 1000000 in
theorem chains_err (n : Int) (A : Option Addr) (c : Nat) (l : List Con) (w : World) (hf : fewB n l = true) (hr : CRow w.heap.size w A l) (hok : ∀ x ∈ l, ConOk x) (hE : n < 0 ∨ 4096 < n ∨ l.all (posB n.toNat) = false) :
    Calls Try.prog 4 #[.int .i64 n, .slice A l.length c] w fun e w' => e = .returned (.bool true) ∧ Below w.heap.size w w' := by
  have HAW := Lib.hid (fun W => awake_any W)
  have HF := Lib.hid (few_f n A c l true hf w)
  have hfew := hf
  unfold fewB at hfew
  simp only [Bool.and_eq_true, Bool.or_eq_true, decide_eq_true_eq] at hfew
  have hS : ∃ er : Int, svOut n l = ([], [], er) ∧ (er = 1 ∨ er = 2) := by
    unfold svOut
    split
    · exact ⟨2, rfl, .inr rfl⟩
    · rename_i h
      have : l.all (posB n.toNat) = false := by
        rcases hE with h' | h' | h'
        · exact (h (.inl h')).elim
        · exact (h (.inr h')).elim
        · exact h'
      rw [this, if_neg (by decide)]
      exact ⟨1, rfl, .inl rfl⟩
  obtain ⟨er, hS, her⟩ := hS
  have hV : (errV n l == 0) = false := by
    rw [← errV_out, hS]
    rcases her with rfl | rfl <;> rfl
  have HS := Lib.hid (fun (W : World) (hb : Below w.heap.size w W) => solve_res n hfew.2 A c l W hfew.1 (hr.later hb) hok)
  rw [hS] at HS
  have HFT := Lib.hid (fun (W : World) (hb : Below w.heap.size w W) => co_fits_any n A c l W (hr.later hb) (by omega) false hV)
  clear hf hr hok hE hV hS hfew
  go_enter Try.func4, Try.ntmps4
  go_wp2_with (fail)
  refine HF.out.mono ?_
  rintro e w1 ⟨rfl, hb1⟩
  have HB1 := Lib.hid hb1
  clear hb1
  go_wp2_with (fail)
  refine (HS.out w1 HB1.out).mono ?_
  rintro e w2 ⟨TA, XA, ct, cx, rfl, _, _, hb2⟩
  have HB2 := Lib.hid (HB1.out.trans (hb2.mono HB1.out.size))
  clear hb2
  dsimp only
  have e1 : (er == 0) = false := by rcases her with rfl | rfl <;> rfl
  have e2 : (er != 0) = true := by rcases her with rfl | rfl <;> rfl
  go_wp2_with (fail)
  refine (HFT.out w2 HB2.out).mono ?_
  rintro e w3 ⟨rfl, hb3⟩
  have HB3 := Lib.hid (HB2.out.trans (hb3.mono HB2.out.size))
  clear hb3
  go_wp2_with (fail)
  refine (HAW.out w3).mono ?_
  rintro e w4 ⟨rfl, hb4⟩
  have HB4 := Lib.hid (HB3.out.trans (hb4.mono HB3.out.size))
  clear hb4
  go_wp2_with (fail)
  go_ret
  exact ⟨rfl, HB4.out⟩
end Go.Proofs.Ytmamajillkajoaa
