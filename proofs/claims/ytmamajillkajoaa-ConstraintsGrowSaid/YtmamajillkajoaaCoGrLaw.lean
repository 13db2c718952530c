/- What is proved: the law ConstraintsGrow. -/
import Derived.Test.YtmamajillkajoaaCoGrow
import Derived.Test.YtmamajillkajoaaCoDistC
import Derived.Test.YtmamajillkajoaaCoFits
import Derived.Test.YtmamajillkajoaaCoOrdLaw
set_option linter.unusedVariables false
namespace Go.Proofs.Ytmamajillkajoaa
open Go.RowKit Go.Shelf

set_option maxRecDepth 100000 in
set_option maxHeartbeats 1000000 in
theorem grow_few (n : Int) (A : Option Addr) (c : Nat) (l : List Con) (w : World) (hf : fewB n l = false) :
    Calls Try.prog 5 #[.int .i64 n, .slice A l.length c] w fun e w' => e = .returned (.bool true) ∧ Below w.heap.size w w' := by
  have HAW := Lib.hid (fun W => awake_any W)
  have HF := Lib.hid (few_f n A c l false hf w)
  clear hf
  go_enter Try.func5, Try.ntmps5
  go_wp2_with (fail)
  refine HF.out.mono ?_
  rintro e w1 ⟨rfl, hb1⟩
  have HB1 := Lib.hid hb1
  clear hb1
  go_wp2_with (fail)
  refine (HAW.out w1).mono ?_
  rintro e w2 ⟨rfl, hb2⟩
  have HB2 := Lib.hid (HB1.out.trans (hb2.mono HB1.out.size))
  clear hb2
  go_wp2_with (fail)
  go_ret
  exact ⟨rfl, HB2.out⟩
set_option maxRecDepth 100000 in
set_option maxHeartbeats 1000000 in
theorem grow_nil (n : Int) (A : Option Addr) (c : Nat) (w : World) (hf : fewB n [] = true) :
    Calls Try.prog 5 #[.int .i64 n, .slice A 0 c] w fun e w' => e = .returned (.bool true) ∧ Below w.heap.size w w' := by
  have HAW := Lib.hid (fun W => awake_any W)
  have HF := Lib.hid (show Calls Try.prog 10 #[.int .i64 n, .slice A 0 c] w fun e w' => e = .returned (.bool true) ∧ Below w.heap.size w w' from few_f n A c [] true hf w)
  clear hf
  go_enter Try.func5, Try.ntmps5
  go_wp2_with (fail)
  refine HF.out.mono ?_
  rintro e w1 ⟨rfl, hb1⟩
  have HB1 := Lib.hid hb1
  clear hb1
  go_wp2_with (fail)
  refine (HAW.out w1).mono ?_
  rintro e w2 ⟨rfl, hb2⟩
  have HB2 := Lib.hid (HB1.out.trans (hb2.mono HB1.out.size))
  clear hb2
  go_wp2_with (fail)
  go_ret
  exact ⟨rfl, HB2.out⟩
set_option maxRecDepth 100000 in
set_option maxHeartbeats 1000000 in
theorem grow_err (n : Int) (b off c k : Nat) (l : List Con) (w : World) (hk : l.length = k + 1) (hcap : k + 1 ≤ c) (hf : fewB n l = true) (hr : CRow w.heap.size w (some ⟨b, off, none⟩) l) (hok : ∀ x ∈ l, ConOk x) (hE : n < 0 ∨ 4096 < n ∨ l.all (posB n.toNat) = false) :
    Calls Try.prog 5 #[.int .i64 n, .slice (some ⟨b, off, none⟩) (k + 1) c] w fun e w' => e = .returned (.bool true) ∧ Below w.heap.size w w' := by
  have HAW := Lib.hid (fun W => awake_any W)
  have hff := few_f n (some ⟨b, off, none⟩) c l true hf w
  have hfew := hf
  unfold fewB at hfew
  simp only [Bool.and_eq_true, Bool.or_eq_true, decide_eq_true_eq] at hfew
  have hV : (errV n l == 0) = false := by
    unfold errV
    split
    · rfl
    · rename_i h
      have : l.all (posB n.toNat) = false := by
        rcases hE with h' | h' | h'
        · exact (h (.inl h')).elim
        · exact (h (.inr h')).elim
        · exact h'
      rw [this]; rfl
  have HS := Lib.hid (fun (W : World) (hb : Below w.heap.size w W) => solve_res n hfew.2 (some ⟨b, off, none⟩) c l W hfew.1 (hr.later hb) hok)
  have HFT := Lib.hid (fun (W : World) (hb : Below w.heap.size w W) => co_fits_any n (some ⟨b, off, none⟩) c l W (hr.later hb) (by omega) false hV)
  have htl : (l.take k).length = k := by rw [List.length_take]; omega
  have HP := Lib.hid (fun (W : World) (hb : Below w.heap.size w W) => solve_res n hfew.2 (some ⟨b, off, none⟩) c (l.take k) W (by rw [htl]; have := hfew.1; omega) ((hr.later hb).take k) (fun x hx => hok x (List.mem_of_mem_take hx)))
  rw [htl] at HP
  rw [hk] at HS HFT hff
  have HF := Lib.hid hff
  have hkb : (k : Int) ≤ 80 := by omega
  have hcap' : (k : Int) + 1 ≤ (c : Int) := by omega
  have hkc : (k : Int) ≤ (c : Int) := by omega
  generalize svOut n l = o1 at *
  generalize svOut n (l.take k) = o2 at *
  have HKC := Lib.hid hcap
  clear hf hr hok hE hV hff hfew htl hk hcap
  go_enter Try.func5, Try.ntmps5
  go_wp2_with (fail)
  refine HF.out.mono ?_
  rintro e w1 ⟨rfl, hb1⟩
  have HB1 := Lib.hid hb1
  clear hb1
  go_wp2_with (fail)
  refine (HS.out w1 HB1.out).mono ?_
  rintro e w2 ⟨TA, XA, ct, cx, rfl, _, _, hb2⟩
  have HB2 := Lib.hid (HB1.out.trans (hb2.mono HB1.out.size))
  clear hb2
  dsimp only
  have hk1 : k ≤ c := by have := HKC.out; omega
  go_wp2_with (fail)
  refine (HP.out w2 HB2.out).mono ?_
  rintro e w3 ⟨TB, XB, dt, dx, rfl, _, _, hb3⟩
  have HB3 := Lib.hid (HB2.out.trans (hb3.mono HB2.out.size))
  clear hb3
  dsimp only
  go_wp2_with (fail)
  refine (HFT.out w3 HB3.out).mono ?_
  rintro e w4 ⟨rfl, hb4⟩
  have HB4 := Lib.hid (HB3.out.trans (hb4.mono HB3.out.size))
  clear hb4
  go_wp2_with (fail)
  refine (HAW.out w4).mono ?_
  rintro e w5 ⟨rfl, hb5⟩
  have HB5 := Lib.hid (HB4.out.trans (hb5.mono HB4.out.size))
  clear hb5
  go_wp2_with (fail)
  go_ret
  exact ⟨rfl, HB5.out⟩
end Go.Proofs.Ytmamajillkajoaa
