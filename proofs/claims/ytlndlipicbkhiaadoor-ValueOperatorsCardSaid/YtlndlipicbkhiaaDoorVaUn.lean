/- What is proved: Unary of value answers what the plain function says. -/
import Derived.Test.YtlndlipicbkhiaaDoorVaBin
set_option linter.unusedVariables false
namespace Go.Proofs.YtlndlipicbkhiaaDoor
open Go.RowKit Go.Shelf

def unT : List (List UInt8 × Value) := [([45], .func (.func 33) #[] #[]), ([110, 111, 116], .func (.func 34) #[] #[])]
/-- a function that computes an operator of one scalar -/
structure Unf (g k : Nat) : Prop where
  ent : ∀ args w, (callFunc g args).run Tryd.prog w = .ok (.enter g args) w
  run : ∀ (a : Int) (w : World), (-128 ≤ a ∧ a ≤ 127) → Calls Tryd.prog g #[.int .i64 a] w fun e w' => e = .returned (.int .i64 (if k = 0 then -a else 1 - a)) ∧ w' = w
theorem unf0 : Unf 33 0 := ⟨enters_of Tryd.func33 (by kernel_rfl) rfl, fun a w ha => by
  have h1 : IntKind.i64.wrap (-a) = -a := by simp [IntKind.wrap, IntKind.bits, IntKind.signed]; omega
  go_enter Tryd.func33, Tryd.ntmps33
  go_wp2_with (fail)
  go_ret
  exact ⟨rfl, rfl⟩⟩
theorem unf1 : Unf 34 1 := ⟨enters_of Tryd.func34 (by kernel_rfl) rfl, fun a w ha => by
  have h1 : IntKind.i64.wrap (1 - a) = 1 - a := by simp [IntKind.wrap, IntKind.bits, IntKind.signed]; omega
  go_enter Tryd.func34, Tryd.ntmps34
  go_wp2_with (fail)
  go_ret
  exact ⟨rfl, rfl⟩⟩
theorem un_ways (s : List UInt8) : (∃ g k, unN s = k ∧ k < 2 ∧ Unf g k ∧ (s == [110, 111, 116]) = decide (k = 1) ∧ lkp s unT (.nilFunc, false) = (.func (.func g) #[] #[], true)) ∨ (unN s = 2 ∧ lkp s unT (.nilFunc, false) = (.nilFunc, false)) := by
  by_cases h0 : s = [45]
  · subst h0
    exact .inl ⟨_, 0, rfl, by decide, unf0, rfl, rfl⟩
  by_cases h1 : s = [110, 111, 116]
  · subst h1
    exact .inl ⟨_, 1, rfl, by decide, unf1, rfl, rfl⟩
  exact .inr ⟨by simp [unN, h0, h1], by simp [lkp, unT, h0, h1]⟩
theorem unP_out {W : Int} (h : W < 2 ∨ 8 < W) (k : Nat) (a : Int) : unP W k a = (0, 2) := by
  unfold unP
  rw [if_pos (hf_out h)]
theorem unP_none {W : Int} (h : ¬ (W < 2 ∨ 8 < W)) (a : Int) : unP W 2 a = (0, 1) := by
  unfold unP
  rw [if_neg (hf_in h), if_pos rfl]
theorem unP_bad {W : Int} (h : ¬ (W < 2 ∨ 8 < W)) {k : Nat} (hk : k < 2) {a : Int} (hs : scB W (decide (k = 1)) a = false) : unP W k a = (0, 2) := by
  unfold unP
  rw [if_neg (hf_in h), if_neg (by omega), if_pos hs]
theorem unP_good {W : Int} (h : ¬ (W < 2 ∨ 8 < W)) {k : Nat} (hk : k < 2) {a : Int} (hs : scB W (decide (k = 1)) a = true) : unP W k a = (wrpP W (if k = 0 then -a else 1 - a), 0) := by
  unfold unP
  rw [if_neg (hf_in h), if_neg (by omega), hs, if_neg (by decide)]
def unV (r : Int × Int) : Value := .tuple #[.int .i64 r.1, .int .i64 r.2]

set_option maxRecDepth 100000 in
set_option maxHeartbeats 4000000 in
theorem unary_any (W a : Int) (s : ByteArray) (hW : IntKind.i64.wrap W = W) (hs : s.size ≤ maxLen) (w : World) :
    Calls Tryd.prog 10 #[.int .i64 W, .string s, .int .i64 a] w fun e w' => e = .returned (unV (unP W (unN s.data.toList) a)) ∧ Below w.heap.size w w' := by
  have HP := Lib.hid (possible_any W w)
  by_cases h : W < 2 ∨ 8 < W
  · have h0 : decide (2 ≤ W ∧ W ≤ 8) = false := by rw [decide_eq_false_iff_not]; omega
    rw [h0] at HP
    have HR := Lib.hid (unP_out h (unN s.data.toList) a)
    clear h h0
    go_enter Tryd.func10, Tryd.ntmps10
    go_wp2_with (fail)
    refine HP.out.mono ?_
    rintro e w1 ⟨rfl, rfl⟩
    go_wp2_with (fail)
    go_ret2
    exact ⟨by rw [HR.out]; rfl, Below.refl _ _⟩
  have h0 : decide (2 ≤ W ∧ W ≤ 8) = true := by rw [decide_eq_true_iff]; omega
  rw [h0] at HP
  have HIN := Lib.hid h
  have HWW := Lib.hid hW
  clear h h0 hW
  have hmm := @run_makeMap Tryd.prog
  have ho := World.ownsMap_made w Tryd.prog 9 fnR
  have hb := (Below.refl w.heap.size w).alloc (Nat.le_refl _) (.map #[] 0)
  go_enter Tryd.func10, Tryd.ntmps10
  go_wp2_with (fail)
  refine HP.out.mono ?_
  rintro e w1 ⟨rfl, rfl⟩
  go_wp2_with (refine wpList_insert_tab _ rfl _ _ _ 49 rfl 9 28 keyLaw Tryd.underlying49 fnR w1.heap.size _ _ rfl ho (by unfold maxLen; omega) _ _ _ rfl rfl (WideMaps.keyOf_string_mk Tryd.underlying9 (by unfold maxLen; decide)) _ [] rfl ?_; intro wn hon hgn; replace hb := hb.grown hgn (by have := hb.size; omega) (fun k hk => by injection hk with hk; omega); clear ho; have ho := hon; clear hon hgn)
  have HO : wn.ownsMap Tryd.prog 9 fnR w1.heap.size _ (tabD unT (.map [])) := ho
  have HL := tab_look 49 28 Tryd.underlying49 (fun w => by kernel_rfl) unT HO s hs
  have HB := Lib.hid hb
  clear ho HO hb hs
  rcases un_ways s.data.toList with ⟨g, k, h1, h2, h3, h4, h5⟩ | ⟨h1, h5⟩
  · rw [h5] at HL
    have HK := Lib.hid h1
    have HK2 := Lib.hid h2
    have HENT := h3.ent
    have HRUN := Lib.hid h3.run
    have h4' : (s.toList == [110, 111, 116]) = decide (k = 1) := by rw [ByteArray.toList_eq]; exact h4
    obtain ⟨t, HT⟩ : ∃ t, Hid (decide (k = 1) = t) := ⟨_, Lib.hid rfl⟩
    rw [HT.out] at h4'
    have HS := Lib.hid (fun w => scalar_any W a t HWW.out w)
    obtain ⟨x, HX⟩ : ∃ x, Hid (scB W t a = x) := ⟨_, Lib.hid rfl⟩
    rw [HX.out] at HS
    clear h1 h2 h3 h4 h5
    go_wp2_with (fail)
    refine (HS.out _).mono ?_
    rintro e w2 ⟨rfl, rfl⟩
    cases x with
    | false =>
      have HR := Lib.hid (unP_bad HIN.out HK2.out (a := a) (by rw [HT.out]; exact HX.out))
      go_wp2_with (fail)
      go_ret2
      exact ⟨by rw [HK.out, HR.out]; rfl, HB.out⟩
    | true =>
      have HR := Lib.hid (unP_good HIN.out HK2.out (a := a) (by rw [HT.out]; exact HX.out))
      have HBA := Lib.hid (sc_bound HX.out)
      go_wp2_with (fail)
      refine (HRUN.out a _ HBA.out).mono ?_
      rintro e w3 ⟨rfl, rfl⟩
      obtain ⟨r, HRR⟩ : ∃ r, Hid ((if k = 0 then -a else 1 - a) = r) := ⟨_, Lib.hid rfl⟩
      rw [HRR.out] at HR ⊢
      have HW := Lib.hid (fun w => wrap_any W r HWW.out w)
      go_wp2_with (fail)
      refine (HW.out _).mono ?_
      rintro e w4 ⟨rfl, rfl⟩
      go_wp2_with (fail)
      go_ret2
      exact ⟨by rw [HK.out, HR.out]; rfl, HB.out⟩
  · rw [h5] at HL
    have HR := Lib.hid (unP_none HIN.out a)
    have HK := Lib.hid h1
    clear h1 h5
    go_wp2_with (fail)
    go_ret2
    exact ⟨by rw [HK.out, HR.out]; rfl, HB.out⟩
end Go.Proofs.YtlndlipicbkhiaaDoor
