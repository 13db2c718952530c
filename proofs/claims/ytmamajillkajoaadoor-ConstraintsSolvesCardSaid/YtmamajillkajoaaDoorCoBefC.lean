/- What is proved: the reference's before: the order of chains. -/
import Derived.Test.YtmamajillkajoaaDoorCoBest
import Derived.Test.YtmamajillkajoaaDoorCoDistC
import Derived.Deep.QuietTactic
import Derived.BigQuiet
set_option linter.unusedVariables false
namespace Go.Proofs.YtmamajillkajoaaDoor
open Go.RowKit Go.Shelf

set_option maxRecDepth 100000 in
set_option maxHeartbeats 2000000 in
theorem before_any (A B : Option Addr) (c d : Nat) (a b : List Nat) (w : World) (ha : IRow w.heap.size w A a) (hb : IRow w.heap.size w B b) (hla : a.length ≤ 1000000) (hlb : b.length ≤ 1000000) (v : Bool) (hv : befB a b = v) :
    Calls Tryd.prog 25 #[.slice A a.length c, .slice B b.length d] w fun e w' => e = .returned (.bool v) ∧ Below w.heap.size w w' := by
  have HA := Lib.hid ha
  have HB := Lib.hid hb
  have HV := Lib.hid hv
  clear ha hb hv
  by_cases h0 : b.length = 0
  · have hb0 : b = [] := List.eq_nil_of_length_eq_zero h0
    subst hb0
    have hvv : v = true := by have := HV.out; unfold befB at this; simpa using this.symm
    subst hvv
    clear h0 HV HB
    show Calls Tryd.prog _ #[.slice A a.length c, .slice B 0 d] w _
    go_enter Tryd.func25, Tryd.ntmps25
    go_wp2_with (fail)
    go_ret
    exact ⟨rfl, Below.refl _ _⟩
  · have hbp : 0 < b.length := by omega
    by_cases hne : a.length = b.length
    · obtain ⟨m, hm⟩ : ∃ m, b.length = m := ⟨_, rfl⟩
      have HL := Lib.hid (And.intro (hne.trans hm) hm)
      have HVL := Lib.hid (show ltx a b = v by
        have := HV.out
        unfold befB at this
        rw [if_pos hne] at this
        simpa [h0] using this)
      rw [hne, hm]
      rw [hm] at hbp hlb
      have hmz : ((m : Int) == 0) = false := by simp; omega
      clear hne hm HV h0 hla
      go_enter Tryd.func25, Tryd.ntmps25
      go_wp2_with (fail)
      go_loopw [5] (fun i wr => ∃ k : Nat, k ≤ m ∧ i = .int .i64 (k : Int) ∧ Hid (∀ j (h : j < a.length) (h' : j < b.length), j < k → a[j] = b[j]) ∧ Hid (Below w.heap.size w wr)) (fun i _ => m - (intOf i).toNat)
      case atStart => exact ⟨0, Nat.zero_le _, rfl, Lib.hid (fun j h h' hj => by omega), Lib.hid (Below.refl _ _)⟩
      case round =>
        obtain ⟨k, hk, rfl, heq, hbw⟩ := hrel
        by_cases hlt : k < m
        · have hka : k < a.length := by have := HL.out.1; omega
          have hkb : k < b.length := by have := HL.out.2; omega
          obtain ⟨xa, oa, rfl, hxa, hca⟩ := HA.out (by omega)
          obtain ⟨xb, ob, rfl, hxb, hcb⟩ := HB.out (by omega)
          have ca := (hbw.out.cell (p := ⟨xa, oa + k, none⟩) hxa).trans (hca k hka)
          have cb := (hbw.out.cell (p := ⟨xb, ob + k, none⟩) hxb).trans (hcb k hkb)
          obtain ⟨x, HX⟩ : ∃ x, Hid (a[k] = x) := ⟨_, Lib.hid rfl⟩
          obtain ⟨y, HY⟩ : ∃ y, Hid (b[k] = y) := ⟨_, Lib.hid rfl⟩
          rw [HX.out] at ca
          rw [HY.out] at cb
          clear hca hcb
          by_cases e : x = y
          · subst e
            have HEQ := Lib.hid (show ∀ j (h : j < a.length) (h' : j < b.length), j < k + 1 → a[j] = b[j] from fun j h h' hj => by
              rcases Nat.lt_or_ge j k with g | g
              · exact heq.out j h h' g
              · obtain rfl : j = k := by omega
                rw [HX.out, HY.out])
            have e0 : ((x : Int) != (x : Int)) = false := by simp
            go_wp2_with (fail)
            go_quiet (fail)
            go_wp2_with (fail)
            exact ⟨⟨k + 1, by omega, by go_num, HEQ, Lib.hid (hbw.out.trans ((drewN_below wr nq).mono hbw.out.size))⟩, by simp [intOf]; omega⟩
          · have HD := Lib.hid (show decide (x < y) = v from by
              have h1 : k < a.length := by have := HL.out.1; omega
              have h2 : k < b.length := by have := HL.out.2; omega
              have := ltx_at h1 h2 heq.out (by rw [HX.out, HY.out]; exact e)
              rw [HX.out, HY.out] at this
              rw [← this, HVL.out])
            have e0 : ((x : Int) != (y : Int)) = true := by simp; omega
            go_wp2_with (fail)
            go_quiet (fail)
            have HB1 := Lib.hid (hbw.out.trans ((drewN_below wr nq).mono hbw.out.size))
            go_wp2_with (fail)
            go_quiet (fail)
            go_wp2_with (fail)
            go_ret
            refine ⟨?_, ?_⟩
            · rw [← HD.out]; simp
            · exact HB1.out.trans ((drewN_below _ _).mono HB1.out.size)
        · have HT := Lib.hid (show v = false from by
            rw [← HVL.out]
            exact ltx_same (by rw [HL.out.1, HL.out.2]) (fun j h h' => heq.out j h h' (by have := HL.out.1; omega)))
          go_wp2_with (fail)
          go_ret
          exact ⟨by rw [HT.out]; rfl, hbw.out⟩
    · have HD := Lib.hid (show decide (a.length < b.length) = v by
        have := HV.out
        unfold befB at this
        rw [if_neg hne] at this
        simpa [h0] using this)
      have e1 : ((b.length : Int) == 0) = false := by simpa using h0
      have e2 : ((a.length : Int) != (b.length : Int)) = true := by simpa using (show ¬ (a.length : Int) = (b.length : Int) by omega)
      clear h0 hne HV HA HB
      go_enter Tryd.func25, Tryd.ntmps25
      go_wp2_with (fail)
      go_ret
      exact ⟨by rw [← HD.out]; simp, Below.refl _ _⟩
end Go.Proofs.YtmamajillkajoaaDoor
