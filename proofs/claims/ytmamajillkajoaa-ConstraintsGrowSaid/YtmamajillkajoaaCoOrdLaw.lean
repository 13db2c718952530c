/- What is proved: the law ConstraintsOrder. -/
import Derived.Test.YtmamajillkajoaaCoRot
import Derived.Test.YtmamajillkajoaaCoOut
set_option linter.unusedVariables false
namespace Go.Proofs.Ytmamajillkajoaa
open Go.RowKit Go.Shelf

def fewB (n : Int) (l : List Con) : Bool := decide (l.length ≤ 80) && (decide (n ≤ 60) || decide (4096 < n))
set_option maxRecDepth 100000 in
theorem few_f (n : Int) (A : Option Addr) (c : Nat) (l : List Con) (v : Bool) (hv : fewB n l = v) (w : World) : Calls Try.prog 10 #[.int .i64 n, .slice A l.length c] w fun e w' => e = .returned (.bool v) ∧ Below w.heap.size w w' := by
  have HB := Lib.hid (Below.refl w.heap.size w)
  have HV := Lib.hid hv
  clear hv
  by_cases h1 : (l.length : Int) ≤ 80 <;> by_cases h2 : n ≤ 60 <;> by_cases h3 : 4096 < n
  all_goals
    go_enter Try.func10, Try.ntmps10
    go_wp2_with (fail)
    go_ret
    refine ⟨?_, HB.out⟩
    rw [← HV.out]
    unfold fewB
    first | omega | (congr 2; simp; omega)

set_option maxRecDepth 100000 in
set_option maxHeartbeats 800000 in
theorem law_order (n : Int) (A : Option Addr) (c : Nat) (l : List Con) (by_ : Int) (hby : 0 ≤ by_ ∧ by_ < 256) (w : World) (hr : CRow w.heap.size w A l) (hok : ∀ x ∈ l, ConOk x) (hcap : l.length ≤ c) :
    Calls Try.prog 6 #[.int .i64 n, .slice A l.length c, .int .u8 by_] w fun e w' => e = .returned (.bool true) ∧ Below w.heap.size w w' := by
  have HAW := Lib.hid (fun W => awake_any W)
  have HR := Lib.hid hr
  have HOK := Lib.hid hok
  obtain ⟨v, HV⟩ : ∃ v, Hid (fewB n l = v) := ⟨_, Lib.hid rfl⟩
  have HF := Lib.hid (few_f n A c l v HV.out w)
  clear hr hok
  cases v with
  | false =>
    go_enter Try.func6, Try.ntmps6
    go_wp2_with (fail)
    refine HF.out.mono ?_
    rintro e w1 ⟨rfl, hb1⟩
    have HB1 := Lib.hid hb1
    clear hb1
    go_wp2_with (fail)
    refine (HAW.out w1).mono ?_
    rintro e w2 ⟨rfl, hb2⟩
    have HB2 := Lib.hid (HB1.out.trans (hb2.mono HB1.out.size))
    clear hb2
    go_wp2_with (fail)
    go_ret
    exact ⟨rfl, HB2.out⟩
  | true =>
    by_cases h0 : l.length = 0
    · obtain rfl : l = [] := List.eq_nil_of_length_eq_zero h0
      clear h0 HV HR HOK hcap
      have HF2 := Lib.hid (show Calls Try.prog 10 #[.int .i64 n, .slice A 0 c] w fun e w' => e = .returned (.bool true) ∧ Below w.heap.size w w' from HF.out)
      clear HF
      show Calls Try.prog _ #[.int .i64 n, .slice A 0 c, .int .u8 by_] w _
      go_enter Try.func6, Try.ntmps6
      go_wp2_with (fail)
      refine HF2.out.mono ?_
      rintro e w1 ⟨rfl, hb1⟩
      have HB1 := Lib.hid hb1
      clear hb1
      go_wp2_with (fail)
      refine (HAW.out w1).mono ?_
      rintro e w2 ⟨rfl, hb2⟩
      have HB2 := Lib.hid (HB1.out.trans (hb2.mono HB1.out.size))
      clear hb2
      go_wp2_with (fail)
      go_ret
      exact ⟨rfl, HB2.out⟩
    · have h00 : ((l.length : Int) == 0) = false := by rw [beq_eq_false_iff_ne]; omega
      obtain ⟨b, off, rfl, hlt, _⟩ := HR.out (by omega)
      have hfew := HV.out
      unfold fewB at hfew
      simp only [Bool.and_eq_true, Bool.or_eq_true, decide_eq_true_eq] at hfew
      have HN := Lib.hid hfew
      clear hfew
      obtain ⟨k, HK⟩ : ∃ k : Nat, Hid (k = by_.toNat % l.length) := ⟨_, Lib.hid rfl⟩
      have hk : k < l.length := by rw [HK.out]; exact Nat.mod_lt _ (by omega)
      have hkk : by_ % (l.length : Int) = (k : Int) := by rw [HK.out, Int.natCast_emod, Int.toNat_of_nonneg hby.1]
      go_enter Try.func6, Try.ntmps6
      go_wp2_with (fail)
      refine HF.out.mono ?_
      rintro e w1 ⟨rfl, hb1⟩
      have HB1 := Lib.hid hb1
      clear hb1
      go_wp2_with (fail)
      rw [hkk]
      have hba := ((Below.refl w1.heap.size w1).alloc (Nat.le_refl _) (.cells #[] 36)).drew
      obtain ⟨v1, x1, R, cap, w2, r1, r2, hcr, hb2⟩ := rot_run w1 _ b off c k l hk (by have := HN.out.1; omega) hba (heap_alloc_new w1 (.cells #[] 36)) (HR.out.later HB1.out)
      have hk2 : k ≤ l.length := by omega
      have hck : ¬ c = k := by omega
      have hkc : k ≤ c := by omega
      have HR1 := Lib.hid r1
      have HR2 := Lib.hid r2
      have HC2 := Lib.hid hcr
      have HB2 := Lib.hid (HB1.out.trans (hb2.mono HB1.out.size))
      clear r1 r2 hcr hb2 HF hkk HK HV hba
      go_region_law (first
        | (refine step_append_by (by rfl) _ _ 26 26 (by rfl) _ _ (by rfl) (by rfl) _ _ HR2.out ?_)
        | (refine step_append_by (by rfl) _ _ 26 26 (by rfl) _ _ (by rfl) (by rfl) _ _ HR1.out ?_))
      have hlen : (l.drop k ++ l.take k).length = l.length := by simp; omega
      have HS1 := Lib.hid (solve_res n HN.out.2 (some ⟨b, off, none⟩) c l w2 HN.out.1 ((HR.out.below HB2.out).up HB2.out.size) HOK.out)
      obtain ⟨hE1, hE2, hE3⟩ := svOut_same (n := n) (l := l) (l' := l.drop k ++ l.take k) (fun x hx => (rot_mem l k x).2 hx) (fun x hx => (rot_mem l k x).1 hx)
      have HS2 := Lib.hid (fun (W : World) (hb : Below w2.heap.size w2 W) => solve_res n HN.out.2 (some ⟨R, 0, none⟩) cap (l.drop k ++ l.take k) W (by rw [hlen]; exact HN.out.1) (HC2.out.later hb) (fun x hx => HOK.out x ((rot_mem l k x).1 hx)))
      rw [hlen] at HS2
      obtain ⟨hL1, hL2⟩ := svOut_len n l
      generalize svOut n l = o1 at *
      generalize svOut n (l.drop k ++ l.take k) = o2 at *
      obtain ⟨tl, xs, er⟩ := o1
      obtain ⟨tl', ys, er'⟩ := o2
      dsimp only at hE1 hE2 hE3 hL1 hL2
      subst hE1
      subst hE3
      have HXY := Lib.hid hE2
      clear hE2 hlen HR1 HR2 HC2 HR HOK hck hkc
      go_simp
      go_wp2_with (fail)
      refine HS1.out.mono ?_
      rintro e w3 ⟨TA, XA, ct, cx, rfl, ht3, hx3, hb3⟩
      have HS3 := Lib.hid (HS2.out w3 hb3)
      have HB3 := Lib.hid (HB2.out.trans (hb3.mono HB2.out.size))
      have HT3 := Lib.hid ht3
      have HX3 := Lib.hid hx3
      clear HS1 HS2 HB2 ht3 hx3 hb3
      dsimp only
      go_wp2_with (fail)
      refine HS3.out.mono ?_
      rintro e w4 ⟨TB, XB, dt, dx, rfl, ht4, hx4, hb4⟩
      have HT4 := Lib.hid ht4
      have HX4 := Lib.hid hx4
      have HT3' := Lib.hid (HT3.out.later hb4)
      have HX3' := Lib.hid (lrow_later HX3.out hb4)
      have HB4 := Lib.hid (HB3.out.trans (hb4.mono HB3.out.size))
      clear HS3 HB3 HT3 HX3 ht4 hx4 hb4
      dsimp only
      go_wp2_with (fail)
      refine (typesEq_any TA TB ct dt tl w4 HT3'.out HT4.out (by omega)).mono ?_
      rintro e w5 ⟨rfl, nd, rfl⟩
      have hle := congrArg List.length HXY.out
      rw [List.length_map, List.length_map] at hle
      have HGET := Lib.hid (show ∀ (i : Nat) (h : i < xs.length) (h' : i < ys.length), xs[i].length = ys[i].length from fun i h h' => by
        have e := congrArg (fun z => z[i]?) HXY.out
        simp only [List.getElem?_map, List.getElem?_eq_getElem h, List.getElem?_eq_getElem h', Option.map_some, Option.some.injEq] at e
        exact e)
      have hxl : ((xs.length : Int) != (ys.length : Int)) = false := by simp [hle]
      go_wp2_with (fail)
      have HLE := Lib.hid hle
      have hyl : ys.length ≤ 4096 := by omega
      clear hle hxl HT3' HT4 HXY hL1 hL2
      go_loopw [72] (fun i wr => ∃ j nn : Nat, j ≤ ys.length ∧ i = .int .i64 (j : Int) ∧ wr = w4.drewN nn) (fun i _ => ys.length - (intOf i).toNat)
      case atStart => exact ⟨0, nd, Nat.zero_le _, rfl, rfl⟩
      case round =>
        obtain ⟨j, nn, hj, rfl, rfl⟩ := hrel
        by_cases hlj : j < ys.length
        · have hlj2 : j < xs.length := by have := HLE.out; omega
          obtain ⟨b1, o1, rfl, _, hc1⟩ := HX3'.out (by omega)
          obtain ⟨b2, o2, rfl, _, hc2⟩ := HX4.out (by omega)
          obtain ⟨X1, z1, c1, k1⟩ := hc1 j hlj2
          obtain ⟨X2, z2, c2, k2⟩ := hc2 j hlj
          rw [HGET.out j hlj2 hlj] at c1
          clear hc1 hc2 k1 k2 hlj2
          generalize ys[j].length = q at *
          have hqq : ((q : Int) != (q : Int)) = false := by simp
          go_wp2_with (fail)
          go_quiet (fail)
          go_wp2_with (fail)
          exact ⟨⟨j + 1, nn + nq, by omega, by go_num, rfl⟩, by simp [intOf]; omega⟩
        · go_wp2_with (fail)
          have HB5 := Lib.hid (HB4.out.trans ((drewN_below w4 nn).mono HB4.out.size))
          refine (HAW.out _).mono ?_
          rintro e w6 ⟨rfl, hb6⟩
          have HB6 := Lib.hid (HB5.out.trans (hb6.mono HB5.out.size))
          clear hb6
          go_wp2_with (fail)
          go_ret
          exact ⟨rfl, HB6.out⟩
end Go.Proofs.Ytmamajillkajoaa
