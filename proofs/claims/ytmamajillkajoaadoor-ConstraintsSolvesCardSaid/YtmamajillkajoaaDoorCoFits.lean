/- What is proved: the reference's valid and Fits: whether constraints are possible. -/
import Derived.Test.YtmamajillkajoaaDoorCoOut
set_option linter.unusedVariables false
namespace Go.Proofs.YtmamajillkajoaaDoor
open Go.RowKit Go.Shelf

abbrev cObj (x : Con) : Obj := .cells #[.int .i64 x.kind, .int .i64 x.a, .int .i64 x.b, .int .i64 x.mark.kind, .int .i64 x.mark.len, .string x.mark.nm, .int .i64 x.lo, .int .i64 x.hi] 41
def errV (n : Int) (l : List Con) : Int := if n < 0 ∨ 4096 < n then 2 else if l.all (posB n.toNat) then 0 else 1
theorem errV_out (n : Int) (l : List Con) : (svOut n l).2.2 = errV n l := by
  unfold svOut errV
  split
  · rfl
  · split <;> rfl
set_option maxRecDepth 100000 in
set_option maxHeartbeats 2000000 in
theorem co_valid_any (n : Int) (A : Option Addr) (c : Nat) (l : List Con) (w : World) (hr : CRow w.heap.size w A l) (hl : l.length ≤ 1000000) :
    Calls Tryd.prog 21 #[.int .i64 n, .slice A l.length c] w fun e w' => e = .returned (.int .i64 (errV n l)) ∧ Below w.heap.size w w' := by
  have HB := Lib.hid (Below.refl w.heap.size w)
  have HR := Lib.hid hr
  clear hr
  by_cases h0 : n < 0
  · have HE := Lib.hid (show errV n l = 2 by unfold errV; rw [if_pos (.inl h0)])
    rw [HE.out]
    go_enter Tryd.func21, Tryd.ntmps21
    go_wp2_with (fail)
    go_ret
    exact ⟨rfl, HB.out⟩
  by_cases h1 : 4096 < n
  · have HE := Lib.hid (show errV n l = 2 by unfold errV; rw [if_pos (.inr h1)])
    rw [HE.out]
    go_enter Tryd.func21, Tryd.ntmps21
    go_wp2_with (fail)
    go_ret
    exact ⟨rfl, HB.out⟩
  obtain ⟨m, rfl⟩ : ∃ m : Nat, n = (m : Int) := ⟨n.toNat, by omega⟩
  have HT := Lib.hid (show l.all (posB m) = true → errV m l = 0 from fun h => by unfold errV; rw [if_neg (by omega), Int.toNat_natCast, if_pos h])
  have HF := Lib.hid (show l.all (posB m) = false → errV m l = 1 from fun h => by unfold errV; rw [if_neg (by omega), Int.toNat_natCast, h]; rfl)
  go_enter Tryd.func21, Tryd.ntmps21
  go_wp2_with (fail)
  go_loopw [5] (fun i wr => ∃ k : Nat, k ≤ l.length ∧ i = .int .i64 (k : Int) ∧ Hid ((l.take k).all (posB m) = true) ∧ Hid (Below w.heap.size w wr)) (fun i _ => l.length - (intOf i).toNat)
  case atStart => exact ⟨0, Nat.zero_le _, rfl, Lib.hid rfl, Lib.hid (Below.refl _ _)⟩
  case round =>
    obtain ⟨k, hk, rfl, hno, hbw⟩ := hrel
    by_cases hlt : k < l.length
    · obtain ⟨b, off, rfl, hbz, hcs⟩ := HR.out (by omega)
      obtain ⟨r0, r1, r2, r3, r4, r5, r6, r7⟩ := (hcs k hlt).below hbw.out hbz
      clear hcs
      obtain ⟨x, HX⟩ : ∃ x, Hid (l[k] = x) := ⟨_, Lib.hid rfl⟩
      rw [HX.out] at r0 r1 r2 r3 r4 r5 r6 r7
      have HTK := Lib.hid (show posB m x = true → (l.take (k + 1)).all (posB m) = true from fun h => by rw [List.take_succ_eq_append_getElem hlt, List.all_append, hno.out, HX.out]; simp [h])
      have HAL := Lib.hid (show posB m x = false → errV m l = 1 from fun h => HF.out (by
        rw [Bool.eq_false_iff]
        intro ha
        have := List.all_eq_true.1 ha _ (List.getElem_mem hlt)
        rw [HX.out, h] at this
        cases this))
      have hal := heap_alloc_new wr (cObj x)
      have n0 := Lib.cell_of_heap hal 0
      have n1 := Lib.cell_of_heap hal 1
      have n2 := Lib.cell_of_heap hal 2
      have n3 := Lib.cell_of_heap hal 3
      have n4 := Lib.cell_of_heap hal 4
      have n5 := Lib.cell_of_heap hal 5
      have HBA := Lib.hid (hbw.out.alloc hbw.out.size (cObj x))
      clear hal
      by_cases ha : x.a < 0
      · have HE := Lib.hid (HAL.out (by unfold posB; simp; omega))
        go_wp2_with (fail)
        go_ret
        exact ⟨by rw [HE.out]; rfl, hbw.out.alloc hbw.out.size _⟩
      by_cases ha2 : (m : Int) ≤ x.a
      · have HE := Lib.hid (HAL.out (by unfold posB; simp; omega))
        go_wp2_with (fail)
        go_ret
        exact ⟨by rw [HE.out]; rfl, hbw.out.alloc hbw.out.size _⟩
      by_cases k0 : x.kind = 0
      · obtain ⟨v, HV⟩ : ∃ v, Hid (markB x.mark = v) := ⟨_, Lib.hid rfl⟩
        have HP := Lib.hid (show posB m x = v by unfold posB; rw [k0, HV.out]; simp; cases v <;> simp <;> omega)
        have HM := Lib.hid (fun W => r_isMark_f x.mark v HV.out W)
        go_wp2_with (fail)
        refine (HM.out _).mono ?_
        rintro e w2 ⟨rfl, hb2⟩
        have HB2 := Lib.hid ((hbw.out.alloc hbw.out.size _).trans (hb2.mono (by rw [World.size_alloc]; have := hbw.out.size; omega)))
        clear hb2 n0 n1 n2 n3 n4 n5 r0 r1 r2 r3 r4 r5 r6 r7
        cases v with
        | false =>
          have HE := Lib.hid (HAL.out HP.out)
          go_wp2_with (fail)
          go_ret
          exact ⟨by rw [HE.out]; rfl, HB2.out⟩
        | true =>
          go_wp2_with (fail)
          exact ⟨⟨k + 1, by omega, by go_num, Lib.hid (HTK.out HP.out), HB2⟩, by simp [intOf]; omega⟩
      by_cases k1 : x.kind = 1
      · by_cases hb : x.b < 0
        · have HE := Lib.hid (HAL.out (by unfold posB; simp [k1]; omega))
          go_wp2_with (fail)
          go_ret
          exact ⟨by rw [HE.out]; rfl, hbw.out.alloc hbw.out.size _⟩
        by_cases hb2 : (m : Int) ≤ x.b
        · have HE := Lib.hid (HAL.out (by unfold posB; simp [k1]; omega))
          go_wp2_with (fail)
          go_ret
          exact ⟨by rw [HE.out]; rfl, hbw.out.alloc hbw.out.size _⟩
        have HP := Lib.hid (show posB m x = true by unfold posB; simp [k1]; omega)
        go_wp2_with (fail)
        exact ⟨⟨k + 1, by omega, by go_num, Lib.hid (HTK.out HP.out), Lib.hid (hbw.out.alloc hbw.out.size _)⟩, by simp [intOf]; omega⟩
      · have HE := Lib.hid (HAL.out (by unfold posB; simp [k0, k1]))
        have q0 : (x.kind != 0) = true := by simpa using k0
        have q1 : (x.kind != 1) = true := by simpa using k1
        have q2 : (x.kind == 0) = false := by simpa using k0
        have q3 : (x.kind == 1) = false := by simpa using k1
        go_wp2_with (fail)
        go_ret
        exact ⟨by rw [HE.out]; rfl, hbw.out.alloc hbw.out.size _⟩
    · obtain rfl : k = l.length := by omega
      have HE := Lib.hid (HT.out (by have h := hno.out; rw [List.take_length] at h; exact h))
      go_wp2_with (fail)
      go_ret
      exact ⟨by rw [HE.out]; rfl, hbw.out⟩
end Go.Proofs.YtmamajillkajoaaDoor
