/- What is proved: whether a constraint is possible. -/
import Derived.Test.YtmamajillkajoaaDoorCoChain
set_option linter.unusedVariables false
namespace Go.Proofs.YtmamajillkajoaaDoor
open Go.RowKit Go.Shelf

theorem exists_f (w : World) (b n : Nat) (x : Int) (v : Bool) (hc : w.cell? ⟨b, 0, none⟩ = some (.int .i64 (n : Int))) (hv : (decide (0 ≤ x) && decide (x < (n : Int))) = v) :
    Calls Tryd.prog 29 #[.int .i64 x, .pointer (some ⟨b, 0, none⟩)] w fun e w' => e = .returned (.bool v) ∧ Below w.heap.size w w' := by
  have HV := Lib.hid hv
  clear hv
  go_enter Tryd.func29, Tryd.ntmps29
  go_wp2_with (fail)
  all_goals
    go_ret
    refine ⟨?_, Below.refl _ _⟩
    rw [← HV.out]
    simp only [Ending.returned.injEq]
    first
      | (rw [Bool.eq_iff_iff]; simp; omega)
      | (simp; omega)
theorem exists_eK : ∀ args w, (callFunc 29 args).run Tryd.prog w = .ok (.enter 29 args) w := enters_of Tryd.func29 (by kernel_rfl) rfl

theorem pos_mark {n : Nat} {x : Con} (h : x.kind = 0) : posB n x = ((decide (0 ≤ x.a) && decide (x.a < (n : Int))) && markB x.mark) := by
  unfold posB; rw [h]; simp
theorem pos_equal {n : Nat} {x : Con} (h : x.kind = 1) : posB n x = ((decide (0 ≤ x.a) && decide (x.a < (n : Int))) && (decide (0 ≤ x.b) && decide (x.b < (n : Int)))) := by
  unfold posB; rw [h]; simp
theorem pos_no {n : Nat} {x : Con} (h : (x.kind == 0) = false) (h1 : (x.kind == 1) = false) : posB n x = false := by
  unfold posB; rw [h, h1]; simp

set_option maxRecDepth 100000 in
set_option maxHeartbeats 2000000 in
theorem possible_f (x : Con) (n : Nat) (w : World) :
    Calls Tryd.prog 15 #[.agg #[.int .i64 x.kind, .int .i64 x.a, .int .i64 x.b, .int .i64 x.mark.kind, .int .i64 x.mark.len, .string x.mark.nm, .int .i64 x.lo, .int .i64 x.hi], .int .i64 (n : Int)] w fun e w' => e = .returned (.bool (posB n x)) ∧ Below w.heap.size w w' := by
  have hk : x.kind = 0 ∨ x.kind = 1 ∨ ((x.kind == 0) = false ∧ (x.kind == 1) = false) := by
    by_cases h0 : x.kind = 0
    · exact .inl h0
    · by_cases h1 : x.kind = 1
      · exact .inr (.inl h1)
      · exact .inr (.inr ⟨by simpa using h0, by simpa using h1⟩)
  rcases hk with hk | hk | ⟨hk, hk1⟩
  · have HP := Lib.hid (pos_mark (n := n) hk)
    obtain ⟨va, HA⟩ : ∃ va, Hid ((decide (0 ≤ x.a) && decide (x.a < (n : Int))) = va) := ⟨_, Lib.hid rfl⟩
    obtain ⟨vm, HM⟩ : ∃ vm, Hid (markB x.mark = vm) := ⟨_, Lib.hid rfl⟩
    go_enter Tryd.func15, Tryd.ntmps15
    go_wp2_with (fail)
    have hb1 : Below w.heap.size w ((w.alloc (.cells #[.int .i64 0, .int .i64 x.a, .int .i64 x.b, .int .i64 x.mark.kind, .int .i64 x.mark.len, .string x.mark.nm, .int .i64 x.lo, .int .i64 x.hi] 41)).alloc (.cells #[.int .i64 (n : Int)] 3)) := ((Below.refl w.heap.size w).alloc (Nat.le_refl _) _).alloc (by simp) _
    have hc1 : ((w.alloc (.cells #[.int .i64 0, .int .i64 x.a, .int .i64 x.b, .int .i64 x.mark.kind, .int .i64 x.mark.len, .string x.mark.nm, .int .i64 x.lo, .int .i64 x.hi] 41)).alloc (.cells #[.int .i64 (n : Int)] 3)).heap[w.heap.size]? = some (.cells #[.int .i64 0, .int .i64 x.a, .int .i64 x.b, .int .i64 x.mark.kind, .int .i64 x.mark.len, .string x.mark.nm, .int .i64 x.lo, .int .i64 x.hi] 41 (0, 0)) := (((Below.refl _ _).alloc (Nat.le_refl _) _).block _ (by simp)).trans (heap_alloc_new w _)
    have hv1 : ((w.alloc (.cells #[.int .i64 0, .int .i64 x.a, .int .i64 x.b, .int .i64 x.mark.kind, .int .i64 x.mark.len, .string x.mark.nm, .int .i64 x.lo, .int .i64 x.hi] 41)).alloc (.cells #[.int .i64 (n : Int)] 3)).heap[w.heap.size + 1]? = some (.cells #[.int .i64 (n : Int)] 3 (0, 0)) := by
      have h := heap_alloc_new (w.alloc (.cells #[.int .i64 0, .int .i64 x.a, .int .i64 x.b, .int .i64 x.mark.kind, .int .i64 x.mark.len, .string x.mark.nm, .int .i64 x.lo, .int .i64 x.hi] 41)) (.cells #[.int .i64 (n : Int)] 3)
      rw [World.size_alloc] at h
      exact h
    generalize ((w.alloc (.cells #[.int .i64 0, .int .i64 x.a, .int .i64 x.b, .int .i64 x.mark.kind, .int .i64 x.mark.len, .string x.mark.nm, .int .i64 x.lo, .int .i64 x.hi] 41)).alloc (.cells #[.int .i64 (n : Int)] 3)) = w1 at *
    have HB1 := Lib.hid hb1
    have HC1 := Lib.hid hc1
    have HV1 := Lib.hid hv1
    clear hb1 hc1 hv1
    refine (exists_f w1 _ n x.a va (Lib.cell_of_heap HV1.out 0) HA.out).mono ?_
    rintro e w2 ⟨rfl, hb2⟩
    have HB2 := Lib.hid (HB1.out.trans (hb2.mono HB1.out.size))
    have HC2 := Lib.hid ((hb2.block _ (Array.getElem?_eq_some_iff.1 HC1.out).1).trans HC1.out)
    have HV2 := Lib.hid ((hb2.block _ (Array.getElem?_eq_some_iff.1 HV1.out).1).trans HV1.out)
    clear hb2
    have m0 := Lib.cell_of_heap HC2.out 3
    have m1 := Lib.cell_of_heap HC2.out 4
    have m2 := Lib.cell_of_heap HC2.out 5
    cases va with
    | false =>
      go_wp2_with (fail)
      go_ret
      exact ⟨by rw [HP.out, HA.out]; rfl, HB2.out⟩
    | true =>
      go_wp2_with (fail)
      refine (isMark_f x.mark vm HM.out w2).mono ?_
      rintro e w3 ⟨rfl, hb3⟩
      have HB3 := Lib.hid (HB2.out.trans (hb3.mono HB2.out.size))
      clear hb3
      go_wp2_with (fail)
      go_ret
      exact ⟨by rw [HP.out, HA.out, HM.out]; rfl, HB3.out⟩
  · have HP := Lib.hid (pos_equal (n := n) hk)
    obtain ⟨va, HA⟩ : ∃ va, Hid ((decide (0 ≤ x.a) && decide (x.a < (n : Int))) = va) := ⟨_, Lib.hid rfl⟩
    obtain ⟨vm, HM⟩ : ∃ vm, Hid ((decide (0 ≤ x.b) && decide (x.b < (n : Int))) = vm) := ⟨_, Lib.hid rfl⟩
    go_enter Tryd.func15, Tryd.ntmps15
    go_wp2_with (fail)
    have hb1 : Below w.heap.size w ((w.alloc (.cells #[.int .i64 1, .int .i64 x.a, .int .i64 x.b, .int .i64 x.mark.kind, .int .i64 x.mark.len, .string x.mark.nm, .int .i64 x.lo, .int .i64 x.hi] 41)).alloc (.cells #[.int .i64 (n : Int)] 3)) := ((Below.refl w.heap.size w).alloc (Nat.le_refl _) _).alloc (by simp) _
    have hc1 : ((w.alloc (.cells #[.int .i64 1, .int .i64 x.a, .int .i64 x.b, .int .i64 x.mark.kind, .int .i64 x.mark.len, .string x.mark.nm, .int .i64 x.lo, .int .i64 x.hi] 41)).alloc (.cells #[.int .i64 (n : Int)] 3)).heap[w.heap.size]? = some (.cells #[.int .i64 1, .int .i64 x.a, .int .i64 x.b, .int .i64 x.mark.kind, .int .i64 x.mark.len, .string x.mark.nm, .int .i64 x.lo, .int .i64 x.hi] 41 (0, 0)) := (((Below.refl _ _).alloc (Nat.le_refl _) _).block _ (by simp)).trans (heap_alloc_new w _)
    have hv1 : ((w.alloc (.cells #[.int .i64 1, .int .i64 x.a, .int .i64 x.b, .int .i64 x.mark.kind, .int .i64 x.mark.len, .string x.mark.nm, .int .i64 x.lo, .int .i64 x.hi] 41)).alloc (.cells #[.int .i64 (n : Int)] 3)).heap[w.heap.size + 1]? = some (.cells #[.int .i64 (n : Int)] 3 (0, 0)) := by
      have h := heap_alloc_new (w.alloc (.cells #[.int .i64 1, .int .i64 x.a, .int .i64 x.b, .int .i64 x.mark.kind, .int .i64 x.mark.len, .string x.mark.nm, .int .i64 x.lo, .int .i64 x.hi] 41)) (.cells #[.int .i64 (n : Int)] 3)
      rw [World.size_alloc] at h
      exact h
    generalize ((w.alloc (.cells #[.int .i64 1, .int .i64 x.a, .int .i64 x.b, .int .i64 x.mark.kind, .int .i64 x.mark.len, .string x.mark.nm, .int .i64 x.lo, .int .i64 x.hi] 41)).alloc (.cells #[.int .i64 (n : Int)] 3)) = w1 at *
    have HB1 := Lib.hid hb1
    have HC1 := Lib.hid hc1
    have HV1 := Lib.hid hv1
    clear hb1 hc1 hv1
    refine (exists_f w1 _ n x.a va (Lib.cell_of_heap HV1.out 0) HA.out).mono ?_
    rintro e w2 ⟨rfl, hb2⟩
    have HB2 := Lib.hid (HB1.out.trans (hb2.mono HB1.out.size))
    have HC2 := Lib.hid ((hb2.block _ (Array.getElem?_eq_some_iff.1 HC1.out).1).trans HC1.out)
    have HV2 := Lib.hid ((hb2.block _ (Array.getElem?_eq_some_iff.1 HV1.out).1).trans HV1.out)
    clear hb2
    have m2 := Lib.cell_of_heap HC2.out 2
    cases va with
    | false =>
      go_wp2_with (fail)
      go_ret
      exact ⟨by rw [HP.out, HA.out]; rfl, HB2.out⟩
    | true =>
      go_wp2_with (fail)
      refine (exists_f w2 _ n x.b vm (Lib.cell_of_heap HV2.out 0) HM.out).mono ?_
      rintro e w3 ⟨rfl, hb3⟩
      have HB3 := Lib.hid (HB2.out.trans (hb3.mono HB2.out.size))
      clear hb3
      go_wp2_with (fail)
      go_ret
      exact ⟨by rw [HP.out, HA.out, HM.out]; rfl, HB3.out⟩
  · have HP := Lib.hid (pos_no (n := n) hk hk1)
    go_enter Tryd.func15, Tryd.ntmps15
    go_wp2_with (fail)
    go_ret
    exact ⟨by rw [HP.out]; rfl, ((Below.refl w.heap.size w).alloc (Nat.le_refl _) _).alloc (by simp) _⟩
/-- a constraint that is not possible -/
theorem wrong_f (x : Con) (n vb : Nat) (w : World) (hc : w.heap[vb]? = some (.cells #[.int .i64 (n : Int)] 3 (0, 0))) :
    Calls Tryd.prog 14 #[.agg #[.int .i64 x.kind, .int .i64 x.a, .int .i64 x.b, .int .i64 x.mark.kind, .int .i64 x.mark.len, .string x.mark.nm, .int .i64 x.lo, .int .i64 x.hi], .pointer (some ⟨vb, 0, none⟩)] w fun e w' => e = .returned (.bool (!(posB n x))) ∧ Below w.heap.size w w' := by
  obtain ⟨v, HV⟩ : ∃ v, Hid (posB n x = v) := ⟨_, Lib.hid rfl⟩
  have hba := (Below.refl w.heap.size w).alloc (Nat.le_refl _) (.cells #[.int .i64 x.kind, .int .i64 x.a, .int .i64 x.b, .int .i64 x.mark.kind, .int .i64 x.mark.len, .string x.mark.nm, .int .i64 x.lo, .int .i64 x.hi] 41)
  have z0 := Lib.cell_of_heap hc 0
  have hvb := (Array.getElem?_eq_some_iff.1 hc).1
  have HBA := Lib.hid hba
  have HPO := Lib.hid (fun W => possible_f x n W)
  rw [HV.out] at HPO
  rw [HV.out]
  clear hba hc
  go_enter Tryd.func14, Tryd.ntmps14
  go_wp2_with (fail)
  refine (HPO.out _).mono ?_
  rintro e w2 ⟨rfl, hb2⟩
  have HB2 := Lib.hid (HBA.out.trans (hb2.mono (by simp)))
  clear hb2
  go_wp2_with (fail)
  go_ret
  exact ⟨rfl, HB2.out⟩
theorem wrong_eK : ∀ args w, (callFunc 14 args).run Tryd.prog w = .ok (.enter 14 args) w := enters_of Tryd.func14 (by kernel_rfl) rfl
/-- the index of the first constraint that is not possible, or -1 -/
def WrI (l : List Con) (n : Nat) (r : Int) : Prop := (r = -1 ∧ l.all (posB n) = true) ∨ (0 ≤ r ∧ l.all (posB n) = false)
set_option maxRecDepth 100000 in
set_option maxHeartbeats 4000000 in
theorem idxW_any (w : World) (X : Option Addr) (c : Nat) (l : List Con) (n vb : Nat) (hc : w.heap[vb]? = some (.cells #[.int .i64 (n : Int)] 3 (0, 0))) (hr : CRow w.heap.size w X l) (hl : l.length ≤ 1000000) :
    Calls Tryd.prog 31 #[.slice X l.length c, .func (.func 14) #[] #[.pointer (some ⟨vb, 0, none⟩)]] w fun e w' => ∃ r : Int, e = .returned (.int .i64 r) ∧ WrI l n r ∧ Below w.heap.size w w' := by
  have HC := Lib.hid hc
  have HR := Lib.hid hr
  clear hc hr
  go_enter Tryd.func31, Tryd.ntmps31
  go_wp2_with (fail)
  go_loopw [8] (fun i wr => ∃ k : Nat, k ≤ l.length ∧ i = .int .i64 (k : Int) ∧ Hid ((l.take k).all (posB n) = true) ∧ Hid (Below w.heap.size w wr)) (fun i _ => l.length - (intOf i).toNat)
  case atStart => exact ⟨0, Nat.zero_le _, rfl, Lib.hid rfl, Lib.hid (Below.refl _ _)⟩
  case round =>
    obtain ⟨k, hk, rfl, hno, hbw⟩ := hrel
    by_cases hlt : k < l.length
    · obtain ⟨b, off, rfl, hbz, hcs⟩ := HR.out (by omega)
      obtain ⟨r0, r1, r2, r3, r4, r5, r6, r7⟩ := (hcs k hlt).below hbw.out hbz
      clear hcs
      obtain ⟨x, HX⟩ : ∃ x, Hid (l[k] = x) := ⟨_, Lib.hid rfl⟩
      rw [HX.out] at r0 r1 r2 r3 r4 r5 r6 r7
      have HCA := Lib.hid (wrong_f x n vb wr ((hbw.out.block _ (Array.getElem?_eq_some_iff.1 HC.out).1).trans HC.out))
      obtain ⟨v, HV⟩ : ∃ v, Hid (posB n x = v) := ⟨_, Lib.hid rfl⟩
      rw [HV.out] at HCA
      have HTK := Lib.hid (show (l.take (k + 1)).all (posB n) = v by rw [List.take_succ_eq_append_getElem hlt, List.all_append, hno.out, HX.out]; simp [HV.out])
      have HAL := Lib.hid (show v = false → l.all (posB n) = false from fun h => by
        rw [Bool.eq_false_iff]
        intro ha
        have := List.all_eq_true.1 ha _ (List.getElem_mem hlt)
        rw [HX.out, HV.out, h] at this
        cases this)
      go_wp2_with (fail)
      refine HCA.out.mono ?_
      rintro e' w2 ⟨rfl, hb2⟩
      have HB2 := Lib.hid (hbw.out.trans (hb2.mono hbw.out.size))
      clear hb2 r0 r1 r2 r3 r4 r5 r6 r7
      cases v with
      | false =>
        go_wp2_with (fail)
        go_ret
        exact ⟨_, rfl, .inr ⟨by omega, HAL.out trivial⟩, HB2.out⟩
      | true =>
        go_wp2_with (fail)
        exact ⟨⟨k + 1, by omega, by go_num, HTK, HB2⟩, by simp [intOf]; omega⟩
    · obtain rfl : k = l.length := by omega
      have HF := Lib.hid (show l.all (posB n) = true by have h := hno.out; rw [List.take_length] at h; exact h)
      go_wp2_with (fail)
      go_ret
      exact ⟨_, rfl, .inl ⟨rfl, HF.out⟩, hbw.out⟩
theorem conW_any (w : World) (X : Option Addr) (c : Nat) (l : List Con) (n vb : Nat) (v : Bool) (hv : l.all (posB n) = v) (hc : w.heap[vb]? = some (.cells #[.int .i64 (n : Int)] 3 (0, 0))) (hr : CRow w.heap.size w X l) (hl : l.length ≤ 1000000) :
    Calls Tryd.prog 16 #[.slice X l.length c, .func (.func 14) #[] #[.pointer (some ⟨vb, 0, none⟩)]] w fun e w' => e = .returned (.bool (!v)) ∧ Below w.heap.size w w' := by
  have HI := Lib.hid (idxW_any w X c l n vb hc hr hl)
  have HV := Lib.hid hv
  clear hc hr hv
  go_enter Tryd.func16, Tryd.ntmps16
  go_wp2_with (fail)
  refine HI.out.mono ?_
  rintro e w2 ⟨r, rfl, hr, hb⟩
  have HB := Lib.hid hb
  clear hb
  have hq : (0 ≤ r) = (v = false) := by
    rcases hr with ⟨h1, h2⟩ | ⟨h1, h2⟩
    · rw [← HV.out, h2, h1]; simp
    · rw [← HV.out, h2]; simp [h1]
  have HQ := Lib.hid hq
  clear hq hr
  go_wp2_with (fail)
  go_ret
  refine ⟨?_, HB.out⟩
  have := HQ.out
  cases v <;> simp_all
end Go.Proofs.YtmamajillkajoaaDoor
