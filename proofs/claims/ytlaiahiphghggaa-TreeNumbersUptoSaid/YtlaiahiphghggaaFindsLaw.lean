/- What is proved: TreeFinds answers true. -/
import Derived.Test.YtlaiahiphghggaaPathsLaw
set_option linter.unusedVariables false
namespace Go.Proofs.Ytlaiahiphghggaa
open Go.RowKit Go.Shelf

theorem first_has (l : List NT) (o : Int) (h : ¬ ∀ k ∈ l, NT.hasB k o = false) : ∃ i, ∃ hi : i < l.length, NT.hasB l[i] o = true ∧ ∀ (j : Nat) (hj : j < i), NT.hasB (l[j]'(by omega)) o = false := by
  induction l with
  | nil => exact absurd (by simp) h
  | cons x xs ih =>
    by_cases hx : NT.hasB x o = true
    · exact ⟨0, by simp, hx, fun j hj => by omega⟩
    · obtain ⟨i, hi, h1, h2⟩ := ih (fun hh => h (fun k hk => by
        rcases List.mem_cons.1 hk with rfl | hk
        · simpa using hx
        · exact hh k hk))
      exact ⟨i + 1, by simpa using hi, by simpa using h1, fun j hj => by
        cases j with
        | zero => simpa using hx
        | succ j => simpa using h2 j (by omega)⟩
theorem find_at (o : Int) : ∀ n : NT, NT.hasB n o = true → ∃ p x, NT.numP n p = some (NT.fnd n o) ∧ NT.getP n p = some x ∧ NT.hasB x o = true ∧ ∀ k ∈ x.kids, NT.hasB k o = false := NT.ind fun n ih h => by
  by_cases hn : ∀ k ∈ n.kids, NT.hasB k o = false
  · exact ⟨[], n, by rw [NT.fnd_eq, NT.fnds_none _ _ _ hn]; rfl, rfl, h, hn⟩
  · obtain ⟨i, hi, h1, h2⟩ := first_has n.kids o hn
    obtain ⟨p, x, h3, h4, h5, h6⟩ := ih _ (List.getElem_mem hi) h1
    refine ⟨i :: p, x, ?_, ?_, h5, h6⟩
    · simp only [NT.numP]
      rw [dif_pos hi, h3, NT.fnd_eq n, NT.fnds_at n.kids o 1 i hi h1 h2]
      simp; omega
    · simp only [NT.getP]
      rw [dif_pos hi, h4]
theorem pth_num {n : NT} {p : List Nat} {k : Nat} (h : NT.numP n p = some k) : pathAt n (k : Int) = p ∧ isNum n (k : Int) = true := by
  have h1 := NT.pths_num p n k h
  have h2 := NT.numP_lt h
  exact ⟨by simp [pathAt, List.getD_eq_getElem?_getD, h1], by simp [isNum]; omega⟩
theorem getP_cnt : ∀ {p : List Nat} {n x : NT}, NT.getP n p = some x → NT.cnt x ≤ NT.cnt n
  | [], n, x, h => by simp only [NT.getP, Option.some.injEq] at h; rw [h]; exact Nat.le_refl _
  | i :: p, n, x, h => by
    simp only [NT.getP] at h
    by_cases hi : i < n.kids.length
    · rw [dif_pos hi] at h
      have h1 := getP_cnt h
      have h2 := NT.cnt_kid (List.getElem_mem hi)
      omega
    · rw [dif_neg hi] at h; cases h

set_option maxHeartbeats 4000000 in
set_option maxRecDepth 100000 in
theorem treeFinds_any (n : NT) (o : Int) (w : World) (hin : InT w.heap.size w n) (hc : NT.cnt n ≤ 1000000000) (ho : (Lit.int .i64 o).wf = true) :
    Calls Try.prog 8 #[.agg #[.int .i64 n.kind, .string n.text, .int .i64 n.lo, .int .i64 n.hi, .slice n.A n.kids.length n.c], .int .i64 o] w fun e w' => e = .returned (.bool true) ∧ Below w.heap.size w w' := by
  have HI := Lib.hid hin
  clear hin
  go_enter Try.func8, Try.ntmps8
  go_wp2_with (fail)
  have hb0 := (Below.refl w.heap.size w).alloc (Nat.le_refl _) (.cells #[.int .i64 n.kind, .string n.text, .int .i64 n.lo, .int .i64 n.hi, .slice n.A n.kids.length n.c] 24)
  have hn0 := NBox.new w n
  have hz0 : w.heap.size < (w.alloc (.cells #[.int .i64 n.kind, .string n.text, .int .i64 n.lo, .int .i64 n.hi, .slice n.A n.kids.length n.c] 24)).heap.size := by simp
  generalize (w.alloc (.cells #[.int .i64 n.kind, .string n.text, .int .i64 n.lo, .int .i64 n.hi, .slice n.A n.kids.length n.c] 24)) = w1 at *
  refine (r_small_any n 100 w1 (InT.mono hb0.size n (InT.below hb0 n HI.out)) hc).mono ?_
  rintro e w2 ⟨rfl, hb2⟩
  have HB2 := Lib.hid (hb0.trans (hb2.mono hb0.size))
  have HN2 := Lib.hid (hn0.below hb2 hz0)
  have hz2 : w.heap.size < w2.heap.size := (Array.getElem?_eq_some_iff.1 HN2.out).1
  clear hb0 hn0 hz0 hb2
  obtain ⟨c0, c1, c2, c3, c4⟩ := HN2.out.cells
  cases hs : smallB n 100 with
  | false =>
    clear hs
    go_wp2_with (fail)
    refine (awake_any w2).mono ?_
    rintro e w3 ⟨rfl, hb3⟩
    have HB3 := Lib.hid (HB2.out.trans (hb3.mono HB2.out.size))
    clear hb3
    go_wp2_with (fail)
    go_ret
    exact ⟨rfl, HB3.out⟩
  | true =>
    clear hs
    go_wp2_with (fail)
    cases hb : NT.hasB n o with
    | false =>
      refine (find_any n o w2 (InT.mono HB2.out.size n (InT.below HB2.out n HI.out)) hc 0 false (by rw [hb]; rfl) hb).mono ?_
      rintro e w3 ⟨rfl, hb3⟩
      have HB3 := Lib.hid (HB2.out.trans (hb3.mono HB2.out.size))
      have HN3 := Lib.hid (HN2.out.below hb3 hz2)
      clear hb3 c0 c1 c2 c3 c4
      obtain ⟨c0, c1, c2, c3, c4⟩ := HN3.out.cells
      have HW := Lib.hid (awake_any w3)
      unfold NT.hasB at hb
      simp only [decide_eq_false_iff_not] at hb
      by_cases h1 : n.lo ≤ o
      · have h2 : decide (o < n.hi) = false := by simp; omega
        have h3 : decide (n.lo ≤ o) = true := by simpa using h1
        clear hb
        go_wp2_with (fail)
        refine HW.out.mono ?_
        rintro e w4 ⟨rfl, hb4⟩
        have HB4 := Lib.hid (HB3.out.trans (hb4.mono HB3.out.size))
        clear hb4
        go_wp2_with (fail)
        go_ret
        exact ⟨rfl, HB4.out⟩
      · have h2 : decide (n.lo ≤ o) = false := by simpa using h1
        clear hb
        go_wp2_with (fail)
        refine HW.out.mono ?_
        rintro e w4 ⟨rfl, hb4⟩
        have HB4 := Lib.hid (HB3.out.trans (hb4.mono HB3.out.size))
        clear hb4
        go_wp2_with (fail)
        go_ret
        exact ⟨rfl, HB4.out⟩
    | true =>
      obtain ⟨p, x, hp1, hp2, hp3, hp4⟩ := find_at o n hb
      refine (find_any n o w2 (InT.mono HB2.out.size n (InT.below HB2.out n HI.out)) hc (NT.fnd n o) true (by rw [hb]; rfl) hb).mono ?_
      rintro e w3 ⟨rfl, hb3⟩
      have hpl := path_len ⟨_, hp1⟩
      have hfl := NT.numP_lt hp1
      have HP1 := Lib.hid (pth_num hp1)
      have HP2 := Lib.hid hp2
      have HP3 := Lib.hid hp3
      have HP4 := Lib.hid hp4
      have HB3 := Lib.hid (HB2.out.trans (hb3.mono HB2.out.size))
      have HN3 := Lib.hid (HN2.out.below hb3 hz2)
      have hz3 : w.heap.size < w3.heap.size := (Array.getElem?_eq_some_iff.1 HN3.out).1
      clear hb3 c0 c1 c2 c3 c4 hp1 hp2 hp3 hp4
      obtain ⟨c0, c1, c2, c3, c4⟩ := HN3.out.cells
      generalize NT.fnd n o = f at *
      unfold NT.hasB at hb
      simp only [decide_eq_true_eq] at hb
      obtain ⟨g1, g2⟩ := hb
      go_wp2_with (fail)
      refine (path_any n (f : Int) w3 (InT.mono HB3.out.size n (InT.below HB3.out n HI.out)) hc (by omega) (by omega)).mono ?_
      rintro e w4 ⟨A, c, rfl, hr, hb⟩
      rw [HP1.out.1] at hr
      rw [HP1.out.1, HP1.out.2]
      have HR := Lib.hid hr.ints
      have HB4 := Lib.hid (HB3.out.trans (hb.mono HB3.out.size))
      have HN4 := Lib.hid (HN3.out.below hb hz3)
      have hz4 : w.heap.size < w4.heap.size := (Array.getElem?_eq_some_iff.1 HN4.out).1
      clear hr hb c0 c1 c2 c3 c4
      obtain ⟨c0, c1, c2, c3, c4⟩ := HN4.out.cells
      go_wp2_with (fail)
      refine (get_path n A c p w4 (InT.mono HB4.out.size n (InT.below HB4.out n HI.out)) HR.out hc (by omega)).mono ?_
      rintro e w5 ⟨m, rfl, hm, hb⟩
      rw [HP2.out]
      rw [HP2.out] at hm
      obtain ⟨hst, hmi⟩ := hm.1 x rfl
      have hst2 := (NT.strip_iff m x).1 hst
      have hml : NT.cnt m ≤ NT.cnt n := by
        have h1 : NT.cnt m = NT.cnt x := by rw [← NT.cnt_strip m, hst, NT.cnt_strip]
        rw [h1]; exact getP_cnt HP2.out
      have hlo : m.lo ≤ o ∧ o < m.hi := by
        have := HP3.out
        unfold NT.hasB at this
        simp only [decide_eq_true_eq] at this
        rw [hst2.2.2.1, hst2.2.2.2.1]; exact this
      have hkn : ∀ k ∈ m.kids, NT.hasB k o = false := fun k hk => by
        have h1 : NT.strip k ∈ m.kids.map NT.strip := List.mem_map_of_mem hk
        rw [hst2.2.2.2.2] at h1
        obtain ⟨y, hy, he⟩ := List.mem_map.1 h1
        have h2 := HP4.out y hy
        have h3 := (NT.strip_iff k y).1 he.symm
        unfold NT.hasB at *
        rw [h3.2.2.1, h3.2.2.2.1]; exact h2
      have HB5 := Lib.hid (HB4.out.trans (hb.mono HB4.out.size))
      have HMI := Lib.hid (fresh_inT hmi)
      have HKN := Lib.hid hkn
      clear hm hst hmi hst2 hkn hb c0 c1 c2 c3 c4
      have hkl := NT.kids_len m
      have HROW := Lib.hid HMI.out.row
      obtain ⟨kd, t, lo, hi, A2, c2, l2⟩ := m
      obtain ⟨hlo1, hlo2⟩ := hlo
      dsimp only [NT.kind, NT.text, NT.lo, NT.hi, NT.A, NT.c, NT.kids] at *
      simp only [Option.isSome_some]
      have HB6 := Lib.hid ((Below.refl w5.heap.size w5).alloc (Nat.le_refl _) (.cells #[.int .i64 kd, .string t, .int .i64 lo, .int .i64 hi, .slice A2 l2.length c2] 24))
      have e1 : decide (o < lo) = false := by simpa using hlo1
      have e2 : decide (hi ≤ o) = false := by simpa using hlo2
      have hll : l2.length ≤ 1000000000 := by omega
      clear hlo1 hlo2 hml hkl hpl hfl
      go_wp2_with (fail)
      go_loopw [75] (fun i wr => ∃ k : Nat, k ≤ l2.length ∧ i = .int .i64 (k : Int) ∧ Hid (Below w5.heap.size w5 wr)) (fun i _ => l2.length - (intOf i).toNat)
      case atStart => exact ⟨0, Nat.zero_le _, rfl, HB6⟩
      case round =>
        obtain ⟨k, hk, rfl, hbw⟩ := hrel
        by_cases hlt : k < l2.length
        · obtain ⟨b, off, rfl, hbb, hcs⟩ := (HROW.out.below hbw.out) (by omega)
          obtain ⟨d0, d1, d2, d3, d4⟩ := hcs k hlt
          have hno := HKN.out _ (List.getElem_mem hlt)
          clear hcs
          generalize l2[k] = y at *
          unfold NT.hasB at hno
          simp only [decide_eq_false_iff_not] at hno
          have HB7 := Lib.hid (hbw.out.alloc hbw.out.size (.cells #[.int .i64 y.kind, .string y.text, .int .i64 y.lo, .int .i64 y.hi, .slice y.A y.kids.length y.c] 24))
          by_cases h1 : y.lo ≤ o
          · have h2 : decide (o < y.hi) = false := by simp; omega
            have h3 : decide (y.lo ≤ o) = true := by simpa using h1
            clear hno
            go_wp2_with (fail)
            exact ⟨⟨k + 1, by omega, by go_num, HB7⟩, by simp [intOf]; omega⟩
          · have h2 : decide (y.lo ≤ o) = false := by simpa using h1
            clear hno
            go_wp2_with (fail)
            exact ⟨⟨k + 1, by omega, by go_num, HB7⟩, by simp [intOf]; omega⟩
        · go_wp2_with (fail)
          refine (awake_any wr).mono ?_
          rintro e w8 ⟨rfl, hb8⟩
          have HBW := Lib.hid (HB5.out.trans (hbw.out.mono HB5.out.size))
          have HB8 := Lib.hid (HBW.out.trans (hb8.mono HBW.out.size))
          clear hb8
          go_wp2_with (fail)
          go_ret
          exact ⟨rfl, HB8.out⟩
end Go.Proofs.Ytlaiahiphghggaa
