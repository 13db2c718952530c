/- What is proved: Path of the reference returns the path of the node with a number. -/
import Derived.Test.YtlaiahiphghggaaTreePath
import Derived.Test.YtlaiahiphghggaaRefCount
import Derived.Test.YtlaiahiphghggaaBare
import Derived.IntWalk
set_option linter.unusedVariables false
namespace Go.Proofs.Ytlaiahiphghggaa
open Go.RowKit

theorem path_down {m : NT} {i r : Nat} (hi : i < m.kids.length) (hr : r < NT.cnt m.kids[i]) : (NT.pths m).getD (NT.cnts (m.kids.take i) + r + 1) [] = i :: (NT.pths m.kids[i]).getD r [] := by
  have hl : r < (NT.pths m.kids[i]).length := by rw [NT.pths_len]; exact hr
  have h := NT.pthss_get m.kids 0 r i hi _ (List.getElem?_eq_getElem hl)
  rw [NT.pths_eq, List.getD_cons_succ, List.getD_eq_getElem?_getD, h, List.getD_eq_getElem?_getD, List.getElem?_eq_getElem hl]
  simp
theorem path_zero (m : NT) : (NT.pths m).getD 0 [] = [] := by rw [NT.pths_eq]; rfl
theorem cnts_room {l : List NT} {q r s : Nat} (h : r + NT.cnts (l.take q) = s) (hs : s < NT.cnts l) : q < l.length := by
  rcases Nat.lt_or_ge q l.length with h1 | h1
  · exact h1
  · rw [List.take_of_length_le h1] at h; omega

theorem own_put5 {w : World} {B E sz n b : Nat} {v : Value} {xs : List Value} (h : w.ownsRow B E sz v n xs) (hb : b < B) (x : NT) : (put5 w b x).ownsRow B E sz v n xs := by
  have step : ∀ {W : World} (o : Nat) (u : Value), W.ownsRow B E sz v n xs → (W.setCell ⟨b, o, none⟩ u).ownsRow B E sz v n xs := fun o u h => h.kept (row := some b) ⟨rfl, rfl, rfl, by simp [World.setCell], fun i _ hi => Below.heap_setCell _ _ _ _ (fun e => hi (by simp [e]))⟩ (.inr (row_ne h hb))
  exact step _ _ (step _ _ (step _ _ (step _ _ (step _ _ h))))

set_option maxHeartbeats 4000000 in
set_option maxRecDepth 100000 in
theorem r_path_any (T : NT) (k : Int) (w : World) (hin : InT w.heap.size w T) (hc : NT.cnt T ≤ 1000000000) :
    Calls Try.prog 23 #[.agg #[.int .i64 T.kind, .string T.text, .int .i64 T.lo, .int .i64 T.hi, .slice T.A T.kids.length T.c], .int .i64 k] w fun e w' => ∃ A c, e = .returned (.tuple #[.slice A (pathAt T k).length c, .bool (isNum T k)]) ∧ IntRow w'.heap.size w' A (pathAt T k) ∧ Below w.heap.size w w' := by
  obtain ⟨i0, hi0, hz0, hz1, hz2⟩ := info_parts infoInt
  have HI := Lib.hid hin
  clear hin
  by_cases h0 : k < 0
  · have e0 : decide (k < 0) = true := by simpa using h0
    have HP := Lib.hid (show pathAt T k = [] ∧ isNum T k = false from ⟨by unfold pathAt; rw [if_neg (by omega)], by unfold isNum; simp; omega⟩)
    clear h0
    go_enter Try.func23, Try.ntmps23
    go_wp2_with (fail)
    go_ret2
    exact ⟨none, 0, by rw [HP.out.1, HP.out.2]; rfl, by rw [HP.out.1]; exact fun h => absurd h (by simp), (Below.refl w.heap.size w).alloc (Nat.le_refl _) (.cells #[.int .i64 T.kind, .string T.text, .int .i64 T.lo, .int .i64 T.hi, .slice T.A T.kids.length T.c] 24)⟩
  · obtain ⟨m, rfl⟩ : ∃ m : Nat, k = (m : Int) := ⟨k.toNat, by omega⟩
    clear h0
    have e1 : decide ((m : Int) < 0) = false := by simp
    by_cases h1 : m < NT.cnt T
    · have h2 : ¬ NT.cnt T ≤ m := by omega
      have HP := Lib.hid (show pathAt T (m : Int) = (NT.pths T).getD m [] ∧ isNum T (m : Int) = true from ⟨by simp [pathAt], by simp [isNum]; omega⟩)
      generalize pathAt T (m : Int) = PA at *
      go_enter Try.func23, Try.ntmps23
      go_wp2_with (fail)
      have hn := NBox.new w T
      have HB := Lib.hid ((Below.refl w.heap.size w).alloc (Nat.le_refl _) (.cells #[.int .i64 T.kind, .string T.text, .int .i64 T.lo, .int .i64 T.hi, .slice T.A T.kids.length T.c] 24))
      have hz : (w.alloc (.cells #[.int .i64 T.kind, .string T.text, .int .i64 T.lo, .int .i64 T.hi, .slice T.A T.kids.length T.c] 24)).heap.size = w.heap.size + 1 := by simp
      generalize (w.alloc (.cells #[.int .i64 T.kind, .string T.text, .int .i64 T.lo, .int .i64 T.hi, .slice T.A T.kids.length T.c] 24)) = W at *
      refine (r_count_any T W (InT.mono HB.out.size T (InT.below HB.out T HI.out)) hc).mono ?_
      rintro e w2 ⟨rfl, hb2⟩
      have HB2 := Lib.hid (HB.out.trans (hb2.mono HB.out.size))
      have HN2 := Lib.hid (hn.below hb2 (by omega))
      have hzs := hb2.size
      clear hb2 hn
      go_wp2_with (fail)
      have HM := Lib.hid h1
      clear h2 h1
      have HO : Hid ((w2.alloc (.cells #[] 3)).ownsRow (w.heap.size + 1) 3 1 (.slice (some ⟨w2.heap.size, 0, none⟩) 0 0) 0 (icells [])) :=
        ⟨by simp [icells], .inr ⟨w2.heap.size, 0, #[], rfl, by omega, heap_alloc_new w2 _, Nat.le_refl _, by unfold maxLen; omega, rfl, rfl⟩⟩
      have HB3 := Lib.hid (HB2.out.alloc HB2.out.size (.cells #[] 3))
      have HN3 := Lib.hid (nbox_alloc HN2.out (.cells #[] 3))
      go_loopw [1, 6] (fun x v wr => ∃ (P : List Nat) (n : NT) (t : Nat) (A : Option Addr) (c : Nat), x = .int .i64 ((t : Int) - 1) ∧ v = .slice A P.length c ∧ t < NT.cnt n ∧ NT.cnt n + P.length ≤ 1000000000 ∧ Hid (PA = P ++ (NT.pths n).getD t []) ∧ Hid (wr.ownsRow (w.heap.size + 1) 3 1 (.slice A P.length c) P.length (icells P)) ∧ Hid (NBox wr w.heap.size n) ∧ Hid (InT w.heap.size w n) ∧ Hid (Below w.heap.size w wr)) (fun x _ _ => (intOf x + 1).toNat)
      case atStart => exact ⟨[], T, m, some ⟨w2.heap.size, 0, none⟩, 0, by go_num, rfl, HM.out, by simpa using hc, Lib.hid (by rw [HP.out.1]; rfl), HO, HN3, HI, HB3⟩
      case round =>
        obtain ⟨P, n, t, A, c, rfl, rfl, htl, hcp, hpa, hown, hnb, hin, hbw⟩ := hrel
        cases t with
        | zero =>
          have e0 : ((0 : Nat) : Int) - 1 = -1 := by omega
          rw [e0]
          have HV := Lib.hid (show PA = P from by rw [hpa.out, path_zero]; simp)
          go_wp2_with (fail)
          go_ret2
          obtain ⟨A2, c2, hv, hr⟩ := ints_own hown.out
          simp only [Value.slice.injEq] at hv
          obtain ⟨rfl, _, rfl⟩ := hv
          exact ⟨A, c, by rw [HV.out, HP.out.2]; rfl, by rw [HV.out]; exact hr, hbw.out⟩
        | succ s =>
          have e0 : ((s + 1 : Nat) : Int) - 1 = (s : Int) := by omega
          rw [e0]
          have hce := NT.cnt_eq n
          go_wp2_with (fail)
          go_loopw [1, 7] (fun x i wq => ∃ q r : Nat, x = .int .i64 (r : Int) ∧ i = .int .i64 (q : Int) ∧ r + NT.cnts (n.kids.take q) = s ∧ Hid (wq.ownsRow (w.heap.size + 1) 3 1 (.slice A P.length c) P.length (icells P)) ∧ Hid (NBox wq w.heap.size n) ∧ Hid (Below w.heap.size w wq)) (fun x _ _ => (intOf x).toNat)
          case atStart => exact ⟨0, s, rfl, rfl, by simp [NT.cnts], hown, hnb, hbw⟩
          case round =>
            obtain ⟨q, r, rfl, rfl, hrs, hoq, hnq, hbq⟩ := hrel
            have hqk : q < n.kids.length := cnts_room hrs (by omega)
            have hzq : w.heap.size < wr.heap.size := (Array.getElem?_eq_some_iff.1 hnq.out).1
            obtain ⟨b0, b1, b2, b3, b4⟩ := hnq.out.cells
            obtain ⟨b, off, hA, hb, hcw⟩ := hin.out.cells q hqk
            have HCW := Lib.hid hcw
            obtain ⟨c0, c1, c2, c3, c4⟩ := hcw.below hbq.out hb
            clear hcw
            have HKO := Lib.hid (InT.later (InT.kidAt hin.out hqk) hbq.out)
            have HKX := Lib.hid (InT.kidAt hin.out hqk)
            have hsq := NT.cnts_split n.kids q hqk
            have hg := NT.cnts_get hqk
            have HPD := Lib.hid (fun r (hr : r < NT.cnt n.kids[q]) => path_down hqk hr)
            have hcx := NT.cnt_pos n.kids[q]
            have hkl := NT.kids_len n
            rw [hA] at b4
            have HAE := Lib.hid hA
            clear hA
            generalize n.kids[q] = x at *
            have hcapP : P.length + 1 ≤ 1000000000 := by omega
            by_cases hrc : NT.cnt x ≤ r
            · go_wp2_with (fail)
              refine (r_count_any x wr HKO.out (by omega)).mono ?_
              rintro e w5 ⟨rfl, hb5⟩
              have HB5 := Lib.hid (hbq.out.trans (hb5.mono hbq.out.size))
              have hn5 := hnq.out.below hb5 hzq
              have HN5 := Lib.hid hn5
              have HO5 := Lib.hid (own_below hoq.out hb5)
              have hzq5 : w.heap.size < w5.heap.size := (Array.getElem?_eq_some_iff.1 hn5).1
              have HK5 := Lib.hid (InT.later HKO.out hb5)
              obtain ⟨d0, d1, d2, d3, d4⟩ := HCW.out.below HB5.out hb
              have f4 := (hb5.cell (p := ⟨w.heap.size, 4, none⟩) hzq).trans b4
              clear hb5 b0 b1 b2 b3 b4 c0 c1 c2 c3 c4 hn5
              go_wp2_with (fail)
              refine (r_count_any x w5 HK5.out (by omega)).mono ?_
              rintro e w6 ⟨rfl, hb6⟩
              have HB6 := Lib.hid (HB5.out.trans (hb6.mono HB5.out.size))
              have HN6 := Lib.hid (HN5.out.below hb6 hzq5)
              have HO6 := Lib.hid (own_below HO5.out hb6)
              clear hb6
              go_wp2_with (fail)
              exact ⟨⟨q + 1, r - NT.cnt x, by go_num, by go_num, by omega, HO6, HN6, HB6⟩, by simp [intOf]; omega⟩
            · have hrc2 : r < NT.cnt x := by omega
              go_wp2_with (fail)
              refine (r_count_any x wr HKO.out (by omega)).mono ?_
              rintro e w5 ⟨rfl, hb5⟩
              have HB5 := Lib.hid (hbq.out.trans (hb5.mono hbq.out.size))
              have hn5 := hnq.out.below hb5 hzq
              have HN5 := Lib.hid hn5
              have HO5 := Lib.hid (own_below hoq.out hb5)
              have hzq5 : w.heap.size < w5.heap.size := (Array.getElem?_eq_some_iff.1 hn5).1
              have f4 := (hb5.cell (p := ⟨w.heap.size, 4, none⟩) hzq).trans b4
              clear hb5 b0 b1 b2 b3 b4 c0 c1 c2 c3 c4 hn5
              obtain ⟨d0, d1, d2, d3, d4⟩ := HCW.out.below HB5.out hb
              have HBA := Lib.hid (show Below w.heap.size w (w5.alloc (.cells #[.int .i64 (q : Int)] 3)).drew from (HB5.out.alloc (by have := HB5.out.size; simpa using this) _).drew)
              have HOA : Hid ((w5.alloc (.cells #[.int .i64 (q : Int)] 3)).drew.ownsRow (w.heap.size + 1) 3 1 (.slice A P.length c) P.length (icells P)) := HO5.out.alloc _
              have hrb : r ≤ 1000000000 := by omega
              have hwr : IntKind.i64.wrap ((r : Int) - 1) = (r : Int) - 1 := IntWalk.i64_in _ (by omega)
              have HNA : Hid (NBox (w5.alloc (.cells #[.int .i64 (q : Int)] 3)).drew w.heap.size n) := nbox_alloc HN5.out (.cells #[.int .i64 (q : Int)] 3)
              obtain ⟨e0', e1', e2', e3', e4'⟩ := HCW.out.below HBA.out hb
              have z1 : (w5.alloc (.cells #[.int .i64 (q : Int)] 3)).drew.heap.size = w5.heap.size + 1 := by simp
              have g4 : (w5.alloc (.cells #[.int .i64 (q : Int)] 3)).drew.cell? ⟨w.heap.size, 4, none⟩ = some (.slice (some ⟨b, off, none⟩) n.kids.length n.c) := by
                have := HNA.out.cells.2.2.2.2
                rw [HAE.out] at this
                exact this
              have HVL := Lib.hid (fun b e => HO5.out.lt b e)
              have hcap1 : P.length + 1 ≤ maxLen := by unfold maxLen; omega
              have hcap2 : (P.length + 1) * 8 ≤ 140737488355328 := by omega
              go_wp2_with (fail)
              go_region_law (refine step_append_lies _ (by rfl) _ _ _ (by rfl) (w.heap.size + 1) 3 i0 _ 1 8 Try.underlying29 hi0 hz0 hz1 hz2 rfl (by decide) (.slice A P.length c) P.length (icells P) (by rfl) HOA.out ⟨w5.heap.size, 0, none⟩ 1 1 [.int .i64 (q : Int)] (by rfl) (by rfl) (cell_one_new _ _ _) (by simp [Value.oneCell']) (by decide) hcap1 hcap2 (by simp; omega) (w5.heap.size + 1) (by simp) ?_; intro g cap w7 hown7 hgr hsel hgl; have HOWN := Lib.hid hown7; have HGR := Lib.hid hgr; clear hown7 hsel; have HN7 := Lib.hid (nbox_grown HNA.out hgr (fun e => by have := (HVL.out _ e).1; omega)); have HB7 := Lib.hid (HBA.out.grown hgr (by have := HBA.out.size; simpa using this) (fun j ej => by have := (HVL.out j ej).1; omega)); clear hgr; obtain ⟨k0, k1, k2, k3, k4⟩ := HCW.out.below HB7.out hb; obtain ⟨n0, n1, n2, n3, n4⟩ := HN7.out.cells; rw [HAE.out] at n4; have y0 := HN7.out.frozen 0; have y1 := HN7.out.frozen 1; have y2 := HN7.out.frozen 2; have y3 := HN7.out.frozen 3; have y4 := HN7.out.frozen 4)
              all_goals
                have HL := Lib.hid (show (P ++ [q]).length = P.length + 1 by simp)
                have HIC := Lib.hid (show icells (P ++ [q]) = icells P ++ [.int .i64 (q : Int)] by simp [icells])
                have HPA := Lib.hid (show PA = (P ++ [q]) ++ (NT.pths x).getD r [] by rw [hpa.out, ← hrs, show r + NT.cnts (n.kids.take q) + 1 = NT.cnts (n.kids.take q) + r + 1 by omega, HPD.out r hrc2]; simp)
                go_simp
                go_wp2_with (fail)
                refine ⟨⟨P ++ [q], x, r, some ⟨g, 0, none⟩, cap, by go_num, by rw [HL.out], hrc2, by rw [HL.out]; omega, HPA, ?_, Lib.hid (HN7.out.put x), HKX, Lib.hid (put5_below HB7.out (Nat.le_refl _) x)⟩, by simp [intOf]; omega⟩
                rw [HL.out, HIC.out]
                exact Lib.hid (own_put5 HOWN.out (by omega) x)
    · have e2 : decide ((NT.cnt T : Int) ≤ (m : Int)) = true := by simp; omega
      have HP := Lib.hid (show pathAt T (m : Int) = [] ∧ isNum T (m : Int) = false from ⟨by simp [pathAt, List.getD_eq_getElem?_getD, List.getElem?_eq_none (show (NT.pths T).length ≤ m by rw [NT.pths_len]; omega)], by simp [isNum]; omega⟩)
      have h2 : NT.cnt T ≤ m := by omega
      clear h1 e2
      go_enter Try.func23, Try.ntmps23
      go_wp2_with (fail)
      have HB := Lib.hid ((Below.refl w.heap.size w).alloc (Nat.le_refl _) (.cells #[.int .i64 T.kind, .string T.text, .int .i64 T.lo, .int .i64 T.hi, .slice T.A T.kids.length T.c] 24))
      refine (r_count_any T _ (InT.mono HB.out.size T (InT.below HB.out T HI.out)) hc).mono ?_
      rintro e w2 ⟨rfl, hb2⟩
      have HB2 := Lib.hid (HB.out.trans (hb2.mono HB.out.size))
      clear hb2
      go_wp2_with (fail)
      go_ret2
      exact ⟨none, 0, by rw [HP.out.1, HP.out.2]; rfl, by rw [HP.out.1]; exact fun h => absurd h (by simp), HB2.out⟩
end Go.Proofs.Ytlaiahiphghggaa
