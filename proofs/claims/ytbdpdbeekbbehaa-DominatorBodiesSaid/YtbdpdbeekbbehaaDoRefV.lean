/- What is proved: the reference's Valid. -/
import Derived.Test.YtbdpdbeekbbehaaDoValid
import Derived.Test.YtbdpdbeekbbehaaDoNext
set_option linter.unusedVariables false
namespace Go.Proofs.Ytbdpdbeekbbehaa
open Go.RowKit Go.Shelf

def okE (n : Nat) (x : Int) : Bool := decide (0 < x) && decide (x < (n : Int))
theorem validP_split {l : List PtV} (h2 : 2 ≤ l.length) (h3 : l.length ≤ 1024) (h1 : l[1].nx.length = 0) : validP l = l.all fun p => p.nx.all (okE l.length) := by
  unfold validP
  have e1 : l[1]? = some l[1] := List.getElem?_eq_getElem (by omega)
  have e2 : l[1].nx = [] := List.length_eq_zero_iff.1 h1
  rw [e1]
  simp only [Option.map_some, Option.getD_some, e2, decide_eq_true h2, decide_eq_true h3, Bool.true_and]
  rfl
theorem validP_few {l : List PtV} (h2 : ¬ 2 ≤ l.length) : validP l = false := by
  unfold validP
  rw [decide_eq_false h2]
  rfl
theorem validP_exit {l : List PtV} (h2 : 2 ≤ l.length) (h1 : l[1].nx.length ≠ 0) : validP l = false := by
  unfold validP
  have e1 : l[1]? = some l[1] := List.getElem?_eq_getElem (by omega)
  rw [e1]
  have e2 : (l[1].nx == []) = false := by
    cases hq : l[1].nx with
    | nil => rw [hq] at h1; exact absurd rfl h1
    | cons a t => rfl
  simp [e2]

set_option maxRecDepth 100000 in
set_option maxHeartbeats 4000000 in
theorem rvalid17_any (A : Option Addr) (c : Nat) (l : List PtV) (w : World) (hs : FlSm l) (hp : PRow w.heap.size w A l) :
    Calls Try.prog 44 #[.agg #[.slice A l.length c]] w fun e W => e = .returned (.bool (validP l)) ∧ Below w.heap.size w W := by
  have HS := Lib.hid hs
  have HP := Lib.hid hp
  have hln := hs.n
  have HB1 := Lib.hid ((Below.refl w.heap.size w).alloc (Nat.le_refl _) (.cells #[.slice A l.length c] 24))
  have HFB := Lib.hid (show FBx (w.alloc (.cells #[.slice A l.length c] 24)) w.heap.size A c l from heap_alloc_new w _)
  have c0 := HFB.out.cell
  clear hs hp
  go_enter Try.func44, Try.ntmps44
  go_upto_region 1 with (fail)
  generalize (w.alloc (.cells #[.slice A l.length c] 24)) = w1 at *
  by_cases h2 : 2 ≤ l.length
  · have h2i : ¬ (l.length : Int) < 2 := by omega
    have h3i : ¬ (1024 : Int) < (l.length : Int) := by omega
    obtain ⟨pb, po, rfl, hpb, _, _, e5, _, _⟩ := HP.out.at (v := 1) (by omega)
    have k1 := (HB1.out.cell (p := ⟨pb, po + 1 * 3 + 2, none⟩) hpb).trans e5
    obtain ⟨m, HM⟩ : ∃ m, Hid (l[1].nx.length = m) := ⟨_, Lib.hid rfl⟩
    rw [HM.out] at k1
    generalize l[1].A = A1 at *
    generalize l[1].c = c1 at *
    rw [Nat.one_mul] at k1
    clear e5
    by_cases hm : m = 0
    · have HV := Lib.hid (validP_split h2 (by omega) (HM.out.trans hm))
      subst hm
      go_wp2_with (fail)
      clear k1 c0
      go_loopw [4] (fun i wr => ∃ k : Nat, i = .int .i64 (k : Int) ∧ k ≤ l.length ∧ Hid (wr = w1) ∧ Hid (∀ (j : Nat) (h : j < l.length), j < k → l[j].nx.all (okE l.length) = true)) (fun i _ => l.length - (intOf i).toNat)
      case atStart => exact ⟨0, rfl, Nat.zero_le _, Lib.hid rfl, Lib.hid (fun j _ h => absurd h (by omega))⟩
      case round =>
        obtain ⟨k, rfl, hk, hw, hpre⟩ := hrel
        obtain rfl := hw.out.symm
        by_cases hlt' : k < l.length
        · have c0 := HFB.out.cell
          obtain ⟨pb2, po2, he, hb2, e3, e4, e5, hz, hc⟩ := HP.out.at hlt'
          cases he
          have HFW := Lib.hid (HS.out.few _ (List.getElem_mem hlt'))
          have k1 := (HB1.out.cell (p := ⟨pb, po + k * 3 + 2, none⟩) hpb).trans e5
          obtain ⟨zs, HZS⟩ : ∃ zs, Hid (l[k].nx = zs) := ⟨_, Lib.hid rfl⟩
          rw [HZS.out] at k1 hz hc HFW
          have HZ := Lib.hid hz
          generalize l[k].A = A2 at *
          generalize l[k].c = c2 at *
          clear e3 e4 e5 hz
          go_wp2_with (fail)
          go_loopw [5] (fun i wr => ∃ j : Nat, i = .int .i64 (j : Int) ∧ j ≤ zs.length ∧ Hid (wr = w1) ∧ Hid ((zs.take j).all (okE l.length) = true)) (fun i _ => zs.length - (intOf i).toNat)
          case atStart => exact ⟨0, rfl, Nat.zero_le _, Lib.hid rfl, Lib.hid (by simp)⟩
          case round =>
            obtain ⟨j, rfl, hj, hw2, hall⟩ := hrel
            obtain rfl := hw2.out.symm
            by_cases hjt : j < zs.length
            · obtain ⟨eb, eo, rfl, heb, hec⟩ := HZ.out (by omega)
              have r0 := (HB1.out.cell (p := ⟨eb, eo + j, none⟩) heb).trans (hec j hjt)
              have hfw := HFW.out
              obtain ⟨x, HX⟩ : ∃ x, Hid (zs[j] = x) := ⟨_, Lib.hid rfl⟩
              rw [HX.out] at r0
              clear hec
              by_cases hx1 : x < 1
              · have HBAD := Lib.hid (show validP l = false from by
                  rw [HV.out]
                  exact List.all_eq_false.2 ⟨l[k], List.getElem_mem hlt', by
                    rw [HZS.out, Bool.not_eq_true]
                    exact List.all_eq_false.2 ⟨zs[j], List.getElem_mem hjt, by rw [HX.out]; unfold okE; simp; omega⟩⟩)
                go_wp2_with (fail)
                go_ret
                rw [HBAD.out]
                exact ⟨rfl, HB1.out⟩
              · by_cases hx2 : (l.length : Int) ≤ x
                · have HBAD := Lib.hid (show validP l = false from by
                    rw [HV.out]
                    exact List.all_eq_false.2 ⟨l[k], List.getElem_mem hlt', by
                      rw [HZS.out, Bool.not_eq_true]
                      exact List.all_eq_false.2 ⟨zs[j], List.getElem_mem hjt, by rw [HX.out]; unfold okE; simp; omega⟩⟩)
                  go_wp2_with (fail)
                  go_ret
                  rw [HBAD.out]
                  exact ⟨rfl, HB1.out⟩
                · have HN := Lib.hid (show (zs.take (j + 1)).all (okE l.length) = true from by
                    rw [List.take_succ_eq_append_getElem hjt, List.all_append, hall.out, HX.out]
                    simp [okE]
                    omega)
                  go_wp2_with (fail)
                  exact ⟨⟨j + 1, by go_num, by omega, Lib.hid (by first | rfl | trivial), HN⟩, by simp [intOf]; omega⟩
            · obtain rfl : j = zs.length := by omega
              have HN := Lib.hid (show ∀ (i : Nat) (h : i < l.length), i < k + 1 → l[i].nx.all (okE l.length) = true from fun i h hi => by
                by_cases e : i = k
                · subst e
                  have h5 := hall.out
                  rw [List.take_length] at h5
                  rw [HZS.out]
                  exact h5
                · exact hpre.out i h (by omega))
              go_wp2_with (fail)
              exact ⟨⟨k + 1, by go_num, by omega, Lib.hid (by first | rfl | trivial), HN⟩, by simp [intOf]; omega⟩
        · obtain rfl : k = l.length := by omega
          have HGOOD := Lib.hid (show validP l = true from by
            rw [HV.out, List.all_eq_true]
            intro p hp
            obtain ⟨j, hj, rfl⟩ := List.getElem_of_mem hp
            exact hpre.out j hj hj)
          go_wp2_with (fail)
          go_ret
          rw [HGOOD.out]
          exact ⟨rfl, HB1.out⟩
    · have hmi : (0 : Int) < (m : Int) := by omega
      have HV := Lib.hid (validP_exit h2 (by rw [HM.out]; exact hm))
      clear hm
      go_wp2_with (fail)
      go_ret
      rw [HV.out]
      exact ⟨rfl, HB1.out⟩
  · have h2i : (l.length : Int) < 2 := by omega
    have HV := Lib.hid (validP_few h2)
    clear h2
    go_wp2_with (fail)
    go_ret
    rw [HV.out]
    exact ⟨rfl, HB1.out⟩
end Go.Proofs.Ytbdpdbeekbbehaa
