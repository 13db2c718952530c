/- What is proved: the law DominatorDuals: postdominators are the dominators of the reversed flow. -/
import Derived.Test.YtbdpdbeekbbehaaDoRev
import Derived.Test.YtbdpdbeekbbehaaDoAwake
import Derived.Test.YtbdpdbeekbbehaaDoSmall
import Derived.Test.YtbdpdbeekbbehaaDoRefV
set_option linter.unusedVariables false
namespace Go.Proofs.Ytbdpdbeekbbehaa
open Go.RowKit Go.Shelf

set_option maxRecDepth 100000 in
set_option maxHeartbeats 4000000 in
theorem law_duals (A : Option Addr) (c : Nat) (l : List PtV) (w : World) (hf : FlArg w A c l) :
    Calls Try.prog 9 #[.agg #[.slice A l.length c]] w fun e W => e = .returned (.bool true) ∧ Below w.heap.size w W := by
  have HF := Lib.hid hf
  have HB1 := Lib.hid ((Below.refl w.heap.size w).alloc (Nat.le_refl _) (.cells #[.slice A l.length c] 24))
  have HFB := Lib.hid (show FBx (w.alloc (.cells #[.slice A l.length c] 24)) w.heap.size A c l from heap_alloc_new w _)
  clear hf
  go_enter Try.func9, Try.ntmps9
  go_wp2_with (fail)
  generalize (w.alloc (.cells #[.slice A l.length c] 24)) = w1 at *
  refine (awake_any w1).mono ?_
  rintro e w2 ⟨rfl, hb⟩
  have HB2 := Lib.hid (HB1.out.trans (hb.mono HB1.out.size))
  have HF2 := Lib.hid (HFB.out.later hb)
  have c0 := HF2.out.cell
  clear hb
  go_wp2_with (fail)
  refine (small_any A c l 14 w2 ⟨(HF.out.row.below HB2.out).mono HB2.out.size, HF.out.len, HF.out.few⟩).mono ?_
  rintro e w4 ⟨rfl, hb⟩
  have HB4 := Lib.hid (HB2.out.trans (hb.mono HB2.out.size))
  have HF4 := Lib.hid (HF2.out.later hb)
  clear hb c0
  cases hsm : smB 14 l with
  | false =>
    clear hsm
    go_wp2_with (fail)
    go_ret
    exact ⟨rfl, HB4.out⟩
  | true =>
    have HS := Lib.hid (smB_sm hsm (by omega))
    have HSM := Lib.hid hsm
    clear hsm
    have HP4 := Lib.hid (show PRow w4.heap.size w4 A l from (HF.out.row.below HB4.out).mono HB4.out.size)
    have c0 := HF4.out.cell
    go_wp2_with (fail)
    refine (rvalid_any A c l w4 HS.out HP4.out).mono ?_
    rintro e w5 ⟨rfl, hb⟩
    have HB5 := Lib.hid (HB4.out.trans (hb.mono HB4.out.size))
    have HF5 := Lib.hid (HF4.out.later hb)
    have HP5 := Lib.hid (HP4.out.later hb)
    clear hb c0
    cases hv : validP l with
    | false =>
      clear hv
      go_wp2_with (fail)
      go_ret
      exact ⟨rfl, HB5.out⟩
    | true =>
      have HOK := Lib.hid (HS.out.ok hv)
      clear hv
      have c0 := HF5.out.cell
      go_wp2_with (fail)
      refine (reverse_any A c l w5 HOK.out HSM.out HP5.out).mono ?_
      rintro e w6 ⟨pb, R, rfl, hpg, hb⟩
      have HB6 := Lib.hid (HB5.out.trans (hb.mono HB5.out.size))
      have HF6 := Lib.hid (HF5.out.later hb)
      have HP6 := Lib.hid (HP5.out.later hb)
      have HPG := Lib.hid hpg
      clear hb hpg c0
      have hal := (Below.refl w6.heap.size w6).alloc (Nat.le_refl _) (.cells #[.slice (some ⟨pb, 0, none⟩) l.length l.length] 24)
      have HB8 := Lib.hid (HB6.out.trans (hal.mono HB6.out.size))
      have HF8 := Lib.hid (HF6.out.later hal)
      have HP8 := Lib.hid (HP6.out.later hal)
      have HPG8 := Lib.hid (HPG.out.later hal)
      have HGB := Lib.hid (show Bx (w6.alloc (.cells #[.slice (some ⟨pb, 0, none⟩) l.length l.length] 24)) w6.heap.size 24 (.slice (some ⟨pb, 0, none⟩) l.length l.length) from heap_alloc_new w6 _)
      clear hal
      go_upto_region 6 with (fail)
      rename_i K hKK
      generalize (w6.alloc (.cells #[.slice (some ⟨pb, 0, none⟩) l.length l.length] 24)) = w8 at *
      generalize w6.heap.size = gb at *
      have HC0 := Lib.hid (show ∀ W, Below w8.heap.size w8 W → W.cell? ⟨w.heap.size, 0, none⟩ = some (.slice A l.length c) from fun W hW => (HF8.out.later hW).cell)
      have HC1 := Lib.hid (show ∀ W, Below w8.heap.size w8 W → W.cell? ⟨gb, 0, none⟩ = some (.slice (some ⟨pb, 0, none⟩) l.length l.length) from fun W hW => (HGB.out.later hW).cell)
      have HD1c := Lib.hid (fun W (hW : Below w8.heap.size w8 W) => postdominators_any A c l W HS.out ((HP8.out.below hW).mono hW.size))
      have HVG := Lib.hid (show validP (rvL R (edg l) l.length) = true from rvL_valid HOK.out)
      have HD2c := Lib.hid (show ∀ W, Below w8.heap.size w8 W → Calls Try.prog 16 #[.agg #[.slice (some ⟨pb, 0, none⟩) l.length l.length]] W (fun e W' => Below W.heap.size W W' ∧ ∃ ob ov, e = .returned (.slice (some ⟨ob, 0, none⟩) l.length l.length) ∧ IArr W' ob l.length ov ∧ DTree (edg (rvL R (edg l) l.length)) 0 ov ∧ VR l.length ov) from fun W hW => by
        have h := dominators_any (some ⟨pb, 0, none⟩) l.length (rvL R (edg l) l.length) W (rvL_sm HSM.out) ((HPG8.out.below hW).mono hW.size)
        rw [rvL_len] at h
        refine h.mono ?_
        rintro e W' ⟨hb, ⟨_, ob, ov, rfl, ho, _, hd, hvr⟩ | ⟨h, _⟩⟩
        · rw [rvL_len] at ho hvr
          exact ⟨hb, ob, ov, by rw [rvL_len], ho, hd, hvr⟩
        · rw [HVG.out] at h; cases h)
      have HV3c := Lib.hid (show ∀ W, Below w8.heap.size w8 W → Calls Try.prog 13 #[.agg #[.slice (some ⟨pb, 0, none⟩) l.length l.length]] W (fun e W' => e = .returned (.bool true) ∧ Below W.heap.size W W') from fun W hW => by
        have h := valid_any (some ⟨pb, 0, none⟩) l.length (rvL R (edg l) l.length) W (rvL_sm HSM.out) ((HPG8.out.below hW).mono hW.size)
        rw [rvL_len] at h
        exact h.mono fun e W' he => ⟨he.1.trans (by rw [HVG.out]), he.2⟩)
      have HISO := Lib.hid (rvL_iso (R := R) HOK.out)
      have HN := Lib.hid (show l.length ≤ 30 ∧ 2 ≤ l.length from ⟨HOK.out.n, HOK.out.two⟩)
      refine wp_region_noPanic ?_
      refine wp_region_held_drew (S := fun w' => Below w8.heap.size w8 w') (by kernel_rfl) (Below.refl _ _).drew (fun _ => ?_)
      have HB9 := Lib.hid (show Below w8.heap.size w8 w8.drew from (Below.refl _ _).drew)
      generalize w8.drew = w9 at *
      refine wpAnyH_take (i := 0) (oi := { dst := some 21, op := Op.load 24 (Operand.tmp 1), type := 24, pos := "law.go:145", after := #[], guard := none }) (v := .agg #[.slice A l.length c]) rfl (by kernel_rfl) (by kernel_rfl) (by kernel_rfl) (fun _ _ _ h => h) (Or.inl ⟨by rfl, ?_⟩) HB9.out ?_
      · (intro w' hSw; have z := HC0.out w' hSw; go_simp)
      simp only [Act.put, List.setIfInBounds_toArray, List.set_cons_zero, List.set_cons_succ]
      refine wpAnyH_take (i := 2) (oi := { dst := some 23, op := Op.load 24 (Operand.tmp 3), type := 24, pos := "law.go:145", after := #[], guard := none }) (v := .agg #[.slice (some ⟨pb, 0, none⟩) l.length l.length]) rfl (by kernel_rfl) (by kernel_rfl) (by kernel_rfl) (fun _ _ _ h => h) (Or.inl ⟨by rfl, ?_⟩) HB9.out ?_
      · (intro w' hSw; have z := HC1.out w' hSw; go_simp)
      simp only [Act.put, List.setIfInBounds_toArray, List.set_cons_zero, List.set_cons_succ]
      refine wpAnyH_ready (rs := [1]) (by kernel_rfl) (by simp) (AllReadyH.cons (o := { dst := some 22, op := Op.call { callee := Callee.value (Operand.func 18), args := #[Operand.tmp 21], argTypes := #[24] }, type := 29, pos := "law.go:145", after := #[{ on := 0, ground := Ground.data }], guard := none }) rfl (fun K hK => ?_) AllReadyH.nil)
      go_simp
      go_at_call 18
      refine (HD1c.out w9 HB9.out).mono ?_
      rintro e wa ⟨hb, ⟨_, ob1, ov1, rfl, ho, _, hd, hvr⟩ | ⟨h, _⟩⟩
      rotate_left
      · exact absurd h (by rw [HOK.out.ok]; decide)
      have HO1 := Lib.hid ho
      have HD1 := Lib.hid hd
      clear ho hd hvr
      have HB10 := Lib.hid (show Below w8.heap.size w8 wa from HB9.out.trans (hb.mono HB9.out.size))
      have HX10 := Lib.hid (show Below w9.heap.size w9 wa from hb)
      clear hb
      refine hK.out _ _ HB10.out (fun _ => ?_)
      clear hK K
      try simp only [Act.put, List.setIfInBounds_toArray, List.set_cons_zero, List.set_cons_succ]
      refine wpAnyH_ready (rs := [3]) (by kernel_rfl) (by simp) (AllReadyH.cons (o := { dst := some 24, op := Op.call { callee := Callee.value (Operand.func 16), args := #[Operand.tmp 23], argTypes := #[24] }, type := 29, pos := "law.go:145", after := #[{ on := 2, ground := Ground.data }, { on := 1, ground := Ground.chain }], guard := none }) rfl (fun K hK => ?_) AllReadyH.nil)
      go_simp
      go_at_call 16
      refine (HD2c.out wa HB10.out).mono ?_
      rintro e wb ⟨hb, ob2, ov2, rfl, ho, hd, hvr⟩
      have HO2 := Lib.hid ho
      have HD2 := Lib.hid hd
      have HVR := Lib.hid hvr
      have HO3 := Lib.hid (HO1.out.later hb)
      clear ho hd hvr
      have HB11 := Lib.hid (show Below w8.heap.size w8 wb from HB10.out.trans (hb.mono HB10.out.size))
      have HX11 := Lib.hid (show Below wa.heap.size wa wb from hb)
      clear hb
      refine hK.out _ _ HB11.out (fun _ => ?_)
      clear hK K
      try simp only [Act.put, List.setIfInBounds_toArray, List.set_cons_zero, List.set_cons_succ]
      refine wpAnyH_take (i := 4) (oi := { dst := some 4, op := Op.assign (Operand.tmp 22), type := 29, pos := "law.go:145", after := #[{ on := 1, ground := Ground.data }, { on := 3, ground := Ground.chain }, { on := 0, ground := Ground.phase }, { on := 1, ground := Ground.phase }, { on := 2, ground := Ground.textOnly Departure.lateStores }, { on := 3, ground := Ground.textOnly Departure.lateStoresUnsure }], guard := none }) (v := .slice (some ⟨ob1, 0, none⟩) l.length l.length) rfl (by kernel_rfl) (by kernel_rfl) (by kernel_rfl) (fun _ _ _ h => h) (Or.inl ⟨by rfl, ?_⟩) HB11.out ?_
      · (intro w' hSw; go_simp)
      simp only [Act.put, List.setIfInBounds_toArray, List.set_cons_zero, List.set_cons_succ]
      refine wpAnyH_take (i := 5) (oi := { dst := some 5, op := Op.assign (Operand.tmp 24), type := 29, pos := "law.go:145", after := #[{ on := 3, ground := Ground.data }, { on := 4, ground := Ground.chain }, { on := 0, ground := Ground.phase }, { on := 1, ground := Ground.phase }, { on := 2, ground := Ground.phase }, { on := 3, ground := Ground.phase }, { on := 4, ground := Ground.phase }], guard := none }) (v := .slice (some ⟨ob2, 0, none⟩) l.length l.length) rfl (by kernel_rfl) (by kernel_rfl) (by kernel_rfl) (fun _ _ _ h => h) (Or.inl ⟨by rfl, ?_⟩) HB11.out ?_
      · (intro w' hSw; go_simp)
      simp only [Act.put, List.setIfInBounds_toArray, List.set_cons_zero, List.set_cons_succ]
      refine wpAnyH_done (by kernel_rfl) ?_ _
      refine NoPanic.normal ?_
      refine hKK _ _ ?_
      have c1 := HC1.out wb HB11.out
      have HTR := Lib.hid (fun i => HISO.out.tree (r := 0) HD1.out HD2.out i)
      go_wp2_with (fail)
      refine (HV3c.out wb HB11.out).mono ?_
      rintro e wc ⟨rfl, hb⟩
      have HB12 := Lib.hid (HB11.out.trans (hb.mono HB11.out.size))
      have HO4 := Lib.hid (HO3.out.later hb)
      have HO5 := Lib.hid (HO2.out.later hb)
      clear hb c1
      go_wp2_with (fail)
      have hn1 := HN.out.1
      have hn2 := HN.out.2
      go_loopw [37] (fun i wr => ∃ k : Nat, i = .int .i64 (k : Int) ∧ k ≤ l.length ∧ Hid (wr = wc)) (fun i _ => l.length - (intOf i).toNat)
      case atStart => exact ⟨0, rfl, Nat.zero_le _, Lib.hid rfl⟩
      case round =>
        obtain ⟨k, rfl, hk, hw⟩ := hrel
        obtain rfl := hw.out.symm
        by_cases hkl : k < l.length
        · have k1 := HO4.out.cell hkl
          have hol : oth k < l.length := oth_lt hn2 hkl
          have k2 := HO5.out.cell hol
          have HOT := Lib.hid (other_any k (by omega))
          obtain ⟨ht1, ht2⟩ := HTR.out k
          have hvr := HVR.out (oth k)
          have HHT := Lib.hid (And.intro ht1 ht2)
          obtain ⟨x, HX⟩ : ∃ x, Hid (oth k = x) := ⟨_, Lib.hid rfl⟩
          rw [HX.out] at k2 hol HOT hvr HHT
          obtain ⟨m, HM⟩ : ∃ m, Hid (ov2 x = m) := ⟨_, Lib.hid rfl⟩
          obtain ⟨n, HNN⟩ : ∃ n, Hid (ov1 k = n) := ⟨_, Lib.hid rfl⟩
          rw [HM.out] at k2 hvr HHT
          rw [HNN.out] at k1 HHT
          clear ht1 ht2
          rcases hvr with hm | ⟨y, hm, hyl⟩
          · have hnm := HHT.out.1 (by omega)
            subst hm
            subst hnm
            go_wp2_with (fail)
            refine (HOT.out _).mono ?_
            rintro e wx ⟨rfl, hwx⟩
            obtain rfl := hwx.symm
            go_wp2_with (fail)
            exact ⟨⟨k + 1, by go_num, by omega, Lib.hid (by first | rfl | trivial)⟩, by simp [intOf]; omega⟩
          · have hnm := HHT.out.2 y hm
            have HOT2 := Lib.hid (other_any y (by omega))
            subst hm
            obtain ⟨z, HZ⟩ : ∃ z, Hid (oth y = z) := ⟨_, Lib.hid rfl⟩
            rw [HZ.out] at HOT2 hnm
            subst hnm
            go_wp2_with (fail)
            refine (HOT.out _).mono ?_
            rintro e wx ⟨rfl, hwx⟩
            obtain rfl := hwx.symm
            go_wp2_with (fail)
            refine (HOT2.out _).mono ?_
            rintro e wx ⟨rfl, hwx⟩
            obtain rfl := hwx.symm
            go_wp2_with (fail)
            exact ⟨⟨k + 1, by go_num, by omega, Lib.hid (by first | rfl | trivial)⟩, by simp [intOf]; omega⟩
        · obtain rfl : k = l.length := by omega
          go_wp2_with (fail)
          go_ret
          exact ⟨rfl, HB8.out.trans (HB12.out.mono HB8.out.size)⟩
end Go.Proofs.Ytbdpdbeekbbehaa
