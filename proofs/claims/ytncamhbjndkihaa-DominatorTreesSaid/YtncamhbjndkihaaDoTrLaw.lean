/- What is proved: the law DominatorTrees: Valid, Dominators and Postdominators answer as the reference does. -/
import Derived.Test.YtncamhbjndkihaaDoRefT
import Derived.Test.YtncamhbjndkihaaDoAwake
import Derived.Test.YtncamhbjndkihaaDoSmall
set_option linter.unusedVariables false
namespace Go.Proofs.Ytncamhbjndkihaa
open Go.RowKit Go.Shelf

theorem ZRow.ext_list {n : Nat} {w : World} {A : Option Addr} {l m : List Int} (h : ZRow n w A l) (e : l = m) : ZRow n w A m := e ▸ h
set_option maxRecDepth 100000 in
set_option maxHeartbeats 4000000 in
theorem law_trees (A : Option Addr) (c : Nat) (l : List PtV) (w : World) (hf : FlArg w A c l) :
    Calls Try.prog 3 #[.agg #[.slice A l.length c]] w fun e W => e = .returned (.bool true) ∧ Below w.heap.size w W := by
  have HF := Lib.hid hf
  have HB1 := Lib.hid ((Below.refl w.heap.size w).alloc (Nat.le_refl _) (.cells #[.slice A l.length c] 24))
  have HFB := Lib.hid (show FBx (w.alloc (.cells #[.slice A l.length c] 24)) w.heap.size A c l from heap_alloc_new w _)
  clear hf
  go_enter Try.func3, Try.ntmps3
  go_wp2_with (fail)
  generalize (w.alloc (.cells #[.slice A l.length c] 24)) = w1 at *
  refine (awake_any w1).mono ?_
  rintro e w2 ⟨rfl, hb⟩
  have HB2 := Lib.hid (HB1.out.trans (hb.mono HB1.out.size))
  have HF2 := Lib.hid (HFB.out.later hb)
  have c0 := HF2.out.cell
  clear hb
  go_wp2_with (fail)
  refine (small_any A c l 14 w2 ⟨(HF.out.row.below HB2.out).mono HB2.out.size, HF.out.len, HF.out.few⟩).mono ?_
  rintro e w4 ⟨rfl, hb⟩
  have HB4 := Lib.hid (HB2.out.trans (hb.mono HB2.out.size))
  have HF4 := Lib.hid (HF2.out.later hb)
  clear hb c0
  cases hsm : smB 14 l with
  | false =>
    clear hsm
    go_wp2_with (fail)
    go_ret
    exact ⟨rfl, HB4.out⟩
  | true =>
    have HS := Lib.hid (smB_sm hsm (by omega))
    clear hsm
    have HP4 := Lib.hid (show PRow w4.heap.size w4 A l from (HF.out.row.below HB4.out).mono HB4.out.size)
    have HC0 := Lib.hid (show ∀ W, Below w4.heap.size w4 W → W.cell? ⟨w.heap.size, 0, none⟩ = some (.slice A l.length c) from fun W hW => (HF4.out.later hW).cell)
    have HD1c := Lib.hid (fun W (hW : Below w4.heap.size w4 W) => dominators_any A c l W HS.out ((HP4.out.below hW).mono hW.size))
    have HD3c := Lib.hid (fun W (hW : Below w4.heap.size w4 W) => postdominators_any A c l W HS.out ((HP4.out.below hW).mono hW.size))
    have HIN := Lib.hid (fun W (hW : Below w4.heap.size w4 W) (X Y : Option Addr) (c d : Nat) (xs : List Int) (n : Nat) (hn : n = xs.length) (hbig : xs.length ≤ 1000000) (hx : ZRow W.heap.size W X xs) (hy : ZRow W.heap.size W Y xs) => show Calls Try.prog 15 #[.slice X n c, .slice Y n d] W (fun e W' => e = .returned (.bool true) ∧ Below W.heap.size W W') from by subst hn; exact ints_same W X Y c d xs hx hy hbig)
    cases hv : validP l with
    | true =>
      have HOK := Lib.hid (HS.out.ok hv)
      have HV1 := Lib.hid (fun W (hW : Below w4.heap.size w4 W) => (valid_any A c l W HS.out ((HP4.out.below hW).mono hW.size)).mono fun e W' he => (⟨he.1.trans (by rw [hv]), he.2⟩ : e = .returned (.bool true) ∧ Below W.heap.size W W'))
      have HV2 := Lib.hid (fun W (hW : Below w4.heap.size w4 W) => (rvalid_any A c l W HS.out ((HP4.out.below hW).mono hW.size)).mono fun e W' he => (⟨he.1.trans (by rw [hv]), he.2⟩ : e = .returned (.bool true) ∧ Below W.heap.size W W'))
      have HD2c := Lib.hid (fun W (hW : Below w4.heap.size w4 W) ov (hD : DTree (edg l) 0 ov) (hV : VR l.length ov) => rdominators_any A c l W HS.out ((HP4.out.below hW).mono hW.size) ov (fun _ => hD) (fun _ => hV))
      have HD4c := Lib.hid (fun W (hW : Below w4.heap.size w4 W) ov (hD : DTree (bke l) 1 ov) (hV : VR l.length ov) => rpostdominators_any A c l W HS.out ((HP4.out.below hW).mono hW.size) ov (fun _ => hD) (fun _ => hV))
      clear hv
      go_upto_region 5 with (fail)
      rename_i K hKK
      refine wp_region_noPanic ?_
      refine wp_region_held_drew (S := fun w' => Below w4.heap.size w4 w') (by kernel_rfl) (Below.refl _ _).drew (fun _ => ?_)
      have HB5 := Lib.hid (show Below w4.heap.size w4 w4.drew from (Below.refl _ _).drew)
      generalize w4.drew = w5 at *
      refine wpAnyH_take (i := 0) (oi := { dst := some 8, op := Op.load 24 (Operand.tmp 1), type := 24, pos := "law.go:28", after := #[], guard := none }) (v := .agg #[.slice A l.length c]) rfl (by kernel_rfl) (by kernel_rfl) (by kernel_rfl) (fun _ _ _ h => h) (Or.inl ⟨by rfl, ?_⟩) HB5.out ?_
      · (intro w' hSw; have z := HC0.out w' hSw; go_simp)
      simp only [Act.put, List.setIfInBounds_toArray, List.set_cons_zero, List.set_cons_succ]
      refine wpAnyH_take (i := 2) (oi := { dst := some 10, op := Op.load 24 (Operand.tmp 1), type := 24, pos := "law.go:28", after := #[], guard := none }) (v := .agg #[.slice A l.length c]) rfl (by kernel_rfl) (by kernel_rfl) (by kernel_rfl) (fun _ _ _ h => h) (Or.inl ⟨by rfl, ?_⟩) HB5.out ?_
      · (intro w' hSw; have z := HC0.out w' hSw; go_simp)
      simp only [Act.put, List.setIfInBounds_toArray, List.set_cons_zero, List.set_cons_succ]
      refine wpAnyH_ready (rs := [1]) (by kernel_rfl) (by simp) (AllReadyH.cons (o := { dst := some 9, op := Op.call { callee := Callee.value (Operand.func 13), args := #[Operand.tmp 8], argTypes := #[24] }, type := 4, pos := "law.go:28", after := #[{ on := 0, ground := Ground.data }], guard := none }) rfl (fun K hK => ?_) AllReadyH.nil)
      go_simp
      go_at_call 13
      refine (HV1.out w5 HB5.out).mono ?_
      rintro e w6 ⟨rfl, hb⟩
      have HB6 := Lib.hid (show Below w4.heap.size w4 w6 from HB5.out.trans (hb.mono HB5.out.size))
      have HX6 := Lib.hid (show Below w5.heap.size w5 w6 from hb)
      clear hb
      refine hK.out _ _ HB6.out (fun _ => ?_)
      clear hK K
      try simp only [Act.put, List.setIfInBounds_toArray, List.set_cons_zero, List.set_cons_succ]
      refine wpAnyH_ready (rs := [3]) (by kernel_rfl) (by simp) (AllReadyH.cons (o := { dst := some 11, op := Op.call { callee := Callee.value (Operand.func 14), args := #[Operand.tmp 10], argTypes := #[24] }, type := 4, pos := "law.go:28", after := #[{ on := 2, ground := Ground.data }, { on := 1, ground := Ground.chain }], guard := none }) rfl (fun K hK => ?_) AllReadyH.nil)
      go_simp
      go_at_call 14
      refine (HV2.out w6 HB6.out).mono ?_
      rintro e w7 ⟨rfl, hb⟩
      have HB7 := Lib.hid (show Below w4.heap.size w4 w7 from HB6.out.trans (hb.mono HB6.out.size))
      have HX7 := Lib.hid (show Below w6.heap.size w6 w7 from hb)
      clear hb
      refine hK.out _ _ HB7.out (fun _ => ?_)
      clear hK K
      try simp only [Act.put, List.setIfInBounds_toArray, List.set_cons_zero, List.set_cons_succ]
      refine wpAnyH_take (i := 4) (oi := { dst := some 12, op := Op.binOp BinOp.eql 4 (Operand.tmp 9) (Operand.tmp 11) 4, type := 4, pos := "law.go:28", after := #[{ on := 1, ground := Ground.data }, { on := 3, ground := Ground.data }], guard := none }) (v := .bool true) rfl (by kernel_rfl) (by kernel_rfl) (by kernel_rfl) (fun _ _ _ h => h) (Or.inl ⟨by rfl, ?_⟩) HB7.out ?_
      · (intro w' hSw; go_simp)
      simp only [Act.put, List.setIfInBounds_toArray, List.set_cons_zero, List.set_cons_succ]
      refine wpAnyH_take (i := 5) (oi := { dst := some 13, op := Op.move (Operand.tmp 12), type := 4, pos := "law.go:28", after := #[{ on := 4, ground := Ground.data }, { on := 3, ground := Ground.chain }], guard := none }) (v := .bool true) rfl (by kernel_rfl) (by kernel_rfl) (by kernel_rfl) (fun _ _ _ h => h) (Or.inl ⟨by rfl, ?_⟩) HB7.out ?_
      · (intro w' hSw; go_simp)
      simp only [Act.put, List.setIfInBounds_toArray, List.set_cons_zero, List.set_cons_succ]
      refine wpAnyH_take (i := 6) (oi := { dst := some 14, op := Op.load 24 (Operand.tmp 1), type := 24, pos := "law.go:28", after := #[{ on := 5, ground := Ground.guard }], guard := some (5, true) }) (v := .agg #[.slice A l.length c]) rfl (by kernel_rfl) (by kernel_rfl) (by kernel_rfl) (fun _ _ _ h => h) (Or.inl ⟨by rfl, ?_⟩) HB7.out ?_
      · (intro w' hSw; have z := HC0.out w' hSw; go_simp)
      simp only [Act.put, List.setIfInBounds_toArray, List.set_cons_zero, List.set_cons_succ]
      refine wpAnyH_take (i := 8) (oi := { dst := some 16, op := Op.load 24 (Operand.tmp 1), type := 24, pos := "law.go:28", after := #[{ on := 5, ground := Ground.guard }], guard := some (5, true) }) (v := .agg #[.slice A l.length c]) rfl (by kernel_rfl) (by kernel_rfl) (by kernel_rfl) (fun _ _ _ h => h) (Or.inl ⟨by rfl, ?_⟩) HB7.out ?_
      · (intro w' hSw; have z := HC0.out w' hSw; go_simp)
      simp only [Act.put, List.setIfInBounds_toArray, List.set_cons_zero, List.set_cons_succ]
      refine wpAnyH_ready (rs := [7]) (by kernel_rfl) (by simp) (AllReadyH.cons (o := { dst := some 15, op := Op.call { callee := Callee.value (Operand.func 16), args := #[Operand.tmp 14], argTypes := #[24] }, type := 29, pos := "law.go:28", after := #[{ on := 6, ground := Ground.data }, { on := 5, ground := Ground.chain }, { on := 5, ground := Ground.guard }], guard := some (5, true) }) rfl (fun K hK => ?_) AllReadyH.nil)
      go_simp
      go_at_call 16
      refine (HD1c.out w7 HB7.out).mono ?_
      rintro e w8 ⟨hb, ⟨_, ob1, ov1, rfl, ho, _, hd, hvr⟩ | ⟨h, _⟩⟩
      rotate_left
      · exact absurd h (by rw [HOK.out.ok]; decide)
      have HO1 := Lib.hid ho
      have HD1 := Lib.hid hd
      have HVR1 := Lib.hid hvr
      clear ho hd hvr
      have HB8 := Lib.hid (show Below w4.heap.size w4 w8 from HB7.out.trans (hb.mono HB7.out.size))
      have HX8 := Lib.hid (show Below w7.heap.size w7 w8 from hb)
      clear hb
      refine hK.out _ _ HB8.out (fun _ => ?_)
      clear hK K
      try simp only [Act.put, List.setIfInBounds_toArray, List.set_cons_zero, List.set_cons_succ]
      refine wpAnyH_ready (rs := [9]) (by kernel_rfl) (by simp) (AllReadyH.cons (o := { dst := some 17, op := Op.call { callee := Callee.value (Operand.func 17), args := #[Operand.tmp 16], argTypes := #[24] }, type := 29, pos := "law.go:28", after := #[{ on := 8, ground := Ground.data }, { on := 7, ground := Ground.chain }, { on := 5, ground := Ground.guard }], guard := some (5, true) }) rfl (fun K hK => ?_) AllReadyH.nil)
      go_simp
      go_at_call 17
      refine (HD2c.out w8 HB8.out ov1 HD1.out HVR1.out).mono ?_
      rintro e w9 ⟨X1, c1, rfl, hr, hb⟩
      have HR1 := Lib.hid (hr HOK.out.ok)
      simp only [HOK.out.ok, if_true]
      clear hr
      have HB9 := Lib.hid (show Below w4.heap.size w4 w9 from HB8.out.trans (hb.mono HB8.out.size))
      have HX9 := Lib.hid (show Below w8.heap.size w8 w9 from hb)
      clear hb
      refine hK.out _ _ HB9.out (fun _ => ?_)
      clear hK K
      try simp only [Act.put, List.setIfInBounds_toArray, List.set_cons_zero, List.set_cons_succ]
      refine wpAnyH_ready (rs := [10]) (by kernel_rfl) (by simp) (AllReadyH.cons (o := { dst := some 18, op := Op.call { callee := Callee.value (Operand.func 15), args := #[Operand.tmp 15, Operand.tmp 17], argTypes := #[29, 29] }, type := 4, pos := "law.go:28", after := #[{ on := 7, ground := Ground.data }, { on := 9, ground := Ground.data }, { on := 9, ground := Ground.chain }, { on := 5, ground := Ground.guard }], guard := some (5, true) }) rfl (fun K hK => ?_) AllReadyH.nil)
      go_simp
      go_at_call 15
      refine (HIN.out w9 HB9.out (some ⟨ob1, 0, none⟩) X1 l.length c1 _ l.length (by simp) (by simp; have := HOK.out.n; omega) ((((HO1.out.later HX9.out).row)).ext_list rfl) HR1.out).mono ?_
      rintro e w10 ⟨rfl, hb⟩
      have HB10 := Lib.hid (show Below w4.heap.size w4 w10 from HB9.out.trans (hb.mono HB9.out.size))
      have HX10 := Lib.hid (show Below w9.heap.size w9 w10 from hb)
      clear hb
      refine hK.out _ _ HB10.out (fun _ => ?_)
      clear hK K
      try simp only [Act.put, List.setIfInBounds_toArray, List.set_cons_zero, List.set_cons_succ]
      refine wpAnyH_take (i := 11) (oi := { dst := some 19, op := Op.pick (Operand.tmp 13) (Operand.tmp 18) (Operand.const (Value.bool false)), type := 4, pos := "law.go:28", after := #[{ on := 5, ground := Ground.data }, { on := 10, ground := Ground.data }], guard := none }) (v := .bool true) rfl (by kernel_rfl) (by kernel_rfl) (by kernel_rfl) (fun _ _ _ h => h) (Or.inl ⟨by rfl, ?_⟩) HB10.out ?_
      · (intro w' hSw; go_simp)
      simp only [Act.put, List.setIfInBounds_toArray, List.set_cons_zero, List.set_cons_succ]
      refine wpAnyH_take (i := 12) (oi := { dst := some 20, op := Op.move (Operand.tmp 19), type := 4, pos := "law.go:28", after := #[{ on := 11, ground := Ground.data }, { on := 10, ground := Ground.chain }], guard := none }) (v := .bool true) rfl (by kernel_rfl) (by kernel_rfl) (by kernel_rfl) (fun _ _ _ h => h) (Or.inl ⟨by rfl, ?_⟩) HB10.out ?_
      · (intro w' hSw; go_simp)
      simp only [Act.put, List.setIfInBounds_toArray, List.set_cons_zero, List.set_cons_succ]
      refine wpAnyH_take (i := 13) (oi := { dst := some 21, op := Op.load 24 (Operand.tmp 1), type := 24, pos := "law.go:28", after := #[{ on := 12, ground := Ground.guard }], guard := some (12, true) }) (v := .agg #[.slice A l.length c]) rfl (by kernel_rfl) (by kernel_rfl) (by kernel_rfl) (fun _ _ _ h => h) (Or.inl ⟨by rfl, ?_⟩) HB10.out ?_
      · (intro w' hSw; have z := HC0.out w' hSw; go_simp)
      simp only [Act.put, List.setIfInBounds_toArray, List.set_cons_zero, List.set_cons_succ]
      refine wpAnyH_take (i := 15) (oi := { dst := some 23, op := Op.load 24 (Operand.tmp 1), type := 24, pos := "law.go:28", after := #[{ on := 12, ground := Ground.guard }], guard := some (12, true) }) (v := .agg #[.slice A l.length c]) rfl (by kernel_rfl) (by kernel_rfl) (by kernel_rfl) (fun _ _ _ h => h) (Or.inl ⟨by rfl, ?_⟩) HB10.out ?_
      · (intro w' hSw; have z := HC0.out w' hSw; go_simp)
      simp only [Act.put, List.setIfInBounds_toArray, List.set_cons_zero, List.set_cons_succ]
      refine wpAnyH_ready (rs := [14]) (by kernel_rfl) (by simp) (AllReadyH.cons (o := { dst := some 22, op := Op.call { callee := Callee.value (Operand.func 18), args := #[Operand.tmp 21], argTypes := #[24] }, type := 29, pos := "law.go:28", after := #[{ on := 13, ground := Ground.data }, { on := 12, ground := Ground.chain }, { on := 12, ground := Ground.guard }], guard := some (12, true) }) rfl (fun K hK => ?_) AllReadyH.nil)
      go_simp
      go_at_call 18
      refine (HD3c.out w10 HB10.out).mono ?_
      rintro e w11 ⟨hb, ⟨_, ob2, ov2, rfl, ho, _, hd, hvr⟩ | ⟨h, _⟩⟩
      rotate_left
      · exact absurd h (by rw [HOK.out.ok]; decide)
      have HO2 := Lib.hid ho
      have HD2 := Lib.hid hd
      have HVR2 := Lib.hid hvr
      clear ho hd hvr
      have HB11 := Lib.hid (show Below w4.heap.size w4 w11 from HB10.out.trans (hb.mono HB10.out.size))
      have HX11 := Lib.hid (show Below w10.heap.size w10 w11 from hb)
      clear hb
      refine hK.out _ _ HB11.out (fun _ => ?_)
      clear hK K
      try simp only [Act.put, List.setIfInBounds_toArray, List.set_cons_zero, List.set_cons_succ]
      refine wpAnyH_ready (rs := [16]) (by kernel_rfl) (by simp) (AllReadyH.cons (o := { dst := some 24, op := Op.call { callee := Callee.value (Operand.func 19), args := #[Operand.tmp 23], argTypes := #[24] }, type := 29, pos := "law.go:28", after := #[{ on := 15, ground := Ground.data }, { on := 14, ground := Ground.chain }, { on := 12, ground := Ground.guard }], guard := some (12, true) }) rfl (fun K hK => ?_) AllReadyH.nil)
      go_simp
      go_at_call 19
      refine (HD4c.out w11 HB11.out ov2 HD2.out HVR2.out).mono ?_
      rintro e w12 ⟨X2, c2, rfl, hr, hb⟩
      have HR2 := Lib.hid (hr HOK.out.ok)
      simp only [HOK.out.ok, if_true]
      clear hr
      have HB12 := Lib.hid (show Below w4.heap.size w4 w12 from HB11.out.trans (hb.mono HB11.out.size))
      have HX12 := Lib.hid (show Below w11.heap.size w11 w12 from hb)
      clear hb
      refine hK.out _ _ HB12.out (fun _ => ?_)
      clear hK K
      try simp only [Act.put, List.setIfInBounds_toArray, List.set_cons_zero, List.set_cons_succ]
      refine wpAnyH_ready (rs := [17]) (by kernel_rfl) (by simp) (AllReadyH.cons (o := { dst := some 25, op := Op.call { callee := Callee.value (Operand.func 15), args := #[Operand.tmp 22, Operand.tmp 24], argTypes := #[29, 29] }, type := 4, pos := "law.go:28", after := #[{ on := 14, ground := Ground.data }, { on := 16, ground := Ground.data }, { on := 16, ground := Ground.chain }, { on := 12, ground := Ground.guard }], guard := some (12, true) }) rfl (fun K hK => ?_) AllReadyH.nil)
      go_simp
      go_at_call 15
      refine (HIN.out w12 HB12.out (some ⟨ob2, 0, none⟩) X2 l.length c2 _ l.length (by simp) (by simp; have := HOK.out.n; omega) ((((HO2.out.later HX12.out).row)).ext_list rfl) HR2.out).mono ?_
      rintro e w13 ⟨rfl, hb⟩
      have HB13 := Lib.hid (show Below w4.heap.size w4 w13 from HB12.out.trans (hb.mono HB12.out.size))
      have HX13 := Lib.hid (show Below w12.heap.size w12 w13 from hb)
      clear hb
      refine hK.out _ _ HB13.out (fun _ => ?_)
      clear hK K
      try simp only [Act.put, List.setIfInBounds_toArray, List.set_cons_zero, List.set_cons_succ]
      refine wpAnyH_take (i := 18) (oi := { dst := some 26, op := Op.pick (Operand.tmp 20) (Operand.tmp 25) (Operand.const (Value.bool false)), type := 4, pos := "law.go:28", after := #[{ on := 12, ground := Ground.data }, { on := 17, ground := Ground.data }], guard := none }) (v := .bool true) rfl (by kernel_rfl) (by kernel_rfl) (by kernel_rfl) (fun _ _ _ h => h) (Or.inl ⟨by rfl, ?_⟩) HB13.out ?_
      · (intro w' hSw; go_simp)
      simp only [Act.put, List.setIfInBounds_toArray, List.set_cons_zero, List.set_cons_succ]
      refine wpAnyH_take (i := 19) (oi := { dst := some 2, op := Op.assign (Operand.tmp 26), type := 4, pos := "law.go:28", after := #[{ on := 18, ground := Ground.data }, { on := 17, ground := Ground.chain }, { on := 0, ground := Ground.phase }, { on := 1, ground := Ground.phase }, { on := 2, ground := Ground.phase }, { on := 3, ground := Ground.phase }, { on := 4, ground := Ground.phase }, { on := 5, ground := Ground.phase }, { on := 6, ground := Ground.phase }, { on := 7, ground := Ground.phase }, { on := 8, ground := Ground.phase }, { on := 9, ground := Ground.phase }, { on := 10, ground := Ground.phase }, { on := 11, ground := Ground.phase }, { on := 12, ground := Ground.phase }, { on := 13, ground := Ground.phase }, { on := 14, ground := Ground.phase }, { on := 15, ground := Ground.phase }, { on := 16, ground := Ground.phase }, { on := 17, ground := Ground.phase }, { on := 18, ground := Ground.phase }], guard := none }) (v := .bool true) rfl (by kernel_rfl) (by kernel_rfl) (by kernel_rfl) (fun _ _ _ h => h) (Or.inl ⟨by rfl, ?_⟩) HB13.out ?_
      · (intro w' hSw; go_simp)
      simp only [Act.put, List.setIfInBounds_toArray, List.set_cons_zero, List.set_cons_succ]
      refine wpAnyH_done (by kernel_rfl) ?_ _
      refine NoPanic.normal ?_
      refine hKK _ _ ?_
      go_wp2_with (fail)
      go_ret
      exact ⟨rfl, HB4.out.trans (HB13.out.mono HB4.out.size)⟩
    | false =>
      have HNV := Lib.hid hv
      have HV1 := Lib.hid (fun W (hW : Below w4.heap.size w4 W) => (valid_any A c l W HS.out ((HP4.out.below hW).mono hW.size)).mono fun e W' he => (⟨he.1.trans (by rw [hv]), he.2⟩ : e = .returned (.bool false) ∧ Below W.heap.size W W'))
      have HV2 := Lib.hid (fun W (hW : Below w4.heap.size w4 W) => (rvalid_any A c l W HS.out ((HP4.out.below hW).mono hW.size)).mono fun e W' he => (⟨he.1.trans (by rw [hv]), he.2⟩ : e = .returned (.bool false) ∧ Below W.heap.size W W'))
      have HD2c := Lib.hid (fun W (hW : Below w4.heap.size w4 W) => rdominators_any A c l W HS.out ((HP4.out.below hW).mono hW.size) (fun _ => 0) (fun h => absurd (hv.symm.trans h) (by decide)) (fun h => absurd (hv.symm.trans h) (by decide)))
      have HD4c := Lib.hid (fun W (hW : Below w4.heap.size w4 W) => rpostdominators_any A c l W HS.out ((HP4.out.below hW).mono hW.size) (fun _ => 0) (fun h => absurd (hv.symm.trans h) (by decide)) (fun h => absurd (hv.symm.trans h) (by decide)))
      clear hv
      go_upto_region 5 with (fail)
      rename_i K hKK
      refine wp_region_noPanic ?_
      refine wp_region_held_drew (S := fun w' => Below w4.heap.size w4 w') (by kernel_rfl) (Below.refl _ _).drew (fun _ => ?_)
      have HB5 := Lib.hid (show Below w4.heap.size w4 w4.drew from (Below.refl _ _).drew)
      generalize w4.drew = w5 at *
      refine wpAnyH_take (i := 0) (oi := { dst := some 8, op := Op.load 24 (Operand.tmp 1), type := 24, pos := "law.go:28", after := #[], guard := none }) (v := .agg #[.slice A l.length c]) rfl (by kernel_rfl) (by kernel_rfl) (by kernel_rfl) (fun _ _ _ h => h) (Or.inl ⟨by rfl, ?_⟩) HB5.out ?_
      · (intro w' hSw; have z := HC0.out w' hSw; go_simp)
      simp only [Act.put, List.setIfInBounds_toArray, List.set_cons_zero, List.set_cons_succ]
      refine wpAnyH_take (i := 2) (oi := { dst := some 10, op := Op.load 24 (Operand.tmp 1), type := 24, pos := "law.go:28", after := #[], guard := none }) (v := .agg #[.slice A l.length c]) rfl (by kernel_rfl) (by kernel_rfl) (by kernel_rfl) (fun _ _ _ h => h) (Or.inl ⟨by rfl, ?_⟩) HB5.out ?_
      · (intro w' hSw; have z := HC0.out w' hSw; go_simp)
      simp only [Act.put, List.setIfInBounds_toArray, List.set_cons_zero, List.set_cons_succ]
      refine wpAnyH_ready (rs := [1]) (by kernel_rfl) (by simp) (AllReadyH.cons (o := { dst := some 9, op := Op.call { callee := Callee.value (Operand.func 13), args := #[Operand.tmp 8], argTypes := #[24] }, type := 4, pos := "law.go:28", after := #[{ on := 0, ground := Ground.data }], guard := none }) rfl (fun K hK => ?_) AllReadyH.nil)
      go_simp
      go_at_call 13
      refine (HV1.out w5 HB5.out).mono ?_
      rintro e w6 ⟨rfl, hb⟩
      have HB6 := Lib.hid (show Below w4.heap.size w4 w6 from HB5.out.trans (hb.mono HB5.out.size))
      have HX6 := Lib.hid (show Below w5.heap.size w5 w6 from hb)
      clear hb
      refine hK.out _ _ HB6.out (fun _ => ?_)
      clear hK K
      try simp only [Act.put, List.setIfInBounds_toArray, List.set_cons_zero, List.set_cons_succ]
      refine wpAnyH_ready (rs := [3]) (by kernel_rfl) (by simp) (AllReadyH.cons (o := { dst := some 11, op := Op.call { callee := Callee.value (Operand.func 14), args := #[Operand.tmp 10], argTypes := #[24] }, type := 4, pos := "law.go:28", after := #[{ on := 2, ground := Ground.data }, { on := 1, ground := Ground.chain }], guard := none }) rfl (fun K hK => ?_) AllReadyH.nil)
      go_simp
      go_at_call 14
      refine (HV2.out w6 HB6.out).mono ?_
      rintro e w7 ⟨rfl, hb⟩
      have HB7 := Lib.hid (show Below w4.heap.size w4 w7 from HB6.out.trans (hb.mono HB6.out.size))
      have HX7 := Lib.hid (show Below w6.heap.size w6 w7 from hb)
      clear hb
      refine hK.out _ _ HB7.out (fun _ => ?_)
      clear hK K
      try simp only [Act.put, List.setIfInBounds_toArray, List.set_cons_zero, List.set_cons_succ]
      refine wpAnyH_take (i := 4) (oi := { dst := some 12, op := Op.binOp BinOp.eql 4 (Operand.tmp 9) (Operand.tmp 11) 4, type := 4, pos := "law.go:28", after := #[{ on := 1, ground := Ground.data }, { on := 3, ground := Ground.data }], guard := none }) (v := .bool true) rfl (by kernel_rfl) (by kernel_rfl) (by kernel_rfl) (fun _ _ _ h => h) (Or.inl ⟨by rfl, ?_⟩) HB7.out ?_
      · (intro w' hSw; go_simp)
      simp only [Act.put, List.setIfInBounds_toArray, List.set_cons_zero, List.set_cons_succ]
      refine wpAnyH_take (i := 5) (oi := { dst := some 13, op := Op.move (Operand.tmp 12), type := 4, pos := "law.go:28", after := #[{ on := 4, ground := Ground.data }, { on := 3, ground := Ground.chain }], guard := none }) (v := .bool true) rfl (by kernel_rfl) (by kernel_rfl) (by kernel_rfl) (fun _ _ _ h => h) (Or.inl ⟨by rfl, ?_⟩) HB7.out ?_
      · (intro w' hSw; go_simp)
      simp only [Act.put, List.setIfInBounds_toArray, List.set_cons_zero, List.set_cons_succ]
      refine wpAnyH_take (i := 6) (oi := { dst := some 14, op := Op.load 24 (Operand.tmp 1), type := 24, pos := "law.go:28", after := #[{ on := 5, ground := Ground.guard }], guard := some (5, true) }) (v := .agg #[.slice A l.length c]) rfl (by kernel_rfl) (by kernel_rfl) (by kernel_rfl) (fun _ _ _ h => h) (Or.inl ⟨by rfl, ?_⟩) HB7.out ?_
      · (intro w' hSw; have z := HC0.out w' hSw; go_simp)
      simp only [Act.put, List.setIfInBounds_toArray, List.set_cons_zero, List.set_cons_succ]
      refine wpAnyH_take (i := 8) (oi := { dst := some 16, op := Op.load 24 (Operand.tmp 1), type := 24, pos := "law.go:28", after := #[{ on := 5, ground := Ground.guard }], guard := some (5, true) }) (v := .agg #[.slice A l.length c]) rfl (by kernel_rfl) (by kernel_rfl) (by kernel_rfl) (fun _ _ _ h => h) (Or.inl ⟨by rfl, ?_⟩) HB7.out ?_
      · (intro w' hSw; have z := HC0.out w' hSw; go_simp)
      simp only [Act.put, List.setIfInBounds_toArray, List.set_cons_zero, List.set_cons_succ]
      refine wpAnyH_ready (rs := [7]) (by kernel_rfl) (by simp) (AllReadyH.cons (o := { dst := some 15, op := Op.call { callee := Callee.value (Operand.func 16), args := #[Operand.tmp 14], argTypes := #[24] }, type := 29, pos := "law.go:28", after := #[{ on := 6, ground := Ground.data }, { on := 5, ground := Ground.chain }, { on := 5, ground := Ground.guard }], guard := some (5, true) }) rfl (fun K hK => ?_) AllReadyH.nil)
      go_simp
      go_at_call 16
      refine (HD1c.out w7 HB7.out).mono ?_
      rintro e w8 ⟨hb, ⟨h, _⟩ | ⟨_, rfl⟩⟩
      · exact absurd h (by rw [HNV.out]; decide)
      have HB8 := Lib.hid (show Below w4.heap.size w4 w8 from HB7.out.trans (hb.mono HB7.out.size))
      have HX8 := Lib.hid (show Below w7.heap.size w7 w8 from hb)
      clear hb
      refine hK.out _ _ HB8.out (fun _ => ?_)
      clear hK K
      try simp only [Act.put, List.setIfInBounds_toArray, List.set_cons_zero, List.set_cons_succ]
      refine wpAnyH_ready (rs := [9]) (by kernel_rfl) (by simp) (AllReadyH.cons (o := { dst := some 17, op := Op.call { callee := Callee.value (Operand.func 17), args := #[Operand.tmp 16], argTypes := #[24] }, type := 29, pos := "law.go:28", after := #[{ on := 8, ground := Ground.data }, { on := 7, ground := Ground.chain }, { on := 5, ground := Ground.guard }], guard := some (5, true) }) rfl (fun K hK => ?_) AllReadyH.nil)
      go_simp
      go_at_call 17
      refine (HD2c.out w8 HB8.out).mono ?_
      rintro e w9 ⟨X1, c1, rfl, _, hb⟩
      simp only [HNV.out]
      try simp only [Bool.false_eq_true, if_false]
      have HB9 := Lib.hid (show Below w4.heap.size w4 w9 from HB8.out.trans (hb.mono HB8.out.size))
      have HX9 := Lib.hid (show Below w8.heap.size w8 w9 from hb)
      clear hb
      refine hK.out _ _ HB9.out (fun _ => ?_)
      clear hK K
      try simp only [Act.put, List.setIfInBounds_toArray, List.set_cons_zero, List.set_cons_succ]
      refine wpAnyH_ready (rs := [10]) (by kernel_rfl) (by simp) (AllReadyH.cons (o := { dst := some 18, op := Op.call { callee := Callee.value (Operand.func 15), args := #[Operand.tmp 15, Operand.tmp 17], argTypes := #[29, 29] }, type := 4, pos := "law.go:28", after := #[{ on := 7, ground := Ground.data }, { on := 9, ground := Ground.data }, { on := 9, ground := Ground.chain }, { on := 5, ground := Ground.guard }], guard := some (5, true) }) rfl (fun K hK => ?_) AllReadyH.nil)
      go_simp
      go_at_call 15
      refine (HIN.out w9 HB9.out none X1 0 c1 [] 0 rfl (by simp) (fun h => absurd h (by simp)) (fun h => absurd h (by simp))).mono ?_
      rintro e w10 ⟨rfl, hb⟩
      have HB10 := Lib.hid (show Below w4.heap.size w4 w10 from HB9.out.trans (hb.mono HB9.out.size))
      have HX10 := Lib.hid (show Below w9.heap.size w9 w10 from hb)
      clear hb
      refine hK.out _ _ HB10.out (fun _ => ?_)
      clear hK K
      try simp only [Act.put, List.setIfInBounds_toArray, List.set_cons_zero, List.set_cons_succ]
      refine wpAnyH_take (i := 11) (oi := { dst := some 19, op := Op.pick (Operand.tmp 13) (Operand.tmp 18) (Operand.const (Value.bool false)), type := 4, pos := "law.go:28", after := #[{ on := 5, ground := Ground.data }, { on := 10, ground := Ground.data }], guard := none }) (v := .bool true) rfl (by kernel_rfl) (by kernel_rfl) (by kernel_rfl) (fun _ _ _ h => h) (Or.inl ⟨by rfl, ?_⟩) HB10.out ?_
      · (intro w' hSw; go_simp)
      simp only [Act.put, List.setIfInBounds_toArray, List.set_cons_zero, List.set_cons_succ]
      refine wpAnyH_take (i := 12) (oi := { dst := some 20, op := Op.move (Operand.tmp 19), type := 4, pos := "law.go:28", after := #[{ on := 11, ground := Ground.data }, { on := 10, ground := Ground.chain }], guard := none }) (v := .bool true) rfl (by kernel_rfl) (by kernel_rfl) (by kernel_rfl) (fun _ _ _ h => h) (Or.inl ⟨by rfl, ?_⟩) HB10.out ?_
      · (intro w' hSw; go_simp)
      simp only [Act.put, List.setIfInBounds_toArray, List.set_cons_zero, List.set_cons_succ]
      refine wpAnyH_take (i := 13) (oi := { dst := some 21, op := Op.load 24 (Operand.tmp 1), type := 24, pos := "law.go:28", after := #[{ on := 12, ground := Ground.guard }], guard := some (12, true) }) (v := .agg #[.slice A l.length c]) rfl (by kernel_rfl) (by kernel_rfl) (by kernel_rfl) (fun _ _ _ h => h) (Or.inl ⟨by rfl, ?_⟩) HB10.out ?_
      · (intro w' hSw; have z := HC0.out w' hSw; go_simp)
      simp only [Act.put, List.setIfInBounds_toArray, List.set_cons_zero, List.set_cons_succ]
      refine wpAnyH_take (i := 15) (oi := { dst := some 23, op := Op.load 24 (Operand.tmp 1), type := 24, pos := "law.go:28", after := #[{ on := 12, ground := Ground.guard }], guard := some (12, true) }) (v := .agg #[.slice A l.length c]) rfl (by kernel_rfl) (by kernel_rfl) (by kernel_rfl) (fun _ _ _ h => h) (Or.inl ⟨by rfl, ?_⟩) HB10.out ?_
      · (intro w' hSw; have z := HC0.out w' hSw; go_simp)
      simp only [Act.put, List.setIfInBounds_toArray, List.set_cons_zero, List.set_cons_succ]
      refine wpAnyH_ready (rs := [14]) (by kernel_rfl) (by simp) (AllReadyH.cons (o := { dst := some 22, op := Op.call { callee := Callee.value (Operand.func 18), args := #[Operand.tmp 21], argTypes := #[24] }, type := 29, pos := "law.go:28", after := #[{ on := 13, ground := Ground.data }, { on := 12, ground := Ground.chain }, { on := 12, ground := Ground.guard }], guard := some (12, true) }) rfl (fun K hK => ?_) AllReadyH.nil)
      go_simp
      go_at_call 18
      refine (HD3c.out w10 HB10.out).mono ?_
      rintro e w11 ⟨hb, ⟨h, _⟩ | ⟨_, rfl⟩⟩
      · exact absurd h (by rw [HNV.out]; decide)
      have HB11 := Lib.hid (show Below w4.heap.size w4 w11 from HB10.out.trans (hb.mono HB10.out.size))
      have HX11 := Lib.hid (show Below w10.heap.size w10 w11 from hb)
      clear hb
      refine hK.out _ _ HB11.out (fun _ => ?_)
      clear hK K
      try simp only [Act.put, List.setIfInBounds_toArray, List.set_cons_zero, List.set_cons_succ]
      refine wpAnyH_ready (rs := [16]) (by kernel_rfl) (by simp) (AllReadyH.cons (o := { dst := some 24, op := Op.call { callee := Callee.value (Operand.func 19), args := #[Operand.tmp 23], argTypes := #[24] }, type := 29, pos := "law.go:28", after := #[{ on := 15, ground := Ground.data }, { on := 14, ground := Ground.chain }, { on := 12, ground := Ground.guard }], guard := some (12, true) }) rfl (fun K hK => ?_) AllReadyH.nil)
      go_simp
      go_at_call 19
      refine (HD4c.out w11 HB11.out).mono ?_
      rintro e w12 ⟨X2, c2, rfl, _, hb⟩
      simp only [HNV.out]
      try simp only [Bool.false_eq_true, if_false]
      have HB12 := Lib.hid (show Below w4.heap.size w4 w12 from HB11.out.trans (hb.mono HB11.out.size))
      have HX12 := Lib.hid (show Below w11.heap.size w11 w12 from hb)
      clear hb
      refine hK.out _ _ HB12.out (fun _ => ?_)
      clear hK K
      try simp only [Act.put, List.setIfInBounds_toArray, List.set_cons_zero, List.set_cons_succ]
      refine wpAnyH_ready (rs := [17]) (by kernel_rfl) (by simp) (AllReadyH.cons (o := { dst := some 25, op := Op.call { callee := Callee.value (Operand.func 15), args := #[Operand.tmp 22, Operand.tmp 24], argTypes := #[29, 29] }, type := 4, pos := "law.go:28", after := #[{ on := 14, ground := Ground.data }, { on := 16, ground := Ground.data }, { on := 16, ground := Ground.chain }, { on := 12, ground := Ground.guard }], guard := some (12, true) }) rfl (fun K hK => ?_) AllReadyH.nil)
      go_simp
      go_at_call 15
      refine (HIN.out w12 HB12.out none X2 0 c2 [] 0 rfl (by simp) (fun h => absurd h (by simp)) (fun h => absurd h (by simp))).mono ?_
      rintro e w13 ⟨rfl, hb⟩
      have HB13 := Lib.hid (show Below w4.heap.size w4 w13 from HB12.out.trans (hb.mono HB12.out.size))
      have HX13 := Lib.hid (show Below w12.heap.size w12 w13 from hb)
      clear hb
      refine hK.out _ _ HB13.out (fun _ => ?_)
      clear hK K
      try simp only [Act.put, List.setIfInBounds_toArray, List.set_cons_zero, List.set_cons_succ]
      refine wpAnyH_take (i := 18) (oi := { dst := some 26, op := Op.pick (Operand.tmp 20) (Operand.tmp 25) (Operand.const (Value.bool false)), type := 4, pos := "law.go:28", after := #[{ on := 12, ground := Ground.data }, { on := 17, ground := Ground.data }], guard := none }) (v := .bool true) rfl (by kernel_rfl) (by kernel_rfl) (by kernel_rfl) (fun _ _ _ h => h) (Or.inl ⟨by rfl, ?_⟩) HB13.out ?_
      · (intro w' hSw; go_simp)
      simp only [Act.put, List.setIfInBounds_toArray, List.set_cons_zero, List.set_cons_succ]
      refine wpAnyH_take (i := 19) (oi := { dst := some 2, op := Op.assign (Operand.tmp 26), type := 4, pos := "law.go:28", after := #[{ on := 18, ground := Ground.data }, { on := 17, ground := Ground.chain }, { on := 0, ground := Ground.phase }, { on := 1, ground := Ground.phase }, { on := 2, ground := Ground.phase }, { on := 3, ground := Ground.phase }, { on := 4, ground := Ground.phase }, { on := 5, ground := Ground.phase }, { on := 6, ground := Ground.phase }, { on := 7, ground := Ground.phase }, { on := 8, ground := Ground.phase }, { on := 9, ground := Ground.phase }, { on := 10, ground := Ground.phase }, { on := 11, ground := Ground.phase }, { on := 12, ground := Ground.phase }, { on := 13, ground := Ground.phase }, { on := 14, ground := Ground.phase }, { on := 15, ground := Ground.phase }, { on := 16, ground := Ground.phase }, { on := 17, ground := Ground.phase }, { on := 18, ground := Ground.phase }], guard := none }) (v := .bool true) rfl (by kernel_rfl) (by kernel_rfl) (by kernel_rfl) (fun _ _ _ h => h) (Or.inl ⟨by rfl, ?_⟩) HB13.out ?_
      · (intro w' hSw; go_simp)
      simp only [Act.put, List.setIfInBounds_toArray, List.set_cons_zero, List.set_cons_succ]
      refine wpAnyH_done (by kernel_rfl) ?_ _
      refine NoPanic.normal ?_
      refine hKK _ _ ?_
      go_wp2_with (fail)
      go_ret
      exact ⟨rfl, HB4.out.trans (HB13.out.mono HB4.out.size)⟩
end Go.Proofs.Ytncamhbjndkihaa
