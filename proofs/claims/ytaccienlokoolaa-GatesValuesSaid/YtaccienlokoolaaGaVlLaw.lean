/- What is proved: the law GatesValues, over the example's contract. -/
import Derived.Test.YtaccienlokoolaaGaAwk
set_option linter.unusedVariables false
set_option linter.unusedSimpArgs false
namespace Go.Proofs.Ytaccienlokoolaa
open Go.RowKit Go.Maps

theorem decide_refl {α : Type} [DecidableEq α] (a : α) : decide (a = a) = true := by simp
set_option maxRecDepth 100000 in
set_option maxHeartbeats 4000000 in
theorem law_values (I : Int) (A : Option Addr) (c : Nat) (gs : List Gt) (AI : Option Addr) (ci : Nat) (inp : List Bool) (AL : Option Addr) (cl : Nat) (ls : List Int) (w : World) (hI64 : I64o I) (hg : GOpn w A gs) (hi : BOpn w AI ci inp) (hz : ZOpn w AL cl ls) :
    Calls Try.prog 4 #[.agg #[.int .i64 I, .slice A gs.length c], .slice AI inp.length ci, .slice AL ls.length cl] w fun e w' => e = .returned (.bool true) ∧ Below w.heap.size w w' := by
  have hb1 := (Below.refl w.heap.size w).alloc (Nat.le_refl _) (.cells #[.int .i64 I, .slice A gs.length c] 30)
  have HX1 := Lib.hid (CBx.new w I A gs.length c)
  have HA := Lib.hid (awake_any (w.alloc (.cells #[.int .i64 I, .slice A gs.length c] 30)))
  have HB1 := Lib.hid hb1
  have HG := Lib.hid hg
  have HI := Lib.hid hi
  have HZ := Lib.hid hz
  have hl1 := hg.1
  have hl2 := hz.2.1
  clear hb1 hg hi hz
  go_enter Try.func4, Try.ntmps4
  go_upto_region 1 with fail
  generalize hgw : w.alloc (.cells #[.int .i64 I, .slice A gs.length c] 30) = w1 at *
  clear hgw
  obtain ⟨b0, b1⟩ := HX1.out.cells
  go_wp2_with (fail)
  refine HA.out.mono ?_
  rintro e w2 ⟨rfl, hb2⟩
  have HB2 := Lib.hid (HB1.out.trans (hb2.mono HB1.out.size))
  have HX2 := Lib.hid (HX1.out.later hb2)
  clear hb2 b0 b1 HX1 HB1 HA
  obtain ⟨b0, b1⟩ := HX2.out.cells
  by_cases h1 : 40 < gs.length
  · have d1 : decide (40 < (gs.length : Int)) = true := by simp; omega
    clear h1
    go_wp2_with (fail)
    go_ret
    exact ⟨rfl, HB2.out⟩
  · have d1 : decide (40 < (gs.length : Int)) = false := by simp; omega
    by_cases h2 : 40 < ls.length
    · have d2 : decide (40 < (ls.length : Int)) = true := by simp; omega
      clear h1 h2
      go_wp2_with (fail)
      go_ret
      exact ⟨rfl, HB2.out⟩
    · have d2 : decide (40 < (ls.length : Int)) = false := by simp; omega
      have HEV := Lib.hid (fun (w3 : World) (hb : Below w.heap.size w w3) => eval_any I A c gs AI ci inp AL cl ls w3 (HG.out.2.1.later hb) HG.out.2.2 (by omega) (HI.out.2.2.later hb) HI.out.1 (HZ.out.2.2.1.later hb) (by omega))
      have HRV := Lib.hid (fun (w3 : World) (hb : Below w.heap.size w w3) => r_eval_any I A c gs AI ci inp AL cl ls w3 (HG.out.2.1.later hb) HG.out.2.2 (by omega) (HI.out.2.2.later hb) HI.out.1 (HZ.out.2.2.1.later hb) (by omega))
      have HVA := Lib.hid (fun (w3 : World) (hb : Below w.heap.size w w3) => valid_any I A c gs w3 (HG.out.2.1.later hb) HG.out.2.2 (by omega))
      have HRA := Lib.hid (fun (w3 : World) (hb : Below w.heap.size w w3) => r_valid_any I A c gs w3 (HG.out.2.1.later hb) HG.out.2.2 (by omega))
      have hel : (evL I gs inp ls).length ≤ 1000000 := by unfold evL; split <;> simp; omega
      generalize evL I gs inp ls = el at *
      generalize evE I gs inp ls = ee at *
      generalize vldB I gs = vb at *
      clear h1 h2
      go_wp2_with (fail)
      refine (HEV.out _ HB2.out).mono ?_
      rintro e w3 ⟨A3, c3, rfl, hrow, hb⟩
      have HB3 := Lib.hid (HB2.out.trans (hb.mono HB2.out.size))
      have HX3 := Lib.hid (HX2.out.later hb)
      have HR3 := Lib.hid hrow
      clear hb hrow b0 b1 HX2 HB2
      obtain ⟨b0, b1⟩ := HX3.out.cells
      go_wp2_with (fail)
      refine (HRV.out _ HB3.out).mono ?_
      rintro e w4 ⟨A4, c4, rfl, hrow, hb⟩
      have HB4 := Lib.hid (HB3.out.trans (hb.mono HB3.out.size))
      have HX4 := Lib.hid (HX3.out.later hb)
      have HR4 := Lib.hid (HR3.out.later hb)
      have HS4 := Lib.hid hrow
      clear hb hrow b0 b1 HX3 HB3 HR3
      obtain ⟨b0, b1⟩ := HX4.out.cells
      go_upto_region 7 with fail
      have HD := Lib.hid (show Below w4.heap.size w4 w4.drew from (Below.refl _ _).drew)
      have HB5 := Lib.hid (HB4.out.trans (HD.out.mono HB4.out.size))
      have HX5 := Lib.hid (HX4.out.later HD.out)
      have HR5 := Lib.hid (HR4.out.later HD.out)
      have HS5 := Lib.hid (HS4.out.later HD.out)
      clear b0 b1 HD HB4 HX4 HR4 HS4
      -- REGION A
      refine wp_region_noPanic ?_
      refine wp_region_held_drew (S := fun w' => w'.cell? ⟨w.heap.size, 0, none⟩ = some (.int .i64 I) ∧ w'.cell? ⟨w.heap.size, 1, none⟩ = some (.slice A gs.length c)) (by kernel_rfl) HX5.out.cells (fun _ => ?_)
      generalize w4.drew = w5 at *
      refine wpAnyH_take (i := 0) (oi := { dst := some 36, op := Op.load 30 (Operand.tmp 3), type := 30, pos := "law.go:71", after := #[], guard := none }) (v := .agg #[.int .i64 I, .slice A gs.length c]) rfl (by kernel_rfl) (by kernel_rfl) (by kernel_rfl) (fun _ _ _ h => h) (Or.inl ⟨by rfl, ?_⟩) HX5.out.cells ?_
      · (intro w' hSw; obtain ⟨z0, z1⟩ := hSw; go_simp)
      simp only [Act.put, List.setIfInBounds_toArray, List.set_cons_zero, List.set_cons_succ]
      refine wpAnyH_take (i := 2) (oi := { dst := some 38, op := Op.load 30 (Operand.tmp 3), type := 30, pos := "law.go:71", after := #[], guard := none }) (v := .agg #[.int .i64 I, .slice A gs.length c]) rfl (by kernel_rfl) (by kernel_rfl) (by kernel_rfl) (fun _ _ _ h => h) (Or.inl ⟨by rfl, ?_⟩) HX5.out.cells ?_
      · (intro w' hSw; obtain ⟨z0, z1⟩ := hSw; go_simp)
      simp only [Act.put, List.setIfInBounds_toArray, List.set_cons_zero, List.set_cons_succ]
      refine wpAnyH_ready (rs := [1]) (by kernel_rfl) (by simp) (AllReadyH.cons (o := { dst := some 37, op := Op.call { callee := Callee.value (Operand.func 23), args := #[Operand.tmp 36], argTypes := #[30] }, type := 4, pos := "law.go:71", after := #[{ on := 0, ground := Ground.data }], guard := none }) rfl (fun K hK => ?_) AllReadyH.nil)
      go_simp
      go_at_call 23
      refine (HVA.out _ HB5.out).mono ?_
      rintro e w6 ⟨rfl, hb⟩
      have HB6 := Lib.hid (HB5.out.trans (hb.mono HB5.out.size))
      have HX6 := Lib.hid (HX5.out.later hb)
      have HR6 := Lib.hid (HR5.out.later hb)
      have HS6 := Lib.hid (HS5.out.later hb)
      clear hb
      refine hK.out _ _ HX6.out.cells (fun _ => ?_)
      clear hK K
      try simp only [Act.put, List.setIfInBounds_toArray, List.set_cons_zero, List.set_cons_succ]
      refine wpAnyH_ready (rs := [3]) (by kernel_rfl) (by simp) (AllReadyH.cons (o := { dst := some 39, op := Op.call { callee := Callee.value (Operand.func 24), args := #[Operand.tmp 38], argTypes := #[30] }, type := 4, pos := "law.go:71", after := #[{ on := 2, ground := Ground.data }, { on := 1, ground := Ground.chain }], guard := none }) rfl (fun K hK => ?_) AllReadyH.nil)
      go_simp
      go_at_call 24
      refine (HRA.out _ HB6.out).mono ?_
      rintro e w7 ⟨rfl, hb⟩
      have HB7 := Lib.hid (HB6.out.trans (hb.mono HB6.out.size))
      have HX7 := Lib.hid (HX6.out.later hb)
      have HR7 := Lib.hid (HR6.out.later hb)
      have HS7 := Lib.hid (HS6.out.later hb)
      clear hb
      refine hK.out _ _ HX7.out.cells (fun _ => ?_)
      clear hK K
      try simp only [Act.put, List.setIfInBounds_toArray, List.set_cons_zero, List.set_cons_succ]
      refine wpAnyH_take (i := 4) (oi := { dst := some 40, op := Op.binOp BinOp.eql 4 (Operand.tmp 37) (Operand.tmp 39) 4, type := 4, pos := "law.go:71", after := #[{ on := 1, ground := Ground.data }, { on := 3, ground := Ground.data }], guard := none }) (v := .bool true) rfl (by kernel_rfl) (by kernel_rfl) (by kernel_rfl) (fun _ _ _ h => h) (Or.inl ⟨by rfl, ?_⟩) HX7.out.cells ?_
      · (intro w' hSw; go_simp)
      simp only [Act.put, List.setIfInBounds_toArray, List.set_cons_zero, List.set_cons_succ]
      refine wpAnyH_take (i := 5) (oi := { dst := some 41, op := Op.move (Operand.tmp 40), type := 4, pos := "law.go:71", after := #[{ on := 4, ground := Ground.data }, { on := 3, ground := Ground.chain }], guard := none }) (v := .bool true) rfl (by kernel_rfl) (by kernel_rfl) (by kernel_rfl) (fun _ _ _ h => h) (Or.inl ⟨by rfl, ?_⟩) HX7.out.cells ?_
      · (intro w' hSw; go_simp)
      simp only [Act.put, List.setIfInBounds_toArray, List.set_cons_zero, List.set_cons_succ]
      refine wpAnyH_take (i := 6) (oi := { dst := some 42, op := Op.move (Operand.tmp 8), type := 25, pos := "law.go:71", after := #[{ on := 5, ground := Ground.guard }], guard := some (5, true) }) (v := .int .i64 ee) rfl (by kernel_rfl) (by kernel_rfl) (by kernel_rfl) (fun _ _ _ h => h) (Or.inl ⟨by rfl, ?_⟩) HX7.out.cells ?_
      · (intro w' hSw; go_simp)
      simp only [Act.put, List.setIfInBounds_toArray, List.set_cons_zero, List.set_cons_succ]
      refine wpAnyH_take (i := 7) (oi := { dst := some 43, op := Op.move (Operand.tmp 10), type := 25, pos := "law.go:71", after := #[{ on := 5, ground := Ground.guard }], guard := some (5, true) }) (v := .int .i64 ee) rfl (by kernel_rfl) (by kernel_rfl) (by kernel_rfl) (fun _ _ _ h => h) (Or.inl ⟨by rfl, ?_⟩) HX7.out.cells ?_
      · (intro w' hSw; go_simp)
      simp only [Act.put, List.setIfInBounds_toArray, List.set_cons_zero, List.set_cons_succ]
      refine wpAnyH_take (i := 8) (oi := { dst := some 44, op := Op.binOp BinOp.eql 25 (Operand.tmp 42) (Operand.tmp 43) 25, type := 4, pos := "law.go:71", after := #[{ on := 6, ground := Ground.data }, { on := 7, ground := Ground.data }, { on := 5, ground := Ground.guard }], guard := some (5, true) }) (v := .bool true) rfl (by kernel_rfl) (by kernel_rfl) (by kernel_rfl) (fun _ _ _ h => h) (Or.inl ⟨by rfl, ?_⟩) HX7.out.cells ?_
      · (intro w' hSw; go_simp)
      simp only [Act.put, List.setIfInBounds_toArray, List.set_cons_zero, List.set_cons_succ]
      refine wpAnyH_take (i := 9) (oi := { dst := some 45, op := Op.pick (Operand.tmp 41) (Operand.tmp 44) (Operand.const (Value.bool false)), type := 4, pos := "law.go:71", after := #[{ on := 5, ground := Ground.data }, { on := 8, ground := Ground.data }], guard := none }) (v := .bool true) rfl (by kernel_rfl) (by kernel_rfl) (by kernel_rfl) (fun _ _ _ h => h) (Or.inl ⟨by rfl, ?_⟩) HX7.out.cells ?_
      · (intro w' hSw; go_simp)
      simp only [Act.put, List.setIfInBounds_toArray, List.set_cons_zero, List.set_cons_succ]
      refine wpAnyH_take (i := 10) (oi := { dst := some 46, op := Op.move (Operand.tmp 45), type := 4, pos := "law.go:71", after := #[{ on := 9, ground := Ground.data }, { on := 5, ground := Ground.chain }], guard := none }) (v := .bool true) rfl (by kernel_rfl) (by kernel_rfl) (by kernel_rfl) (fun _ _ _ h => h) (Or.inl ⟨by rfl, ?_⟩) HX7.out.cells ?_
      · (intro w' hSw; go_simp)
      simp only [Act.put, List.setIfInBounds_toArray, List.set_cons_zero, List.set_cons_succ]
      refine wpAnyH_take (i := 11) (oi := { dst := some 47, op := Op.move (Operand.tmp 7), type := 47, pos := "law.go:71", after := #[{ on := 10, ground := Ground.guard }], guard := some (10, true) }) (v := .slice A3 el.length c3) rfl (by kernel_rfl) (by kernel_rfl) (by kernel_rfl) (fun _ _ _ h => h) (Or.inl ⟨by rfl, ?_⟩) HX7.out.cells ?_
      · (intro w' hSw; go_simp)
      simp only [Act.put, List.setIfInBounds_toArray, List.set_cons_zero, List.set_cons_succ]
      refine wpAnyH_take (i := 12) (oi := { dst := some 48, op := Op.move (Operand.tmp 9), type := 47, pos := "law.go:71", after := #[{ on := 10, ground := Ground.guard }], guard := some (10, true) }) (v := .slice A4 el.length c4) rfl (by kernel_rfl) (by kernel_rfl) (by kernel_rfl) (fun _ _ _ h => h) (Or.inl ⟨by rfl, ?_⟩) HX7.out.cells ?_
      · (intro w' hSw; go_simp)
      simp only [Act.put, List.setIfInBounds_toArray, List.set_cons_zero, List.set_cons_succ]
      refine wpAnyH_ready (rs := [13]) (by kernel_rfl) (by simp) (AllReadyH.cons (o := { dst := some 49, op := Op.call { callee := Callee.value (Operand.func 25), args := #[Operand.tmp 47, Operand.tmp 48], argTypes := #[47, 47] }, type := 4, pos := "law.go:71", after := #[{ on := 11, ground := Ground.data }, { on := 12, ground := Ground.data }, { on := 10, ground := Ground.chain }, { on := 10, ground := Ground.guard }], guard := some (10, true) }) rfl (fun K hK => ?_) AllReadyH.nil)
      go_simp
      go_at_call 25
      refine (equalB_any A3 c3 el A4 c4 el _ HR7.out HS7.out hel).mono ?_
      rintro e w8 ⟨rfl, hb⟩
      have HB8 := Lib.hid (HB7.out.trans (hb.mono HB7.out.size))
      have HX8 := Lib.hid (HX7.out.later hb)
      have HR8 := Lib.hid (HR7.out.later hb)
      have HS8 := Lib.hid (HS7.out.later hb)
      clear hb
      refine hK.out _ _ HX8.out.cells (fun _ => ?_)
      clear hK K
      try simp only [Act.put, List.setIfInBounds_toArray, List.set_cons_zero, List.set_cons_succ]
      refine wpAnyH_take (i := 14) (oi := { dst := some 50, op := Op.pick (Operand.tmp 46) (Operand.tmp 49) (Operand.const (Value.bool false)), type := 4, pos := "law.go:71", after := #[{ on := 10, ground := Ground.data }, { on := 13, ground := Ground.data }], guard := none }) (v := .bool true) rfl (by kernel_rfl) (by kernel_rfl) (by kernel_rfl) (fun _ _ _ h => h) (Or.inl ⟨by rfl, ?_⟩) HX8.out.cells ?_
      · (intro w' hSw; go_simp)
      simp only [Act.put, List.setIfInBounds_toArray, List.set_cons_zero, List.set_cons_succ]
      refine wpAnyH_take (i := 15) (oi := { dst := some 6, op := Op.assign (Operand.tmp 50), type := 4, pos := "law.go:71", after := #[{ on := 14, ground := Ground.data }, { on := 13, ground := Ground.chain }, { on := 0, ground := Ground.phase }, { on := 1, ground := Ground.phase }, { on := 2, ground := Ground.phase }, { on := 3, ground := Ground.phase }, { on := 4, ground := Ground.phase }, { on := 5, ground := Ground.phase }, { on := 6, ground := Ground.phase }, { on := 7, ground := Ground.phase }, { on := 8, ground := Ground.phase }, { on := 9, ground := Ground.phase }, { on := 10, ground := Ground.phase }, { on := 11, ground := Ground.phase }, { on := 12, ground := Ground.phase }, { on := 13, ground := Ground.phase }, { on := 14, ground := Ground.phase }], guard := none }) (v := .bool true) rfl (by kernel_rfl) (by kernel_rfl) (by kernel_rfl) (fun _ _ _ h => h) (Or.inl ⟨by rfl, ?_⟩) HX8.out.cells ?_
      · (intro w' hSw; go_simp)
      simp only [Act.put, List.setIfInBounds_toArray, List.set_cons_zero, List.set_cons_succ]
      refine wpAnyH_done (by kernel_rfl) ?_ _
      refine NoPanic.normal ?_
      go_wp2_with (fail)
      go_ret
      exact ⟨rfl, HB8.out⟩
      -- END A
end Go.Proofs.Ytaccienlokoolaa
