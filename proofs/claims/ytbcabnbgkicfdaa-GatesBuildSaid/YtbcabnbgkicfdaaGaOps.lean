/- What is proved: And, Or, Xor, Mux of the builders of package gates. -/
import Derived.Test.YtbcabnbgkicfdaaGaAnd
set_option linter.unusedVariables false
namespace Go.Proofs.Ytbcabnbgkicfdaa
open Go.RowKit Go.Maps

/-- a variable that is none of the builder's blocks -/
structure VBx (bb mb : Nat) (rv : Value) (w : World) (k : Nat) (T : TypeId) (v : Value) : Prop where
  bx : Bx w k T v
  far : ¬ Own bb mb rv k
theorem VBx.step {n₀ bb mb : Nat} {rv rv' : Value} {I : Int} {gs' : List Gt} {e' : Int} {w w' : World} {k : Nat} {T : TypeId} {v : Value} (h : VBx bb mb rv w k T v) (r : BdRes n₀ bb mb rv I gs' e' w w' rv') : VBx bb mb rv' w' k T v := by
  obtain ⟨h1, h2⟩ := r.far (gs := []) (e := 0) k h.bx.lt h.far
  exact ⟨h1.trans h.bx, h2⟩
theorem VBx.later {bb mb : Nat} {rv : Value} {w w' : World} {k : Nat} {T : TypeId} {v : Value} (h : VBx bb mb rv w k T v) (hb : Below w.heap.size w w') : VBx bb mb rv w' k T v := ⟨h.bx.later hb, h.far⟩
section
variable {w : World} {n₀ bb mb : Nat} {rv : Value} {I : Int} {gs : List Gt}
theorem lit_small {x : Int} (h : Bld w n₀ bb mb rv I gs 0) (hx : isLit I gs x) : 0 ≤ x ∧ x ≤ 100000 := by
  have := h.ck.hi
  have := h.few
  unfold isLit at hx
  omega
set_option maxHeartbeats 1000000 in
theorem or_any (x y : Int) (h : Bld w n₀ bb mb rv I gs 0) (hx : isLit I gs x) (hy : isLit I gs y) (hf : gs.length < 5000) :
    Calls Try.prog 96 #[.pointer (some ⟨bb, 0, none⟩), .int .i64 x, .int .i64 y] w fun e w' => e = .returned (.int .i64 (orN I gs x y)) ∧ ∃ rv', BdRes n₀ bb mb rv I (orL gs x y) 0 w w' rv' := by
  have hsx := lit_small h hx
  have hsy := lit_small h hy
  have HN := Lib.hid (fun z (hz : 0 ≤ z ∧ z ≤ 200000) w => not_any z (by omega) w)
  have HA := Lib.hid (and_any (notP x) (notP y) h hx.not hy.not hf)
  have HZ := Lib.hid (show ∀ rv' w', Bld w' n₀ bb mb rv' I (andL gs (notP x) (notP y)) 0 → 0 ≤ andN I gs (notP x) (notP y) ∧ andN I gs (notP x) (notP y) ≤ 200000 from fun rv' w' hb => by
    have := lit_small hb (and_ok h.ck hx.not hy.not).lit
    omega)
  clear h hx hy
  unfold orN orL
  generalize andN I gs (notP x) (notP y) = z at *
  go_enter Try.func96, Try.ntmps96
  go_wp2_with (fail)
  refine (HN.out x (by omega) _).mono ?_
  rintro e wx ⟨rfl, hx⟩
  obtain rfl := hx.symm
  go_wp2_with (fail)
  refine (HN.out y (by omega) _).mono ?_
  rintro e wx ⟨rfl, hx⟩
  obtain rfl := hx.symm
  go_wp2_with (fail)
  refine HA.out.mono ?_
  rintro e w1 ⟨rfl, rv1, hr1⟩
  have HR := Lib.hid hr1
  have hz := HZ.out rv1 w1 hr1.tab
  clear hr1
  go_wp2_with (fail)
  refine (HN.out z hz _).mono ?_
  rintro e wx ⟨rfl, hx⟩
  obtain rfl := hx.symm
  go_wp2_with (fail)
  go_ret
  exact ⟨rfl, rv1, HR.out⟩
set_option maxRecDepth 100000 in
set_option maxHeartbeats 4000000 in
theorem clo_And (pb : Nat) (px : Nat) (py : Nat) (x y : Int) (h : Bld w n₀ bb mb rv I gs 0) (hx : isLit I gs x) (hy : isLit I gs y) (hpb : VBx bb mb rv w pb 24 (.pointer (some ⟨bb, 0, none⟩))) (hpx : VBx bb mb rv w px 3 (.int .i64 x)) (hpy : VBx bb mb rv w py 3 (.int .i64 y)) (hf : gs.length + 1 ≤ 5000) :
    Calls Try.prog 93 #[.pointer (some ⟨pb, 0, none⟩), .pointer (some ⟨px, 0, none⟩), .pointer (some ⟨py, 0, none⟩)] w fun e w' => e = .returned (.int .i64 (andN I gs x y)) ∧ ∃ rv', BdRes n₀ bb mb rv I (andL gs x y) 0 w w' rv' := by
  have HC := Lib.hid (and_any x y h hx hy (by omega))
  have cb := hpb.bx.cell
  have cx := hpx.bx.cell
  have cy := hpy.bx.cell
  clear h hx hy hpb hpx hpy
  go_enter Try.func93, Try.ntmps93
  go_wp2_with (fail)
  refine HC.out.mono ?_
  rintro e w1 ⟨rfl, rv1, hr1⟩
  have HR := Lib.hid hr1
  clear hr1
  go_wp2_with (fail)
  go_ret
  exact ⟨rfl, rv1, HR.out⟩
set_option maxRecDepth 100000 in
set_option maxHeartbeats 4000000 in
theorem clo_Or (pb : Nat) (px : Nat) (py : Nat) (x y : Int) (h : Bld w n₀ bb mb rv I gs 0) (hx : isLit I gs x) (hy : isLit I gs y) (hpb : VBx bb mb rv w pb 24 (.pointer (some ⟨bb, 0, none⟩))) (hpx : VBx bb mb rv w px 3 (.int .i64 x)) (hpy : VBx bb mb rv w py 3 (.int .i64 y)) (hf : gs.length + 1 ≤ 5000) :
    Calls Try.prog 98 #[.pointer (some ⟨pb, 0, none⟩), .pointer (some ⟨px, 0, none⟩), .pointer (some ⟨py, 0, none⟩)] w fun e w' => e = .returned (.int .i64 (orN I gs x y)) ∧ ∃ rv', BdRes n₀ bb mb rv I (orL gs x y) 0 w w' rv' := by
  have HC := Lib.hid (or_any x y h hx hy (by omega))
  have cb := hpb.bx.cell
  have cx := hpx.bx.cell
  have cy := hpy.bx.cell
  clear h hx hy hpb hpx hpy
  go_enter Try.func98, Try.ntmps98
  go_wp2_with (fail)
  refine HC.out.mono ?_
  rintro e w1 ⟨rfl, rv1, hr1⟩
  have HR := Lib.hid hr1
  clear hr1
  go_wp2_with (fail)
  go_ret
  exact ⟨rfl, rv1, HR.out⟩
set_option maxRecDepth 100000 in
set_option maxHeartbeats 4000000 in
theorem clo_Xor (pb : Nat) (px : Nat) (py : Nat) (x y : Int) (h : Bld w n₀ bb mb rv I gs 0) (hx : isLit I gs x) (hy : isLit I gs y) (hpb : VBx bb mb rv w pb 24 (.pointer (some ⟨bb, 0, none⟩))) (hpx : VBx bb mb rv w px 3 (.int .i64 x)) (hpy : VBx bb mb rv w py 3 (.int .i64 y)) (hf : gs.length + 3 ≤ 5000) :
    Calls Try.prog 95 #[.pointer (some ⟨pb, 0, none⟩), .pointer (some ⟨px, 0, none⟩), .pointer (some ⟨py, 0, none⟩)] w fun e w' => e = .returned (.int .i64 (muxN I gs x (notP y) y)) ∧ ∃ rv', BdRes n₀ bb mb rv I (muxL I gs x (notP y) y) 0 w w' rv' := by
  have HMP := Lib.hid (mux_parts h.ck hx hy.not hy)
  have HMX := Lib.hid (mux_ok h.ck hx hy.not hy)
  have hsx := lit_small h hx
  have hsy := lit_small h hy
  have HNT := Lib.hid (fun z (hz : 0 ≤ z ∧ z ≤ 200000) w => not_any z (by omega) w)
  have HA1 := Lib.hid (fun (w1 : World) (h1 : Bld w1 n₀ bb mb rv I gs 0) => and_any x (notP y) h1 hx hy.not (by omega))
  have HA2 := Lib.hid (fun (w1 : World) rv1 (h1 : Bld w1 n₀ bb mb rv1 I (muxA gs x (notP y)) 0) => and_any (notP x) y h1 HMP.out.2.1 HMP.out.2.2.1 (by have := HMP.out.1.len; omega))
  have HA3 := Lib.hid (fun (w1 : World) rv1 (h1 : Bld w1 n₀ bb mb rv1 I (muxB gs x (notP y) y) 0) => or_any (andN I gs x (notP y)) (andN I (muxA gs x (notP y)) (notP x) y) h1 HMP.out.2.2.2.2.2.1 HMP.out.2.2.2.2.2.2 (by have := HMP.out.2.2.2.2.1; omega))
  have HBL := Lib.hid (h.lt (k := bb) (.inl rfl)).2
  have HML := Lib.hid (h.lt (k := mb) (.inr (.inl rfl))).2
  have HH := Lib.hid h
  have HV0 := Lib.hid (And.intro hpb (And.intro hpx hpy))
  clear h hx hy hpb hpx hpy
  unfold muxN muxL
  go_enter Try.func95, Try.ntmps95
  go_upto_region 1 with fail
  have HD := Lib.hid (show Below w.heap.size w w.drew from (Below.refl _ _).drew)
  have HH1 := Lib.hid (HH.out.later HD.out)
  have HBL1 := Lib.hid (show bb < w.drew.heap.size from HBL.out)
  have HML1 := Lib.hid (show mb < w.drew.heap.size from HML.out)
  have HV1 := Lib.hid (And.intro (HV0.out.1.later HD.out) (And.intro (HV0.out.2.1.later HD.out) (HV0.out.2.2.later HD.out)))
  refine wp_region_noPanic ?_
  refine wp_region_held_drew (S := fun w' => w'.cell? ⟨pb, 0, none⟩ = some (.pointer (some ⟨bb, 0, none⟩)) ∧ w'.cell? ⟨px, 0, none⟩ = some (.int .i64 x) ∧ w'.cell? ⟨py, 0, none⟩ = some (.int .i64 y)) (by kernel_rfl) ⟨HV1.out.1.bx.cell, HV1.out.2.1.bx.cell, HV1.out.2.2.bx.cell⟩ (fun _ => ?_)
  generalize w.drew = w1 at *
  refine wpAnyH_take (i := 0) (oi := { dst := some 4, op := Op.load 24 (Operand.tmp 0), type := 24, pos := "builder.go:48", after := #[], guard := none }) (v := .pointer (some ⟨bb, 0, none⟩)) rfl (by kernel_rfl) (by kernel_rfl) (by kernel_rfl) (fun _ _ _ h => h) (Or.inl ⟨by rfl, ?_⟩) ⟨HV1.out.1.bx.cell, HV1.out.2.1.bx.cell, HV1.out.2.2.bx.cell⟩ ?_
  · (intro w' hSw; obtain ⟨zb, zx, zy⟩ := hSw; go_simp)
  simp only [Act.put, List.setIfInBounds_toArray, List.set_cons_zero, List.set_cons_succ]
  refine wpAnyH_take (i := 1) (oi := { dst := some 5, op := Op.load 24 (Operand.tmp 0), type := 24, pos := "builder.go:48", after := #[], guard := none }) (v := .pointer (some ⟨bb, 0, none⟩)) rfl (by kernel_rfl) (by kernel_rfl) (by kernel_rfl) (fun _ _ _ h => h) (Or.inl ⟨by rfl, ?_⟩) ⟨HV1.out.1.bx.cell, HV1.out.2.1.bx.cell, HV1.out.2.2.bx.cell⟩ ?_
  · (intro w' hSw; obtain ⟨zb, zx, zy⟩ := hSw; go_simp)
  simp only [Act.put, List.setIfInBounds_toArray, List.set_cons_zero, List.set_cons_succ]
  refine wpAnyH_take (i := 2) (oi := { dst := some 6, op := Op.load 3 (Operand.tmp 1), type := 3, pos := "builder.go:48", after := #[], guard := none }) (v := .int .i64 x) rfl (by kernel_rfl) (by kernel_rfl) (by kernel_rfl) (fun _ _ _ h => h) (Or.inl ⟨by rfl, ?_⟩) ⟨HV1.out.1.bx.cell, HV1.out.2.1.bx.cell, HV1.out.2.2.bx.cell⟩ ?_
  · (intro w' hSw; obtain ⟨zb, zx, zy⟩ := hSw; go_simp)
  simp only [Act.put, List.setIfInBounds_toArray, List.set_cons_zero, List.set_cons_succ]
  refine wpAnyH_take (i := 3) (oi := { dst := some 7, op := Op.load 3 (Operand.tmp 2), type := 3, pos := "builder.go:48", after := #[], guard := none }) (v := .int .i64 y) rfl (by kernel_rfl) (by kernel_rfl) (by kernel_rfl) (fun _ _ _ h => h) (Or.inl ⟨by rfl, ?_⟩) ⟨HV1.out.1.bx.cell, HV1.out.2.1.bx.cell, HV1.out.2.2.bx.cell⟩ ?_
  · (intro w' hSw; obtain ⟨zb, zx, zy⟩ := hSw; go_simp)
  simp only [Act.put, List.setIfInBounds_toArray, List.set_cons_zero, List.set_cons_succ]
  refine wpAnyH_take (i := 6) (oi := { dst := some 10, op := Op.load 24 (Operand.tmp 0), type := 24, pos := "builder.go:48", after := #[], guard := none }) (v := .pointer (some ⟨bb, 0, none⟩)) rfl (by kernel_rfl) (by kernel_rfl) (by kernel_rfl) (fun _ _ _ h => h) (Or.inl ⟨by rfl, ?_⟩) ⟨HV1.out.1.bx.cell, HV1.out.2.1.bx.cell, HV1.out.2.2.bx.cell⟩ ?_
  · (intro w' hSw; obtain ⟨zb, zx, zy⟩ := hSw; go_simp)
  simp only [Act.put, List.setIfInBounds_toArray, List.set_cons_zero, List.set_cons_succ]
  refine wpAnyH_take (i := 7) (oi := { dst := some 11, op := Op.load 3 (Operand.tmp 1), type := 3, pos := "builder.go:48", after := #[], guard := none }) (v := .int .i64 x) rfl (by kernel_rfl) (by kernel_rfl) (by kernel_rfl) (fun _ _ _ h => h) (Or.inl ⟨by rfl, ?_⟩) ⟨HV1.out.1.bx.cell, HV1.out.2.1.bx.cell, HV1.out.2.2.bx.cell⟩ ?_
  · (intro w' hSw; obtain ⟨zb, zx, zy⟩ := hSw; go_simp)
  simp only [Act.put, List.setIfInBounds_toArray, List.set_cons_zero, List.set_cons_succ]
  refine wpAnyH_take (i := 9) (oi := { dst := some 13, op := Op.load 3 (Operand.tmp 2), type := 3, pos := "builder.go:48", after := #[], guard := none }) (v := .int .i64 y) rfl (by kernel_rfl) (by kernel_rfl) (by kernel_rfl) (fun _ _ _ h => h) (Or.inl ⟨by rfl, ?_⟩) ⟨HV1.out.1.bx.cell, HV1.out.2.1.bx.cell, HV1.out.2.2.bx.cell⟩ ?_
  · (intro w' hSw; obtain ⟨zb, zx, zy⟩ := hSw; go_simp)
  simp only [Act.put, List.setIfInBounds_toArray, List.set_cons_zero, List.set_cons_succ]
  refine wpAnyH_ready (rs := [4]) (by kernel_rfl) (by simp) (AllReadyH.cons (o := { dst := some 8, op := Op.call { callee := Callee.value (Operand.func 18), args := #[Operand.tmp 7], argTypes := #[3] }, type := 3, pos := "builder.go:48", after := #[{ on := 3, ground := Ground.data }], guard := none }) rfl (fun K hK => ?_) AllReadyH.nil)
  go_simp
  go_at_call 18
  refine (HNT.out y (by omega) _).mono ?_
  rintro e wx ⟨rfl, hwx⟩
  obtain rfl := hwx.symm
  clear hwx
  refine hK.out _ _ ⟨HV1.out.1.bx.cell, HV1.out.2.1.bx.cell, HV1.out.2.2.bx.cell⟩ (fun _ => ?_)
  clear hK K
  try simp only [Act.put, List.setIfInBounds_toArray, List.set_cons_zero, List.set_cons_succ]
  refine wpAnyH_ready (rs := [5]) (by kernel_rfl) (by simp) (AllReadyH.cons (o := { dst := some 9, op := Op.call { callee := Callee.value (Operand.func 94), args := #[Operand.tmp 5, Operand.tmp 6, Operand.tmp 8], argTypes := #[24, 3, 3] }, type := 3, pos := "builder.go:48", after := #[{ on := 1, ground := Ground.data }, { on := 2, ground := Ground.data }, { on := 4, ground := Ground.data }, { on := 4, ground := Ground.chain }], guard := none }) rfl (fun K hK => ?_) AllReadyH.nil)
  go_simp
  go_at_call 94
  refine (HA1.out _ HH1.out).mono ?_
  rintro e w2 ⟨rfl, rv2, hr2⟩
  have HR2 := Lib.hid hr2
  have HV2 := Lib.hid (And.intro (HV1.out.1.step hr2) (And.intro (HV1.out.2.1.step hr2) (HV1.out.2.2.step hr2)))
  clear hr2
  refine hK.out _ _ ⟨HV2.out.1.bx.cell, HV2.out.2.1.bx.cell, HV2.out.2.2.bx.cell⟩ (fun _ => ?_)
  clear hK K
  try simp only [Act.put, List.setIfInBounds_toArray, List.set_cons_zero, List.set_cons_succ]
  refine wpAnyH_ready (rs := [8]) (by kernel_rfl) (by simp) (AllReadyH.cons (o := { dst := some 12, op := Op.call { callee := Callee.value (Operand.func 18), args := #[Operand.tmp 11], argTypes := #[3] }, type := 3, pos := "builder.go:48", after := #[{ on := 7, ground := Ground.data }, { on := 5, ground := Ground.chain }], guard := none }) rfl (fun K hK => ?_) AllReadyH.nil)
  go_simp
  go_at_call 18
  refine (HNT.out x (by omega) _).mono ?_
  rintro e wx ⟨rfl, hwx⟩
  obtain rfl := hwx.symm
  clear hwx
  refine hK.out _ _ ⟨HV2.out.1.bx.cell, HV2.out.2.1.bx.cell, HV2.out.2.2.bx.cell⟩ (fun _ => ?_)
  clear hK K
  try simp only [Act.put, List.setIfInBounds_toArray, List.set_cons_zero, List.set_cons_succ]
  refine wpAnyH_ready (rs := [10]) (by kernel_rfl) (by simp) (AllReadyH.cons (o := { dst := some 14, op := Op.call { callee := Callee.value (Operand.func 94), args := #[Operand.tmp 10, Operand.tmp 12, Operand.tmp 13], argTypes := #[24, 3, 3] }, type := 3, pos := "builder.go:48", after := #[{ on := 6, ground := Ground.data }, { on := 8, ground := Ground.data }, { on := 9, ground := Ground.data }, { on := 8, ground := Ground.chain }], guard := none }) rfl (fun K hK => ?_) AllReadyH.nil)
  go_simp
  go_at_call 94
  refine (HA2.out _ _ HR2.out.tab).mono ?_
  rintro e w3 ⟨rfl, rv3, hr3⟩
  have HR3 := Lib.hid (HR2.out.trans hr3 HBL1.out HML1.out)
  have HV3 := Lib.hid (And.intro (HV2.out.1.step hr3) (And.intro (HV2.out.2.1.step hr3) (HV2.out.2.2.step hr3)))
  clear hr3
  refine hK.out _ _ ⟨HV3.out.1.bx.cell, HV3.out.2.1.bx.cell, HV3.out.2.2.bx.cell⟩ (fun _ => ?_)
  clear hK K
  try simp only [Act.put, List.setIfInBounds_toArray, List.set_cons_zero, List.set_cons_succ]
  refine wpAnyH_ready (rs := [11]) (by kernel_rfl) (by simp) (AllReadyH.cons (o := { dst := some 15, op := Op.call { callee := Callee.value (Operand.func 96), args := #[Operand.tmp 4, Operand.tmp 9, Operand.tmp 14], argTypes := #[24, 3, 3] }, type := 3, pos := "builder.go:48", after := #[{ on := 0, ground := Ground.data }, { on := 5, ground := Ground.data }, { on := 10, ground := Ground.data }, { on := 10, ground := Ground.chain }], guard := none }) rfl (fun K hK => ?_) AllReadyH.nil)
  go_simp
  go_at_call 96
  refine (HA3.out _ _ HR3.out.tab).mono ?_
  rintro e w4 ⟨rfl, rv4, hr4⟩
  have HR4 := Lib.hid (HR3.out.trans hr4 HBL1.out HML1.out)
  have HV4 := Lib.hid (And.intro (HV3.out.1.step hr4) (And.intro (HV3.out.2.1.step hr4) (HV3.out.2.2.step hr4)))
  clear hr4
  refine hK.out _ _ ⟨HV4.out.1.bx.cell, HV4.out.2.1.bx.cell, HV4.out.2.2.bx.cell⟩ (fun _ => ?_)
  clear hK K
  try simp only [Act.put, List.setIfInBounds_toArray, List.set_cons_zero, List.set_cons_succ]
  refine wpAnyH_take (i := 12) (oi := { dst := some 3, op := Op.assign (Operand.tmp 15), type := 3, pos := "builder.go:48", after := #[{ on := 11, ground := Ground.data }, { on := 11, ground := Ground.chain }, { on := 0, ground := Ground.phase }, { on := 1, ground := Ground.phase }, { on := 2, ground := Ground.phase }, { on := 3, ground := Ground.phase }, { on := 4, ground := Ground.phase }, { on := 5, ground := Ground.phase }, { on := 6, ground := Ground.phase }, { on := 7, ground := Ground.phase }, { on := 8, ground := Ground.phase }, { on := 9, ground := Ground.phase }, { on := 10, ground := Ground.phase }, { on := 11, ground := Ground.phase }], guard := none }) (v := .int .i64 (orN I (muxB gs x (notP y) y) (andN I gs x (notP y)) (andN I (muxA gs x (notP y)) (notP x) y))) rfl (by kernel_rfl) (by kernel_rfl) (by kernel_rfl) (fun _ _ _ h => h) (Or.inl ⟨by rfl, ?_⟩) ⟨HV4.out.1.bx.cell, HV4.out.2.1.bx.cell, HV4.out.2.2.bx.cell⟩ ?_
  · (intro w' hSw; go_simp)
  simp only [Act.put, List.setIfInBounds_toArray, List.set_cons_zero, List.set_cons_succ]
  refine wpAnyH_done (by kernel_rfl) ?_ _
  refine NoPanic.normal ?_
  go_wp2_with (fail)
  go_ret
  exact ⟨rfl, rv4, HR4.out.ahead HD.out⟩
set_option maxRecDepth 100000 in
set_option maxHeartbeats 4000000 in
theorem clo_Mux (pb : Nat) (pc : Nat) (px : Nat) (py : Nat) (c x y : Int) (h : Bld w n₀ bb mb rv I gs 0) (hc : isLit I gs c) (hx : isLit I gs x) (hy : isLit I gs y) (hpb : VBx bb mb rv w pb 24 (.pointer (some ⟨bb, 0, none⟩))) (hpc : VBx bb mb rv w pc 3 (.int .i64 c)) (hpx : VBx bb mb rv w px 3 (.int .i64 x)) (hpy : VBx bb mb rv w py 3 (.int .i64 y)) (hf : gs.length + 3 ≤ 5000) :
    Calls Try.prog 99 #[.pointer (some ⟨pb, 0, none⟩), .pointer (some ⟨pc, 0, none⟩), .pointer (some ⟨px, 0, none⟩), .pointer (some ⟨py, 0, none⟩)] w fun e w' => e = .returned (.int .i64 (muxN I gs c x y)) ∧ ∃ rv', BdRes n₀ bb mb rv I (muxL I gs c x y) 0 w w' rv' := by
  have HMP := Lib.hid (mux_parts h.ck hc hx hy)
  have HMX := Lib.hid (mux_ok h.ck hc hx hy)
  have hsc := lit_small h hc
  have hsx := lit_small h hx
  have hsy := lit_small h hy
  have HNT := Lib.hid (fun z (hz : 0 ≤ z ∧ z ≤ 200000) w => not_any z (by omega) w)
  have HA1 := Lib.hid (fun (w1 : World) (h1 : Bld w1 n₀ bb mb rv I gs 0) => and_any c x h1 hc hx (by omega))
  have HA2 := Lib.hid (fun (w1 : World) rv1 (h1 : Bld w1 n₀ bb mb rv1 I (muxA gs c x) 0) => and_any (notP c) y h1 HMP.out.2.1 HMP.out.2.2.1 (by have := HMP.out.1.len; omega))
  have HA3 := Lib.hid (fun (w1 : World) rv1 (h1 : Bld w1 n₀ bb mb rv1 I (muxB gs c x y) 0) => or_any (andN I gs c x) (andN I (muxA gs c x) (notP c) y) h1 HMP.out.2.2.2.2.2.1 HMP.out.2.2.2.2.2.2 (by have := HMP.out.2.2.2.2.1; omega))
  have HBL := Lib.hid (h.lt (k := bb) (.inl rfl)).2
  have HML := Lib.hid (h.lt (k := mb) (.inr (.inl rfl))).2
  have HH := Lib.hid h
  have HV0 := Lib.hid (And.intro hpb (And.intro hpc (And.intro hpx hpy)))
  clear h hc hx hy hpb hpc hpx hpy
  unfold muxN muxL
  go_enter Try.func99, Try.ntmps99
  go_upto_region 1 with fail
  have HD := Lib.hid (show Below w.heap.size w w.drew from (Below.refl _ _).drew)
  have HH1 := Lib.hid (HH.out.later HD.out)
  have HBL1 := Lib.hid (show bb < w.drew.heap.size from HBL.out)
  have HML1 := Lib.hid (show mb < w.drew.heap.size from HML.out)
  have HV1 := Lib.hid (And.intro (HV0.out.1.later HD.out) (And.intro (HV0.out.2.1.later HD.out) (And.intro (HV0.out.2.2.1.later HD.out) (HV0.out.2.2.2.later HD.out))))
  refine wp_region_noPanic ?_
  refine wp_region_held_drew (S := fun w' => w'.cell? ⟨pb, 0, none⟩ = some (.pointer (some ⟨bb, 0, none⟩)) ∧ w'.cell? ⟨pc, 0, none⟩ = some (.int .i64 c) ∧ w'.cell? ⟨px, 0, none⟩ = some (.int .i64 x) ∧ w'.cell? ⟨py, 0, none⟩ = some (.int .i64 y)) (by kernel_rfl) ⟨HV1.out.1.bx.cell, HV1.out.2.1.bx.cell, HV1.out.2.2.1.bx.cell, HV1.out.2.2.2.bx.cell⟩ (fun _ => ?_)
  generalize w.drew = w1 at *
  refine wpAnyH_take (i := 0) (oi := { dst := some 5, op := Op.load 24 (Operand.tmp 0), type := 24, pos := "builder.go:53", after := #[], guard := none }) (v := .pointer (some ⟨bb, 0, none⟩)) rfl (by kernel_rfl) (by kernel_rfl) (by kernel_rfl) (fun _ _ _ h => h) (Or.inl ⟨by rfl, ?_⟩) ⟨HV1.out.1.bx.cell, HV1.out.2.1.bx.cell, HV1.out.2.2.1.bx.cell, HV1.out.2.2.2.bx.cell⟩ ?_
  · (intro w' hSw; obtain ⟨zb, zc, zx, zy⟩ := hSw; go_simp)
  simp only [Act.put, List.setIfInBounds_toArray, List.set_cons_zero, List.set_cons_succ]
  refine wpAnyH_take (i := 1) (oi := { dst := some 6, op := Op.load 24 (Operand.tmp 0), type := 24, pos := "builder.go:53", after := #[], guard := none }) (v := .pointer (some ⟨bb, 0, none⟩)) rfl (by kernel_rfl) (by kernel_rfl) (by kernel_rfl) (fun _ _ _ h => h) (Or.inl ⟨by rfl, ?_⟩) ⟨HV1.out.1.bx.cell, HV1.out.2.1.bx.cell, HV1.out.2.2.1.bx.cell, HV1.out.2.2.2.bx.cell⟩ ?_
  · (intro w' hSw; obtain ⟨zb, zc, zx, zy⟩ := hSw; go_simp)
  simp only [Act.put, List.setIfInBounds_toArray, List.set_cons_zero, List.set_cons_succ]
  refine wpAnyH_take (i := 2) (oi := { dst := some 7, op := Op.load 3 (Operand.tmp 1), type := 3, pos := "builder.go:53", after := #[], guard := none }) (v := .int .i64 c) rfl (by kernel_rfl) (by kernel_rfl) (by kernel_rfl) (fun _ _ _ h => h) (Or.inl ⟨by rfl, ?_⟩) ⟨HV1.out.1.bx.cell, HV1.out.2.1.bx.cell, HV1.out.2.2.1.bx.cell, HV1.out.2.2.2.bx.cell⟩ ?_
  · (intro w' hSw; obtain ⟨zb, zc, zx, zy⟩ := hSw; go_simp)
  simp only [Act.put, List.setIfInBounds_toArray, List.set_cons_zero, List.set_cons_succ]
  refine wpAnyH_take (i := 3) (oi := { dst := some 8, op := Op.load 3 (Operand.tmp 2), type := 3, pos := "builder.go:53", after := #[], guard := none }) (v := .int .i64 x) rfl (by kernel_rfl) (by kernel_rfl) (by kernel_rfl) (fun _ _ _ h => h) (Or.inl ⟨by rfl, ?_⟩) ⟨HV1.out.1.bx.cell, HV1.out.2.1.bx.cell, HV1.out.2.2.1.bx.cell, HV1.out.2.2.2.bx.cell⟩ ?_
  · (intro w' hSw; obtain ⟨zb, zc, zx, zy⟩ := hSw; go_simp)
  simp only [Act.put, List.setIfInBounds_toArray, List.set_cons_zero, List.set_cons_succ]
  refine wpAnyH_take (i := 5) (oi := { dst := some 10, op := Op.load 24 (Operand.tmp 0), type := 24, pos := "builder.go:53", after := #[], guard := none }) (v := .pointer (some ⟨bb, 0, none⟩)) rfl (by kernel_rfl) (by kernel_rfl) (by kernel_rfl) (fun _ _ _ h => h) (Or.inl ⟨by rfl, ?_⟩) ⟨HV1.out.1.bx.cell, HV1.out.2.1.bx.cell, HV1.out.2.2.1.bx.cell, HV1.out.2.2.2.bx.cell⟩ ?_
  · (intro w' hSw; obtain ⟨zb, zc, zx, zy⟩ := hSw; go_simp)
  simp only [Act.put, List.setIfInBounds_toArray, List.set_cons_zero, List.set_cons_succ]
  refine wpAnyH_take (i := 6) (oi := { dst := some 11, op := Op.load 3 (Operand.tmp 1), type := 3, pos := "builder.go:53", after := #[], guard := none }) (v := .int .i64 c) rfl (by kernel_rfl) (by kernel_rfl) (by kernel_rfl) (fun _ _ _ h => h) (Or.inl ⟨by rfl, ?_⟩) ⟨HV1.out.1.bx.cell, HV1.out.2.1.bx.cell, HV1.out.2.2.1.bx.cell, HV1.out.2.2.2.bx.cell⟩ ?_
  · (intro w' hSw; obtain ⟨zb, zc, zx, zy⟩ := hSw; go_simp)
  simp only [Act.put, List.setIfInBounds_toArray, List.set_cons_zero, List.set_cons_succ]
  refine wpAnyH_take (i := 8) (oi := { dst := some 13, op := Op.load 3 (Operand.tmp 3), type := 3, pos := "builder.go:53", after := #[], guard := none }) (v := .int .i64 y) rfl (by kernel_rfl) (by kernel_rfl) (by kernel_rfl) (fun _ _ _ h => h) (Or.inl ⟨by rfl, ?_⟩) ⟨HV1.out.1.bx.cell, HV1.out.2.1.bx.cell, HV1.out.2.2.1.bx.cell, HV1.out.2.2.2.bx.cell⟩ ?_
  · (intro w' hSw; obtain ⟨zb, zc, zx, zy⟩ := hSw; go_simp)
  simp only [Act.put, List.setIfInBounds_toArray, List.set_cons_zero, List.set_cons_succ]
  refine wpAnyH_ready (rs := [4]) (by kernel_rfl) (by simp) (AllReadyH.cons (o := { dst := some 9, op := Op.call { callee := Callee.value (Operand.func 94), args := #[Operand.tmp 6, Operand.tmp 7, Operand.tmp 8], argTypes := #[24, 3, 3] }, type := 3, pos := "builder.go:53", after := #[{ on := 1, ground := Ground.data }, { on := 2, ground := Ground.data }, { on := 3, ground := Ground.data }], guard := none }) rfl (fun K hK => ?_) AllReadyH.nil)
  go_simp
  go_at_call 94
  refine (HA1.out _ HH1.out).mono ?_
  rintro e w2 ⟨rfl, rv2, hr2⟩
  have HR2 := Lib.hid hr2
  have HV2 := Lib.hid (And.intro (HV1.out.1.step hr2) (And.intro (HV1.out.2.1.step hr2) (And.intro (HV1.out.2.2.1.step hr2) (HV1.out.2.2.2.step hr2))))
  clear hr2
  refine hK.out _ _ ⟨HV2.out.1.bx.cell, HV2.out.2.1.bx.cell, HV2.out.2.2.1.bx.cell, HV2.out.2.2.2.bx.cell⟩ (fun _ => ?_)
  clear hK K
  try simp only [Act.put, List.setIfInBounds_toArray, List.set_cons_zero, List.set_cons_succ]
  refine wpAnyH_ready (rs := [7]) (by kernel_rfl) (by simp) (AllReadyH.cons (o := { dst := some 12, op := Op.call { callee := Callee.value (Operand.func 18), args := #[Operand.tmp 11], argTypes := #[3] }, type := 3, pos := "builder.go:53", after := #[{ on := 6, ground := Ground.data }, { on := 4, ground := Ground.chain }], guard := none }) rfl (fun K hK => ?_) AllReadyH.nil)
  go_simp
  go_at_call 18
  refine (HNT.out c (by omega) _).mono ?_
  rintro e wx ⟨rfl, hwx⟩
  obtain rfl := hwx.symm
  clear hwx
  refine hK.out _ _ ⟨HV2.out.1.bx.cell, HV2.out.2.1.bx.cell, HV2.out.2.2.1.bx.cell, HV2.out.2.2.2.bx.cell⟩ (fun _ => ?_)
  clear hK K
  try simp only [Act.put, List.setIfInBounds_toArray, List.set_cons_zero, List.set_cons_succ]
  refine wpAnyH_ready (rs := [9]) (by kernel_rfl) (by simp) (AllReadyH.cons (o := { dst := some 14, op := Op.call { callee := Callee.value (Operand.func 94), args := #[Operand.tmp 10, Operand.tmp 12, Operand.tmp 13], argTypes := #[24, 3, 3] }, type := 3, pos := "builder.go:53", after := #[{ on := 5, ground := Ground.data }, { on := 7, ground := Ground.data }, { on := 8, ground := Ground.data }, { on := 7, ground := Ground.chain }], guard := none }) rfl (fun K hK => ?_) AllReadyH.nil)
  go_simp
  go_at_call 94
  refine (HA2.out _ _ HR2.out.tab).mono ?_
  rintro e w3 ⟨rfl, rv3, hr3⟩
  have HR3 := Lib.hid (HR2.out.trans hr3 HBL1.out HML1.out)
  have HV3 := Lib.hid (And.intro (HV2.out.1.step hr3) (And.intro (HV2.out.2.1.step hr3) (And.intro (HV2.out.2.2.1.step hr3) (HV2.out.2.2.2.step hr3))))
  clear hr3
  refine hK.out _ _ ⟨HV3.out.1.bx.cell, HV3.out.2.1.bx.cell, HV3.out.2.2.1.bx.cell, HV3.out.2.2.2.bx.cell⟩ (fun _ => ?_)
  clear hK K
  try simp only [Act.put, List.setIfInBounds_toArray, List.set_cons_zero, List.set_cons_succ]
  refine wpAnyH_ready (rs := [10]) (by kernel_rfl) (by simp) (AllReadyH.cons (o := { dst := some 15, op := Op.call { callee := Callee.value (Operand.func 96), args := #[Operand.tmp 5, Operand.tmp 9, Operand.tmp 14], argTypes := #[24, 3, 3] }, type := 3, pos := "builder.go:53", after := #[{ on := 0, ground := Ground.data }, { on := 4, ground := Ground.data }, { on := 9, ground := Ground.data }, { on := 9, ground := Ground.chain }], guard := none }) rfl (fun K hK => ?_) AllReadyH.nil)
  go_simp
  go_at_call 96
  refine (HA3.out _ _ HR3.out.tab).mono ?_
  rintro e w4 ⟨rfl, rv4, hr4⟩
  have HR4 := Lib.hid (HR3.out.trans hr4 HBL1.out HML1.out)
  have HV4 := Lib.hid (And.intro (HV3.out.1.step hr4) (And.intro (HV3.out.2.1.step hr4) (And.intro (HV3.out.2.2.1.step hr4) (HV3.out.2.2.2.step hr4))))
  clear hr4
  refine hK.out _ _ ⟨HV4.out.1.bx.cell, HV4.out.2.1.bx.cell, HV4.out.2.2.1.bx.cell, HV4.out.2.2.2.bx.cell⟩ (fun _ => ?_)
  clear hK K
  try simp only [Act.put, List.setIfInBounds_toArray, List.set_cons_zero, List.set_cons_succ]
  refine wpAnyH_take (i := 11) (oi := { dst := some 4, op := Op.assign (Operand.tmp 15), type := 3, pos := "builder.go:53", after := #[{ on := 10, ground := Ground.data }, { on := 10, ground := Ground.chain }, { on := 0, ground := Ground.phase }, { on := 1, ground := Ground.phase }, { on := 2, ground := Ground.phase }, { on := 3, ground := Ground.phase }, { on := 4, ground := Ground.phase }, { on := 5, ground := Ground.phase }, { on := 6, ground := Ground.phase }, { on := 7, ground := Ground.phase }, { on := 8, ground := Ground.phase }, { on := 9, ground := Ground.phase }, { on := 10, ground := Ground.phase }], guard := none }) (v := .int .i64 (orN I (muxB gs c x y) (andN I gs c x) (andN I (muxA gs c x) (notP c) y))) rfl (by kernel_rfl) (by kernel_rfl) (by kernel_rfl) (fun _ _ _ h => h) (Or.inl ⟨by rfl, ?_⟩) ⟨HV4.out.1.bx.cell, HV4.out.2.1.bx.cell, HV4.out.2.2.1.bx.cell, HV4.out.2.2.2.bx.cell⟩ ?_
  · (intro w' hSw; go_simp)
  simp only [Act.put, List.setIfInBounds_toArray, List.set_cons_zero, List.set_cons_succ]
  refine wpAnyH_done (by kernel_rfl) ?_ _
  refine NoPanic.normal ?_
  go_wp2_with (fail)
  go_ret
  exact ⟨rfl, rv4, HR4.out.ahead HD.out⟩
set_option maxRecDepth 100000 in
set_option maxHeartbeats 4000000 in
theorem build_err (F : Value) (A : Option Addr) (c n : Nat) (e0 : Int) (he : e0 ≠ 0) (h : Bld w n₀ bb mb rv I gs e0) :
    Calls Try.prog 92 #[.pointer (some ⟨bb, 0, none⟩), F, .slice A n c] w fun e w' => e = .returned (.int .i64 0) ∧ w' = w := by
  obtain ⟨c0, c1, c2, c3⟩ := h.cells
  have q : (e0 == 0) = false := by simpa using he
  clear h he
  go_enter Try.func92, Try.ntmps92
  go_wp2_with (fail)
  go_ret
  exact ⟨rfl, rfl⟩
set_option maxRecDepth 100000 in
set_option maxHeartbeats 4000000 in
theorem build_bad (F : Value) (A : Option Addr) (c : Nat) (ls : List Int) (h : Bld w n₀ bb mb rv I gs 0) (hz : ZRow w.heap.size w A ls) (hl : ls.length ≤ 1000) (hbad : ls.all (litB I gs.length) = false) :
    Calls Try.prog 92 #[.pointer (some ⟨bb, 0, none⟩), F, .slice A ls.length c] w fun e w' => e = .returned (.int .i64 0) ∧ BdRes n₀ bb mb rv I gs 1 w w' rv := by
  have HH := Lib.hid h
  obtain ⟨c0, c1, c2, c3⟩ := h.cells
  obtain ⟨A1, c9, rfl, _⟩ := h.form
  have HL := Lib.hid (areLits_any I ⟨h.ck.lo, h.ck.hi⟩ A1 gs.length c9 (by have := h.few; omega) A c ls w hz (by omega))
  rw [hbad] at HL
  clear h hz hbad
  go_enter Try.func92, Try.ntmps92
  go_wp2_with (fail)
  refine HL.out.mono ?_
  rintro e w1 ⟨rfl, hb1⟩
  have HH1 := Lib.hid (HH.out.later hb1)
  have HB1 := Lib.hid hb1
  clear hb1 c0 c1 c2 c3
  obtain ⟨c0, c1, c2, c3⟩ := HH1.out.cells
  obtain ⟨he, hf⟩ := bld_err HH1.out 1
  have HE := Lib.hid he
  clear he
  go_wp2_with (fail)
  go_ret
  exact ⟨rfl, HE.out.ahead HB1.out⟩
set_option maxRecDepth 100000 in
set_option maxHeartbeats 4000000 in
theorem build_And (pb : Nat) (px : Nat) (py : Nat) (x y : Int) (A : Option Addr) (c9 : Nat) (h : Bld w n₀ bb mb rv I gs 0) (hx : isLit I gs x) (hy : isLit I gs y) (hpb : VBx bb mb rv w pb 24 (.pointer (some ⟨bb, 0, none⟩))) (hpx : VBx bb mb rv w px 3 (.int .i64 x)) (hpy : VBx bb mb rv w py 3 (.int .i64 y)) (hz : ZRow w.heap.size w A [x, y]) (hf : gs.length + 1 ≤ 5000) :
    Calls Try.prog 92 #[.pointer (some ⟨bb, 0, none⟩), .func (.func 93) #[] #[.pointer (some ⟨pb, 0, none⟩), .pointer (some ⟨px, 0, none⟩), .pointer (some ⟨py, 0, none⟩)], .slice A 2 c9] w fun e w' => e = .returned (.int .i64 (andN I gs x y)) ∧ ∃ rv', BdRes n₀ bb mb rv I (andL gs x y) 0 w w' rv' := by
  have HH := Lib.hid h
  obtain ⟨c0, c1, c2, c3⟩ := h.cells
  obtain ⟨A1, c8, hrv, _⟩ := h.form
  rw [hrv] at c1
  have HAL := Lib.hid (show ([x, y] : List Int).all (litB I gs.length) = true by simp [litB_iff.2 hx, litB_iff.2 hy])
  have HL := Lib.hid (areLits_any I ⟨h.ck.lo, h.ck.hi⟩ A1 gs.length c8 (by have := h.few; omega) A c9 [x, y] w hz (by simp))
  rw [HAL.out] at HL
  have HC := Lib.hid (fun (w1 : World) (hb : Below w.heap.size w w1) => clo_And pb px py x y (h.later hb) hx hy (hpb.later hb) (hpx.later hb) (hpy.later hb) hf)
  clear h hz hx hy hpb hpx hpy hrv
  go_enter Try.func92, Try.ntmps92
  go_wp2_with (fail)
  refine HL.out.mono ?_
  rintro e w1 ⟨rfl, hb1⟩
  have HB1 := Lib.hid hb1
  obtain ⟨c0, c1, c2, c3⟩ := (HH.out.later hb1).cells
  obtain ⟨A2, c7, hrv, _⟩ := HH.out.form
  rw [hrv] at c1
  clear hb1 hrv
  go_wp2_with (fail)
  refine (HC.out _ HB1.out).mono ?_
  rintro e w2 ⟨rfl, rv2, hr2⟩
  have HR := Lib.hid hr2
  obtain ⟨c0, c1, c2, c3⟩ := hr2.tab.cells
  clear hr2 c0 c1 c2
  go_wp2_with (fail)
  go_ret
  exact ⟨rfl, rv2, HR.out.ahead HB1.out⟩
set_option maxRecDepth 100000 in
set_option maxHeartbeats 4000000 in
theorem build_Or (pb : Nat) (px : Nat) (py : Nat) (x y : Int) (A : Option Addr) (c9 : Nat) (h : Bld w n₀ bb mb rv I gs 0) (hx : isLit I gs x) (hy : isLit I gs y) (hpb : VBx bb mb rv w pb 24 (.pointer (some ⟨bb, 0, none⟩))) (hpx : VBx bb mb rv w px 3 (.int .i64 x)) (hpy : VBx bb mb rv w py 3 (.int .i64 y)) (hz : ZRow w.heap.size w A [x, y]) (hf : gs.length + 1 ≤ 5000) :
    Calls Try.prog 92 #[.pointer (some ⟨bb, 0, none⟩), .func (.func 98) #[] #[.pointer (some ⟨pb, 0, none⟩), .pointer (some ⟨px, 0, none⟩), .pointer (some ⟨py, 0, none⟩)], .slice A 2 c9] w fun e w' => e = .returned (.int .i64 (orN I gs x y)) ∧ ∃ rv', BdRes n₀ bb mb rv I (orL gs x y) 0 w w' rv' := by
  have HH := Lib.hid h
  obtain ⟨c0, c1, c2, c3⟩ := h.cells
  obtain ⟨A1, c8, hrv, _⟩ := h.form
  rw [hrv] at c1
  have HAL := Lib.hid (show ([x, y] : List Int).all (litB I gs.length) = true by simp [litB_iff.2 hx, litB_iff.2 hy])
  have HL := Lib.hid (areLits_any I ⟨h.ck.lo, h.ck.hi⟩ A1 gs.length c8 (by have := h.few; omega) A c9 [x, y] w hz (by simp))
  rw [HAL.out] at HL
  have HC := Lib.hid (fun (w1 : World) (hb : Below w.heap.size w w1) => clo_Or pb px py x y (h.later hb) hx hy (hpb.later hb) (hpx.later hb) (hpy.later hb) hf)
  clear h hz hx hy hpb hpx hpy hrv
  go_enter Try.func92, Try.ntmps92
  go_wp2_with (fail)
  refine HL.out.mono ?_
  rintro e w1 ⟨rfl, hb1⟩
  have HB1 := Lib.hid hb1
  obtain ⟨c0, c1, c2, c3⟩ := (HH.out.later hb1).cells
  obtain ⟨A2, c7, hrv, _⟩ := HH.out.form
  rw [hrv] at c1
  clear hb1 hrv
  go_wp2_with (fail)
  refine (HC.out _ HB1.out).mono ?_
  rintro e w2 ⟨rfl, rv2, hr2⟩
  have HR := Lib.hid hr2
  obtain ⟨c0, c1, c2, c3⟩ := hr2.tab.cells
  clear hr2 c0 c1 c2
  go_wp2_with (fail)
  go_ret
  exact ⟨rfl, rv2, HR.out.ahead HB1.out⟩
set_option maxRecDepth 100000 in
set_option maxHeartbeats 4000000 in
theorem build_Xor (pb : Nat) (px : Nat) (py : Nat) (x y : Int) (A : Option Addr) (c9 : Nat) (h : Bld w n₀ bb mb rv I gs 0) (hx : isLit I gs x) (hy : isLit I gs y) (hpb : VBx bb mb rv w pb 24 (.pointer (some ⟨bb, 0, none⟩))) (hpx : VBx bb mb rv w px 3 (.int .i64 x)) (hpy : VBx bb mb rv w py 3 (.int .i64 y)) (hz : ZRow w.heap.size w A [x, y]) (hf : gs.length + 3 ≤ 5000) :
    Calls Try.prog 92 #[.pointer (some ⟨bb, 0, none⟩), .func (.func 95) #[] #[.pointer (some ⟨pb, 0, none⟩), .pointer (some ⟨px, 0, none⟩), .pointer (some ⟨py, 0, none⟩)], .slice A 2 c9] w fun e w' => e = .returned (.int .i64 (muxN I gs x (notP y) y)) ∧ ∃ rv', BdRes n₀ bb mb rv I (muxL I gs x (notP y) y) 0 w w' rv' := by
  have HH := Lib.hid h
  obtain ⟨c0, c1, c2, c3⟩ := h.cells
  obtain ⟨A1, c8, hrv, _⟩ := h.form
  rw [hrv] at c1
  have HAL := Lib.hid (show ([x, y] : List Int).all (litB I gs.length) = true by simp [litB_iff.2 hx, litB_iff.2 hy])
  have HL := Lib.hid (areLits_any I ⟨h.ck.lo, h.ck.hi⟩ A1 gs.length c8 (by have := h.few; omega) A c9 [x, y] w hz (by simp))
  rw [HAL.out] at HL
  have HC := Lib.hid (fun (w1 : World) (hb : Below w.heap.size w w1) => clo_Xor pb px py x y (h.later hb) hx hy (hpb.later hb) (hpx.later hb) (hpy.later hb) hf)
  clear h hz hx hy hpb hpx hpy hrv
  go_enter Try.func92, Try.ntmps92
  go_wp2_with (fail)
  refine HL.out.mono ?_
  rintro e w1 ⟨rfl, hb1⟩
  have HB1 := Lib.hid hb1
  obtain ⟨c0, c1, c2, c3⟩ := (HH.out.later hb1).cells
  obtain ⟨A2, c7, hrv, _⟩ := HH.out.form
  rw [hrv] at c1
  clear hb1 hrv
  go_wp2_with (fail)
  refine (HC.out _ HB1.out).mono ?_
  rintro e w2 ⟨rfl, rv2, hr2⟩
  have HR := Lib.hid hr2
  obtain ⟨c0, c1, c2, c3⟩ := hr2.tab.cells
  clear hr2 c0 c1 c2
  go_wp2_with (fail)
  go_ret
  exact ⟨rfl, rv2, HR.out.ahead HB1.out⟩
set_option maxRecDepth 100000 in
set_option maxHeartbeats 4000000 in
theorem build_Mux (pb : Nat) (pc : Nat) (px : Nat) (py : Nat) (c x y : Int) (A : Option Addr) (c9 : Nat) (h : Bld w n₀ bb mb rv I gs 0) (hc : isLit I gs c) (hx : isLit I gs x) (hy : isLit I gs y) (hpb : VBx bb mb rv w pb 24 (.pointer (some ⟨bb, 0, none⟩))) (hpc : VBx bb mb rv w pc 3 (.int .i64 c)) (hpx : VBx bb mb rv w px 3 (.int .i64 x)) (hpy : VBx bb mb rv w py 3 (.int .i64 y)) (hz : ZRow w.heap.size w A [c, x, y]) (hf : gs.length + 3 ≤ 5000) :
    Calls Try.prog 92 #[.pointer (some ⟨bb, 0, none⟩), .func (.func 99) #[] #[.pointer (some ⟨pb, 0, none⟩), .pointer (some ⟨pc, 0, none⟩), .pointer (some ⟨px, 0, none⟩), .pointer (some ⟨py, 0, none⟩)], .slice A 3 c9] w fun e w' => e = .returned (.int .i64 (muxN I gs c x y)) ∧ ∃ rv', BdRes n₀ bb mb rv I (muxL I gs c x y) 0 w w' rv' := by
  have HH := Lib.hid h
  obtain ⟨c0, c1, c2, c3⟩ := h.cells
  obtain ⟨A1, c8, hrv, _⟩ := h.form
  rw [hrv] at c1
  have HAL := Lib.hid (show ([c, x, y] : List Int).all (litB I gs.length) = true by simp [litB_iff.2 hc, litB_iff.2 hx, litB_iff.2 hy])
  have HL := Lib.hid (areLits_any I ⟨h.ck.lo, h.ck.hi⟩ A1 gs.length c8 (by have := h.few; omega) A c9 [c, x, y] w hz (by simp))
  rw [HAL.out] at HL
  have HC := Lib.hid (fun (w1 : World) (hb : Below w.heap.size w w1) => clo_Mux pb pc px py c x y (h.later hb) hc hx hy (hpb.later hb) (hpc.later hb) (hpx.later hb) (hpy.later hb) hf)
  clear h hz hc hx hy hpb hpc hpx hpy hrv
  go_enter Try.func92, Try.ntmps92
  go_wp2_with (fail)
  refine HL.out.mono ?_
  rintro e w1 ⟨rfl, hb1⟩
  have HB1 := Lib.hid hb1
  obtain ⟨c0, c1, c2, c3⟩ := (HH.out.later hb1).cells
  obtain ⟨A2, c7, hrv, _⟩ := HH.out.form
  rw [hrv] at c1
  clear hb1 hrv
  go_wp2_with (fail)
  refine (HC.out _ HB1.out).mono ?_
  rintro e w2 ⟨rfl, rv2, hr2⟩
  have HR := Lib.hid hr2
  obtain ⟨c0, c1, c2, c3⟩ := hr2.tab.cells
  clear hr2 c0 c1 c2
  go_wp2_with (fail)
  go_ret
  exact ⟨rfl, rv2, HR.out.ahead HB1.out⟩
end
end Go.Proofs.Ytbcabnbgkicfdaa
