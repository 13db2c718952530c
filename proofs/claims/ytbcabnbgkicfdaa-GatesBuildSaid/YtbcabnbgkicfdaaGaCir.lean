/- What is proved: Circuit of the builders of package gates; the comparison of circuits. -/
import Derived.Test.YtbcabnbgkicfdaaGaMth
import Derived.Lib.BufferMore
set_option linter.unusedVariables false
namespace Go.Proofs.Ytbcabnbgkicfdaa
open Go.RowKit Go.Maps

set_option maxRecDepth 100000 in
set_option maxHeartbeats 1000000 in
theorem clone_gt (A : Option Addr) (c : Nat) (gs : List Gt) (w : World) (hr : GRow w A gs) (hn : gs.length ≤ 100000) : Calls Try.prog 58 #[.slice A gs.length c] w fun e w' => ∃ X cap, e = .returned (.slice X gs.length cap) ∧ GOwn w' w.heap.size (.slice X gs.length cap) gs ∧ Below w.heap.size w w' := by
  cases A with
  | none =>
    have h0 : gs.length = 0 := by
      rcases Nat.eq_zero_or_pos gs.length with h | h
      · exact h
      · obtain ⟨b, off, e, _⟩ := hr h; cases e
    obtain rfl : gs = [] := List.length_eq_zero_iff.1 h0
    have hnl := Lib.run_eql_slice_nil_nil (P := Try.prog) w (n := 0) (c := c) Try.underlying28
    clear h0 hr
    go_enter Try.func58, Try.ntmps58
    go_wp2_with (fail)
    go_ret
    exact ⟨none, 0, rfl, GOwn.nil _ _, Below.refl _ _⟩
  | some a =>
    have hba := (Below.refl w.heap.size w).alloc (Nat.le_refl _) (.cells #[] 76)
    have ho : GOwn (w.alloc (.cells #[] 76)) w.heap.size (.slice (some ⟨w.heap.size, 0, none⟩) 0 0) [] := ⟨rfl, .inr ⟨w.heap.size, 0, #[], rfl, Nat.le_refl _, heap_alloc_new w _, Nat.le_refl _, by decide, rfl, rfl⟩⟩
    obtain ⟨X, cap, w', g1, g2, g3⟩ := g_append (w := w.alloc (.cells #[] 76)) w.heap.size 0 _ [] ho rfl (some a) c gs.length gs rfl (hr.later hba) (by omega) hba.size
    rw [Nat.zero_add] at g1 g2
    have HO := Lib.hid g2
    have HB := Lib.hid (hba.trans (grown_below g3 (own_lo ho) hba.size))
    have hnl := Lib.run_eql_slice_some_nil (P := Try.prog) w a gs.length c Try.underlying28
    clear g2 g3 ho hr
    go_enter Try.func58, Try.ntmps58
    go_wp2_with (at_builtin; refine app_by rfl _ _ 28 28 rfl _ _ rfl rfl _ _ g1 ?_; intro w9 hw9; obtain rfl := hw9.out)
    go_ret
    exact ⟨X, cap, rfl, HO.out, HB.out⟩
theorem cir_store {w : World} {n₀ bb mb rb : Nat} {rv : Value} {I : Int} {gs : List Gt} {e0 : Int} (hx : CBx w rb 0 none 0 0) (hh : Bld w n₀ bb mb rv I gs e0) (hno : ¬ Own bb mb rv rb) (v0 v1 : Value) :
    Bld ((w.setCell ⟨rb, 0, none⟩ v0).setCell ⟨rb, 1, none⟩ v1) n₀ bb mb rv I gs e0 ∧ ((w.setCell ⟨rb, 0, none⟩ v0).setCell ⟨rb, 1, none⟩ v1).cell? ⟨rb, 0, none⟩ = some v0 ∧ ((w.setCell ⟨rb, 0, none⟩ v0).setCell ⟨rb, 1, none⟩ v1).cell? ⟨rb, 1, none⟩ = some v1 := by
  have h0 := hset (i := 0) hx v0
  have h1 := hset (i := 1) h0 v1
  refine ⟨hh.stays fun k hk => ?_, by rw [Lib.cell_of_heap h1 0]; rfl, by rw [Lib.cell_of_heap h1 1]; rfl⟩
  have hne : k ≠ rb := fun e => hno (e ▸ hk)
  exact (hfar (p := ⟨rb, 1, none⟩) hne v1).trans (hfar (p := ⟨rb, 0, none⟩) hne v0)
theorem cir_below {n rb : Nat} {w0 w : World} (hb : Below n w0 w) (hn : n ≤ rb) (v0 v1 : Value) : Below n w0 ((w.setCell ⟨rb, 0, none⟩ v0).setCell ⟨rb, 1, none⟩ v1) := (hb.setCell (p := ⟨rb, 0, none⟩) hn v0).setCell (p := ⟨rb, 1, none⟩) hn v1
theorem cir_own {w : World} {rb B : Nat} {v : Value} {gs : List Gt} (hx : CBx w rb 0 none 0 0) (ho : GOwn w B v gs) (v0 v1 : Value) : GOwn ((w.setCell ⟨rb, 0, none⟩ v0).setCell ⟨rb, 1, none⟩ v1) B v gs := own_stays ho fun b e => by
  have hne : b ≠ rb := fun h => by
    subst h
    obtain ⟨_, _, cs, hc⟩ := own_block' ho e
    unfold CBx at hx
    rw [hx] at hc
    simp only [Option.some.injEq, Obj.cells.injEq] at hc
    exact absurd hc.2.1 (by decide)
  exact (hfar (p := ⟨rb, 1, none⟩) hne v1).trans (hfar (p := ⟨rb, 0, none⟩) hne v0)
section
variable {w : World} {n₀ bb mb : Nat} {rv : Value} {I : Int} {gs : List Gt} {e0 : Int}
set_option maxRecDepth 100000 in
set_option maxHeartbeats 2000000 in
theorem circuit_any (h : Bld w n₀ bb mb rv I gs e0) : Calls Try.prog 17 #[.pointer (some ⟨bb, 0, none⟩)] w fun e w' => ∃ X cap, e = .returned (.agg #[.int .i64 I, .slice X gs.length cap]) ∧ GOwn w' w.heap.size (.slice X gs.length cap) gs ∧ Below w.heap.size w w' := by
  have HB1 := Lib.hid ((Below.refl w.heap.size w).alloc (Nat.le_refl _) (.cells #[.int .i64 0, .slice none 0 0] 30))
  have HBX := Lib.hid (CBx.new w 0 none 0 0)
  have HH1 := Lib.hid (h.later HB1.out)
  obtain ⟨A, c9, hrv, _, hrow, _⟩ := h.form
  have HROW := Lib.hid hrow
  have HRV := Lib.hid hrv
  have HFEW := Lib.hid h.few
  have HNB0 := Lib.hid (show ¬ Own bb mb rv w.heap.size from fun ho => by have := (h.lt ho).2; omega)
  clear h hrv hrow
  go_enter Try.func17, Try.ntmps17
  go_upto_region 1 with fail
  generalize hgw : w.alloc (.cells #[.int .i64 0, .slice none 0 0] 30) = w1 at *
  clear hgw
  obtain ⟨rb, HRB⟩ : ∃ rb, Hid (w.heap.size = rb) := ⟨_, Lib.hid rfl⟩
  rw [HRB.out] at HBX ⊢
  have HD := Lib.hid (show Below w1.heap.size w1 w1.drew from (Below.refl _ _).drew)
  have HX2 := Lib.hid (HBX.out.later HD.out)
  have HH2 := Lib.hid (HH1.out.later HD.out)
  have HB2 := Lib.hid (HB1.out.trans (HD.out.mono HB1.out.size))
  have HC := Lib.hid (fun (w2 : World) (hb : Below w.heap.size w w2) => clone_gt A c9 gs w2 (HROW.out.later hb) (by have := HFEW.out; omega))
  have HS := Lib.hid (fun (w2 : World) (hb : Bld w2 n₀ bb mb rv I gs e0) => show w2.cell? ⟨bb, 0, none⟩ = some (.int .i64 I) ∧ w2.cell? ⟨bb, 1, none⟩ = some (.slice A gs.length c9) from ⟨hb.cells.1, by rw [← HRV.out]; exact hb.cells.2.1⟩)
  have HNB := Lib.hid (show ¬ Own bb mb rv rb by rw [← HRB.out]; exact HNB0.out)
  have HZZ := Lib.hid HB2.out.size
  -- REGION A
  refine wp_region_noPanic ?_
  refine wp_region_held_drew (S := fun w' => w'.cell? ⟨bb, 0, none⟩ = some (.int .i64 I) ∧ w'.cell? ⟨bb, 1, none⟩ = some (.slice A gs.length c9)) (by kernel_rfl) (HS.out _ HH2.out) (fun _ => ?_)
  generalize w1.drew = w2 at *
  refine wpAnyH_take (i := 0) (oi := { dst := some 3, op := Op.move (Operand.tmp 0), type := 24, pos := "builder.go:64", after := #[], guard := none }) (v := .pointer (some ⟨bb, 0, none⟩)) rfl (by kernel_rfl) (by kernel_rfl) (by kernel_rfl) (fun _ _ _ h => h) (Or.inl ⟨by rfl, ?_⟩) (HS.out _ HH2.out) ?_
  · (intro w' hSw; go_simp)
  simp only [Act.put, List.setIfInBounds_toArray, List.set_cons_zero, List.set_cons_succ]
  refine wpAnyH_take (i := 1) (oi := { dst := some 4, op := Op.nilCheck (Operand.tmp 3), type := 0, pos := "builder.go:64", after := #[{ on := 0, ground := Ground.data }], guard := none }) (v := .pointer (some ⟨bb, 0, none⟩)) rfl (by kernel_rfl) (by kernel_rfl) (by kernel_rfl) (fun _ _ _ h => h) (Or.inl ⟨by rfl, ?_⟩) (HS.out _ HH2.out) ?_
  · (intro w' hSw; go_simp)
  simp only [Act.put, List.setIfInBounds_toArray, List.set_cons_zero, List.set_cons_succ]
  refine wpAnyH_take (i := 2) (oi := { dst := some 5, op := Op.fieldAddr 80 (Operand.tmp 4) 0, type := 0, pos := "builder.go:64", after := #[{ on := 1, ground := Ground.data }], guard := none }) (v := .pointer (some ⟨bb, 0, none⟩)) rfl (by kernel_rfl) (by kernel_rfl) (by kernel_rfl) (fun _ _ _ h => h) (Or.inl ⟨by rfl, ?_⟩) (HS.out _ HH2.out) ?_
  · (intro w' hSw; go_simp)
  simp only [Act.put, List.setIfInBounds_toArray, List.set_cons_zero, List.set_cons_succ]
  refine wpAnyH_take (i := 3) (oi := { dst := some 6, op := Op.fieldAddr 30 (Operand.tmp 5) 0, type := 0, pos := "builder.go:64", after := #[{ on := 2, ground := Ground.data }], guard := none }) (v := .pointer (some ⟨bb, 0, none⟩)) rfl (by kernel_rfl) (by kernel_rfl) (by kernel_rfl) (fun _ _ _ h => h) (Or.inl ⟨by rfl, ?_⟩) (HS.out _ HH2.out) ?_
  · (intro w' hSw; go_simp)
  simp only [Act.put, List.setIfInBounds_toArray, List.set_cons_zero, List.set_cons_succ]
  refine wpAnyH_take (i := 4) (oi := { dst := some 7, op := Op.load 3 (Operand.tmp 6), type := 3, pos := "builder.go:64", after := #[{ on := 3, ground := Ground.data }], guard := none }) (v := .int .i64 I) rfl (by kernel_rfl) (by kernel_rfl) (by kernel_rfl) (fun _ _ _ h => h) (Or.inl ⟨by rfl, ?_⟩) (HS.out _ HH2.out) ?_
  · (intro w' hSw; obtain ⟨z0, z1⟩ := hSw; go_simp)
  simp only [Act.put, List.setIfInBounds_toArray, List.set_cons_zero, List.set_cons_succ]
  refine wpAnyH_take (i := 5) (oi := { dst := some 8, op := Op.move (Operand.tmp 0), type := 24, pos := "builder.go:64", after := #[], guard := none }) (v := .pointer (some ⟨bb, 0, none⟩)) rfl (by kernel_rfl) (by kernel_rfl) (by kernel_rfl) (fun _ _ _ h => h) (Or.inl ⟨by rfl, ?_⟩) (HS.out _ HH2.out) ?_
  · (intro w' hSw; go_simp)
  simp only [Act.put, List.setIfInBounds_toArray, List.set_cons_zero, List.set_cons_succ]
  refine wpAnyH_take (i := 6) (oi := { dst := some 9, op := Op.nilCheck (Operand.tmp 8), type := 0, pos := "builder.go:64", after := #[{ on := 5, ground := Ground.data }], guard := none }) (v := .pointer (some ⟨bb, 0, none⟩)) rfl (by kernel_rfl) (by kernel_rfl) (by kernel_rfl) (fun _ _ _ h => h) (Or.inl ⟨by rfl, ?_⟩) (HS.out _ HH2.out) ?_
  · (intro w' hSw; go_simp)
  simp only [Act.put, List.setIfInBounds_toArray, List.set_cons_zero, List.set_cons_succ]
  refine wpAnyH_take (i := 7) (oi := { dst := some 10, op := Op.fieldAddr 80 (Operand.tmp 9) 0, type := 0, pos := "builder.go:64", after := #[{ on := 6, ground := Ground.data }], guard := none }) (v := .pointer (some ⟨bb, 0, none⟩)) rfl (by kernel_rfl) (by kernel_rfl) (by kernel_rfl) (fun _ _ _ h => h) (Or.inl ⟨by rfl, ?_⟩) (HS.out _ HH2.out) ?_
  · (intro w' hSw; go_simp)
  simp only [Act.put, List.setIfInBounds_toArray, List.set_cons_zero, List.set_cons_succ]
  refine wpAnyH_take (i := 8) (oi := { dst := some 11, op := Op.fieldAddr 30 (Operand.tmp 10) 1, type := 0, pos := "builder.go:64", after := #[{ on := 7, ground := Ground.data }], guard := none }) (v := .pointer (some ⟨bb, 1, none⟩)) rfl (by kernel_rfl) (by kernel_rfl) (by kernel_rfl) (fun _ _ _ h => h) (Or.inl ⟨by rfl, ?_⟩) (HS.out _ HH2.out) ?_
  · (intro w' hSw; go_simp)
  simp only [Act.put, List.setIfInBounds_toArray, List.set_cons_zero, List.set_cons_succ]
  refine wpAnyH_take (i := 9) (oi := { dst := some 12, op := Op.load 28 (Operand.tmp 11), type := 28, pos := "builder.go:64", after := #[{ on := 8, ground := Ground.data }], guard := none }) (v := .slice A gs.length c9) rfl (by kernel_rfl) (by kernel_rfl) (by kernel_rfl) (fun _ _ _ h => h) (Or.inl ⟨by rfl, ?_⟩) (HS.out _ HH2.out) ?_
  · (intro w' hSw; obtain ⟨z0, z1⟩ := hSw; go_simp)
  simp only [Act.put, List.setIfInBounds_toArray, List.set_cons_zero, List.set_cons_succ]
  refine wpAnyH_ready (rs := [10]) (by kernel_rfl) (by simp) (AllReadyH.cons (o := { dst := some 13, op := Op.call { callee := Callee.value (Operand.func 58), args := #[Operand.tmp 12], argTypes := #[28] }, type := 28, pos := "builder.go:64", after := #[{ on := 9, ground := Ground.data }], guard := none }) rfl (fun K hK => ?_) AllReadyH.nil)
  go_simp
  go_at_call 58
  refine (HC.out _ HB2.out).mono ?_
  rintro e w3 ⟨X, cap, rfl, ho, hb⟩
  have HO3 := Lib.hid (show GOwn w3 w.heap.size (.slice X gs.length cap) gs from own_down ho HZZ.out)
  have HB3 := Lib.hid (HB2.out.trans (hb.mono HB2.out.size))
  have HX3 := Lib.hid (HX2.out.later hb)
  have HH3 := Lib.hid (HH2.out.later hb)
  clear ho hb
  refine hK.out _ _ (HS.out _ HH3.out) (fun _ => ?_)
  clear hK K
  try simp only [Act.put, List.setIfInBounds_toArray, List.set_cons_zero, List.set_cons_succ]
  refine wpAnyH_take (i := 11) (oi := { dst := some 14, op := Op.build 30 #[(0, Operand.tmp 7), (1, Operand.tmp 13)], type := 30, pos := "builder.go:64", after := #[{ on := 4, ground := Ground.data }, { on := 10, ground := Ground.data }], guard := none }) (v := .agg #[.int .i64 I, .slice X gs.length cap]) rfl (by kernel_rfl) (by kernel_rfl) (by kernel_rfl) (fun _ _ _ h => h) (Or.inl ⟨by rfl, ?_⟩) (HS.out _ HH3.out) ?_
  · (intro w' hSw; go_simp)
  simp only [Act.put, List.setIfInBounds_toArray, List.set_cons_zero, List.set_cons_succ]
  refine wpAnyH_ready (rs := [12]) (by kernel_rfl) (by simp) (AllReadyH.cons (o := { dst := none, op := Op.store 30 (Operand.tmp 2) (Operand.tmp 14), type := 0, pos := "builder.go:64", after := #[{ on := 11, ground := Ground.data }, { on := 10, ground := Ground.chain }, { on := 0, ground := Ground.phase }, { on := 1, ground := Ground.phase }, { on := 2, ground := Ground.phase }, { on := 3, ground := Ground.phase }, { on := 4, ground := Ground.phase }, { on := 5, ground := Ground.phase }, { on := 6, ground := Ground.phase }, { on := 7, ground := Ground.phase }, { on := 8, ground := Ground.phase }, { on := 9, ground := Ground.phase }, { on := 10, ground := Ground.phase }, { on := 11, ground := Ground.phase }], guard := none }) rfl (fun K hK => ?_) AllReadyH.nil)
  obtain ⟨y0, y1⟩ := HX3.out.cells
  have f0 : w3.frozen? ⟨rb, 0, none⟩ = false := hfrz HX3.out 0
  have f1 : w3.frozen? ⟨rb, 1, none⟩ = false := hfrz HX3.out 1
  have HST := Lib.hid (cir_store HX3.out HH3.out HNB.out (.int .i64 I) (.slice X gs.length cap))
  go_simp
  clear y0 y1 f0 f1
  refine hK.out _ _ (HS.out _ HST.out.1) (fun _ => ?_)
  clear hK K
  try simp only [Act.put, List.setIfInBounds_toArray, List.set_cons_zero, List.set_cons_succ]
  refine wpAnyH_done (by kernel_rfl) ?_ _
  refine NoPanic.normal ?_
  obtain ⟨_, v0, v1⟩ := HST.out
  have HFB := Lib.hid (cir_below HB3.out (Nat.le_of_eq HRB.out) (.int .i64 I) (.slice X gs.length cap))
  have HFO := Lib.hid (cir_own HX3.out HO3.out (.int .i64 I) (.slice X gs.length cap))
  generalize (w3.setCell ⟨rb, 0, none⟩ (.int .i64 I)).setCell ⟨rb, 1, none⟩ (.slice X gs.length cap) = w5 at *
  go_wp2_with (fail)
  exact bodyPost_ret (v := .agg #[.int .i64 I, .slice X gs.length cap]) (by simp [results, Try.results17, go_sem, v0, v1]) rfl ⟨X, cap, rfl, HFO.out, HFB.out⟩
  -- END A
end
end Go.Proofs.Ytbcabnbgkicfdaa
