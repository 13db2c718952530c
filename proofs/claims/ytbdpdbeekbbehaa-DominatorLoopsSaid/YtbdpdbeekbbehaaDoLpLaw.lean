/- What is proved: the law DominatorLoops: Loops answers as the reference does. -/
import Derived.Test.YtbdpdbeekbbehaaDoLpE
import Derived.Test.YtbdpdbeekbbehaaDoSmall
set_option linter.unusedVariables false
namespace Go.Proofs.Ytbdpdbeekbbehaa
open Go.RowKit Go.Shelf

set_option maxRecDepth 100000 in
set_option maxHeartbeats 4000000 in
theorem law_loops (A : Option Addr) (c : Nat) (l : List PtV) (w : World) (hf : FlArg w A c l) :
    Calls Try.prog 5 #[.agg #[.slice A l.length c]] w fun e W => e = .returned (.bool true) ∧ Below w.heap.size w W := by
  have HF := Lib.hid hf
  have HB1 := Lib.hid ((Below.refl w.heap.size w).alloc (Nat.le_refl _) (.cells #[.slice A l.length c] 24))
  have HFB := Lib.hid (show FBx (w.alloc (.cells #[.slice A l.length c] 24)) w.heap.size A c l from heap_alloc_new w _)
  clear hf
  go_enter Try.func5, Try.ntmps5
  go_wp2_with (fail)
  generalize (w.alloc (.cells #[.slice A l.length c] 24)) = w1 at *
  refine (awake_any w1).mono ?_
  rintro e w2 ⟨rfl, hb⟩
  have HB2 := Lib.hid (HB1.out.trans (hb.mono HB1.out.size))
  have HF2 := Lib.hid (HFB.out.later hb)
  have c0 := HF2.out.cell
  clear hb
  go_wp2_with (fail)
  refine (small_any A c l 14 w2 ⟨(HF.out.row.below HB2.out).mono HB2.out.size, HF.out.len, HF.out.few⟩).mono ?_
  rintro e w4 ⟨rfl, hb⟩
  have HB4 := Lib.hid (HB2.out.trans (hb.mono HB2.out.size))
  have HF4 := Lib.hid (HF2.out.later hb)
  clear hb c0
  cases hsm : smB 14 l with
  | false =>
    clear hsm
    go_wp2_with (fail)
    go_ret
    exact ⟨rfl, HB4.out⟩
  | true =>
    have HS := Lib.hid (smB_sm hsm (by omega))
    clear hsm
    obtain ⟨dm, hdm⟩ : ∃ dm : Nat → Nat → Bool, ∀ h u, dm h u = true ↔ Dom (edg l) 0 h u := by
      classical exact ⟨fun h u => decide (Dom (edg l) 0 h u), fun h u => by simp⟩
    obtain ⟨lp, hlp⟩ : ∃ lp : Nat → Nat → Bool, ∀ h u, lp h u = true ↔ LpP (edg l) h u := by
      classical exact ⟨fun h u => decide (LpP (edg l) h u), fun h u => by simp⟩
    have HLN := Lib.hid HS.out.n
    have HLP := Lib.hid hlp
    have HP4 := Lib.hid (show PRow w4.heap.size w4 A l from (HF.out.row.below HB4.out).mono HB4.out.size)
    have HC0 := Lib.hid (show ∀ W, Below w4.heap.size w4 W → W.cell? ⟨w.heap.size, 0, none⟩ = some (.slice A l.length c) from fun W hW => (HF4.out.later hW).cell)
    have HD1c := Lib.hid (fun W (hW : Below w4.heap.size w4 W) => loops_rd A c l W HS.out ((HP4.out.below hW).mono hW.size) dm hdm lp hlp)
    have HD2c := Lib.hid (fun W (hW : Below w4.heap.size w4 W) => rloops_rd A c l W HS.out ((HP4.out.below hW).mono hW.size) dm hdm lp hlp)
    clear hdm hlp
    go_upto_region 5 with (fail)
    rename_i K hKK
    refine wp_region_noPanic ?_
    refine wp_region_held_drew (S := fun w' => Below w4.heap.size w4 w') (by kernel_rfl) (Below.refl _ _).drew (fun _ => ?_)
    have HB5 := Lib.hid (show Below w4.heap.size w4 w4.drew from (Below.refl _ _).drew)
    generalize w4.drew = w5 at *
    refine wpAnyH_take (i := 0) (oi := { dst := some 10, op := Op.load 24 (Operand.tmp 1), type := 24, pos := "law.go:50", after := #[], guard := none }) (v := .agg #[.slice A l.length c]) rfl (by kernel_rfl) (by kernel_rfl) (by kernel_rfl) (fun _ _ _ h => h) (Or.inl ⟨by rfl, ?_⟩) HB5.out ?_
    · (intro w' hSw; have z := HC0.out w' hSw; go_simp)
    simp only [Act.put, List.setIfInBounds_toArray, List.set_cons_zero, List.set_cons_succ]
    refine wpAnyH_take (i := 2) (oi := { dst := some 12, op := Op.load 24 (Operand.tmp 1), type := 24, pos := "law.go:50", after := #[], guard := none }) (v := .agg #[.slice A l.length c]) rfl (by kernel_rfl) (by kernel_rfl) (by kernel_rfl) (fun _ _ _ h => h) (Or.inl ⟨by rfl, ?_⟩) HB5.out ?_
    · (intro w' hSw; have z := HC0.out w' hSw; go_simp)
    simp only [Act.put, List.setIfInBounds_toArray, List.set_cons_zero, List.set_cons_succ]
    refine wpAnyH_ready (rs := [1]) (by kernel_rfl) (by simp) (AllReadyH.cons (o := { dst := some 11, op := Op.call { callee := Callee.value (Operand.func 24), args := #[Operand.tmp 10], argTypes := #[24] }, type := 32, pos := "law.go:50", after := #[{ on := 0, ground := Ground.data }], guard := none }) rfl (fun K hK => ?_) AllReadyH.nil)
    go_simp
    go_at_call 24
    refine (HD1c.out w5 HB5.out).mono ?_
    rintro e w6 ⟨X1, c1, bs, n1, rfl, hr, hn1, hh, hb⟩
    have HR6 := Lib.hid hr
    have HN6 := Lib.hid hn1
    have HH6 := Lib.hid hh
    clear hr hn1 hh
    have HB6 := Lib.hid (show Below w4.heap.size w4 w6 from HB5.out.trans (hb.mono HB5.out.size))
    have HX6 := Lib.hid (show Below w5.heap.size w5 w6 from hb)
    clear hb
    refine hK.out _ _ HB6.out (fun _ => ?_)
    clear hK K
    try simp only [Act.put, List.setIfInBounds_toArray, List.set_cons_zero, List.set_cons_succ]
    refine wpAnyH_ready (rs := [3]) (by kernel_rfl) (by simp) (AllReadyH.cons (o := { dst := some 13, op := Op.call { callee := Callee.value (Operand.func 25), args := #[Operand.tmp 12], argTypes := #[24] }, type := 32, pos := "law.go:50", after := #[{ on := 2, ground := Ground.data }, { on := 1, ground := Ground.chain }], guard := none }) rfl (fun K hK => ?_) AllReadyH.nil)
    go_simp
    go_at_call 25
    refine (HD2c.out w6 HB6.out).mono ?_
    rintro e w7 ⟨X2, c2, cs, n2, rfl, hr, hn2, hh, hb⟩
    have HR7 := Lib.hid hr
    have HN7 := Lib.hid hn2
    have HH7 := Lib.hid hh
    have HR8 := Lib.hid (HR6.out.later hb)
    clear hr hn2 hh
    have HB7 := Lib.hid (show Below w4.heap.size w4 w7 from HB6.out.trans (hb.mono HB6.out.size))
    have HX7 := Lib.hid (show Below w6.heap.size w6 w7 from hb)
    clear hb
    refine hK.out _ _ HB7.out (fun _ => ?_)
    clear hK K
    try simp only [Act.put, List.setIfInBounds_toArray, List.set_cons_zero, List.set_cons_succ]
    refine wpAnyH_take (i := 4) (oi := { dst := some 3, op := Op.assign (Operand.tmp 11), type := 32, pos := "law.go:50", after := #[{ on := 1, ground := Ground.data }, { on := 3, ground := Ground.chain }, { on := 0, ground := Ground.phase }, { on := 1, ground := Ground.phase }, { on := 2, ground := Ground.textOnly Departure.lateStores }, { on := 3, ground := Ground.textOnly Departure.lateStoresUnsure }], guard := none }) (v := .slice X1 n1 c1) rfl (by kernel_rfl) (by kernel_rfl) (by kernel_rfl) (fun _ _ _ h => h) (Or.inl ⟨by rfl, ?_⟩) HB7.out ?_
    · (intro w' hSw; go_simp)
    simp only [Act.put, List.setIfInBounds_toArray, List.set_cons_zero, List.set_cons_succ]
    refine wpAnyH_take (i := 5) (oi := { dst := some 4, op := Op.assign (Operand.tmp 13), type := 32, pos := "law.go:50", after := #[{ on := 3, ground := Ground.data }, { on := 4, ground := Ground.chain }, { on := 0, ground := Ground.phase }, { on := 1, ground := Ground.phase }, { on := 2, ground := Ground.phase }, { on := 3, ground := Ground.phase }, { on := 4, ground := Ground.phase }], guard := none }) (v := .slice X2 n2 c2) rfl (by kernel_rfl) (by kernel_rfl) (by kernel_rfl) (fun _ _ _ h => h) (Or.inl ⟨by rfl, ?_⟩) HB7.out ?_
    · (intro w' hSw; go_simp)
    simp only [Act.put, List.setIfInBounds_toArray, List.set_cons_zero, List.set_cons_succ]
    refine wpAnyH_done (by kernel_rfl) ?_ _
    refine NoPanic.normal ?_
    have hnn : n2 = n1 := by have h := congrArg List.length (HH6.out.trans HH7.out.symm); rw [List.length_map, List.length_map] at h; have := HN6.out; have := HN7.out; omega
    subst hnn
    have HEQ := Lib.hid (eqloops_any w7 X1 X2 c1 c2 n2 bs cs _ HR8.out HR7.out HN6.out HN7.out (HH6.out.trans HH7.out.symm) (lp_pos HLP.out HH6.out HLN.out) (by have := lp_few HH6.out HLN.out; have := HN6.out; omega))
    refine hKK _ _ ?_
    go_wp2_with (fail)
    refine HEQ.out.mono ?_
    rintro e w8 ⟨rfl, hb⟩
    have HB8 := Lib.hid (HB7.out.trans (hb.mono HB7.out.size))
    clear hb
    go_wp2_with (fail)
    go_ret
    exact ⟨rfl, HB4.out.trans (HB8.out.mono HB4.out.size)⟩
end Go.Proofs.Ytbdpdbeekbbehaa
