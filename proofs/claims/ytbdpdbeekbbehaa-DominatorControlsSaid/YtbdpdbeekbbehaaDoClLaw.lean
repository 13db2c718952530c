/- What is proved: the law DominatorControls: Control answers as the reference does. -/
import Derived.Test.YtbdpdbeekbbehaaDoNs
import Derived.Test.YtbdpdbeekbbehaaDoAwake
import Derived.Test.YtbdpdbeekbbehaaDoSmall
set_option linter.unusedVariables false
namespace Go.Proofs.Ytbdpdbeekbbehaa
open Go.RowKit Go.Shelf

set_option maxRecDepth 100000 in
set_option maxHeartbeats 4000000 in
theorem law_controls (A : Option Addr) (c : Nat) (l : List PtV) (w : World) (hf : FlArg w A c l) :
    Calls Try.prog 6 #[.agg #[.slice A l.length c]] w fun e W => e = .returned (.bool true) ∧ Below w.heap.size w W := by
  have HF := Lib.hid hf
  have HB1 := Lib.hid ((Below.refl w.heap.size w).alloc (Nat.le_refl _) (.cells #[.slice A l.length c] 24))
  have HFB := Lib.hid (show FBx (w.alloc (.cells #[.slice A l.length c] 24)) w.heap.size A c l from heap_alloc_new w _)
  clear hf
  go_enter Try.func6, Try.ntmps6
  go_wp2_with (fail)
  generalize (w.alloc (.cells #[.slice A l.length c] 24)) = w1 at *
  refine (awake_any w1).mono ?_
  rintro e w2 ⟨rfl, hb⟩
  have HB2 := Lib.hid (HB1.out.trans (hb.mono HB1.out.size))
  have HF2 := Lib.hid (HFB.out.later hb)
  have c0 := HF2.out.cell
  clear hb
  go_wp2_with (fail)
  refine (small_any A c l 14 w2 ⟨(HF.out.row.below HB2.out).mono HB2.out.size, HF.out.len, HF.out.few⟩).mono ?_
  rintro e w4 ⟨rfl, hb⟩
  have HB4 := Lib.hid (HB2.out.trans (hb.mono HB2.out.size))
  have HF4 := Lib.hid (HF2.out.later hb)
  clear hb c0
  cases hsm : smB 14 l with
  | false =>
    clear hsm
    go_wp2_with (fail)
    go_ret
    exact ⟨rfl, HB4.out⟩
  | true =>
    have HS := Lib.hid (smB_sm hsm (by omega))
    clear hsm
    obtain ⟨cd, hcd⟩ : ∃ cd : Nat → Nat → Bool, ∀ a v, cd a v = true ↔ CDp (edg l) (bke l) 1 a v := by
      classical exact ⟨fun a v => decide (CDp (edg l) (bke l) 1 a v), fun a v => by simp⟩
    have HLN := Lib.hid (show l.length ≤ 1000000 by have := HS.out.n; omega)
    have HP4 := Lib.hid (show PRow w4.heap.size w4 A l from (HF.out.row.below HB4.out).mono HB4.out.size)
    have HC0 := Lib.hid (show ∀ W, Below w4.heap.size w4 W → W.cell? ⟨w.heap.size, 0, none⟩ = some (.slice A l.length c) from fun W hW => (HF4.out.later hW).cell)
    have HD1c := Lib.hid (fun W (hW : Below w4.heap.size w4 W) => control_any A c l W HS.out ((HP4.out.below hW).mono hW.size) cd hcd)
    have HD2c := Lib.hid (fun W (hW : Below w4.heap.size w4 W) => rcontrol_any A c l W HS.out ((HP4.out.below hW).mono hW.size) cd hcd)
    have HIN := Lib.hid (fun W (hW : Below w4.heap.size w4 W) (X Y : Option Addr) (c d : Nat) (xs : List (List Int)) (n : Nat) (hn : n = xs.length) (hbig : xs.length ≤ 1000000) (hbig2 : ∀ l ∈ xs, l.length ≤ 1000000) (hx : LRow W X xs) (hy : LRow W Y xs) => show Calls Try.prog 29 #[.slice X n c, .slice Y n d] W (fun e W' => e = .returned (.bool true) ∧ Below W.heap.size W W') from by subst hn; exact (lists_any W X Y c d xs xs hx hy hbig hbig2).mono fun e W' he => ⟨he.1.trans (by simp), he.2⟩)
    clear hcd
    cases hv : validP l with
    | true =>
      have HOK := Lib.hid (HS.out.ok hv)
      clear hv
      go_upto_region 5 with (fail)
      rename_i K hKK
      refine wp_region_noPanic ?_
      refine wp_region_held_drew (S := fun w' => Below w4.heap.size w4 w') (by kernel_rfl) (Below.refl _ _).drew (fun _ => ?_)
      have HB5 := Lib.hid (show Below w4.heap.size w4 w4.drew from (Below.refl _ _).drew)
      generalize w4.drew = w5 at *
      refine wpAnyH_take (i := 0) (oi := { dst := some 8, op := Op.load 24 (Operand.tmp 1), type := 24, pos := "law.go:62", after := #[], guard := none }) (v := .agg #[.slice A l.length c]) rfl (by kernel_rfl) (by kernel_rfl) (by kernel_rfl) (fun _ _ _ h => h) (Or.inl ⟨by rfl, ?_⟩) HB5.out ?_
      · (intro w' hSw; have z := HC0.out w' hSw; go_simp)
      simp only [Act.put, List.setIfInBounds_toArray, List.set_cons_zero, List.set_cons_succ]
      refine wpAnyH_take (i := 2) (oi := { dst := some 10, op := Op.load 24 (Operand.tmp 1), type := 24, pos := "law.go:62", after := #[], guard := none }) (v := .agg #[.slice A l.length c]) rfl (by kernel_rfl) (by kernel_rfl) (by kernel_rfl) (fun _ _ _ h => h) (Or.inl ⟨by rfl, ?_⟩) HB5.out ?_
      · (intro w' hSw; have z := HC0.out w' hSw; go_simp)
      simp only [Act.put, List.setIfInBounds_toArray, List.set_cons_zero, List.set_cons_succ]
      refine wpAnyH_ready (rs := [1]) (by kernel_rfl) (by simp) (AllReadyH.cons (o := { dst := some 9, op := Op.call { callee := Callee.value (Operand.func 30), args := #[Operand.tmp 8], argTypes := #[24] }, type := 39, pos := "law.go:62", after := #[{ on := 0, ground := Ground.data }], guard := none }) rfl (fun K hK => ?_) AllReadyH.nil)
      go_simp
      go_at_call 30
      refine (HD1c.out w5 HB5.out).mono ?_
      rintro e w6 ⟨hb, ⟨_, hb1, R, rfl, hr⟩ | ⟨h, _⟩⟩
      rotate_left
      · exact absurd h (by rw [HOK.out.ok]; decide)
      have HR6 := Lib.hid hr.lrow
      clear hr
      have HB6 := Lib.hid (show Below w4.heap.size w4 w6 from HB5.out.trans (hb.mono HB5.out.size))
      have HX6 := Lib.hid (show Below w5.heap.size w5 w6 from hb)
      clear hb
      refine hK.out _ _ HB6.out (fun _ => ?_)
      clear hK K
      try simp only [Act.put, List.setIfInBounds_toArray, List.set_cons_zero, List.set_cons_succ]
      refine wpAnyH_ready (rs := [3]) (by kernel_rfl) (by simp) (AllReadyH.cons (o := { dst := some 11, op := Op.call { callee := Callee.value (Operand.func 31), args := #[Operand.tmp 10], argTypes := #[24] }, type := 39, pos := "law.go:62", after := #[{ on := 2, ground := Ground.data }, { on := 1, ground := Ground.chain }], guard := none }) rfl (fun K hK => ?_) AllReadyH.nil)
      go_simp
      go_at_call 31
      refine (HD2c.out w6 HB6.out).mono ?_
      rintro e w7 ⟨X2, c2, rfl, hr, hb⟩
      have HR7 := Lib.hid (hr HOK.out.ok)
      simp only [HOK.out.ok, if_true]
      have HR8 := Lib.hid (HR6.out.later hb)
      clear hr
      have HB7 := Lib.hid (show Below w4.heap.size w4 w7 from HB6.out.trans (hb.mono HB6.out.size))
      have HX7 := Lib.hid (show Below w6.heap.size w6 w7 from hb)
      clear hb
      refine hK.out _ _ HB7.out (fun _ => ?_)
      clear hK K
      try simp only [Act.put, List.setIfInBounds_toArray, List.set_cons_zero, List.set_cons_succ]
      refine wpAnyH_ready (rs := [4]) (by kernel_rfl) (by simp) (AllReadyH.cons (o := { dst := some 12, op := Op.call { callee := Callee.value (Operand.func 29), args := #[Operand.tmp 9, Operand.tmp 11], argTypes := #[39, 39] }, type := 4, pos := "law.go:62", after := #[{ on := 1, ground := Ground.data }, { on := 3, ground := Ground.data }, { on := 3, ground := Ground.chain }], guard := none }) rfl (fun K hK => ?_) AllReadyH.nil)
      go_simp
      go_at_call 29
      refine (HIN.out w7 HB7.out (some ⟨hb1, 0, none⟩) X2 l.length c2 _ l.length (by simp) (by simpa using HLN.out) (by intro x hx; obtain ⟨v, _, rfl⟩ := List.mem_map.1 hx; rw [zl_len]; have h1 := List.length_filter_le (fun a => cd a v) (List.range l.length); rw [List.length_range] at h1; have := HLN.out; omega) HR8.out HR7.out).mono ?_
      rintro e w8 ⟨rfl, hb⟩
      have HB8 := Lib.hid (show Below w4.heap.size w4 w8 from HB7.out.trans (hb.mono HB7.out.size))
      have HX8 := Lib.hid (show Below w7.heap.size w7 w8 from hb)
      clear hb
      refine hK.out _ _ HB8.out (fun _ => ?_)
      clear hK K
      try simp only [Act.put, List.setIfInBounds_toArray, List.set_cons_zero, List.set_cons_succ]
      refine wpAnyH_take (i := 5) (oi := { dst := some 2, op := Op.assign (Operand.tmp 12), type := 4, pos := "law.go:62", after := #[{ on := 4, ground := Ground.data }, { on := 4, ground := Ground.chain }, { on := 0, ground := Ground.phase }, { on := 1, ground := Ground.phase }, { on := 2, ground := Ground.phase }, { on := 3, ground := Ground.phase }, { on := 4, ground := Ground.phase }], guard := none }) (v := .bool true) rfl (by kernel_rfl) (by kernel_rfl) (by kernel_rfl) (fun _ _ _ h => h) (Or.inl ⟨by rfl, ?_⟩) HB8.out ?_
      · (intro w' hSw; go_simp)
      simp only [Act.put, List.setIfInBounds_toArray, List.set_cons_zero, List.set_cons_succ]
      refine wpAnyH_done (by kernel_rfl) ?_ _
      refine NoPanic.normal ?_
      refine hKK _ _ ?_
      go_wp2_with (fail)
      go_ret
      exact ⟨rfl, HB4.out.trans (HB8.out.mono HB4.out.size)⟩
    | false =>
      have HNV := Lib.hid hv
      clear hv
      go_upto_region 5 with (fail)
      rename_i K hKK
      refine wp_region_noPanic ?_
      refine wp_region_held_drew (S := fun w' => Below w4.heap.size w4 w') (by kernel_rfl) (Below.refl _ _).drew (fun _ => ?_)
      have HB5 := Lib.hid (show Below w4.heap.size w4 w4.drew from (Below.refl _ _).drew)
      generalize w4.drew = w5 at *
      refine wpAnyH_take (i := 0) (oi := { dst := some 8, op := Op.load 24 (Operand.tmp 1), type := 24, pos := "law.go:62", after := #[], guard := none }) (v := .agg #[.slice A l.length c]) rfl (by kernel_rfl) (by kernel_rfl) (by kernel_rfl) (fun _ _ _ h => h) (Or.inl ⟨by rfl, ?_⟩) HB5.out ?_
      · (intro w' hSw; have z := HC0.out w' hSw; go_simp)
      simp only [Act.put, List.setIfInBounds_toArray, List.set_cons_zero, List.set_cons_succ]
      refine wpAnyH_take (i := 2) (oi := { dst := some 10, op := Op.load 24 (Operand.tmp 1), type := 24, pos := "law.go:62", after := #[], guard := none }) (v := .agg #[.slice A l.length c]) rfl (by kernel_rfl) (by kernel_rfl) (by kernel_rfl) (fun _ _ _ h => h) (Or.inl ⟨by rfl, ?_⟩) HB5.out ?_
      · (intro w' hSw; have z := HC0.out w' hSw; go_simp)
      simp only [Act.put, List.setIfInBounds_toArray, List.set_cons_zero, List.set_cons_succ]
      refine wpAnyH_ready (rs := [1]) (by kernel_rfl) (by simp) (AllReadyH.cons (o := { dst := some 9, op := Op.call { callee := Callee.value (Operand.func 30), args := #[Operand.tmp 8], argTypes := #[24] }, type := 39, pos := "law.go:62", after := #[{ on := 0, ground := Ground.data }], guard := none }) rfl (fun K hK => ?_) AllReadyH.nil)
      go_simp
      go_at_call 30
      refine (HD1c.out w5 HB5.out).mono ?_
      rintro e w6 ⟨hb, ⟨h, _⟩ | ⟨_, rfl⟩⟩
      · exact absurd h (by rw [HNV.out]; decide)
      have HB6 := Lib.hid (show Below w4.heap.size w4 w6 from HB5.out.trans (hb.mono HB5.out.size))
      have HX6 := Lib.hid (show Below w5.heap.size w5 w6 from hb)
      clear hb
      refine hK.out _ _ HB6.out (fun _ => ?_)
      clear hK K
      try simp only [Act.put, List.setIfInBounds_toArray, List.set_cons_zero, List.set_cons_succ]
      refine wpAnyH_ready (rs := [3]) (by kernel_rfl) (by simp) (AllReadyH.cons (o := { dst := some 11, op := Op.call { callee := Callee.value (Operand.func 31), args := #[Operand.tmp 10], argTypes := #[24] }, type := 39, pos := "law.go:62", after := #[{ on := 2, ground := Ground.data }, { on := 1, ground := Ground.chain }], guard := none }) rfl (fun K hK => ?_) AllReadyH.nil)
      go_simp
      go_at_call 31
      refine (HD2c.out w6 HB6.out).mono ?_
      rintro e w7 ⟨X2, c2, rfl, _, hb⟩
      simp only [HNV.out]
      try simp only [Bool.false_eq_true, if_false]
      have HB7 := Lib.hid (show Below w4.heap.size w4 w7 from HB6.out.trans (hb.mono HB6.out.size))
      have HX7 := Lib.hid (show Below w6.heap.size w6 w7 from hb)
      clear hb
      refine hK.out _ _ HB7.out (fun _ => ?_)
      clear hK K
      try simp only [Act.put, List.setIfInBounds_toArray, List.set_cons_zero, List.set_cons_succ]
      refine wpAnyH_ready (rs := [4]) (by kernel_rfl) (by simp) (AllReadyH.cons (o := { dst := some 12, op := Op.call { callee := Callee.value (Operand.func 29), args := #[Operand.tmp 9, Operand.tmp 11], argTypes := #[39, 39] }, type := 4, pos := "law.go:62", after := #[{ on := 1, ground := Ground.data }, { on := 3, ground := Ground.data }, { on := 3, ground := Ground.chain }], guard := none }) rfl (fun K hK => ?_) AllReadyH.nil)
      go_simp
      go_at_call 29
      refine (HIN.out w7 HB7.out none X2 0 c2 [] 0 rfl (by simp) (by simp) (fun h => absurd h (by simp)) (fun h => absurd h (by simp))).mono ?_
      rintro e w8 ⟨rfl, hb⟩
      have HB8 := Lib.hid (show Below w4.heap.size w4 w8 from HB7.out.trans (hb.mono HB7.out.size))
      have HX8 := Lib.hid (show Below w7.heap.size w7 w8 from hb)
      clear hb
      refine hK.out _ _ HB8.out (fun _ => ?_)
      clear hK K
      try simp only [Act.put, List.setIfInBounds_toArray, List.set_cons_zero, List.set_cons_succ]
      refine wpAnyH_take (i := 5) (oi := { dst := some 2, op := Op.assign (Operand.tmp 12), type := 4, pos := "law.go:62", after := #[{ on := 4, ground := Ground.data }, { on := 4, ground := Ground.chain }, { on := 0, ground := Ground.phase }, { on := 1, ground := Ground.phase }, { on := 2, ground := Ground.phase }, { on := 3, ground := Ground.phase }, { on := 4, ground := Ground.phase }], guard := none }) (v := .bool true) rfl (by kernel_rfl) (by kernel_rfl) (by kernel_rfl) (fun _ _ _ h => h) (Or.inl ⟨by rfl, ?_⟩) HB8.out ?_
      · (intro w' hSw; go_simp)
      simp only [Act.put, List.setIfInBounds_toArray, List.set_cons_zero, List.set_cons_succ]
      refine wpAnyH_done (by kernel_rfl) ?_ _
      refine NoPanic.normal ?_
      refine hKK _ _ ?_
      go_wp2_with (fail)
      go_ret
      exact ⟨rfl, HB4.out.trans (HB8.out.mono HB4.out.size)⟩
end Go.Proofs.Ytbdpdbeekbbehaa
