/- What is proved: Support of package gates: what it answers is its own. -/
import Derived.Test.YtaccienlokoolaaGaSp
set_option linter.unusedVariables false
set_option linter.unusedSimpArgs false
namespace Go.Proofs.Ytaccienlokoolaa
open Go.RowKit Go.Maps

set_option maxRecDepth 100000 in
set_option maxHeartbeats 8000000 in
theorem support_own (I : Int) (A : Option Addr) (c : Nat) (gs : List Gt) (AL : Option Addr) (cl : Nat) (ls : List Int) (w : World) (hr : GRow w A gs) (hok : ∀ x ∈ gs, GtOk x) (hn : gs.length ≤ 5000) (hz : ZRow w.heap.size w AL ls) (hl : ls.length ≤ 1000000) :
    Calls Try.prog 29 #[.agg #[.int .i64 I, .slice A gs.length c], .slice AL ls.length cl] w fun e w' => ∃ A' c', e = .returned (.slice A' (supV I gs ls).length c') ∧ ZOwn w' w.heap.size (.slice A' (supV I gs ls).length c') (supV I gs ls) ∧ Below w.heap.size w w' := by
  have HB1 := Lib.hid ((Below.refl w.heap.size w).alloc (Nat.le_refl _) (.cells #[.int .i64 I, .slice A gs.length c] 30))
  have HBX := Lib.hid (CBx.new w I A gs.length c)
  have HF := Lib.hid (fit_any I A c gs AL cl ls _ (hr.later HB1.out) hok hn (hz.later HB1.out) hl)
  have HZ := Lib.hid hz
  have HR := Lib.hid hr
  clear hz hr hok
  cases hv : fitB I gs ls with
  | false =>
    rw [hv] at HF
    have HSV := Lib.hid (show supV I gs ls = [] from by unfold supV; rw [hv]; rfl)
    clear hv
    go_enter Try.func29, Try.ntmps29
    go_upto_region 1 with fail
    generalize w.alloc (.cells #[.int .i64 I, .slice A gs.length c] 30) = w1 at *
    obtain ⟨b0, b1⟩ := HBX.out.cells
    go_wp2_with (fail)
    refine HF.out.mono ?_
    rintro e w2 ⟨rfl, hb2⟩
    go_wp2_with (fail)
    go_ret
    rw [HSV.out]
    exact ⟨none, 0, rfl, z_nil _ _, HB1.out.trans (hb2.mono HB1.out.size)⟩
  | true =>
    rw [hv] at HF
    obtain ⟨⟨hck, hbig⟩, hlits⟩ := fit_iff.1 hv
    obtain ⟨n0, rfl⟩ : ∃ n0 : Nat, I = (n0 : Int) := ⟨I.toNat, by have := hck.lo; omega⟩
    have hn0 : n0 ≤ 1024 := by have := hck.hi; omega
    have e1 : (1 + (n0 : Int)).toNat = n0 + 1 := by omega
    have e2 : ((n0 : Int)).toNat = n0 := by omega
    have HLD := Lib.hid (fun (W : World) (hb : Below w.heap.size w W) => leading_any (n0 : Int) A c gs AL cl ls W (n0 + 1) (by omega) (HR.out.later hb) hck hn (HZ.out.later hb) hl hlits)
    have HTR := Lib.hid (show supV (n0 : Int) gs ls = supL (ldF (n0 + 1) gs ls) n0 from by unfold supV; rw [if_pos hv, e1, e2])
    clear hv hck hbig hlits e1 e2
    generalize ldF (n0 + 1) gs ls = f at *
    go_enter Try.func29, Try.ntmps29
    go_upto_region 1 with fail
    generalize hgw : w.alloc (.cells #[.int .i64 (n0 : Int), .slice A gs.length c] 30) = w1 at *
    clear hgw
    obtain ⟨b0, b1⟩ := HBX.out.cells
    go_wp2_with (fail)
    refine HF.out.mono ?_
    rintro e w2 ⟨rfl, hb2⟩
    have HB2 := Lib.hid (HB1.out.trans (hb2.mono HB1.out.size))
    have HX2 := Lib.hid (HBX.out.later hb2)
    clear hb2 b0 b1 HBX HB1 HF
    go_upto_region 4 with fail
    rename_i K hKK
    have HD := Lib.hid (show Below w2.heap.size w2 w2.drew from (Below.refl _ _).drew)
    have HB3 := Lib.hid (HB2.out.trans (HD.out.mono HB2.out.size))
    have HX3 := Lib.hid (HX2.out.later HD.out)
    have hw1 : IntKind.i64.wrap (1 + (n0 : Int)) = 1 + (n0 : Int) := IntWalk.i64_in _ (by omega)
    clear HD HX2 HB2
    refine wp_region_noPanic ?_
    refine wp_region_held_drew (S := fun w' => w'.cell? ⟨w.heap.size, 0, none⟩ = some (.int .i64 (n0 : Int)) ∧ w'.cell? ⟨w.heap.size, 1, none⟩ = some (.slice A gs.length c)) (by kernel_rfl) HX3.out.cells (fun _ => ?_)
    generalize w2.drew = w3 at *
    refine wpAnyH_take (i := 0) (oi := { dst := some 12, op := Op.load 30 (Operand.tmp 2), type := 30, pos := "gates.go:49", after := #[], guard := none }) (v := .agg #[.int .i64 (n0 : Int), .slice A gs.length c]) rfl (by kernel_rfl) (by kernel_rfl) (by kernel_rfl) (fun _ _ _ h => h) (Or.inl ⟨by rfl, ?_⟩) HX3.out.cells ?_
    · (intro w' hSw; obtain ⟨z0, z1⟩ := hSw; go_simp)
    simp only [Act.put, List.setIfInBounds_toArray, List.set_cons_zero, List.set_cons_succ]
    refine wpAnyH_take (i := 1) (oi := { dst := some 13, op := Op.move (Operand.tmp 1), type := 48, pos := "gates.go:49", after := #[], guard := none }) (v := .slice AL ls.length cl) rfl (by kernel_rfl) (by kernel_rfl) (by kernel_rfl) (fun _ _ _ h => h) (Or.inl ⟨by rfl, ?_⟩) HX3.out.cells ?_
    · (intro w' hSw; go_simp)
    simp only [Act.put, List.setIfInBounds_toArray, List.set_cons_zero, List.set_cons_succ]
    refine wpAnyH_take (i := 3) (oi := { dst := some 15, op := Op.fieldAddr 30 (Operand.tmp 2) 0, type := 0, pos := "gates.go:49", after := #[], guard := none }) (v := .pointer (some ⟨w.heap.size, 0, none⟩)) rfl (by kernel_rfl) (by kernel_rfl) (by kernel_rfl) (fun _ _ _ h => h) (Or.inl ⟨by rfl, ?_⟩) HX3.out.cells ?_
    · (intro w' hSw; go_simp)
    simp only [Act.put, List.setIfInBounds_toArray, List.set_cons_zero, List.set_cons_succ]
    refine wpAnyH_take (i := 4) (oi := { dst := some 16, op := Op.load 3 (Operand.tmp 15), type := 3, pos := "gates.go:49", after := #[{ on := 3, ground := Ground.data }], guard := none }) (v := .int .i64 (n0 : Int)) rfl (by kernel_rfl) (by kernel_rfl) (by kernel_rfl) (fun _ _ _ h => h) (Or.inl ⟨by rfl, ?_⟩) HX3.out.cells ?_
    · (intro w' hSw; obtain ⟨z0, z1⟩ := hSw; go_simp)
    simp only [Act.put, List.setIfInBounds_toArray, List.set_cons_zero, List.set_cons_succ]
    refine wpAnyH_take (i := 5) (oi := { dst := some 17, op := Op.binOp BinOp.add 3 (Operand.const (Value.int IntKind.i64 1)) (Operand.tmp 16) 3, type := 3, pos := "gates.go:49", after := #[{ on := 4, ground := Ground.data }], guard := none }) (v := .int .i64 (1 + (n0 : Int))) rfl (by kernel_rfl) (by kernel_rfl) (by kernel_rfl) (fun _ _ _ h => h) (Or.inl ⟨by rfl, ?_⟩) HX3.out.cells ?_
    · (intro w' hSw; go_simp)
    simp only [Act.put, List.setIfInBounds_toArray, List.set_cons_zero, List.set_cons_succ]
    refine wpAnyH_take (i := 8) (oi := { dst := some 20, op := Op.move (Operand.const (Value.int IntKind.i64 0)), type := 3, pos := "gates.go:49", after := #[], guard := none }) (v := .int .i64 0) rfl (by kernel_rfl) (by kernel_rfl) (by kernel_rfl) (fun _ _ _ h => h) (Or.inl ⟨by rfl, ?_⟩) HX3.out.cells ?_
    · (intro w' hSw; go_simp)
    simp only [Act.put, List.setIfInBounds_toArray, List.set_cons_zero, List.set_cons_succ]
    refine wpAnyH_ready (rs := [2]) (by kernel_rfl) (by simp) (AllReadyH.cons (o := { dst := some 14, op := Op.call { callee := Callee.value (Operand.func 51), args := #[Operand.tmp 12, Operand.tmp 13], argTypes := #[30, 48] }, type := 47, pos := "gates.go:49", after := #[{ on := 0, ground := Ground.data }, { on := 1, ground := Ground.data }], guard := none }) rfl (fun K hK => ?_) AllReadyH.nil)
    go_simp
    go_at_call 51
    refine (HLD.out _ HB3.out).mono ?_
    rintro e w4 ⟨lb, rfl, hlb, harr, hb⟩
    have HB4 := Lib.hid (HB3.out.trans (hb.mono HB3.out.size))
    have HX4 := Lib.hid (HX3.out.later hb)
    have HAR := Lib.hid harr
    clear harr hb hlb
    refine hK.out _ _ HX4.out.cells (fun _ => ?_)
    clear hK K
    try simp only [Act.put, List.setIfInBounds_toArray, List.set_cons_zero, List.set_cons_succ]
    refine wpAnyH_ready (rs := [6]) (by kernel_rfl) (by simp) (AllReadyH.cons (o := { dst := some 18, op := Op.slice 47 (Operand.tmp 14) (some (Operand.const (Value.int IntKind.i64 1))) (some (Operand.tmp 17)) none, type := 47, pos := "gates.go:49", after := #[{ on := 2, ground := Ground.data }, { on := 5, ground := Ground.data }], guard := none }) rfl (fun K hK => ?_) AllReadyH.nil)
    have hsl : ∀ W, (Instr.slice 47 (.slice (some ⟨lb, 0, none⟩) (n0 + 1 + gs.length) (n0 + 1 + gs.length)) (some (.int .i64 1)) (some (.int .i64 (1 + (n0 : Int)))) none).run Try.prog W = .ok (.slice (ldsA lb (n0 + 1 + gs.length)) n0 (n0 + 1 + gs.length - 1)) W := fun W => run_leads lb (n0 + 1 + gs.length) n0 (by omega) W
    go_simp
    refine hK.out _ _ HX4.out.cells (fun _ => ?_)
    clear hK K
    try simp only [Act.put, List.setIfInBounds_toArray, List.set_cons_zero, List.set_cons_succ]
    refine wpAnyH_ready (rs := [7]) (by kernel_rfl) (by simp) (AllReadyH.cons (o := { dst := some 19, op := Op.call { callee := Callee.builtin Builtin.len, args := #[Operand.tmp 18], argTypes := #[47] }, type := 3, pos := "gates.go:49", after := #[{ on := 6, ground := Ground.data }], guard := none }) rfl (fun K hK => ?_) AllReadyH.nil)
    go_simp
    refine hK.out _ _ HX4.out.cells (fun _ => ?_)
    clear hK K
    try simp only [Act.put, List.setIfInBounds_toArray, List.set_cons_zero, List.set_cons_succ]
    refine wpAnyH_done (by kernel_rfl) ?_ _
    refine NoPanic.normal ?_
    have HOW := Lib.hid (z_nil w4 w4.heap.size)
    have HSZ := Lib.hid HB4.out.size
    go_wp2_with (fail)
    go_loopw [5, 20] (fun u jv wr => ∃ (k : Nat), k ≤ n0 ∧ jv = .int .i64 (k : Int) ∧ Hid (ZOwn wr w4.heap.size u (supL f k)) ∧ Hid (Below w4.heap.size w4 wr)) (fun _ jv _ => n0 - (intOf jv).toNat)
    case atStart => exact ⟨0, Nat.zero_le _, rfl, HOW, Lib.hid (Below.refl _ _)⟩
    case round =>
      obtain ⟨k, hk, rfl, hown, hbw⟩ := hrel
      by_cases hlt : k < n0
      · have q1 := (HAR.out.later hbw.out).cell (show k + 1 < n0 + 1 + gs.length by omega)
        rw [show k + 1 = 1 + k by omega] at q1
        have hA : ldsA lb (n0 + 1 + gs.length) = some ⟨lb, 1, none⟩ := ldsA_far lb (by omega)
        rw [hA]
        cases hf : f (1 + k) with
        | false =>
          rw [hf] at q1
          have HE := Lib.hid (show supL f (k + 1) = supL f k by simp only [supL]; rw [show k + 1 = 1 + k by omega, hf]; rfl)
          clear hf
          go_wp2_with (fail)
          exact ⟨⟨k + 1, by omega, by go_num, by rw [HE.out]; exact hown, hbw⟩, by simp [intOf]; omega⟩
        | true =>
          rw [hf] at q1
          have HE := Lib.hid (show supL f (k + 1) = supL f k ++ [(k : Int)] by simp only [supL]; rw [show k + 1 = 1 + k by omega, hf]; rfl)
          have hba := (Below.refl wr.heap.size wr).alloc (Nat.le_refl _) (.cells #[.int .i64 (k : Int)] 3)
          have ho := hown.out.later hba
          have hsz := Nat.le_trans hbw.out.size hba.size
          have hln := supL_len f k
          obtain ⟨X', cap', w8, hrun, hown8, hgr8⟩ := z_append (w := wr.alloc (.cells #[.int .i64 (k : Int)] 3)) w4.heap.size (supL f k).length u5 _ ho rfl (some ⟨wr.heap.size, 0, none⟩) 1 1 [(k : Int)] rfl (ZRow.one wr _) (by omega) hsz
          have HO8 := Lib.hid (show ZOwn w8 w4.heap.size (.slice X' ((supL f k).length + 1) cap') (supL f (k + 1)) by rw [HE.out]; exact hown8)
          have HB8 := Lib.hid ((hbw.out.trans (hba.mono hbw.out.size)).trans (grown_below hgr8 (own_lo ho) hsz))
          clear hf hba ho hsz hln hown8 hgr8 hown HE
          go_wp2_with (at_builtin; refine app_by rfl _ _ 48 48 rfl _ _ rfl rfl _ _ hrun ?_; intro w9 hw9; obtain rfl := hw9.out)
          first | exact ⟨⟨k + 1, by omega, by go_num, HO8, HB8⟩, by simp [intOf]; omega⟩ | exact ⟨⟨k + 1, by omega, by go_num, HO8⟩, by simp [intOf]; omega⟩
      · obtain rfl : k = n0 := by omega
        obtain ⟨A', c', hu, _, _⟩ := hown.out.form
        subst hu
        have HROW := Lib.hid (own_down hown.out HB4.out.size)
        have HBE := Lib.hid (HB4.out.trans (hbw.out.mono HB4.out.size))
        clear hown
        go_wp2_with (fail)
        go_ret
        rw [HTR.out]
        exact ⟨A', c', rfl, HROW.out, HBE.out⟩
end Go.Proofs.Ytaccienlokoolaa
