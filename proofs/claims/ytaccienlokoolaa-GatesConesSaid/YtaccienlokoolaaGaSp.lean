/- What is proved: Support of package gates, and of its reference. -/
import Derived.Test.YtaccienlokoolaaGaLd
set_option linter.unusedVariables false
set_option linter.unusedSimpArgs false
namespace Go.Proofs.Ytaccienlokoolaa
open Go.RowKit Go.Maps

set_option maxHeartbeats 1000000 in
theorem r_ints_same (A B : Option Addr) (c d : Nat) (xs : List Int) (w : World) (hl : xs.length ≤ 1000) (ha : ZRow w.heap.size w A xs) (hb : ZRow w.heap.size w B xs) : Calls Try.prog 28 #[.slice A xs.length c, .slice B xs.length d] w fun e w' => e = .returned (.bool true) ∧ Below w.heap.size w w' := by
  have HA := Lib.hid ha
  have HB := Lib.hid hb
  have HBR := Lib.hid (Below.refl w.heap.size w)
  clear ha hb
  go_enter Try.func28, Try.ntmps28
  go_wp2_with (fail)
  go_loopw [5] (fun jv wr => ∃ (k : Nat), k ≤ xs.length ∧ jv = .int .i64 (k : Int) ∧ Hid (Below w.heap.size w wr)) (fun jv _ => xs.length - (intOf jv).toNat)
  case atStart => exact ⟨0, Nat.zero_le _, rfl, HBR⟩
  case round =>
    obtain ⟨k, hk, rfl, hbw⟩ := hrel
    by_cases hlt : k < xs.length
    · obtain ⟨a, o, rfl, _, hc⟩ := (HA.out.later hbw.out) (by omega)
      obtain ⟨a2, o2, rfl, _, hc2⟩ := (HB.out.later hbw.out) (by omega)
      have q1 := hc k hlt
      have q2 := hc2 k hlt
      have hnl : ¬ xs.length ≤ k := by omega
      generalize xs[k] = y at *
      clear hc hc2
      go_wp2_with (fail)
      go_quiet (fail)
      go_wp2_with (fail)
      exact ⟨⟨k + 1, by omega, by go_num, Lib.hid (hbw.out.trans ((drewN_below wr nq).mono hbw.out.size))⟩, by simp [intOf]; omega⟩
    · obtain rfl : k = xs.length := by omega
      go_wp2_with (fail)
      go_ret
      exact ⟨rfl, hbw.out⟩
/-- where the leads of the inputs lie -/
def ldsA (lb N : Nat) : Option Addr := if N = 1 then some ⟨lb, 0, none⟩ else some ⟨lb, 1, none⟩
theorem ldsA_far (lb : Nat) {N : Nat} (h : N ≠ 1) : ldsA lb N = some ⟨lb, 1, none⟩ := if_neg h
theorem run_leads (lb N n0 : Nat) (h : 1 + n0 ≤ N) (W : World) : (Instr.slice 47 (.slice (some ⟨lb, 0, none⟩) N N) (some (.int .i64 1)) (some (.int .i64 (1 + (n0 : Int)))) none).run Try.prog W = .ok (.slice (ldsA lb N) n0 (N - 1)) W := by
  obtain ⟨i0, hi0, hz0, hz1, hz2⟩ := info_parts infoBl
  have h1 : ¬ (1 + (n0 : Int) < 1) := by omega
  have h2 : (1 + (n0 : Int)).toNat = 1 + n0 := by omega
  have h3 : (N : Int) < 1 + (n0 : Int) ↔ False := by simp; omega
  have h4 : (0 : Int) ≤ 1 + (n0 : Int) := by omega
  have h5 : 1 + (n0 : Int) ≤ (N : Int) := by omega
  have h6 : (1 : Int) ≤ 1 + (n0 : Int) := by omega
  simp [Instr.slice, run_underlying Try.underlying47, Instr.sliceBounds, Instr.sliceBound, asIntOf, h, h1, h2, h3, h4, h5, h6, sizeOf, typeInfo, hi0, hz1, ldsA, Addr.add]
theorem z_nil (w : World) (B : Nat) : ZOwn w B (.slice none 0 0) [] := World.ownsRow_nil _ _ _ _
/-- what Support answers -/
def supV (I : Int) (gs : List Gt) (ls : List Int) : List Int := if fitB I gs ls = true then supL (ldF (1 + I).toNat gs ls) I.toNat else []
theorem sup_small (f : Nat → Bool) (k : Nat) : ∀ x ∈ supL f k, 0 ≤ x ∧ x < k := fun x hx => by
  obtain ⟨i, rfl, h, _⟩ := (supL_mem k).1 hx
  omega
set_option maxRecDepth 100000 in
set_option maxHeartbeats 8000000 in
theorem support_any (I : Int) (A : Option Addr) (c : Nat) (gs : List Gt) (AL : Option Addr) (cl : Nat) (ls : List Int) (w : World) (hr : GRow w A gs) (hok : ∀ x ∈ gs, GtOk x) (hn : gs.length ≤ 5000) (hz : ZRow w.heap.size w AL ls) (hl : ls.length ≤ 1000000) :
    Calls Try.prog 29 #[.agg #[.int .i64 I, .slice A gs.length c], .slice AL ls.length cl] w fun e w' => ∃ A' c', e = .returned (.slice A' (supV I gs ls).length c') ∧ ZRow w'.heap.size w' A' (supV I gs ls) ∧ Below w.heap.size w w' := by
  have HB1 := Lib.hid ((Below.refl w.heap.size w).alloc (Nat.le_refl _) (.cells #[.int .i64 I, .slice A gs.length c] 30))
  have HBX := Lib.hid (CBx.new w I A gs.length c)
  have HF := Lib.hid (fit_any I A c gs AL cl ls _ (hr.later HB1.out) hok hn (hz.later HB1.out) hl)
  have HZ := Lib.hid hz
  have HR := Lib.hid hr
  clear hz hr hok
  cases hv : fitB I gs ls with
  | false =>
    rw [hv] at HF
    have HSV := Lib.hid (show supV I gs ls = [] from by unfold supV; rw [hv]; rfl)
    clear hv
    go_enter Try.func29, Try.ntmps29
    go_upto_region 1 with fail
    generalize w.alloc (.cells #[.int .i64 I, .slice A gs.length c] 30) = w1 at *
    obtain ⟨b0, b1⟩ := HBX.out.cells
    go_wp2_with (fail)
    refine HF.out.mono ?_
    rintro e w2 ⟨rfl, hb2⟩
    go_wp2_with (fail)
    go_ret
    rw [HSV.out]
    first | exact ⟨none, 0, rfl, ZRow.nil _ _ _, HB1.out.trans (hb2.mono HB1.out.size)⟩ | exact ⟨⟨0, rfl⟩, ZRow.nil _ _ _, HB1.out.trans (hb2.mono HB1.out.size)⟩ | exact ⟨none, ⟨0, rfl⟩, ZRow.nil _ _ _, HB1.out.trans (hb2.mono HB1.out.size)⟩
  | true =>
    rw [hv] at HF
    obtain ⟨⟨hck, hbig⟩, hlits⟩ := fit_iff.1 hv
    obtain ⟨n0, rfl⟩ : ∃ n0 : Nat, I = (n0 : Int) := ⟨I.toNat, by have := hck.lo; omega⟩
    have hn0 : n0 ≤ 1024 := by have := hck.hi; omega
    have e1 : (1 + (n0 : Int)).toNat = n0 + 1 := by omega
    have e2 : ((n0 : Int)).toNat = n0 := by omega
    have HLD := Lib.hid (fun (W : World) (hb : Below w.heap.size w W) => leading_any (n0 : Int) A c gs AL cl ls W (n0 + 1) (by omega) (HR.out.later hb) hck hn (HZ.out.later hb) hl hlits)
    have HTR := Lib.hid (show supV (n0 : Int) gs ls = supL (ldF (n0 + 1) gs ls) n0 from by unfold supV; rw [if_pos hv, e1, e2])
    clear hv hck hbig hlits e1 e2
    generalize ldF (n0 + 1) gs ls = f at *
    go_enter Try.func29, Try.ntmps29
    go_upto_region 1 with fail
    generalize hgw : w.alloc (.cells #[.int .i64 (n0 : Int), .slice A gs.length c] 30) = w1 at *
    clear hgw
    obtain ⟨b0, b1⟩ := HBX.out.cells
    go_wp2_with (fail)
    refine HF.out.mono ?_
    rintro e w2 ⟨rfl, hb2⟩
    have HB2 := Lib.hid (HB1.out.trans (hb2.mono HB1.out.size))
    have HX2 := Lib.hid (HBX.out.later hb2)
    clear hb2 b0 b1 HBX HB1 HF
    go_upto_region 4 with fail
    rename_i K hKK
    have HD := Lib.hid (show Below w2.heap.size w2 w2.drew from (Below.refl _ _).drew)
    have HB3 := Lib.hid (HB2.out.trans (HD.out.mono HB2.out.size))
    have HX3 := Lib.hid (HX2.out.later HD.out)
    have hw1 : IntKind.i64.wrap (1 + (n0 : Int)) = 1 + (n0 : Int) := IntWalk.i64_in _ (by omega)
    clear HD HX2 HB2
    refine wp_region_noPanic ?_
    refine wp_region_held_drew (S := fun w' => w'.cell? ⟨w.heap.size, 0, none⟩ = some (.int .i64 (n0 : Int)) ∧ w'.cell? ⟨w.heap.size, 1, none⟩ = some (.slice A gs.length c)) (by kernel_rfl) HX3.out.cells (fun _ => ?_)
    generalize w2.drew = w3 at *
    refine wpAnyH_take (i := 0) (oi := { dst := some 12, op := Op.load 30 (Operand.tmp 2), type := 30, pos := "gates.go:49", after := #[], guard := none }) (v := .agg #[.int .i64 (n0 : Int), .slice A gs.length c]) rfl (by kernel_rfl) (by kernel_rfl) (by kernel_rfl) (fun _ _ _ h => h) (Or.inl ⟨by rfl, ?_⟩) HX3.out.cells ?_
    · (intro w' hSw; obtain ⟨z0, z1⟩ := hSw; go_simp)
    simp only [Act.put, List.setIfInBounds_toArray, List.set_cons_zero, List.set_cons_succ]
    refine wpAnyH_take (i := 1) (oi := { dst := some 13, op := Op.move (Operand.tmp 1), type := 48, pos := "gates.go:49", after := #[], guard := none }) (v := .slice AL ls.length cl) rfl (by kernel_rfl) (by kernel_rfl) (by kernel_rfl) (fun _ _ _ h => h) (Or.inl ⟨by rfl, ?_⟩) HX3.out.cells ?_
    · (intro w' hSw; go_simp)
    simp only [Act.put, List.setIfInBounds_toArray, List.set_cons_zero, List.set_cons_succ]
    refine wpAnyH_take (i := 3) (oi := { dst := some 15, op := Op.fieldAddr 30 (Operand.tmp 2) 0, type := 0, pos := "gates.go:49", after := #[], guard := none }) (v := .pointer (some ⟨w.heap.size, 0, none⟩)) rfl (by kernel_rfl) (by kernel_rfl) (by kernel_rfl) (fun _ _ _ h => h) (Or.inl ⟨by rfl, ?_⟩) HX3.out.cells ?_
    · (intro w' hSw; go_simp)
    simp only [Act.put, List.setIfInBounds_toArray, List.set_cons_zero, List.set_cons_succ]
    refine wpAnyH_take (i := 4) (oi := { dst := some 16, op := Op.load 3 (Operand.tmp 15), type := 3, pos := "gates.go:49", after := #[{ on := 3, ground := Ground.data }], guard := none }) (v := .int .i64 (n0 : Int)) rfl (by kernel_rfl) (by kernel_rfl) (by kernel_rfl) (fun _ _ _ h => h) (Or.inl ⟨by rfl, ?_⟩) HX3.out.cells ?_
    · (intro w' hSw; obtain ⟨z0, z1⟩ := hSw; go_simp)
    simp only [Act.put, List.setIfInBounds_toArray, List.set_cons_zero, List.set_cons_succ]
    refine wpAnyH_take (i := 5) (oi := { dst := some 17, op := Op.binOp BinOp.add 3 (Operand.const (Value.int IntKind.i64 1)) (Operand.tmp 16) 3, type := 3, pos := "gates.go:49", after := #[{ on := 4, ground := Ground.data }], guard := none }) (v := .int .i64 (1 + (n0 : Int))) rfl (by kernel_rfl) (by kernel_rfl) (by kernel_rfl) (fun _ _ _ h => h) (Or.inl ⟨by rfl, ?_⟩) HX3.out.cells ?_
    · (intro w' hSw; go_simp)
    simp only [Act.put, List.setIfInBounds_toArray, List.set_cons_zero, List.set_cons_succ]
    refine wpAnyH_take (i := 8) (oi := { dst := some 20, op := Op.move (Operand.const (Value.int IntKind.i64 0)), type := 3, pos := "gates.go:49", after := #[], guard := none }) (v := .int .i64 0) rfl (by kernel_rfl) (by kernel_rfl) (by kernel_rfl) (fun _ _ _ h => h) (Or.inl ⟨by rfl, ?_⟩) HX3.out.cells ?_
    · (intro w' hSw; go_simp)
    simp only [Act.put, List.setIfInBounds_toArray, List.set_cons_zero, List.set_cons_succ]
    refine wpAnyH_ready (rs := [2]) (by kernel_rfl) (by simp) (AllReadyH.cons (o := { dst := some 14, op := Op.call { callee := Callee.value (Operand.func 51), args := #[Operand.tmp 12, Operand.tmp 13], argTypes := #[30, 48] }, type := 47, pos := "gates.go:49", after := #[{ on := 0, ground := Ground.data }, { on := 1, ground := Ground.data }], guard := none }) rfl (fun K hK => ?_) AllReadyH.nil)
    go_simp
    go_at_call 51
    refine (HLD.out _ HB3.out).mono ?_
    rintro e w4 ⟨lb, rfl, hlb, harr, hb⟩
    have HB4 := Lib.hid (HB3.out.trans (hb.mono HB3.out.size))
    have HX4 := Lib.hid (HX3.out.later hb)
    have HAR := Lib.hid harr
    clear harr hb hlb
    refine hK.out _ _ HX4.out.cells (fun _ => ?_)
    clear hK K
    try simp only [Act.put, List.setIfInBounds_toArray, List.set_cons_zero, List.set_cons_succ]
    refine wpAnyH_ready (rs := [6]) (by kernel_rfl) (by simp) (AllReadyH.cons (o := { dst := some 18, op := Op.slice 47 (Operand.tmp 14) (some (Operand.const (Value.int IntKind.i64 1))) (some (Operand.tmp 17)) none, type := 47, pos := "gates.go:49", after := #[{ on := 2, ground := Ground.data }, { on := 5, ground := Ground.data }], guard := none }) rfl (fun K hK => ?_) AllReadyH.nil)
    have hsl : ∀ W, (Instr.slice 47 (.slice (some ⟨lb, 0, none⟩) (n0 + 1 + gs.length) (n0 + 1 + gs.length)) (some (.int .i64 1)) (some (.int .i64 (1 + (n0 : Int)))) none).run Try.prog W = .ok (.slice (ldsA lb (n0 + 1 + gs.length)) n0 (n0 + 1 + gs.length - 1)) W := fun W => run_leads lb (n0 + 1 + gs.length) n0 (by omega) W
    go_simp
    refine hK.out _ _ HX4.out.cells (fun _ => ?_)
    clear hK K
    try simp only [Act.put, List.setIfInBounds_toArray, List.set_cons_zero, List.set_cons_succ]
    refine wpAnyH_ready (rs := [7]) (by kernel_rfl) (by simp) (AllReadyH.cons (o := { dst := some 19, op := Op.call { callee := Callee.builtin Builtin.len, args := #[Operand.tmp 18], argTypes := #[47] }, type := 3, pos := "gates.go:49", after := #[{ on := 6, ground := Ground.data }], guard := none }) rfl (fun K hK => ?_) AllReadyH.nil)
    go_simp
    refine hK.out _ _ HX4.out.cells (fun _ => ?_)
    clear hK K
    try simp only [Act.put, List.setIfInBounds_toArray, List.set_cons_zero, List.set_cons_succ]
    refine wpAnyH_done (by kernel_rfl) ?_ _
    refine NoPanic.normal ?_
    have HOW := Lib.hid (z_nil w4 w4.heap.size)
    have HSZ := Lib.hid HB4.out.size
    go_wp2_with (fail)
    go_loopw [5, 20] (fun u jv wr => ∃ (k : Nat), k ≤ n0 ∧ jv = .int .i64 (k : Int) ∧ Hid (ZOwn wr w4.heap.size u (supL f k)) ∧ Hid (Below w4.heap.size w4 wr)) (fun _ jv _ => n0 - (intOf jv).toNat)
    case atStart => exact ⟨0, Nat.zero_le _, rfl, HOW, Lib.hid (Below.refl _ _)⟩
    case round =>
      obtain ⟨k, hk, rfl, hown, hbw⟩ := hrel
      by_cases hlt : k < n0
      · have q1 := (HAR.out.later hbw.out).cell (show k + 1 < n0 + 1 + gs.length by omega)
        rw [show k + 1 = 1 + k by omega] at q1
        have hA : ldsA lb (n0 + 1 + gs.length) = some ⟨lb, 1, none⟩ := ldsA_far lb (by omega)
        rw [hA]
        cases hf : f (1 + k) with
        | false =>
          rw [hf] at q1
          have HE := Lib.hid (show supL f (k + 1) = supL f k by simp only [supL]; rw [show k + 1 = 1 + k by omega, hf]; rfl)
          clear hf
          go_wp2_with (fail)
          exact ⟨⟨k + 1, by omega, by go_num, by rw [HE.out]; exact hown, hbw⟩, by simp [intOf]; omega⟩
        | true =>
          rw [hf] at q1
          have HE := Lib.hid (show supL f (k + 1) = supL f k ++ [(k : Int)] by simp only [supL]; rw [show k + 1 = 1 + k by omega, hf]; rfl)
          have hba := (Below.refl wr.heap.size wr).alloc (Nat.le_refl _) (.cells #[.int .i64 (k : Int)] 3)
          have ho := hown.out.later hba
          have hsz := Nat.le_trans hbw.out.size hba.size
          have hln := supL_len f k
          obtain ⟨X', cap', w8, hrun, hown8, hgr8⟩ := z_append (w := wr.alloc (.cells #[.int .i64 (k : Int)] 3)) w4.heap.size (supL f k).length u5 _ ho rfl (some ⟨wr.heap.size, 0, none⟩) 1 1 [(k : Int)] rfl (ZRow.one wr _) (by omega) hsz
          have HO8 := Lib.hid (show ZOwn w8 w4.heap.size (.slice X' ((supL f k).length + 1) cap') (supL f (k + 1)) by rw [HE.out]; exact hown8)
          have HB8 := Lib.hid ((hbw.out.trans (hba.mono hbw.out.size)).trans (grown_below hgr8 (own_lo ho) hsz))
          clear hf hba ho hsz hln hown8 hgr8 hown HE
          go_wp2_with (at_builtin; refine app_by rfl _ _ 48 48 rfl _ _ rfl rfl _ _ hrun ?_; intro w9 hw9; obtain rfl := hw9.out)
          first | exact ⟨⟨k + 1, by omega, by go_num, HO8, HB8⟩, by simp [intOf]; omega⟩ | exact ⟨⟨k + 1, by omega, by go_num, HO8⟩, by simp [intOf]; omega⟩
      · obtain rfl : k = n0 := by omega
        obtain ⟨A', c', hu, _, _⟩ := hown.out.form
        subst hu
        have HROW := Lib.hid hown.out.row.2.2
        have HBE := Lib.hid (HB4.out.trans (hbw.out.mono HB4.out.size))
        clear hown
        go_wp2_with (fail)
        go_ret
        rw [HTR.out]
        first | exact ⟨A', ⟨c', rfl⟩, HROW.out, HBE.out⟩ | exact ⟨A', c', rfl, HROW.out, HBE.out⟩
theorem sp_ne {w : World} {lb N B : Nat} {f : Nat → Bool} {v : Value} {xs : List Int} (h : BArr w lb N f) (ho : ZOwn w B v xs) : v.ownBlock ≠ some lb := fun e => by
  obtain ⟨cs, hc, _⟩ := h
  obtain ⟨_, _, cs2, hc2⟩ := own_block' ho e
  rw [hc] at hc2
  simp only [Option.some.injEq, Obj.cells.injEq] at hc2
  exact absurd hc2.2.1 (by decide)
theorem hlt' {w : World} {b : Nat} {I : Int} {A : Option Addr} {n c : Nat} (h : CBx w b I A n c) : b < w.heap.size := hlt h
set_option maxRecDepth 100000 in
set_option maxHeartbeats 8000000 in
theorem r_support_any (I : Int) (A : Option Addr) (c : Nat) (gs : List Gt) (AL : Option Addr) (cl : Nat) (ls : List Int) (w : World) (hr : GRow w A gs) (hok : ∀ x ∈ gs, GtOk x) (hn : gs.length ≤ 5000) (hz : ZRow w.heap.size w AL ls) (hl : ls.length ≤ 1000000) :
    Calls Try.prog 30 #[.agg #[.int .i64 I, .slice A gs.length c], .slice AL ls.length cl] w fun e w' => ∃ A' c', e = .returned (.slice A' (supV I gs ls).length c') ∧ ZRow w'.heap.size w' A' (supV I gs ls) ∧ Below w.heap.size w w' := by
  have hb1 := (Below.refl w.heap.size w).alloc (Nat.le_refl _) (.cells #[.int .i64 I, .slice A gs.length c] 30)
  have hb2 := (Below.refl (w.alloc (.cells #[.int .i64 I, .slice A gs.length c] 30)).heap.size _).alloc (Nat.le_refl _) (.cells #[] 3)
  have HB1 := Lib.hid (hb1.trans (hb2.mono hb1.size))
  have HBX := Lib.hid ((CBx.new w I A gs.length c).later hb2)
  have hse : (w.alloc (.cells #[.int .i64 I, .slice A gs.length c] 30)).heap.size = w.heap.size + 1 := by simp
  have HO1 := Lib.hid (show ZOwn ((w.alloc (.cells #[.int .i64 I, .slice A gs.length c] 30)).alloc (.cells #[] 3)) (w.heap.size + 1) (.slice (some ⟨w.heap.size + 1, 0, none⟩) 0 0) [] from ⟨rfl, .inr ⟨w.heap.size + 1, 0, #[], rfl, Nat.le_refl _, by have := heap_alloc_new (w.alloc (.cells #[.int .i64 I, .slice A gs.length c] 30)) (.cells #[] 3); rw [hse] at this; exact this, Nat.le_refl _, by decide, rfl, rfl⟩⟩)
  have HF := Lib.hid (fun (W : World) (hb : Below w.heap.size w W) => r_all_any I A c gs AL cl ls W (hr.later hb) hok hn (hz.later hb) hl)
  have HZ := Lib.hid hz
  have HR := Lib.hid hr
  clear hz hr hok hb1 hb2 hse
  go_enter Try.func30, Try.ntmps30
  go_upto_region 2 with fail
  generalize hgw : (w.alloc (.cells #[.int .i64 I, .slice A gs.length c] 30)).alloc (.cells #[] 3) = w1 at *
  clear hgw
  obtain ⟨b0, b1⟩ := HBX.out.cells
  cases hv : fitB I gs ls with
  | false =>
    have HFF := Lib.hid (HF.out _ HB1.out)
    rw [hv] at HFF
    have HSV := Lib.hid (show supV I gs ls = [] from by unfold supV; rw [hv]; rfl)
    clear hv
    go_wp2_with (fail)
    refine HFF.out.mono ?_
    rintro e w2 ⟨rfl, hb2⟩
    go_wp2_with (fail)
    go_ret
    rw [HSV.out]
    first | exact ⟨some ⟨w.heap.size + 1, 0, none⟩, 0, rfl, ZRow.nil _ _ _, HB1.out.trans (hb2.mono HB1.out.size)⟩ | exact ⟨⟨0, rfl⟩, ZRow.nil _ _ _, HB1.out.trans (hb2.mono HB1.out.size)⟩ | exact ⟨_, ⟨0, rfl⟩, ZRow.nil _ _ _, HB1.out.trans (hb2.mono HB1.out.size)⟩
  | true =>
    have HFF := Lib.hid (HF.out _ HB1.out)
    rw [hv] at HFF
    obtain ⟨⟨hck, hbig⟩, hlits⟩ := fit_iff.1 hv
    obtain ⟨n0, rfl⟩ : ∃ n0 : Nat, I = (n0 : Int) := ⟨I.toNat, by have := hck.lo; omega⟩
    have hn0 : n0 ≤ 1024 := by have := hck.hi; omega
    have HLD := Lib.hid (fun (W : World) (hb : Below w.heap.size w W) => needed_any (n0 : Int) A c gs AL cl ls W (n0 + 1) (by omega) (HR.out.later hb) hck hn (HZ.out.later hb) hl hlits)
    have HTR := Lib.hid (show supV (n0 : Int) gs ls = supL (ldF (n0 + 1) gs ls) n0 from by unfold supV; rw [if_pos hv, show (1 + (n0 : Int)).toNat = n0 + 1 by omega, show ((n0 : Int)).toNat = n0 by omega])
    clear hv hck hbig hlits HF
    go_wp2_with (fail)
    refine HFF.out.mono ?_
    rintro e w2 ⟨rfl, hb2⟩
    have HB2 := Lib.hid (HB1.out.trans (hb2.mono HB1.out.size))
    have HX2 := Lib.hid (HBX.out.later hb2)
    have HO2 := Lib.hid (HO1.out.later hb2)
    clear hb2 b0 b1 HBX HO1 HFF HB1
    obtain ⟨b0, b1⟩ := HX2.out.cells
    go_wp2_with (fail)
    refine (HLD.out _ HB2.out).mono ?_
    rintro e w4 ⟨lb, rfl, hlb, harr, hb⟩
    have HB4 := Lib.hid (HB2.out.trans (hb.mono HB2.out.size))
    have HX4 := Lib.hid (HX2.out.later hb)
    have HAR := Lib.hid harr
    have HO4 := Lib.hid (show ZOwn w4 (w.heap.size + 1) (.slice (some ⟨w.heap.size + 1, 0, none⟩) 0 0) (supL (ldF (n0 + 1) gs ls) 0) from HO2.out.later hb)
    have HLB := Lib.hid (show w.heap.size + 1 < lb from by have := (own_block' HO2.out (b := w.heap.size + 1) rfl).2.1; omega)
    have HLC := Lib.hid (show w.heap.size < lb from by have := HLB.out; omega)
    clear harr hb hlb HX2 HB2 HO2 b0 b1
    generalize ldF (n0 + 1) gs ls = f at *
    obtain ⟨b0, b1⟩ := HX4.out.cells
    go_wp2_with (fail)
    clear b0 b1
    go_loopw [5, 7] (fun u jv wr => ∃ (k : Nat), k ≤ n0 ∧ jv = .int .i64 (k : Int) ∧ Hid (ZOwn wr (w.heap.size + 1) u (supL f k)) ∧ Hid (BArr wr lb (n0 + 1 + gs.length) f) ∧ Hid (CBx wr w.heap.size (n0 : Int) A gs.length c) ∧ Hid (Below w.heap.size w wr)) (fun _ jv _ => n0 - (intOf jv).toNat)
    case atStart => exact ⟨0, Nat.zero_le _, rfl, HO4, HAR, HX4, HB4⟩
    case round =>
      obtain ⟨k, hk, rfl, hown, har, hx, hbw⟩ := hrel
      obtain ⟨b0, b1⟩ := hx.out.cells
      by_cases hlt : k < n0
      · have q1 := har.out.cell (show k + 1 < n0 + 1 + gs.length by omega)
        cases hf : f (k + 1) with
        | false =>
          rw [hf] at q1
          have HE := Lib.hid (show supL f (k + 1) = supL f k by simp only [supL]; rw [hf]; rfl)
          clear hf
          go_wp2_with (fail)
          exact ⟨⟨k + 1, by omega, by go_num, by rw [HE.out]; exact hown, har, hx, hbw⟩, by simp [intOf]; omega⟩
        | true =>
          rw [hf] at q1
          have HE := Lib.hid (show supL f (k + 1) = supL f k ++ [(k : Int)] by simp only [supL]; rw [hf]; rfl)
          have hba := (Below.refl wr.heap.size wr).alloc (Nat.le_refl _) (.cells #[.int .i64 (k : Int)] 3)
          have ho := hown.out.later hba
          have hsz : w.heap.size + 1 ≤ (wr.alloc (.cells #[.int .i64 (k : Int)] 3)).heap.size := by have := hlt' hx.out; have := hba.size; omega
          have hln := supL_len f k
          obtain ⟨X', cap', w8, hrun, hown8, hgr8⟩ := z_append (w := wr.alloc (.cells #[.int .i64 (k : Int)] 3)) (w.heap.size + 1) (supL f k).length u5 _ ho rfl (some ⟨wr.heap.size, 0, none⟩) 1 1 [(k : Int)] rfl (ZRow.one wr _) (by omega) hsz
          have HO8 := Lib.hid (show ZOwn w8 (w.heap.size + 1) (.slice X' ((supL f k).length + 1) cap') (supL f (k + 1)) by rw [HE.out]; exact hown8)
          have hg8 := grown_below hgr8 (own_lo ho) hsz
          have HX8 := Lib.hid (show CBx w8 w.heap.size (n0 : Int) A gs.length c from (hg8.block _ (Nat.lt_succ_self _)).trans (hx.out.later hba))
          have HA8 := Lib.hid (show BArr w8 lb (n0 + 1 + gs.length) f from (har.out.later hba).eq (hgr8.block lb (har.out.later hba).lt (fun e => sp_ne (har.out.later hba) ho e.symm)))
          have HB8 := Lib.hid ((hbw.out.trans (hba.mono hbw.out.size)).trans (grown_below hgr8 (fun b e => Nat.le_trans (Nat.le_succ _) (own_lo ho b e)) (by omega)))
          clear hf hba ho hsz hln hown8 hgr8 hown HE hg8 har hx
          go_wp2_with (at_builtin; refine app_by rfl _ _ 48 48 rfl _ _ rfl rfl _ _ hrun ?_; intro w9 hw9; obtain rfl := hw9.out)
          exact ⟨⟨k + 1, by omega, by go_num, HO8, HA8, HX8, HB8⟩, by simp [intOf]; omega⟩
      · obtain rfl : k = n0 := by omega
        obtain ⟨A', c', hu, _, _⟩ := hown.out.form
        subst hu
        have HROW := Lib.hid hown.out.row.2.2
        clear hown
        go_wp2_with (fail)
        go_ret
        rw [HTR.out]
        first | exact ⟨A', ⟨c', rfl⟩, HROW.out, hbw.out⟩ | exact ⟨A', c', rfl, HROW.out, hbw.out⟩
end Go.Proofs.Ytaccienlokoolaa
