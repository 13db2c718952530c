/- What is proved: the values of what a step of a builder gives; the function that the law GatesMean gives its loop; lists of steps. -/
import Derived.Test.YtaccienlokoolaaGaDo
import Derived.Test.YtaccienlokoolaaGaAwk
set_option linter.unusedVariables false
namespace Go.Proofs.Ytaccienlokoolaa
open Go.RowKit Go.Maps

theorem op_of {e : Int} {ok : Bool} (h : opE e ok = 0) : e = 0 ∧ ok = true := by
  unfold opE at h
  split at h
  · rename_i h0
    refine ⟨h0, ?_⟩
    cases ok with
    | true => rfl
    | false => simp at h
  · rename_i h0; exact absurd h h0
theorem l2_of {I : Int} {gs : List Gt} {o : Op4} (h : l2B I gs o = true) : isLit I gs o.a ∧ isLit I gs o.b := by
  unfold l2B at h
  rw [Bool.and_eq_true] at h
  exact ⟨litB_iff.1 h.1, litB_iff.1 h.2⟩
theorem l3_of {I : Int} {gs : List Gt} {o : Op4} (h : l3B I gs o = true) : isLit I gs o.a ∧ isLit I gs o.b ∧ isLit I gs o.c := by
  unfold l3B at h
  rw [Bool.and_eq_true, Bool.and_eq_true] at h
  exact ⟨litB_iff.1 h.1.1, litB_iff.1 h.1.2, litB_iff.1 h.2⟩
/-- what a step without an error gives -/
structure StV (I : Int) (gs' : List Gt) (z : Int) (o : Op4) : Prop where
  lit : isLit I gs' z
  v0 : o.k = 0 → 0 ≤ o.a ∧ o.a < I ∧ ∀ (inp : List Bool) (hI : (inp.length : Int) = I) (h : o.a.toNat < inp.length), litV (nv inp gs') z = inp[o.a.toNat]
  v1 : o.k = 1 → isLit I gs' o.a ∧ isLit I gs' o.b ∧ ∀ inp : List Bool, (inp.length : Int) = I → litV (nv inp gs') z = (litV (nv inp gs') o.a && litV (nv inp gs') o.b)
  v2 : o.k = 2 → isLit I gs' o.a ∧ isLit I gs' o.b ∧ ∀ inp : List Bool, (inp.length : Int) = I → litV (nv inp gs') z = (litV (nv inp gs') o.a || litV (nv inp gs') o.b)
  v3 : o.k = 3 → isLit I gs' o.a ∧ isLit I gs' o.b ∧ ∀ inp : List Bool, (inp.length : Int) = I → litV (nv inp gs') z = (litV (nv inp gs') o.a != litV (nv inp gs') o.b)
  v4 : o.k ≠ 0 → o.k ≠ 1 → o.k ≠ 2 → o.k ≠ 3 → isLit I gs' o.a ∧ isLit I gs' o.b ∧ isLit I gs' o.c ∧ ∀ inp : List Bool, (inp.length : Int) = I → litV (nv inp gs') z = (if litV (nv inp gs') o.a then litV (nv inp gs') o.b else litV (nv inp gs') o.c)
theorem st_len (I : Int) {gs : List Gt} (h : CkOk I gs) (e : Int) (o : Op4) : (stL I gs e o).length ≤ gs.length + 3 := by
  obtain ⟨s0, s1, s2, s3, s4⟩ := st_k I gs e o
  have hop : ∀ (ok : Bool) (L : List Gt), (ok = true → L.length ≤ gs.length + 3) → (opL e ok gs L).length ≤ gs.length + 3 := fun ok L hL => by
    unfold opL
    split
    · rename_i hc; exact hL hc.2
    · omega
  by_cases k0 : o.k = 0
  · rw [(s0 k0).2.1]; omega
  by_cases k1 : o.k = 1
  · rw [(s1 k1).2.1]; exact hop _ _ fun hok => ((and_ok h (l2_of hok).1 (l2_of hok).2).mono (by omega)).len
  by_cases k2 : o.k = 2
  · rw [(s2 k2).2.1]; exact hop _ _ fun hok => ((or_ok h (l2_of hok).1 (l2_of hok).2).mono (by omega)).len
  by_cases k3 : o.k = 3
  · rw [(s3 k3).2.1]; exact hop _ _ fun hok => (mux_ok h (l2_of hok).1 (l2_of hok).2.not (l2_of hok).2).len
  rw [(s4 k0 k1 k2 k3).2.1]
  exact hop _ _ fun hok => (mux_ok h (l3_of hok).1 (l3_of hok).2.1 (l3_of hok).2.2).len
theorem st_val {I : Int} {gs : List Gt} (h : CkOk I gs) {e : Int} {o : Op4} (he : stE I gs e o = 0) : StV I (stL I gs e o) (stN I gs e o) o := by
  obtain ⟨s0, s1, s2, s3, s4⟩ := st_k I gs e o
  by_cases k0 : o.k = 0
  · obtain ⟨q1, q2, q3⟩ := s0 k0
    rw [q3] at he
    rw [q1, q2]
    have h0 : e = 0 := by
      by_cases h0 : e = 0
      · exact h0
      · rw [if_neg h0] at he; exact absurd he h0
    rw [if_pos h0] at he ⊢
    unfold inE at he
    have hr : ¬ (o.a < 0 ∨ I ≤ o.a) := fun hr => by rw [if_pos hr] at he; cases he
    unfold inN
    rw [if_neg hr]
    refine ⟨by unfold isLit; omega, fun _ => ⟨by omega, by omega, fun inp hI hl => ?_⟩, fun h => by omega, fun h => by omega, fun h => by omega, fun h => by omega⟩
    have := litV_inp gs (inp := inp) hl
    rw [show ((o.a.toNat : Nat) : Int) = o.a by omega] at this
    exact this
  by_cases k1 : o.k = 1
  · obtain ⟨q1, q2, q3⟩ := s1 k1
    rw [q3] at he
    obtain ⟨h0, hok⟩ := op_of he
    obtain ⟨la, lb⟩ := l2_of hok
    rw [q1, q2, hok]
    subst h0
    obtain ⟨e1, e2, _⟩ := op_yes (andN I gs o.a o.b) gs (andL gs o.a o.b)
    rw [e1, e2]
    have r := and_ok h la lb
    refine ⟨r.lit, fun h => by omega, fun _ => ⟨la.more r.grow, lb.more r.grow, fun inp hI => ?_⟩, fun h => by omega, fun h => by omega, fun _ h => by omega⟩
    rw [r.val inp hI, lit_pre hI r.pre la, lit_pre hI r.pre lb]
  by_cases k2 : o.k = 2
  · obtain ⟨q1, q2, q3⟩ := s2 k2
    rw [q3] at he
    obtain ⟨h0, hok⟩ := op_of he
    obtain ⟨la, lb⟩ := l2_of hok
    rw [q1, q2, hok]
    subst h0
    obtain ⟨e1, e2, _⟩ := op_yes (orN I gs o.a o.b) gs (orL gs o.a o.b)
    rw [e1, e2]
    have r := or_ok h la lb
    refine ⟨r.lit, fun h => by omega, fun h => by omega, fun _ => ⟨la.more r.grow, lb.more r.grow, fun inp hI => ?_⟩, fun h => by omega, fun _ _ h => by omega⟩
    rw [r.val inp hI, lit_pre hI r.pre la, lit_pre hI r.pre lb]
  by_cases k3 : o.k = 3
  · obtain ⟨q1, q2, q3⟩ := s3 k3
    rw [q3] at he
    obtain ⟨h0, hok⟩ := op_of he
    obtain ⟨la, lb⟩ := l2_of hok
    rw [q1, q2, hok]
    subst h0
    obtain ⟨e1, e2, _⟩ := op_yes (muxN I gs o.a (notP o.b) o.b) gs (muxL I gs o.a (notP o.b) o.b)
    rw [e1, e2]
    have r := mux_ok h la lb.not lb
    refine ⟨r.lit, fun h => by omega, fun h => by omega, fun h => by omega, fun _ => ⟨la.more r.grow, lb.more r.grow, fun inp hI => ?_⟩, fun _ _ _ h => by omega⟩
    rw [r.val inp hI, lit_pre hI r.pre la, lit_pre hI r.pre lb, litV_not]
    cases litV (nv inp gs) o.a <;> cases litV (nv inp gs) o.b <;> rfl
  obtain ⟨q1, q2, q3⟩ := s4 k0 k1 k2 k3
  rw [q3] at he
  obtain ⟨h0, hok⟩ := op_of he
  obtain ⟨la, lb, lc⟩ := l3_of hok
  rw [q1, q2, hok]
  subst h0
  obtain ⟨e1, e2, _⟩ := op_yes (muxN I gs o.a o.b o.c) gs (muxL I gs o.a o.b o.c)
  rw [e1, e2]
  have r := mux_ok h la lb lc
  refine ⟨r.lit, fun h => absurd h k0, fun h => absurd h k1, fun h => absurd h k2, fun h => absurd h k3, fun _ _ _ _ => ⟨la.more r.grow, lb.more r.grow, lc.more r.grow, fun inp hI => ?_⟩⟩
  rw [r.val inp hI, lit_pre hI r.pre la, lit_pre hI r.pre lb, lit_pre hI r.pre lc]
theorem ev_one {I : Int} {gs : List Gt} {inp : List Bool} {x : Int} (h : CkOk I gs) (hn : gs.length ≤ 5000) (hx : isLit I gs x) (hI : (inp.length : Int) = I) : evL I gs inp [x] = [litV (nv inp gs) x] ∧ evE I gs inp [x] = 0 := by
  have hi := h.hi
  exact ev_yes (fit_iff.2 ⟨⟨h, by omega⟩, fun y hy => by simp at hy; subst hy; exact hx⟩) hI
set_option maxRecDepth 100000 in
set_option maxHeartbeats 4000000 in
theorem mean1_any {w : World} {n₀ bb mb : Nat} {rv : Value} {I : Int} {gs : List Gt} (pb pi : Nat) (AI : Option Addr) (ci : Nat) (inp : List Bool) (x : Int) (h : Bld w n₀ bb mb rv I gs 0) (hb : Bx w pb 24 (.pointer (some ⟨bb, 0, none⟩))) (hp : Bx w pi 47 (.slice AI inp.length ci)) (hi : BRow w AI inp) (hI : (inp.length : Int) = I) (hx : isLit I gs x) :
    Calls Try.prog 31 #[.int .i64 x, .pointer (some ⟨pb, 0, none⟩), .pointer (some ⟨pi, 0, none⟩)] w fun e w' => e = .returned (.bool (litV (nv inp gs) x)) ∧ Below w.heap.size w w' := by
  have hd : Below w.heap.size w w.drew := (Below.refl _ _).drew
  have HB0 := Lib.hid hd
  have HT := Lib.hid (fun (W : World) (hb2 : Below w.heap.size w W) => h.later hb2)
  have HV := Lib.hid (fun (W : World) (hb2 : Below w.heap.size w W) => And.intro (hb.later hb2).cell (hp.later hb2).cell)
  have hi1 := h.ck.hi
  obtain ⟨e1, e2⟩ := ev_one (inp := inp) h.ck h.few hx hI
  have HEV := Lib.hid (fun (W : World) (hb2 : Below w.heap.size w W) X cap ad (hr : GRow W X gs) (hz : ZRow W.heap.size W (some ad) [x]) => show Calls Try.prog 21 #[.agg #[.int .i64 I, .slice X gs.length cap], .slice AI inp.length ci, .slice (some ad) 1 1] W (fun e w' => ∃ A' c', e = .returned (.tuple #[.slice A' 1 c', .int .i64 0]) ∧ BRow w' A' [litV (nv inp gs) x] ∧ Below W.heap.size W w') from by
    have := eval_any I X cap gs AI ci inp (some ad) 1 [x] W hr h.gt h.few (hi.later hb2) (by omega) hz (by simp)
    rw [e1, e2] at this
    exact this)
  clear h hb hp hi hI hx e1 e2 hd
  generalize litV (nv inp gs) x = v at *
  go_enter Try.func31, Try.ntmps31
  go_upto_region 1 with fail
  -- REGION A
  refine wp_region_noPanic ?_
  refine wp_region_held_drew (S := fun w' => w'.cell? ⟨pb, 0, none⟩ = some (.pointer (some ⟨bb, 0, none⟩)) ∧ w'.cell? ⟨pi, 0, none⟩ = some (.slice AI inp.length ci)) (by kernel_rfl) (HV.out _ HB0.out) (fun _ => ?_)
  generalize w.drew = w0 at *
  refine wpAnyH_take (i := 0) (oi := { dst := some 8, op := Op.load 24 (Operand.tmp 1), type := 24, pos := "law.go:97", after := #[], guard := none }) (v := .pointer (some ⟨bb, 0, none⟩)) rfl (by kernel_rfl) (by kernel_rfl) (by kernel_rfl) (fun _ _ _ h => h) (Or.inl ⟨by rfl, ?_⟩) (HV.out _ HB0.out) ?_
  · (intro w' hSw; obtain ⟨z0, z1⟩ := hSw; go_simp)
  simp only [Act.put, List.setIfInBounds_toArray, List.set_cons_zero, List.set_cons_succ]
  refine wpAnyH_take (i := 2) (oi := { dst := some 10, op := Op.load 47 (Operand.tmp 2), type := 47, pos := "law.go:97", after := #[], guard := none }) (v := .slice AI inp.length ci) rfl (by kernel_rfl) (by kernel_rfl) (by kernel_rfl) (fun _ _ _ h => h) (Or.inl ⟨by rfl, ?_⟩) (HV.out _ HB0.out) ?_
  · (intro w' hSw; obtain ⟨z0, z1⟩ := hSw; go_simp)
  simp only [Act.put, List.setIfInBounds_toArray, List.set_cons_zero, List.set_cons_succ]
  refine wpAnyH_take (i := 3) (oi := { dst := some 11, op := Op.move (Operand.tmp 0), type := 3, pos := "law.go:97", after := #[], guard := none }) (v := .int .i64 x) rfl (by kernel_rfl) (by kernel_rfl) (by kernel_rfl) (fun _ _ _ h => h) (Or.inl ⟨by rfl, ?_⟩) (HV.out _ HB0.out) ?_
  · (intro w' hSw; go_simp)
  simp only [Act.put, List.setIfInBounds_toArray, List.set_cons_zero, List.set_cons_succ]
  refine wpAnyH_ready (rs := [1, 4]) (by kernel_rfl) (by simp) (AllReadyH.cons (o := { dst := some 9, op := Op.call { callee := Callee.value (Operand.func 18), args := #[Operand.tmp 8], argTypes := #[24] }, type := 30, pos := "law.go:97", after := #[{ on := 0, ground := Ground.data }], guard := none }) rfl (fun K hK => ?_) (AllReadyH.cons (o := { dst := some 12, op := Op.buildSlice 48 1 #[(0, Operand.tmp 11)], type := 48, pos := "law.go:97", after := #[{ on := 3, ground := Ground.data }], guard := none }) rfl (fun K hK => ?_) AllReadyH.nil))
  · go_simp
    go_at_call 18
    refine (circuit_any (HT.out _ HB0.out)).mono ?_
    rintro e w1 ⟨X, cap, rfl, ho, hb⟩
    have HB1 := Lib.hid (HB0.out.trans (hb.mono HB0.out.size))
    have HO1 := Lib.hid ho
    clear ho hb
    refine hK.out _ _ (HV.out _ HB1.out) (fun _ => ?_)
    clear hK K
    try simp only [Act.put, List.setIfInBounds_toArray, List.set_cons_zero, List.set_cons_succ]
    refine wpAnyH_ready (rs := [4]) (by kernel_rfl) (by simp) (AllReadyH.cons (o := { dst := some 12, op := Op.buildSlice 48 1 #[(0, Operand.tmp 11)], type := 48, pos := "law.go:97", after := #[{ on := 3, ground := Ground.data }], guard := none }) rfl (fun K hK => ?_) AllReadyH.nil)
    have hba := (Below.refl w1.heap.size w1).alloc (Nat.le_refl _) (.cells #[.int .i64 x] 3)
    have HB2 := Lib.hid (HB1.out.trans (hba.mono HB1.out.size))
    have HZ2 := Lib.hid (ZRow.one w1 x)
    have HO2 := Lib.hid (GOwn.later HO1.out hba)
    go_simp
    clear hba
    generalize hgw : (w1.alloc (.cells #[.int .i64 x] 3)) = w2 at *
    clear hgw
    refine hK.out _ _ (HV.out _ HB2.out) (fun _ => ?_)
    clear hK K
    try simp only [Act.put, List.setIfInBounds_toArray, List.set_cons_zero, List.set_cons_succ]
    refine wpAnyH_ready (rs := [5]) (by kernel_rfl) (by simp) (AllReadyH.cons (o := { dst := some 13, op := Op.call { callee := Callee.value (Operand.func 21), args := #[Operand.tmp 9, Operand.tmp 10, Operand.tmp 12], argTypes := #[30, 47, 48] }, type := 49, pos := "law.go:97", after := #[{ on := 1, ground := Ground.data }, { on := 2, ground := Ground.data }, { on := 4, ground := Ground.data }, { on := 1, ground := Ground.chain }], guard := none }) rfl (fun K hK => ?_) AllReadyH.nil)
    obtain ⟨A9, c9, hX9, _, hrow9, _⟩ := HO2.out.form
    injection hX9 with hX9 _ hc9
    subst hX9
    subst hc9
    go_simp
    go_at_call 21
    refine (HEV.out _ HB2.out X cap ⟨w1.heap.size, 0, none⟩ hrow9 HZ2.out).mono ?_
    rintro e w3 ⟨A', c', rfl, hrow, hb⟩
    have HB3 := Lib.hid (HB2.out.trans (hb.mono HB2.out.size))
    have HROW := Lib.hid hrow
    clear hrow hb hrow9
    refine hK.out _ _ (HV.out _ HB3.out) (fun _ => ?_)
    clear hK K
    try simp only [Act.put, List.setIfInBounds_toArray, List.set_cons_zero, List.set_cons_succ]
    refine wpAnyH_take (i := 6) (oi := { dst := some 7, op := Op.move (Operand.tmp 13), type := 49, pos := "law.go:97", after := #[{ on := 5, ground := Ground.data }], guard := none }) (v := .tuple #[.slice A' 1 c', .int .i64 0]) rfl (by kernel_rfl) (by kernel_rfl) (by kernel_rfl) (fun _ _ _ h => h) (Or.inl ⟨by rfl, ?_⟩) (HV.out _ HB3.out) ?_
    · (intro w' hSw; go_simp)
    simp only [Act.put, List.setIfInBounds_toArray, List.set_cons_zero, List.set_cons_succ]
    refine wpAnyH_take (i := 7) (oi := { dst := some 14, op := Op.extract (Operand.tmp 7) 0, type := 47, pos := "law.go:97", after := #[{ on := 6, ground := Ground.data }], guard := none }) (v := .slice A' 1 c') rfl (by kernel_rfl) (by kernel_rfl) (by kernel_rfl) (fun _ _ _ h => h) (Or.inl ⟨by rfl, ?_⟩) (HV.out _ HB3.out) ?_
    · (intro w' hSw; go_simp)
    simp only [Act.put, List.setIfInBounds_toArray, List.set_cons_zero, List.set_cons_succ]
    refine wpAnyH_take (i := 8) (oi := { dst := some 15, op := Op.extract (Operand.tmp 7) 1, type := 25, pos := "law.go:97", after := #[{ on := 6, ground := Ground.data }, { on := 9, ground := Ground.gcOnly Departure.lateStores }], guard := none }) (v := .int .i64 0) rfl (by kernel_rfl) (by kernel_rfl) (by kernel_rfl) (fun _ _ _ h => h) (Or.inl ⟨by rfl, ?_⟩) (HV.out _ HB3.out) ?_
    · (intro w' hSw; go_simp)
    simp only [Act.put, List.setIfInBounds_toArray, List.set_cons_zero, List.set_cons_succ]
    refine wpAnyH_take (i := 9) (oi := { dst := some 5, op := Op.assign (Operand.tmp 14), type := 47, pos := "law.go:97", after := #[{ on := 7, ground := Ground.data }, { on := 5, ground := Ground.chain }, { on := 0, ground := Ground.phase }, { on := 1, ground := Ground.phase }, { on := 2, ground := Ground.phase }, { on := 3, ground := Ground.phase }, { on := 4, ground := Ground.phase }, { on := 5, ground := Ground.phase }, { on := 6, ground := Ground.phase }, { on := 7, ground := Ground.phase }, { on := 8, ground := Ground.textOnly Departure.lateStores }], guard := none }) (v := .slice A' 1 c') rfl (by kernel_rfl) (by kernel_rfl) (by kernel_rfl) (fun _ _ _ h => h) (Or.inl ⟨by rfl, ?_⟩) (HV.out _ HB3.out) ?_
    · (intro w' hSw; go_simp)
    simp only [Act.put, List.setIfInBounds_toArray, List.set_cons_zero, List.set_cons_succ]
    refine wpAnyH_take (i := 10) (oi := { dst := some 6, op := Op.assign (Operand.tmp 15), type := 25, pos := "law.go:97", after := #[{ on := 8, ground := Ground.data }, { on := 9, ground := Ground.chain }, { on := 0, ground := Ground.phase }, { on := 1, ground := Ground.phase }, { on := 2, ground := Ground.phase }, { on := 3, ground := Ground.phase }, { on := 4, ground := Ground.phase }, { on := 5, ground := Ground.phase }, { on := 6, ground := Ground.phase }, { on := 7, ground := Ground.phase }, { on := 8, ground := Ground.phase }, { on := 9, ground := Ground.phase }], guard := none }) (v := .int .i64 0) rfl (by kernel_rfl) (by kernel_rfl) (by kernel_rfl) (fun _ _ _ h => h) (Or.inl ⟨by rfl, ?_⟩) (HV.out _ HB3.out) ?_
    · (intro w' hSw; go_simp)
    simp only [Act.put, List.setIfInBounds_toArray, List.set_cons_zero, List.set_cons_succ]
    refine wpAnyH_done (by kernel_rfl) ?_ _
    refine NoPanic.normal ?_
    obtain ⟨vb, vo, rfl, _, hcell⟩ := HROW.out (by simp)
    have hc0 : w3.cell? ⟨vb, vo, none⟩ = some (.bool v) := hcell 0 (by simp)
    clear hcell
    go_wp2_with (fail)
    go_ret
    exact ⟨rfl, HB3.out⟩
  · have hba := (Below.refl w0.heap.size w0).alloc (Nat.le_refl _) (.cells #[.int .i64 x] 3)
    have HB1 := Lib.hid (HB0.out.trans (hba.mono HB0.out.size))
    have HZ1 := Lib.hid (ZRow.one w0 x)
    go_simp
    clear hba
    generalize hgw : (w0.alloc (.cells #[.int .i64 x] 3)) = w1 at *
    clear hgw
    refine hK.out _ _ (HV.out _ HB1.out) (fun _ => ?_)
    clear hK K
    try simp only [Act.put, List.setIfInBounds_toArray, List.set_cons_zero, List.set_cons_succ]
    refine wpAnyH_ready (rs := [1]) (by kernel_rfl) (by simp) (AllReadyH.cons (o := { dst := some 9, op := Op.call { callee := Callee.value (Operand.func 18), args := #[Operand.tmp 8], argTypes := #[24] }, type := 30, pos := "law.go:97", after := #[{ on := 0, ground := Ground.data }], guard := none }) rfl (fun K hK => ?_) AllReadyH.nil)
    go_simp
    go_at_call 18
    refine (circuit_any (HT.out _ HB1.out)).mono ?_
    rintro e w2 ⟨X, cap, rfl, ho, hb⟩
    have HB2 := Lib.hid (HB1.out.trans (hb.mono HB1.out.size))
    have HO2 := Lib.hid ho
    have HZ2 := Lib.hid (HZ1.out.later hb)
    clear ho hb
    refine hK.out _ _ (HV.out _ HB2.out) (fun _ => ?_)
    clear hK K
    try simp only [Act.put, List.setIfInBounds_toArray, List.set_cons_zero, List.set_cons_succ]
    refine wpAnyH_ready (rs := [5]) (by kernel_rfl) (by simp) (AllReadyH.cons (o := { dst := some 13, op := Op.call { callee := Callee.value (Operand.func 21), args := #[Operand.tmp 9, Operand.tmp 10, Operand.tmp 12], argTypes := #[30, 47, 48] }, type := 49, pos := "law.go:97", after := #[{ on := 1, ground := Ground.data }, { on := 2, ground := Ground.data }, { on := 4, ground := Ground.data }, { on := 1, ground := Ground.chain }], guard := none }) rfl (fun K hK => ?_) AllReadyH.nil)
    obtain ⟨A9, c9, hX9, _, hrow9, _⟩ := HO2.out.form
    injection hX9 with hX9 _ hc9
    subst hX9
    subst hc9
    go_simp
    go_at_call 21
    refine (HEV.out _ HB2.out X cap ⟨w0.heap.size, 0, none⟩ hrow9 HZ2.out).mono ?_
    rintro e w3 ⟨A', c', rfl, hrow, hb⟩
    have HB3 := Lib.hid (HB2.out.trans (hb.mono HB2.out.size))
    have HROW := Lib.hid hrow
    clear hrow hb hrow9
    refine hK.out _ _ (HV.out _ HB3.out) (fun _ => ?_)
    clear hK K
    try simp only [Act.put, List.setIfInBounds_toArray, List.set_cons_zero, List.set_cons_succ]
    refine wpAnyH_take (i := 6) (oi := { dst := some 7, op := Op.move (Operand.tmp 13), type := 49, pos := "law.go:97", after := #[{ on := 5, ground := Ground.data }], guard := none }) (v := .tuple #[.slice A' 1 c', .int .i64 0]) rfl (by kernel_rfl) (by kernel_rfl) (by kernel_rfl) (fun _ _ _ h => h) (Or.inl ⟨by rfl, ?_⟩) (HV.out _ HB3.out) ?_
    · (intro w' hSw; go_simp)
    simp only [Act.put, List.setIfInBounds_toArray, List.set_cons_zero, List.set_cons_succ]
    refine wpAnyH_take (i := 7) (oi := { dst := some 14, op := Op.extract (Operand.tmp 7) 0, type := 47, pos := "law.go:97", after := #[{ on := 6, ground := Ground.data }], guard := none }) (v := .slice A' 1 c') rfl (by kernel_rfl) (by kernel_rfl) (by kernel_rfl) (fun _ _ _ h => h) (Or.inl ⟨by rfl, ?_⟩) (HV.out _ HB3.out) ?_
    · (intro w' hSw; go_simp)
    simp only [Act.put, List.setIfInBounds_toArray, List.set_cons_zero, List.set_cons_succ]
    refine wpAnyH_take (i := 8) (oi := { dst := some 15, op := Op.extract (Operand.tmp 7) 1, type := 25, pos := "law.go:97", after := #[{ on := 6, ground := Ground.data }, { on := 9, ground := Ground.gcOnly Departure.lateStores }], guard := none }) (v := .int .i64 0) rfl (by kernel_rfl) (by kernel_rfl) (by kernel_rfl) (fun _ _ _ h => h) (Or.inl ⟨by rfl, ?_⟩) (HV.out _ HB3.out) ?_
    · (intro w' hSw; go_simp)
    simp only [Act.put, List.setIfInBounds_toArray, List.set_cons_zero, List.set_cons_succ]
    refine wpAnyH_take (i := 9) (oi := { dst := some 5, op := Op.assign (Operand.tmp 14), type := 47, pos := "law.go:97", after := #[{ on := 7, ground := Ground.data }, { on := 5, ground := Ground.chain }, { on := 0, ground := Ground.phase }, { on := 1, ground := Ground.phase }, { on := 2, ground := Ground.phase }, { on := 3, ground := Ground.phase }, { on := 4, ground := Ground.phase }, { on := 5, ground := Ground.phase }, { on := 6, ground := Ground.phase }, { on := 7, ground := Ground.phase }, { on := 8, ground := Ground.textOnly Departure.lateStores }], guard := none }) (v := .slice A' 1 c') rfl (by kernel_rfl) (by kernel_rfl) (by kernel_rfl) (fun _ _ _ h => h) (Or.inl ⟨by rfl, ?_⟩) (HV.out _ HB3.out) ?_
    · (intro w' hSw; go_simp)
    simp only [Act.put, List.setIfInBounds_toArray, List.set_cons_zero, List.set_cons_succ]
    refine wpAnyH_take (i := 10) (oi := { dst := some 6, op := Op.assign (Operand.tmp 15), type := 25, pos := "law.go:97", after := #[{ on := 8, ground := Ground.data }, { on := 9, ground := Ground.chain }, { on := 0, ground := Ground.phase }, { on := 1, ground := Ground.phase }, { on := 2, ground := Ground.phase }, { on := 3, ground := Ground.phase }, { on := 4, ground := Ground.phase }, { on := 5, ground := Ground.phase }, { on := 6, ground := Ground.phase }, { on := 7, ground := Ground.phase }, { on := 8, ground := Ground.phase }, { on := 9, ground := Ground.phase }], guard := none }) (v := .int .i64 0) rfl (by kernel_rfl) (by kernel_rfl) (by kernel_rfl) (fun _ _ _ h => h) (Or.inl ⟨by rfl, ?_⟩) (HV.out _ HB3.out) ?_
    · (intro w' hSw; go_simp)
    simp only [Act.put, List.setIfInBounds_toArray, List.set_cons_zero, List.set_cons_succ]
    refine wpAnyH_done (by kernel_rfl) ?_ _
    refine NoPanic.normal ?_
    obtain ⟨vb, vo, rfl, _, hcell⟩ := HROW.out (by simp)
    have hc0 : w3.cell? ⟨vb, vo, none⟩ = some (.bool v) := hcell 0 (by simp)
    clear hcell
    go_wp2_with (fail)
    go_ret
    exact ⟨rfl, HB3.out⟩
  -- END A
/-- a slice of steps -/
def ORow (w : World) (A : Option Addr) (l : List Op4) : Prop :=
  0 < l.length → ∃ b off, A = some ⟨b, off, none⟩ ∧ b < w.heap.size ∧ ∀ (i : Nat) (h : i < l.length), w.cell? ⟨b, off + i * 4, none⟩ = some (.int .i64 l[i].k) ∧ w.cell? ⟨b, off + i * 4 + 1, none⟩ = some (.int .i64 l[i].a) ∧ w.cell? ⟨b, off + i * 4 + 2, none⟩ = some (.int .i64 l[i].b) ∧ w.cell? ⟨b, off + i * 4 + 3, none⟩ = some (.int .i64 l[i].c)
theorem ORow.later {w w' : World} {A : Option Addr} {l : List Op4} (h : ORow w A l) (hb : Below w.heap.size w w') : ORow w' A l := fun h0 => by
  obtain ⟨b, off, hA, hlt, hc⟩ := h h0
  refine ⟨b, off, hA, Nat.lt_of_lt_of_le hlt hb.size, fun i hi => ?_⟩
  obtain ⟨c0, c1, c2, c3⟩ := hc i hi
  exact ⟨(hb.cell (p := ⟨b, _, none⟩) hlt).trans c0, (hb.cell (p := ⟨b, _, none⟩) hlt).trans c1, (hb.cell (p := ⟨b, _, none⟩) hlt).trans c2, (hb.cell (p := ⟨b, _, none⟩) hlt).trans c3⟩
end Go.Proofs.Ytaccienlokoolaa
