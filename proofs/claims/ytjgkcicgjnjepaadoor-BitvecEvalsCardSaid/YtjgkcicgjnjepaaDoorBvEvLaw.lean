/- What is proved: the law BitvecEvals, over the example's contract. -/
import Derived.Test.YtjgkcicgjnjepaaDoorBvRBld
import Derived.Test.YtjgkcicgjnjepaaDoorBvApp
import Derived.Test.YtjgkcicgjnjepaaDoorBvOpen
import Derived.Test.YtjgkcicgjnjepaaDoorBvInps
set_option linter.unusedVariables false
set_option linter.unusedSimpArgs false
namespace Go.Proofs.YtjgkcicgjnjepaaDoor
open Go.RowKit Go.Maps

theorem inpN_small (l : List Tm) (i : Int) : (inpN l i).length ≤ 1000 := by
  have := List.length_filter_le (fun n => (prtZ l i).any (inpAt l n)) (List.range 24)
  unfold inpN
  simp at this
  omega
set_option maxRecDepth 100000 in
set_option maxHeartbeats 4000000 in
theorem evals_out (W : Int) (A : Option Addr) (c n : Nat) (I : Option Addr) (d m : Nat) (odd : Int) (w : World) (ht : TabS w) (h : (W < 2 ∨ 8 < W) ∨ 40 < n) : Calls Tryd.prog 3 #[.int .i64 W, .slice A n c, .slice I m d, .int .i64 odd] w (VYes w) := by
  have HA := Lib.hid (awake_any w ht)
  by_cases hn : 40 < n
  · have d : decide (40 < (n : Int)) = true := by simp; omega
    clear ht h hn
    go_enter Tryd.func3, Tryd.ntmps3
    go_wp2_with (fail)
    refine HA.out.mono ?_
    rintro e w1 ⟨rfl, hb1⟩
    have HB1 := Lib.hid hb1
    clear hb1
    go_wp2_with (fail)
    go_ret
    exact ⟨rfl, HB1.out⟩
  · have d : decide (40 < (n : Int)) = false := by simp; omega
    have hW : W < 2 ∨ 8 < W := h.elim id (fun h => absurd h hn)
    have HIW := Lib.hid (fun w => r_isWidth_any W w)
    rw [wok_no hW] at HIW
    clear ht h hn hW
    go_enter Tryd.func3, Tryd.ntmps3
    go_wp2_with (fail)
    refine HA.out.mono ?_
    rintro e w1 ⟨rfl, hb1⟩
    have HB1 := Lib.hid hb1
    clear hb1
    go_wp2_with (fail)
    refine (HIW.out _).mono ?_
    rintro e wx ⟨rfl, hx⟩
    obtain rfl := hx.symm
    go_wp2_with (fail)
    go_ret
    exact ⟨rfl, HB1.out⟩
set_option maxRecDepth 100000 in
set_option maxHeartbeats 8000000 in
theorem evals_in (W : Int) (A : Option Addr) (c : Nat) (ns : List Tm) (I : Option Addr) (d : Nat) (inp : List Int) (odd : Int) (w : World) (ht : TabS w) (hr : TRow w A ns) (hok : ∀ x ∈ ns, TmOk x) (hz : ZRow w.heap.size w I inp) (hn : ns.length ≤ 40) (h : ¬ (W < 2 ∨ 8 < W)) : Calls Tryd.prog 3 #[.int .i64 W, .slice A ns.length c, .slice I inp.length d, .int .i64 odd] w (VYes w) := by
  have HA := Lib.hid (awake_any w ht)
  have HIW := Lib.hid (fun w => r_isWidth_any W w)
  rw [wok_yes h] at HIW
  have dn : decide (40 < (ns.length : Int)) = false := by simp; omega
  have HBD := Lib.hid (fun (ws : World) (hb : Below w.heap.size w ws) => build_any W A c ns ws (ht.later hb) h (hr.later hb) hok (by omega))
  have HRB := Lib.hid (fun (ws : World) (hb : Below w.heap.size w ws) => r_build_any W A c ns ws h (hr.later hb) hok (by omega))
  have HT := Lib.hid ht
  have HZ := Lib.hid hz
  have HWW := Lib.hid h
  have hlen := (bld_ok W ns ns.length (Nat.le_refl _)).2
  have HTOK := Lib.hid (bld_ok W ns ns.length (Nat.le_refl _)).1
  rw [List.take_length] at hlen HTOK
  generalize bldL W ns = l at *
  clear ht hr hok hz h
  go_enter Tryd.func3, Tryd.ntmps3
  go_wp2_with (fail)
  refine HA.out.mono ?_
  rintro e w1 ⟨rfl, hb1⟩
  have HB1 := Lib.hid hb1
  clear hb1
  go_wp2_with (fail)
  refine (HIW.out _).mono ?_
  rintro e wx ⟨rfl, hx⟩
  obtain rfl := hx.symm
  go_wp2_with (fail)
  refine (HBD.out w1 HB1.out).mono ?_
  rintro e w2 ⟨tb, mb, rv, rfl, htb, hb2⟩
  have HB2 := Lib.hid (HB1.out.trans (hb2.mono HB1.out.size))
  have HTB2 := Lib.hid htb
  clear hb2 htb HBD
  go_wp2_with (fail)
  refine (HRB.out w2 HB2.out).mono ?_
  rintro e w3 ⟨A3, c3, rfl, hf3, hb3⟩
  have HB3 := Lib.hid (HB2.out.trans (hb3.mono HB2.out.size))
  have HTB3 := Lib.hid (HTB2.out.later hb3)
  have HF3 := Lib.hid hf3
  clear hb3 hf3 HRB HTB2
  have hba := (Below.refl w3.heap.size w3).alloc (Nat.le_refl _) (.cells #[.int .i64 W, .slice A3 l.length c3] 29)
  have HB6 := Lib.hid (HB3.out.trans (hba.mono HB3.out.size))
  have HTB6 := Lib.hid (HTB3.out.later hba)
  have HF6 := Lib.hid (HF3.out.later hba)
  have HR6 := Lib.hid (show RBox (w3.alloc (.cells #[.int .i64 W, .slice A3 l.length c3] 29)) w3.heap.size W A3 l.length c3 from heap_alloc_new w3 _)
  clear hba
  go_upto_region 6 with fail
  generalize w3.alloc (.cells #[.int .i64 W, .slice A3 l.length c3] 29) = w6 at *
  generalize w3.heap.size = rb at *
  generalize w1.heap.size = n₀ at *
  have HCN := Lib.hid (fun ws => counting_any l.length ws (by omega))
  have HLT := Lib.hid (fun (ws : World) (hb : Below w6.heap.size w6 ws) => show ZOwn (ws.alloc (.cells (zcells [odd, -1, (l.length : Int)]).toArray 3)) w6.heap.size (.slice (some ⟨ws.heap.size, 0, none⟩) 3 3) [odd, -1, (l.length : Int)] from z_fresh ws [odd, -1, (l.length : Int)] w6.heap.size 3 hb.size rfl (by simp))
  have HSS := Lib.hid (fun (ws : World) (hb : Below w6.heap.size w6 ws) => show ws.cell? ⟨rb, 0, none⟩ = some (.int .i64 W) ∧ ws.cell? ⟨rb, 1, none⟩ = some (.slice A3 l.length c3) from (HR6.out.later hb).cells)
  have HS6 := Lib.hid (HSS.out w6 (Below.refl _ _))
  have hzl : (zl (List.range l.length)).length = l.length := by rw [zl_len, List.length_range]
  have HZL := Lib.hid hzl
  clear hzl
-- REGION A
  refine wp_region_noPanic ?_
  refine wp_region_held_drew (S := fun w' => w'.cell? ⟨rb, 0, none⟩ = some (.int .i64 W) ∧ w'.cell? ⟨rb, 1, none⟩ = some (.slice A3 l.length c3)) (by kernel_rfl) HS6.out (fun _ => ?_)
  have HG0 := Lib.hid (show Below w6.heap.size w6 w6.drew from (Below.refl _ _).drew)
  have HS0 := Lib.hid (HSS.out _ HG0.out)
  generalize w6.drew = v0 at *
  refine wpAnyH_take (i := 0) (oi := { dst := some 33, op := Op.move (Operand.tmp 3), type := 3, pos := "law.go:80", after := #[], guard := none }) (v := .int .i64 odd) rfl (by kernel_rfl) (by kernel_rfl) (by kernel_rfl) (fun _ _ _ h => h) (Or.inl ⟨by rfl, ?_⟩) HS0.out ?_
  · (intro w' hSw; go_simp)
  simp only [Act.put, List.setIfInBounds_toArray, List.set_cons_zero, List.set_cons_succ]
  refine wpAnyH_take (i := 1) (oi := { dst := some 34, op := Op.fieldAddr 29 (Operand.tmp 10) 1, type := 0, pos := "law.go:80", after := #[], guard := none }) (v := .pointer (some ⟨rb, 1, none⟩)) rfl (by kernel_rfl) (by kernel_rfl) (by kernel_rfl) (fun _ _ _ h => h) (Or.inl ⟨by rfl, ?_⟩) HS0.out ?_
  · (intro w' hSw; go_simp)
  simp only [Act.put, List.setIfInBounds_toArray, List.set_cons_zero, List.set_cons_succ]
  refine wpAnyH_take (i := 2) (oi := { dst := some 35, op := Op.load 22 (Operand.tmp 34), type := 22, pos := "law.go:80", after := #[{ on := 1, ground := Ground.data }], guard := none }) (v := .slice A3 l.length c3) rfl (by kernel_rfl) (by kernel_rfl) (by kernel_rfl) (fun _ _ _ h => h) (Or.inl ⟨by rfl, ?_⟩) HS0.out ?_
  · (intro w' hSw; have z0 := hSw.2; go_simp)
  simp only [Act.put, List.setIfInBounds_toArray, List.set_cons_zero, List.set_cons_succ]
  refine wpAnyH_take (i := 3) (oi := { dst := some 36, op := Op.call { callee := Callee.builtin Builtin.len, args := #[Operand.tmp 35], argTypes := #[22] }, type := 3, pos := "law.go:80", after := #[{ on := 2, ground := Ground.data }], guard := none }) (v := .int .i64 (l.length : Int)) rfl (by kernel_rfl) (by kernel_rfl) (by kernel_rfl) (fun _ _ _ h => h) (Or.inl ⟨by rfl, ?_⟩) HS0.out ?_
  · (intro w' hSw; go_simp)
  simp only [Act.put, List.setIfInBounds_toArray, List.set_cons_zero, List.set_cons_succ]
  refine wpAnyH_take (i := 5) (oi := { dst := some 38, op := Op.fieldAddr 29 (Operand.tmp 10) 1, type := 0, pos := "law.go:80", after := #[], guard := none }) (v := .pointer (some ⟨rb, 1, none⟩)) rfl (by kernel_rfl) (by kernel_rfl) (by kernel_rfl) (fun _ _ _ h => h) (Or.inl ⟨by rfl, ?_⟩) HS0.out ?_
  · (intro w' hSw; go_simp)
  simp only [Act.put, List.setIfInBounds_toArray, List.set_cons_zero, List.set_cons_succ]
  refine wpAnyH_take (i := 6) (oi := { dst := some 39, op := Op.load 22 (Operand.tmp 38), type := 22, pos := "law.go:80", after := #[{ on := 5, ground := Ground.data }], guard := none }) (v := .slice A3 l.length c3) rfl (by kernel_rfl) (by kernel_rfl) (by kernel_rfl) (fun _ _ _ h => h) (Or.inl ⟨by rfl, ?_⟩) HS0.out ?_
  · (intro w' hSw; have z0 := hSw.2; go_simp)
  simp only [Act.put, List.setIfInBounds_toArray, List.set_cons_zero, List.set_cons_succ]
  refine wpAnyH_take (i := 7) (oi := { dst := some 40, op := Op.call { callee := Callee.builtin Builtin.len, args := #[Operand.tmp 39], argTypes := #[22] }, type := 3, pos := "law.go:80", after := #[{ on := 6, ground := Ground.data }], guard := none }) (v := .int .i64 (l.length : Int)) rfl (by kernel_rfl) (by kernel_rfl) (by kernel_rfl) (fun _ _ _ h => h) (Or.inl ⟨by rfl, ?_⟩) HS0.out ?_
  · (intro w' hSw; go_simp)
  simp only [Act.put, List.setIfInBounds_toArray, List.set_cons_zero, List.set_cons_succ]
  refine wpAnyH_take (i := 11) (oi := { dst := some 44, op := Op.move (Operand.const (Value.int IntKind.i64 0)), type := 3, pos := "law.go:80", after := #[], guard := none }) (v := .int .i64 (0 : Int)) rfl (by kernel_rfl) (by kernel_rfl) (by kernel_rfl) (fun _ _ _ h => h) (Or.inl ⟨by rfl, ?_⟩) HS0.out ?_
  · (intro w' hSw; go_simp)
  simp only [Act.put, List.setIfInBounds_toArray, List.set_cons_zero, List.set_cons_succ]
  refine wpAnyH_ready (rs := [4, 8]) (by kernel_rfl) (by simp) (AllReadyH.cons (o := { dst := some 37, op := Op.buildSlice 23 3 #[(0, Operand.tmp 33), (1, Operand.const (Value.int IntKind.i64 (-1))), (2, Operand.tmp 36)], type := 23, pos := "law.go:80", after := #[{ on := 0, ground := Ground.data }, { on := 3, ground := Ground.data }], guard := none }) rfl (fun K hK => ?_) (AllReadyH.cons (o := { dst := some 41, op := Op.call { callee := Callee.value (Operand.func 8), args := #[Operand.tmp 40], argTypes := #[3] }, type := 23, pos := "law.go:80", after := #[{ on := 7, ground := Ground.data }], guard := none }) rfl (fun K hK => ?_) AllReadyH.nil))
  · have HLT1 := Lib.hid (HLT.out v0 HG0.out)
    have hba := (Below.refl v0.heap.size v0).alloc (Nat.le_refl _) (.cells (zcells [odd, -1, (l.length : Int)]).toArray 3)
    have HG1 := Lib.hid (HG0.out.trans (hba.mono HG0.out.size))
    clear hba
    go_simp
    have hwe : v0.alloc (.cells #[.int .i64 odd, .int .i64 (-1), .int .i64 (l.length : Int)] 3) = v0.alloc (.cells (zcells [odd, -1, (l.length : Int)]).toArray 3) := rfl
    rw [hwe]
    clear hwe
    generalize v0.alloc (.cells (zcells [odd, -1, (l.length : Int)]).toArray 3) = v1 at *
    obtain ⟨lb, HLB⟩ : ∃ lb, Hid (v0.heap.size = lb) := ⟨_, Lib.hid rfl⟩
    rw [HLB.out] at HLT1
    rw [HLB.out]
    have HS1 := Lib.hid (HSS.out v1 HG1.out)
    refine hK.out _ _ HS1.out (fun _ => ?_)
    clear hK K
    try simp only [Act.put, List.setIfInBounds_toArray, List.set_cons_zero, List.set_cons_succ]
    refine wpAnyH_ready (rs := [8]) (by kernel_rfl) (by simp) (AllReadyH.cons (o := { dst := some 41, op := Op.call { callee := Callee.value (Operand.func 8), args := #[Operand.tmp 40], argTypes := #[3] }, type := 23, pos := "law.go:80", after := #[{ on := 7, ground := Ground.data }], guard := none }) rfl (fun K hK => ?_) AllReadyH.nil)
    go_simp
    go_at_call 8
    refine (HCN.out _).mono ?_
    rintro e v2 ⟨cv, rfl, hct, hbc⟩
    have HG2 := Lib.hid (HG1.out.trans (hbc.mono HG1.out.size))
    have HLT2 := Lib.hid (ZOwn.later HLT1.out hbc)
    obtain ⟨CA, cc, hcv, hcl, _⟩ := hct.form
    rw [HZL.out] at hcv hcl
    subst hcv
    have HCT2 := Lib.hid (show ZOwn v2 w6.heap.size (.slice CA l.length cc) (zl (List.range l.length)) from own_down hct HG1.out.size)
    have HS2 := Lib.hid (HSS.out v2 HG2.out)
    clear hct hbc
    refine hK.out _ _ HS2.out (fun _ => ?_)
    clear hK K
    try simp only [Act.put, List.setIfInBounds_toArray, List.set_cons_zero, List.set_cons_succ]
    refine wpAnyH_ready (rs := [9]) (by kernel_rfl) (by simp) (AllReadyH.cons (o := { dst := some 42, op := Op.call { callee := Callee.builtin Builtin.append, args := #[Operand.tmp 37, Operand.tmp 41], argTypes := #[23, 23] }, type := 23, pos := "law.go:80", after := #[{ on := 4, ground := Ground.data }, { on := 8, ground := Ground.data }, { on := 8, ground := Ground.chain }], guard := none }) rfl (fun K hK => ?_) AllReadyH.nil)
    obtain ⟨Y, cap, w9, hrun, hown, hgr⟩ := z_append (w := v2) w6.heap.size 3 _ [odd, -1, (l.length : Int)] HLT2.out rfl CA cc l.length (zl (List.range l.length)) HZL.out.symm (HCT2.out.row.2.2) (by omega) HG2.out.size
    have HX9 := Lib.hid hown
    have HG9 := Lib.hid (HG2.out.trans (ap_below hgr (own_lo HLT2.out) HG2.out.size))
    have HRUN := Lib.hid hrun
    clear hown hgr hrun
    refine step_app_by (by rfl) _ _ 23 23 (by rfl) _ _ (by rfl) (by rfl) _ _ HRUN.out ?_
    intro w8 hw8
    obtain rfl := hw8.out
    clear hw8
    have HS9 := Lib.hid (HSS.out w8 HG9.out)
    refine hK.out _ _ HS9.out (fun _ => ?_)
    clear hK K
    try simp only [Act.put, List.setIfInBounds_toArray, List.set_cons_zero, List.set_cons_succ]
    refine wpAnyH_take (i := 10) (oi := { dst := some 43, op := Op.call { callee := Callee.builtin Builtin.len, args := #[Operand.tmp 42], argTypes := #[23] }, type := 3, pos := "law.go:80", after := #[{ on := 9, ground := Ground.data }], guard := none }) (v := .int .i64 (3 + l.length : Nat)) rfl (by kernel_rfl) (by kernel_rfl) (by kernel_rfl) (fun _ _ _ h => h) (Or.inl ⟨by rfl, ?_⟩) HS9.out ?_
    · (intro w' hSw; go_simp)
    simp only [Act.put, List.setIfInBounds_toArray, List.set_cons_zero, List.set_cons_succ]
    refine wpAnyH_done (by kernel_rfl) ?_ _
    refine NoPanic.normal ?_
    generalize hix : [odd, -1, (l.length : Int)] ++ zl (List.range l.length) = ix at *
    have HIXL := Lib.hid (show ix.length = 3 + l.length by rw [← hix, List.length_append, zl_len, List.length_range]; rfl)
    clear hix
    have HZ9 := Lib.hid (show ZRow w8.heap.size w8 Y ix from HX9.out.row.2.2)
    have HTL := Lib.hid (fun (ws : World) (hb : Below w6.heap.size w6 ws) => show Tab ws n₀ tb mb rv W l ∧ TabS ws ∧ TRow ws A3 l from ⟨HTB6.out.later hb, (HT.out.later HB6.out).later hb, (HF6.out.later hb).1⟩)
    have HIL := Lib.hid (fun (x : Int) => show (inpN l x).length ≤ 1000 from inpN_small l x)
    go_wp2_with (fail)
    go_loopw [44] (fun jv wr => ∃ (k : Nat), k ≤ 3 + l.length ∧ jv = .int .i64 (k : Int) ∧ Hid (Below w8.heap.size w8 wr)) (fun jv _ => 3 + l.length - (intOf jv).toNat)
    case atStart => exact ⟨0, Nat.zero_le _, rfl, Lib.hid (Below.refl _ _)⟩
    case round =>
      obtain ⟨k, hk, rfl, hbw⟩ := hrel
      have HGR := Lib.hid (HG9.out.trans (hbw.out.mono HG9.out.size))
      by_cases hlt' : k < 3 + l.length
      · obtain ⟨yb, yo, hY, _, hcs⟩ := (HZ9.out.below hbw.out) (by have := HIXL.out; omega)
        have r0 := hcs k (by have := HIXL.out; omega)
        have g1 : ¬ 3 + l.length ≤ k := by omega
        subst hY
        generalize ix[k]'(by have := HIXL.out; omega) = x at *
        clear hcs
        have HEV := Lib.hid (eval_any x I d inp (HTL.out wr HGR.out).1 (HTL.out wr HGR.out).2.1 HWW.out ((HZ.out.later HB6.out).later HGR.out))
        have HIL := Lib.hid (HIL.out x)
        go_wp2_with (fail)
        refine HEV.out.mono ?_
        rintro e w10 ⟨rfl, hb10⟩
        have HG10 := Lib.hid (HGR.out.trans (hb10.mono HGR.out.size))
        have HBW10 := Lib.hid (hbw.out.trans (hb10.mono hbw.out.size))
        have HRV := Lib.hid (r_eval_any A3 c3 x I d inp (HTL.out w10 HG10.out).2.2 HTOK.out HWW.out ((HZ.out.later HB6.out).later HG10.out) (by omega))
        obtain ⟨y0, y1⟩ := HSS.out w10 HG10.out
        clear hb10 r0 HEV
        obtain ⟨pv, HPV⟩ : ∃ pv, Hid ((evP W l x inp).1 = pv) := ⟨_, Lib.hid rfl⟩
        obtain ⟨pe, HPE⟩ : ∃ pe, Hid ((evP W l x inp).2 = pe) := ⟨_, Lib.hid rfl⟩
        rw [HPV.out, HPE.out] at HRV
        rw [HPV.out, HPE.out]
        go_wp2_with (fail)
        refine HRV.out.mono ?_
        rintro e w11 ⟨rfl, hb11⟩
        have HG11 := Lib.hid (HG10.out.trans (hb11.mono HG10.out.size))
        have HBW11 := Lib.hid (HBW10.out.trans (hb11.mono HBW10.out.size))
        have HSQ := Lib.hid (HSS.out w11 HG11.out)
        clear hb11 y0 y1 HRV
        go_upto_region 11 with fail
        refine wp_region_noPanic ?_
        refine wp_region_held_drew (S := fun w' => w'.cell? ⟨rb, 0, none⟩ = some (.int .i64 W) ∧ w'.cell? ⟨rb, 1, none⟩ = some (.slice A3 l.length c3)) (by kernel_rfl) HSQ.out (fun _ => ?_)
        have HG0x := Lib.hid (show Below w6.heap.size w6 w11.drew from HG11.out.drew)
        have HW0x := Lib.hid (show Below w8.heap.size w8 w11.drew from HBW11.out.drew)
        have HS0x := Lib.hid (HSS.out _ HG0x.out)
        generalize w11.drew = u0 at *
        refine wpAnyH_take (i := 0) (oi := { dst := some 62, op := Op.move (Operand.tmp 13), type := 3, pos := "law.go:83", after := #[], guard := none }) (v := .int .i64 pv) rfl (by kernel_rfl) (by kernel_rfl) (by kernel_rfl) (fun _ _ _ h => h) (Or.inl ⟨by rfl, ?_⟩) HS0x.out ?_
        · (intro w' hSw; go_simp)
        simp only [Act.put, List.setIfInBounds_toArray, List.set_cons_zero, List.set_cons_succ]
        refine wpAnyH_take (i := 1) (oi := { dst := some 63, op := Op.move (Operand.tmp 15), type := 3, pos := "law.go:83", after := #[], guard := none }) (v := .int .i64 pv) rfl (by kernel_rfl) (by kernel_rfl) (by kernel_rfl) (fun _ _ _ h => h) (Or.inl ⟨by rfl, ?_⟩) HS0x.out ?_
        · (intro w' hSw; go_simp)
        simp only [Act.put, List.setIfInBounds_toArray, List.set_cons_zero, List.set_cons_succ]
        refine wpAnyH_take (i := 2) (oi := { dst := some 64, op := Op.binOp BinOp.neq 3 (Operand.tmp 62) (Operand.tmp 63) 3, type := 4, pos := "law.go:83", after := #[{ on := 0, ground := Ground.data }, { on := 1, ground := Ground.data }], guard := none }) (v := .bool false) rfl (by kernel_rfl) (by kernel_rfl) (by kernel_rfl) (fun _ _ _ h => h) (Or.inl ⟨by rfl, ?_⟩) HS0x.out ?_
        · (intro w' hSw; go_simp)
        simp only [Act.put, List.setIfInBounds_toArray, List.set_cons_zero, List.set_cons_succ]
        refine wpAnyH_take (i := 3) (oi := { dst := some 65, op := Op.move (Operand.tmp 64), type := 4, pos := "law.go:83", after := #[{ on := 2, ground := Ground.data }], guard := none }) (v := .bool false) rfl (by kernel_rfl) (by kernel_rfl) (by kernel_rfl) (fun _ _ _ h => h) (Or.inl ⟨by rfl, ?_⟩) HS0x.out ?_
        · (intro w' hSw; go_simp)
        simp only [Act.put, List.setIfInBounds_toArray, List.set_cons_zero, List.set_cons_succ]
        refine wpAnyH_take (i := 4) (oi := { dst := some 66, op := Op.move (Operand.tmp 14), type := 32, pos := "law.go:83", after := #[{ on := 3, ground := Ground.guard }], guard := some (3, false) }) (v := .int .i64 pe) rfl (by kernel_rfl) (by kernel_rfl) (by kernel_rfl) (fun _ _ _ h => h) (Or.inl ⟨by rfl, ?_⟩) HS0x.out ?_
        · (intro w' hSw; go_simp)
        simp only [Act.put, List.setIfInBounds_toArray, List.set_cons_zero, List.set_cons_succ]
        refine wpAnyH_take (i := 5) (oi := { dst := some 67, op := Op.move (Operand.tmp 16), type := 32, pos := "law.go:83", after := #[{ on := 3, ground := Ground.guard }], guard := some (3, false) }) (v := .int .i64 pe) rfl (by kernel_rfl) (by kernel_rfl) (by kernel_rfl) (fun _ _ _ h => h) (Or.inl ⟨by rfl, ?_⟩) HS0x.out ?_
        · (intro w' hSw; go_simp)
        simp only [Act.put, List.setIfInBounds_toArray, List.set_cons_zero, List.set_cons_succ]
        refine wpAnyH_take (i := 6) (oi := { dst := some 68, op := Op.binOp BinOp.neq 32 (Operand.tmp 66) (Operand.tmp 67) 32, type := 4, pos := "law.go:83", after := #[{ on := 4, ground := Ground.data }, { on := 5, ground := Ground.data }, { on := 3, ground := Ground.guard }], guard := some (3, false) }) (v := .bool false) rfl (by kernel_rfl) (by kernel_rfl) (by kernel_rfl) (fun _ _ _ h => h) (Or.inl ⟨by rfl, ?_⟩) HS0x.out ?_
        · (intro w' hSw; go_simp)
        simp only [Act.put, List.setIfInBounds_toArray, List.set_cons_zero, List.set_cons_succ]
        refine wpAnyH_take (i := 7) (oi := { dst := some 69, op := Op.pick (Operand.tmp 65) (Operand.const (Value.bool true)) (Operand.tmp 68), type := 4, pos := "law.go:83", after := #[{ on := 3, ground := Ground.data }, { on := 6, ground := Ground.data }], guard := none }) (v := .bool false) rfl (by kernel_rfl) (by kernel_rfl) (by kernel_rfl) (fun _ _ _ h => h) (Or.inl ⟨by rfl, ?_⟩) HS0x.out ?_
        · (intro w' hSw; go_simp)
        simp only [Act.put, List.setIfInBounds_toArray, List.set_cons_zero, List.set_cons_succ]
        refine wpAnyH_take (i := 8) (oi := { dst := some 70, op := Op.move (Operand.tmp 69), type := 4, pos := "law.go:83", after := #[{ on := 7, ground := Ground.data }, { on := 3, ground := Ground.chain }], guard := none }) (v := .bool false) rfl (by kernel_rfl) (by kernel_rfl) (by kernel_rfl) (fun _ _ _ h => h) (Or.inl ⟨by rfl, ?_⟩) HS0x.out ?_
        · (intro w' hSw; go_simp)
        simp only [Act.put, List.setIfInBounds_toArray, List.set_cons_zero, List.set_cons_succ]
        refine wpAnyH_take (i := 9) (oi := { dst := some 71, op := Op.move (Operand.tmp 9), type := 26, pos := "law.go:83", after := #[{ on := 8, ground := Ground.guard }], guard := some (8, false) }) (v := .pointer (some ⟨tb, 0, none⟩)) rfl (by kernel_rfl) (by kernel_rfl) (by kernel_rfl) (fun _ _ _ h => h) (Or.inl ⟨by rfl, ?_⟩) HS0x.out ?_
        · (intro w' hSw; go_simp)
        simp only [Act.put, List.setIfInBounds_toArray, List.set_cons_zero, List.set_cons_succ]
        refine wpAnyH_take (i := 10) (oi := { dst := some 72, op := Op.move (Operand.tmp 12), type := 3, pos := "law.go:83", after := #[{ on := 8, ground := Ground.guard }], guard := some (8, false) }) (v := .int .i64 x) rfl (by kernel_rfl) (by kernel_rfl) (by kernel_rfl) (fun _ _ _ h => h) (Or.inl ⟨by rfl, ?_⟩) HS0x.out ?_
        · (intro w' hSw; go_simp)
        simp only [Act.put, List.setIfInBounds_toArray, List.set_cons_zero, List.set_cons_succ]
        refine wpAnyH_take (i := 12) (oi := { dst := some 74, op := Op.load 29 (Operand.tmp 10), type := 29, pos := "law.go:83", after := #[{ on := 8, ground := Ground.guard }], guard := some (8, false) }) (v := .agg #[.int .i64 W, .slice A3 l.length c3]) rfl (by kernel_rfl) (by kernel_rfl) (by kernel_rfl) (fun _ _ _ h => h) (Or.inl ⟨by rfl, ?_⟩) HS0x.out ?_
        · (intro w' hSw; obtain ⟨z0, z1⟩ := hSw; go_simp)
        simp only [Act.put, List.setIfInBounds_toArray, List.set_cons_zero, List.set_cons_succ]
        refine wpAnyH_take (i := 13) (oi := { dst := some 75, op := Op.move (Operand.tmp 12), type := 3, pos := "law.go:83", after := #[{ on := 8, ground := Ground.guard }], guard := some (8, false) }) (v := .int .i64 x) rfl (by kernel_rfl) (by kernel_rfl) (by kernel_rfl) (fun _ _ _ h => h) (Or.inl ⟨by rfl, ?_⟩) HS0x.out ?_
        · (intro w' hSw; go_simp)
        simp only [Act.put, List.setIfInBounds_toArray, List.set_cons_zero, List.set_cons_succ]
        refine wpAnyH_ready (rs := [11]) (by kernel_rfl) (by simp) (AllReadyH.cons (o := { dst := some 73, op := Op.call { callee := Callee.value (Operand.func 12), args := #[Operand.tmp 71, Operand.tmp 72], argTypes := #[26, 3] }, type := 23, pos := "law.go:83", after := #[{ on := 9, ground := Ground.data }, { on := 10, ground := Ground.data }, { on := 8, ground := Ground.chain }, { on := 8, ground := Ground.guard }], guard := some (8, false) }) rfl (fun K hK => ?_) AllReadyH.nil)
        go_simp
        go_at_call 12
        refine ((inputs_any x (HTL.out u0 HG0x.out).1 (HTL.out u0 HG0x.out).2.1)).mono ?_
        rintro e u1 ⟨IA, ic, rfl, hio, hbu⟩
        have HW1x := Lib.hid (HW0x.out.trans (hbu.mono HW0x.out.size))
        have HG1x := Lib.hid (HG9.out.trans (HW1x.out.mono HG9.out.size))
        have HI1 := Lib.hid (show ZRow u1.heap.size u1 IA (zl (inpN l x)) from hio.row.2.2)
        clear hio
        have HS1x := Lib.hid (HSS.out u1 HG1x.out)
        clear hbu
        refine hK.out _ _ HS1x.out (fun _ => ?_)
        clear hK K
        try simp only [Act.put, List.setIfInBounds_toArray, List.set_cons_zero, List.set_cons_succ]
        refine wpAnyH_ready (rs := [14]) (by kernel_rfl) (by simp) (AllReadyH.cons (o := { dst := some 76, op := Op.call { callee := Callee.value (Operand.func 13), args := #[Operand.tmp 74, Operand.tmp 75], argTypes := #[29, 3] }, type := 23, pos := "law.go:83", after := #[{ on := 12, ground := Ground.data }, { on := 13, ground := Ground.data }, { on := 11, ground := Ground.chain }, { on := 8, ground := Ground.guard }], guard := some (8, false) }) rfl (fun K hK => ?_) AllReadyH.nil)
        go_simp
        go_at_call 13
        refine ((r_inputs_any A3 c3 x (HTL.out u1 HG1x.out).2.2 HTOK.out (by omega))).mono ?_
        rintro e u2 ⟨iv, rfl, hio, hbu⟩
        have HW2x := Lib.hid (HW1x.out.trans (hbu.mono HW1x.out.size))
        have HG2x := Lib.hid (HG9.out.trans (HW2x.out.mono HG9.out.size))
        obtain ⟨JA, jc, hjv, _, _⟩ := hio.form
        rw [zl_len] at hjv
        subst hjv
        have HI2 := Lib.hid (show ZRow u2.heap.size u2 JA (zl (inpN l x)) from by have := hio.row.2.2; exact this)
        have HI1 := Lib.hid (HI1.out.later hbu)
        clear hio
        have HIS := Lib.hid (r_ints_same IA JA ic jc (zl (inpN l x)) u2 (by rw [zl_len]; exact HIL.out) HI1.out HI2.out)
        rw [zl_len] at HIS
        have HS2x := Lib.hid (HSS.out u2 HG2x.out)
        clear hbu
        refine hK.out _ _ HS2x.out (fun _ => ?_)
        clear hK K
        try simp only [Act.put, List.setIfInBounds_toArray, List.set_cons_zero, List.set_cons_succ]
        refine wpAnyH_ready (rs := [15]) (by kernel_rfl) (by simp) (AllReadyH.cons (o := { dst := some 77, op := Op.call { callee := Callee.value (Operand.func 11), args := #[Operand.tmp 73, Operand.tmp 76], argTypes := #[23, 23] }, type := 4, pos := "law.go:83", after := #[{ on := 11, ground := Ground.data }, { on := 14, ground := Ground.data }, { on := 14, ground := Ground.chain }, { on := 8, ground := Ground.guard }], guard := some (8, false) }) rfl (fun K hK => ?_) AllReadyH.nil)
        go_simp
        go_at_call 11
        refine (HIS.out).mono ?_
        rintro e u3 ⟨rfl, hbu⟩
        have HW3x := Lib.hid (HW2x.out.trans (hbu.mono HW2x.out.size))
        have HG3x := Lib.hid (HG9.out.trans (HW3x.out.mono HG9.out.size))
        have HS3x := Lib.hid (HSS.out u3 HG3x.out)
        clear hbu
        refine hK.out _ _ HS3x.out (fun _ => ?_)
        clear hK K
        try simp only [Act.put, List.setIfInBounds_toArray, List.set_cons_zero, List.set_cons_succ]
        refine wpAnyH_take (i := 16) (oi := { dst := some 78, op := Op.unOp UnOp.not 4 (Operand.tmp 77), type := 4, pos := "law.go:83", after := #[{ on := 15, ground := Ground.data }, { on := 8, ground := Ground.guard }], guard := some (8, false) }) (v := .bool false) rfl (by kernel_rfl) (by kernel_rfl) (by kernel_rfl) (fun _ _ _ h => h) (Or.inl ⟨by rfl, ?_⟩) HS3x.out ?_
        · (intro w' hSw; go_simp)
        simp only [Act.put, List.setIfInBounds_toArray, List.set_cons_zero, List.set_cons_succ]
        refine wpAnyH_take (i := 17) (oi := { dst := some 79, op := Op.pick (Operand.tmp 70) (Operand.const (Value.bool true)) (Operand.tmp 78), type := 4, pos := "law.go:83", after := #[{ on := 8, ground := Ground.data }, { on := 16, ground := Ground.data }], guard := none }) (v := .bool false) rfl (by kernel_rfl) (by kernel_rfl) (by kernel_rfl) (fun _ _ _ h => h) (Or.inl ⟨by rfl, ?_⟩) HS3x.out ?_
        · (intro w' hSw; go_simp)
        simp only [Act.put, List.setIfInBounds_toArray, List.set_cons_zero, List.set_cons_succ]
        refine wpAnyH_take (i := 18) (oi := { dst := some 80, op := Op.move (Operand.tmp 79), type := 4, pos := "law.go:83", after := #[{ on := 17, ground := Ground.data }, { on := 15, ground := Ground.chain }], guard := none }) (v := .bool false) rfl (by kernel_rfl) (by kernel_rfl) (by kernel_rfl) (fun _ _ _ h => h) (Or.inl ⟨by rfl, ?_⟩) HS3x.out ?_
        · (intro w' hSw; go_simp)
        simp only [Act.put, List.setIfInBounds_toArray, List.set_cons_zero, List.set_cons_succ]
        refine wpAnyH_take (i := 19) (oi := { dst := some 81, op := Op.move (Operand.tmp 9), type := 26, pos := "law.go:83", after := #[{ on := 18, ground := Ground.guard }], guard := some (18, false) }) (v := .pointer (some ⟨tb, 0, none⟩)) rfl (by kernel_rfl) (by kernel_rfl) (by kernel_rfl) (fun _ _ _ h => h) (Or.inl ⟨by rfl, ?_⟩) HS3x.out ?_
        · (intro w' hSw; go_simp)
        simp only [Act.put, List.setIfInBounds_toArray, List.set_cons_zero, List.set_cons_succ]
        refine wpAnyH_take (i := 20) (oi := { dst := some 82, op := Op.move (Operand.tmp 12), type := 3, pos := "law.go:83", after := #[{ on := 18, ground := Ground.guard }], guard := some (18, false) }) (v := .int .i64 x) rfl (by kernel_rfl) (by kernel_rfl) (by kernel_rfl) (fun _ _ _ h => h) (Or.inl ⟨by rfl, ?_⟩) HS3x.out ?_
        · (intro w' hSw; go_simp)
        simp only [Act.put, List.setIfInBounds_toArray, List.set_cons_zero, List.set_cons_succ]
        refine wpAnyH_take (i := 22) (oi := { dst := some 84, op := Op.load 29 (Operand.tmp 10), type := 29, pos := "law.go:83", after := #[{ on := 18, ground := Ground.guard }], guard := some (18, false) }) (v := .agg #[.int .i64 W, .slice A3 l.length c3]) rfl (by kernel_rfl) (by kernel_rfl) (by kernel_rfl) (fun _ _ _ h => h) (Or.inl ⟨by rfl, ?_⟩) HS3x.out ?_
        · (intro w' hSw; obtain ⟨z0, z1⟩ := hSw; go_simp)
        simp only [Act.put, List.setIfInBounds_toArray, List.set_cons_zero, List.set_cons_succ]
        refine wpAnyH_take (i := 23) (oi := { dst := some 85, op := Op.move (Operand.tmp 12), type := 3, pos := "law.go:83", after := #[{ on := 18, ground := Ground.guard }], guard := some (18, false) }) (v := .int .i64 x) rfl (by kernel_rfl) (by kernel_rfl) (by kernel_rfl) (fun _ _ _ h => h) (Or.inl ⟨by rfl, ?_⟩) HS3x.out ?_
        · (intro w' hSw; go_simp)
        simp only [Act.put, List.setIfInBounds_toArray, List.set_cons_zero, List.set_cons_succ]
        refine wpAnyH_ready (rs := [21]) (by kernel_rfl) (by simp) (AllReadyH.cons (o := { dst := some 83, op := Op.call { callee := Callee.value (Operand.func 14), args := #[Operand.tmp 81, Operand.tmp 82], argTypes := #[26, 3] }, type := 3, pos := "law.go:83", after := #[{ on := 19, ground := Ground.data }, { on := 20, ground := Ground.data }, { on := 18, ground := Ground.chain }, { on := 18, ground := Ground.guard }], guard := some (18, false) }) rfl (fun K hK => ?_) AllReadyH.nil)
        go_simp
        go_at_call 14
        refine ((size_any x (HTL.out u3 HG3x.out).1 (HTL.out u3 HG3x.out).2.1)).mono ?_
        rintro e u4 ⟨rfl, hbu⟩
        have HW4x := Lib.hid (HW3x.out.trans (hbu.mono HW3x.out.size))
        have HG4x := Lib.hid (HG9.out.trans (HW4x.out.mono HG9.out.size))
        have HS4x := Lib.hid (HSS.out u4 HG4x.out)
        clear hbu
        refine hK.out _ _ HS4x.out (fun _ => ?_)
        clear hK K
        try simp only [Act.put, List.setIfInBounds_toArray, List.set_cons_zero, List.set_cons_succ]
        refine wpAnyH_ready (rs := [24]) (by kernel_rfl) (by simp) (AllReadyH.cons (o := { dst := some 86, op := Op.call { callee := Callee.value (Operand.func 15), args := #[Operand.tmp 84, Operand.tmp 85], argTypes := #[29, 3] }, type := 3, pos := "law.go:83", after := #[{ on := 22, ground := Ground.data }, { on := 23, ground := Ground.data }, { on := 21, ground := Ground.chain }, { on := 18, ground := Ground.guard }], guard := some (18, false) }) rfl (fun K hK => ?_) AllReadyH.nil)
        go_simp
        go_at_call 15
        refine ((r_size_any A3 c3 x (HTL.out u4 HG4x.out).2.2 HTOK.out (by omega))).mono ?_
        rintro e u5 ⟨rfl, hbu⟩
        have HW5x := Lib.hid (HW4x.out.trans (hbu.mono HW4x.out.size))
        have HG5x := Lib.hid (HG9.out.trans (HW5x.out.mono HG9.out.size))
        have HS5x := Lib.hid (HSS.out u5 HG5x.out)
        clear hbu
        refine hK.out _ _ HS5x.out (fun _ => ?_)
        clear hK K
        try simp only [Act.put, List.setIfInBounds_toArray, List.set_cons_zero, List.set_cons_succ]
        refine wpAnyH_take (i := 25) (oi := { dst := some 87, op := Op.binOp BinOp.neq 3 (Operand.tmp 83) (Operand.tmp 86) 3, type := 4, pos := "law.go:83", after := #[{ on := 21, ground := Ground.data }, { on := 24, ground := Ground.data }, { on := 18, ground := Ground.guard }], guard := some (18, false) }) (v := .bool false) rfl (by kernel_rfl) (by kernel_rfl) (by kernel_rfl) (fun _ _ _ h => h) (Or.inl ⟨by rfl, ?_⟩) HS5x.out ?_
        · (intro w' hSw; go_simp)
        simp only [Act.put, List.setIfInBounds_toArray, List.set_cons_zero, List.set_cons_succ]
        refine wpAnyH_take (i := 26) (oi := { dst := some 88, op := Op.pick (Operand.tmp 80) (Operand.const (Value.bool true)) (Operand.tmp 87), type := 4, pos := "law.go:83", after := #[{ on := 18, ground := Ground.data }, { on := 25, ground := Ground.data }], guard := none }) (v := .bool false) rfl (by kernel_rfl) (by kernel_rfl) (by kernel_rfl) (fun _ _ _ h => h) (Or.inl ⟨by rfl, ?_⟩) HS5x.out ?_
        · (intro w' hSw; go_simp)
        simp only [Act.put, List.setIfInBounds_toArray, List.set_cons_zero, List.set_cons_succ]
        refine wpAnyH_done (by kernel_rfl) ?_ _
        refine NoPanic.normal ?_
        go_wp2_with (fail)
        refine ⟨?_, by simp [intOf]; omega⟩
        repeat apply Exists.intro (α := Value)
        refine And.intro ?_ rfl
        exact ⟨k + 1, by omega, by go_num, HW5x⟩
      · obtain rfl : k = 3 + l.length := by omega
        go_wp2_with (fail)
        go_ret
        exact ⟨rfl, HB6.out.trans (HGR.out.mono HB6.out.size)⟩
    
  · go_simp
    go_at_call 8
    refine (HCN.out _).mono ?_
    rintro e v1 ⟨cv, rfl, hct, hbc⟩
    have HG1 := Lib.hid (HG0.out.trans (hbc.mono HG0.out.size))
    obtain ⟨CA, cc, hcv, hcl, _⟩ := hct.form
    rw [HZL.out] at hcv hcl
    subst hcv
    have HCT1 := Lib.hid (show ZOwn v1 w6.heap.size (.slice CA l.length cc) (zl (List.range l.length)) from own_down hct HG0.out.size)
    have HS1 := Lib.hid (HSS.out v1 HG1.out)
    clear hct hbc
    refine hK.out _ _ HS1.out (fun _ => ?_)
    clear hK K
    try simp only [Act.put, List.setIfInBounds_toArray, List.set_cons_zero, List.set_cons_succ]
    refine wpAnyH_ready (rs := [4]) (by kernel_rfl) (by simp) (AllReadyH.cons (o := { dst := some 37, op := Op.buildSlice 23 3 #[(0, Operand.tmp 33), (1, Operand.const (Value.int IntKind.i64 (-1))), (2, Operand.tmp 36)], type := 23, pos := "law.go:80", after := #[{ on := 0, ground := Ground.data }, { on := 3, ground := Ground.data }], guard := none }) rfl (fun K hK => ?_) AllReadyH.nil)
    have HLT2 := Lib.hid (HLT.out v1 HG1.out)
    have hba := (Below.refl v1.heap.size v1).alloc (Nat.le_refl _) (.cells (zcells [odd, -1, (l.length : Int)]).toArray 3)
    have HG2 := Lib.hid (HG1.out.trans (hba.mono HG1.out.size))
    have HCT2 := Lib.hid (ZOwn.later HCT1.out hba)
    clear hba
    go_simp
    have hwe : v1.alloc (.cells #[.int .i64 odd, .int .i64 (-1), .int .i64 (l.length : Int)] 3) = v1.alloc (.cells (zcells [odd, -1, (l.length : Int)]).toArray 3) := rfl
    rw [hwe]
    clear hwe
    generalize v1.alloc (.cells (zcells [odd, -1, (l.length : Int)]).toArray 3) = v2 at *
    obtain ⟨lb, HLB⟩ : ∃ lb, Hid (v1.heap.size = lb) := ⟨_, Lib.hid rfl⟩
    rw [HLB.out] at HLT2
    rw [HLB.out]
    have HS2 := Lib.hid (HSS.out v2 HG2.out)
    refine hK.out _ _ HS2.out (fun _ => ?_)
    clear hK K
    try simp only [Act.put, List.setIfInBounds_toArray, List.set_cons_zero, List.set_cons_succ]
    refine wpAnyH_ready (rs := [9]) (by kernel_rfl) (by simp) (AllReadyH.cons (o := { dst := some 42, op := Op.call { callee := Callee.builtin Builtin.append, args := #[Operand.tmp 37, Operand.tmp 41], argTypes := #[23, 23] }, type := 23, pos := "law.go:80", after := #[{ on := 4, ground := Ground.data }, { on := 8, ground := Ground.data }, { on := 8, ground := Ground.chain }], guard := none }) rfl (fun K hK => ?_) AllReadyH.nil)
    obtain ⟨Y, cap, w9, hrun, hown, hgr⟩ := z_append (w := v2) w6.heap.size 3 _ [odd, -1, (l.length : Int)] HLT2.out rfl CA cc l.length (zl (List.range l.length)) HZL.out.symm (HCT2.out.row.2.2) (by omega) HG2.out.size
    have HX9 := Lib.hid hown
    have HG9 := Lib.hid (HG2.out.trans (ap_below hgr (own_lo HLT2.out) HG2.out.size))
    have HRUN := Lib.hid hrun
    clear hown hgr hrun
    refine step_app_by (by rfl) _ _ 23 23 (by rfl) _ _ (by rfl) (by rfl) _ _ HRUN.out ?_
    intro w8 hw8
    obtain rfl := hw8.out
    clear hw8
    have HS9 := Lib.hid (HSS.out w8 HG9.out)
    refine hK.out _ _ HS9.out (fun _ => ?_)
    clear hK K
    try simp only [Act.put, List.setIfInBounds_toArray, List.set_cons_zero, List.set_cons_succ]
    refine wpAnyH_take (i := 10) (oi := { dst := some 43, op := Op.call { callee := Callee.builtin Builtin.len, args := #[Operand.tmp 42], argTypes := #[23] }, type := 3, pos := "law.go:80", after := #[{ on := 9, ground := Ground.data }], guard := none }) (v := .int .i64 (3 + l.length : Nat)) rfl (by kernel_rfl) (by kernel_rfl) (by kernel_rfl) (fun _ _ _ h => h) (Or.inl ⟨by rfl, ?_⟩) HS9.out ?_
    · (intro w' hSw; go_simp)
    simp only [Act.put, List.setIfInBounds_toArray, List.set_cons_zero, List.set_cons_succ]
    refine wpAnyH_done (by kernel_rfl) ?_ _
    refine NoPanic.normal ?_
    generalize hix : [odd, -1, (l.length : Int)] ++ zl (List.range l.length) = ix at *
    have HIXL := Lib.hid (show ix.length = 3 + l.length by rw [← hix, List.length_append, zl_len, List.length_range]; rfl)
    clear hix
    have HZ9 := Lib.hid (show ZRow w8.heap.size w8 Y ix from HX9.out.row.2.2)
    have HTL := Lib.hid (fun (ws : World) (hb : Below w6.heap.size w6 ws) => show Tab ws n₀ tb mb rv W l ∧ TabS ws ∧ TRow ws A3 l from ⟨HTB6.out.later hb, (HT.out.later HB6.out).later hb, (HF6.out.later hb).1⟩)
    have HIL := Lib.hid (fun (x : Int) => show (inpN l x).length ≤ 1000 from inpN_small l x)
    go_wp2_with (fail)
    go_loopw [44] (fun jv wr => ∃ (k : Nat), k ≤ 3 + l.length ∧ jv = .int .i64 (k : Int) ∧ Hid (Below w8.heap.size w8 wr)) (fun jv _ => 3 + l.length - (intOf jv).toNat)
    case atStart => exact ⟨0, Nat.zero_le _, rfl, Lib.hid (Below.refl _ _)⟩
    case round =>
      obtain ⟨k, hk, rfl, hbw⟩ := hrel
      have HGR := Lib.hid (HG9.out.trans (hbw.out.mono HG9.out.size))
      by_cases hlt' : k < 3 + l.length
      · obtain ⟨yb, yo, hY, _, hcs⟩ := (HZ9.out.below hbw.out) (by have := HIXL.out; omega)
        have r0 := hcs k (by have := HIXL.out; omega)
        have g1 : ¬ 3 + l.length ≤ k := by omega
        subst hY
        generalize ix[k]'(by have := HIXL.out; omega) = x at *
        clear hcs
        have HEV := Lib.hid (eval_any x I d inp (HTL.out wr HGR.out).1 (HTL.out wr HGR.out).2.1 HWW.out ((HZ.out.later HB6.out).later HGR.out))
        have HIL := Lib.hid (HIL.out x)
        go_wp2_with (fail)
        refine HEV.out.mono ?_
        rintro e w10 ⟨rfl, hb10⟩
        have HG10 := Lib.hid (HGR.out.trans (hb10.mono HGR.out.size))
        have HBW10 := Lib.hid (hbw.out.trans (hb10.mono hbw.out.size))
        have HRV := Lib.hid (r_eval_any A3 c3 x I d inp (HTL.out w10 HG10.out).2.2 HTOK.out HWW.out ((HZ.out.later HB6.out).later HG10.out) (by omega))
        obtain ⟨y0, y1⟩ := HSS.out w10 HG10.out
        clear hb10 r0 HEV
        obtain ⟨pv, HPV⟩ : ∃ pv, Hid ((evP W l x inp).1 = pv) := ⟨_, Lib.hid rfl⟩
        obtain ⟨pe, HPE⟩ : ∃ pe, Hid ((evP W l x inp).2 = pe) := ⟨_, Lib.hid rfl⟩
        rw [HPV.out, HPE.out] at HRV
        rw [HPV.out, HPE.out]
        go_wp2_with (fail)
        refine HRV.out.mono ?_
        rintro e w11 ⟨rfl, hb11⟩
        have HG11 := Lib.hid (HG10.out.trans (hb11.mono HG10.out.size))
        have HBW11 := Lib.hid (HBW10.out.trans (hb11.mono HBW10.out.size))
        have HSQ := Lib.hid (HSS.out w11 HG11.out)
        clear hb11 y0 y1 HRV
        go_upto_region 11 with fail
        refine wp_region_noPanic ?_
        refine wp_region_held_drew (S := fun w' => w'.cell? ⟨rb, 0, none⟩ = some (.int .i64 W) ∧ w'.cell? ⟨rb, 1, none⟩ = some (.slice A3 l.length c3)) (by kernel_rfl) HSQ.out (fun _ => ?_)
        have HG0x := Lib.hid (show Below w6.heap.size w6 w11.drew from HG11.out.drew)
        have HW0x := Lib.hid (show Below w8.heap.size w8 w11.drew from HBW11.out.drew)
        have HS0x := Lib.hid (HSS.out _ HG0x.out)
        generalize w11.drew = u0 at *
        refine wpAnyH_take (i := 0) (oi := { dst := some 62, op := Op.move (Operand.tmp 13), type := 3, pos := "law.go:83", after := #[], guard := none }) (v := .int .i64 pv) rfl (by kernel_rfl) (by kernel_rfl) (by kernel_rfl) (fun _ _ _ h => h) (Or.inl ⟨by rfl, ?_⟩) HS0x.out ?_
        · (intro w' hSw; go_simp)
        simp only [Act.put, List.setIfInBounds_toArray, List.set_cons_zero, List.set_cons_succ]
        refine wpAnyH_take (i := 1) (oi := { dst := some 63, op := Op.move (Operand.tmp 15), type := 3, pos := "law.go:83", after := #[], guard := none }) (v := .int .i64 pv) rfl (by kernel_rfl) (by kernel_rfl) (by kernel_rfl) (fun _ _ _ h => h) (Or.inl ⟨by rfl, ?_⟩) HS0x.out ?_
        · (intro w' hSw; go_simp)
        simp only [Act.put, List.setIfInBounds_toArray, List.set_cons_zero, List.set_cons_succ]
        refine wpAnyH_take (i := 2) (oi := { dst := some 64, op := Op.binOp BinOp.neq 3 (Operand.tmp 62) (Operand.tmp 63) 3, type := 4, pos := "law.go:83", after := #[{ on := 0, ground := Ground.data }, { on := 1, ground := Ground.data }], guard := none }) (v := .bool false) rfl (by kernel_rfl) (by kernel_rfl) (by kernel_rfl) (fun _ _ _ h => h) (Or.inl ⟨by rfl, ?_⟩) HS0x.out ?_
        · (intro w' hSw; go_simp)
        simp only [Act.put, List.setIfInBounds_toArray, List.set_cons_zero, List.set_cons_succ]
        refine wpAnyH_take (i := 3) (oi := { dst := some 65, op := Op.move (Operand.tmp 64), type := 4, pos := "law.go:83", after := #[{ on := 2, ground := Ground.data }], guard := none }) (v := .bool false) rfl (by kernel_rfl) (by kernel_rfl) (by kernel_rfl) (fun _ _ _ h => h) (Or.inl ⟨by rfl, ?_⟩) HS0x.out ?_
        · (intro w' hSw; go_simp)
        simp only [Act.put, List.setIfInBounds_toArray, List.set_cons_zero, List.set_cons_succ]
        refine wpAnyH_take (i := 4) (oi := { dst := some 66, op := Op.move (Operand.tmp 14), type := 32, pos := "law.go:83", after := #[{ on := 3, ground := Ground.guard }], guard := some (3, false) }) (v := .int .i64 pe) rfl (by kernel_rfl) (by kernel_rfl) (by kernel_rfl) (fun _ _ _ h => h) (Or.inl ⟨by rfl, ?_⟩) HS0x.out ?_
        · (intro w' hSw; go_simp)
        simp only [Act.put, List.setIfInBounds_toArray, List.set_cons_zero, List.set_cons_succ]
        refine wpAnyH_take (i := 5) (oi := { dst := some 67, op := Op.move (Operand.tmp 16), type := 32, pos := "law.go:83", after := #[{ on := 3, ground := Ground.guard }], guard := some (3, false) }) (v := .int .i64 pe) rfl (by kernel_rfl) (by kernel_rfl) (by kernel_rfl) (fun _ _ _ h => h) (Or.inl ⟨by rfl, ?_⟩) HS0x.out ?_
        · (intro w' hSw; go_simp)
        simp only [Act.put, List.setIfInBounds_toArray, List.set_cons_zero, List.set_cons_succ]
        refine wpAnyH_take (i := 6) (oi := { dst := some 68, op := Op.binOp BinOp.neq 32 (Operand.tmp 66) (Operand.tmp 67) 32, type := 4, pos := "law.go:83", after := #[{ on := 4, ground := Ground.data }, { on := 5, ground := Ground.data }, { on := 3, ground := Ground.guard }], guard := some (3, false) }) (v := .bool false) rfl (by kernel_rfl) (by kernel_rfl) (by kernel_rfl) (fun _ _ _ h => h) (Or.inl ⟨by rfl, ?_⟩) HS0x.out ?_
        · (intro w' hSw; go_simp)
        simp only [Act.put, List.setIfInBounds_toArray, List.set_cons_zero, List.set_cons_succ]
        refine wpAnyH_take (i := 7) (oi := { dst := some 69, op := Op.pick (Operand.tmp 65) (Operand.const (Value.bool true)) (Operand.tmp 68), type := 4, pos := "law.go:83", after := #[{ on := 3, ground := Ground.data }, { on := 6, ground := Ground.data }], guard := none }) (v := .bool false) rfl (by kernel_rfl) (by kernel_rfl) (by kernel_rfl) (fun _ _ _ h => h) (Or.inl ⟨by rfl, ?_⟩) HS0x.out ?_
        · (intro w' hSw; go_simp)
        simp only [Act.put, List.setIfInBounds_toArray, List.set_cons_zero, List.set_cons_succ]
        refine wpAnyH_take (i := 8) (oi := { dst := some 70, op := Op.move (Operand.tmp 69), type := 4, pos := "law.go:83", after := #[{ on := 7, ground := Ground.data }, { on := 3, ground := Ground.chain }], guard := none }) (v := .bool false) rfl (by kernel_rfl) (by kernel_rfl) (by kernel_rfl) (fun _ _ _ h => h) (Or.inl ⟨by rfl, ?_⟩) HS0x.out ?_
        · (intro w' hSw; go_simp)
        simp only [Act.put, List.setIfInBounds_toArray, List.set_cons_zero, List.set_cons_succ]
        refine wpAnyH_take (i := 9) (oi := { dst := some 71, op := Op.move (Operand.tmp 9), type := 26, pos := "law.go:83", after := #[{ on := 8, ground := Ground.guard }], guard := some (8, false) }) (v := .pointer (some ⟨tb, 0, none⟩)) rfl (by kernel_rfl) (by kernel_rfl) (by kernel_rfl) (fun _ _ _ h => h) (Or.inl ⟨by rfl, ?_⟩) HS0x.out ?_
        · (intro w' hSw; go_simp)
        simp only [Act.put, List.setIfInBounds_toArray, List.set_cons_zero, List.set_cons_succ]
        refine wpAnyH_take (i := 10) (oi := { dst := some 72, op := Op.move (Operand.tmp 12), type := 3, pos := "law.go:83", after := #[{ on := 8, ground := Ground.guard }], guard := some (8, false) }) (v := .int .i64 x) rfl (by kernel_rfl) (by kernel_rfl) (by kernel_rfl) (fun _ _ _ h => h) (Or.inl ⟨by rfl, ?_⟩) HS0x.out ?_
        · (intro w' hSw; go_simp)
        simp only [Act.put, List.setIfInBounds_toArray, List.set_cons_zero, List.set_cons_succ]
        refine wpAnyH_take (i := 12) (oi := { dst := some 74, op := Op.load 29 (Operand.tmp 10), type := 29, pos := "law.go:83", after := #[{ on := 8, ground := Ground.guard }], guard := some (8, false) }) (v := .agg #[.int .i64 W, .slice A3 l.length c3]) rfl (by kernel_rfl) (by kernel_rfl) (by kernel_rfl) (fun _ _ _ h => h) (Or.inl ⟨by rfl, ?_⟩) HS0x.out ?_
        · (intro w' hSw; obtain ⟨z0, z1⟩ := hSw; go_simp)
        simp only [Act.put, List.setIfInBounds_toArray, List.set_cons_zero, List.set_cons_succ]
        refine wpAnyH_take (i := 13) (oi := { dst := some 75, op := Op.move (Operand.tmp 12), type := 3, pos := "law.go:83", after := #[{ on := 8, ground := Ground.guard }], guard := some (8, false) }) (v := .int .i64 x) rfl (by kernel_rfl) (by kernel_rfl) (by kernel_rfl) (fun _ _ _ h => h) (Or.inl ⟨by rfl, ?_⟩) HS0x.out ?_
        · (intro w' hSw; go_simp)
        simp only [Act.put, List.setIfInBounds_toArray, List.set_cons_zero, List.set_cons_succ]
        refine wpAnyH_ready (rs := [11]) (by kernel_rfl) (by simp) (AllReadyH.cons (o := { dst := some 73, op := Op.call { callee := Callee.value (Operand.func 12), args := #[Operand.tmp 71, Operand.tmp 72], argTypes := #[26, 3] }, type := 23, pos := "law.go:83", after := #[{ on := 9, ground := Ground.data }, { on := 10, ground := Ground.data }, { on := 8, ground := Ground.chain }, { on := 8, ground := Ground.guard }], guard := some (8, false) }) rfl (fun K hK => ?_) AllReadyH.nil)
        go_simp
        go_at_call 12
        refine ((inputs_any x (HTL.out u0 HG0x.out).1 (HTL.out u0 HG0x.out).2.1)).mono ?_
        rintro e u1 ⟨IA, ic, rfl, hio, hbu⟩
        have HW1x := Lib.hid (HW0x.out.trans (hbu.mono HW0x.out.size))
        have HG1x := Lib.hid (HG9.out.trans (HW1x.out.mono HG9.out.size))
        have HI1 := Lib.hid (show ZRow u1.heap.size u1 IA (zl (inpN l x)) from hio.row.2.2)
        clear hio
        have HS1x := Lib.hid (HSS.out u1 HG1x.out)
        clear hbu
        refine hK.out _ _ HS1x.out (fun _ => ?_)
        clear hK K
        try simp only [Act.put, List.setIfInBounds_toArray, List.set_cons_zero, List.set_cons_succ]
        refine wpAnyH_ready (rs := [14]) (by kernel_rfl) (by simp) (AllReadyH.cons (o := { dst := some 76, op := Op.call { callee := Callee.value (Operand.func 13), args := #[Operand.tmp 74, Operand.tmp 75], argTypes := #[29, 3] }, type := 23, pos := "law.go:83", after := #[{ on := 12, ground := Ground.data }, { on := 13, ground := Ground.data }, { on := 11, ground := Ground.chain }, { on := 8, ground := Ground.guard }], guard := some (8, false) }) rfl (fun K hK => ?_) AllReadyH.nil)
        go_simp
        go_at_call 13
        refine ((r_inputs_any A3 c3 x (HTL.out u1 HG1x.out).2.2 HTOK.out (by omega))).mono ?_
        rintro e u2 ⟨iv, rfl, hio, hbu⟩
        have HW2x := Lib.hid (HW1x.out.trans (hbu.mono HW1x.out.size))
        have HG2x := Lib.hid (HG9.out.trans (HW2x.out.mono HG9.out.size))
        obtain ⟨JA, jc, hjv, _, _⟩ := hio.form
        rw [zl_len] at hjv
        subst hjv
        have HI2 := Lib.hid (show ZRow u2.heap.size u2 JA (zl (inpN l x)) from by have := hio.row.2.2; exact this)
        have HI1 := Lib.hid (HI1.out.later hbu)
        clear hio
        have HIS := Lib.hid (r_ints_same IA JA ic jc (zl (inpN l x)) u2 (by rw [zl_len]; exact HIL.out) HI1.out HI2.out)
        rw [zl_len] at HIS
        have HS2x := Lib.hid (HSS.out u2 HG2x.out)
        clear hbu
        refine hK.out _ _ HS2x.out (fun _ => ?_)
        clear hK K
        try simp only [Act.put, List.setIfInBounds_toArray, List.set_cons_zero, List.set_cons_succ]
        refine wpAnyH_ready (rs := [15]) (by kernel_rfl) (by simp) (AllReadyH.cons (o := { dst := some 77, op := Op.call { callee := Callee.value (Operand.func 11), args := #[Operand.tmp 73, Operand.tmp 76], argTypes := #[23, 23] }, type := 4, pos := "law.go:83", after := #[{ on := 11, ground := Ground.data }, { on := 14, ground := Ground.data }, { on := 14, ground := Ground.chain }, { on := 8, ground := Ground.guard }], guard := some (8, false) }) rfl (fun K hK => ?_) AllReadyH.nil)
        go_simp
        go_at_call 11
        refine (HIS.out).mono ?_
        rintro e u3 ⟨rfl, hbu⟩
        have HW3x := Lib.hid (HW2x.out.trans (hbu.mono HW2x.out.size))
        have HG3x := Lib.hid (HG9.out.trans (HW3x.out.mono HG9.out.size))
        have HS3x := Lib.hid (HSS.out u3 HG3x.out)
        clear hbu
        refine hK.out _ _ HS3x.out (fun _ => ?_)
        clear hK K
        try simp only [Act.put, List.setIfInBounds_toArray, List.set_cons_zero, List.set_cons_succ]
        refine wpAnyH_take (i := 16) (oi := { dst := some 78, op := Op.unOp UnOp.not 4 (Operand.tmp 77), type := 4, pos := "law.go:83", after := #[{ on := 15, ground := Ground.data }, { on := 8, ground := Ground.guard }], guard := some (8, false) }) (v := .bool false) rfl (by kernel_rfl) (by kernel_rfl) (by kernel_rfl) (fun _ _ _ h => h) (Or.inl ⟨by rfl, ?_⟩) HS3x.out ?_
        · (intro w' hSw; go_simp)
        simp only [Act.put, List.setIfInBounds_toArray, List.set_cons_zero, List.set_cons_succ]
        refine wpAnyH_take (i := 17) (oi := { dst := some 79, op := Op.pick (Operand.tmp 70) (Operand.const (Value.bool true)) (Operand.tmp 78), type := 4, pos := "law.go:83", after := #[{ on := 8, ground := Ground.data }, { on := 16, ground := Ground.data }], guard := none }) (v := .bool false) rfl (by kernel_rfl) (by kernel_rfl) (by kernel_rfl) (fun _ _ _ h => h) (Or.inl ⟨by rfl, ?_⟩) HS3x.out ?_
        · (intro w' hSw; go_simp)
        simp only [Act.put, List.setIfInBounds_toArray, List.set_cons_zero, List.set_cons_succ]
        refine wpAnyH_take (i := 18) (oi := { dst := some 80, op := Op.move (Operand.tmp 79), type := 4, pos := "law.go:83", after := #[{ on := 17, ground := Ground.data }, { on := 15, ground := Ground.chain }], guard := none }) (v := .bool false) rfl (by kernel_rfl) (by kernel_rfl) (by kernel_rfl) (fun _ _ _ h => h) (Or.inl ⟨by rfl, ?_⟩) HS3x.out ?_
        · (intro w' hSw; go_simp)
        simp only [Act.put, List.setIfInBounds_toArray, List.set_cons_zero, List.set_cons_succ]
        refine wpAnyH_take (i := 19) (oi := { dst := some 81, op := Op.move (Operand.tmp 9), type := 26, pos := "law.go:83", after := #[{ on := 18, ground := Ground.guard }], guard := some (18, false) }) (v := .pointer (some ⟨tb, 0, none⟩)) rfl (by kernel_rfl) (by kernel_rfl) (by kernel_rfl) (fun _ _ _ h => h) (Or.inl ⟨by rfl, ?_⟩) HS3x.out ?_
        · (intro w' hSw; go_simp)
        simp only [Act.put, List.setIfInBounds_toArray, List.set_cons_zero, List.set_cons_succ]
        refine wpAnyH_take (i := 20) (oi := { dst := some 82, op := Op.move (Operand.tmp 12), type := 3, pos := "law.go:83", after := #[{ on := 18, ground := Ground.guard }], guard := some (18, false) }) (v := .int .i64 x) rfl (by kernel_rfl) (by kernel_rfl) (by kernel_rfl) (fun _ _ _ h => h) (Or.inl ⟨by rfl, ?_⟩) HS3x.out ?_
        · (intro w' hSw; go_simp)
        simp only [Act.put, List.setIfInBounds_toArray, List.set_cons_zero, List.set_cons_succ]
        refine wpAnyH_take (i := 22) (oi := { dst := some 84, op := Op.load 29 (Operand.tmp 10), type := 29, pos := "law.go:83", after := #[{ on := 18, ground := Ground.guard }], guard := some (18, false) }) (v := .agg #[.int .i64 W, .slice A3 l.length c3]) rfl (by kernel_rfl) (by kernel_rfl) (by kernel_rfl) (fun _ _ _ h => h) (Or.inl ⟨by rfl, ?_⟩) HS3x.out ?_
        · (intro w' hSw; obtain ⟨z0, z1⟩ := hSw; go_simp)
        simp only [Act.put, List.setIfInBounds_toArray, List.set_cons_zero, List.set_cons_succ]
        refine wpAnyH_take (i := 23) (oi := { dst := some 85, op := Op.move (Operand.tmp 12), type := 3, pos := "law.go:83", after := #[{ on := 18, ground := Ground.guard }], guard := some (18, false) }) (v := .int .i64 x) rfl (by kernel_rfl) (by kernel_rfl) (by kernel_rfl) (fun _ _ _ h => h) (Or.inl ⟨by rfl, ?_⟩) HS3x.out ?_
        · (intro w' hSw; go_simp)
        simp only [Act.put, List.setIfInBounds_toArray, List.set_cons_zero, List.set_cons_succ]
        refine wpAnyH_ready (rs := [21]) (by kernel_rfl) (by simp) (AllReadyH.cons (o := { dst := some 83, op := Op.call { callee := Callee.value (Operand.func 14), args := #[Operand.tmp 81, Operand.tmp 82], argTypes := #[26, 3] }, type := 3, pos := "law.go:83", after := #[{ on := 19, ground := Ground.data }, { on := 20, ground := Ground.data }, { on := 18, ground := Ground.chain }, { on := 18, ground := Ground.guard }], guard := some (18, false) }) rfl (fun K hK => ?_) AllReadyH.nil)
        go_simp
        go_at_call 14
        refine ((size_any x (HTL.out u3 HG3x.out).1 (HTL.out u3 HG3x.out).2.1)).mono ?_
        rintro e u4 ⟨rfl, hbu⟩
        have HW4x := Lib.hid (HW3x.out.trans (hbu.mono HW3x.out.size))
        have HG4x := Lib.hid (HG9.out.trans (HW4x.out.mono HG9.out.size))
        have HS4x := Lib.hid (HSS.out u4 HG4x.out)
        clear hbu
        refine hK.out _ _ HS4x.out (fun _ => ?_)
        clear hK K
        try simp only [Act.put, List.setIfInBounds_toArray, List.set_cons_zero, List.set_cons_succ]
        refine wpAnyH_ready (rs := [24]) (by kernel_rfl) (by simp) (AllReadyH.cons (o := { dst := some 86, op := Op.call { callee := Callee.value (Operand.func 15), args := #[Operand.tmp 84, Operand.tmp 85], argTypes := #[29, 3] }, type := 3, pos := "law.go:83", after := #[{ on := 22, ground := Ground.data }, { on := 23, ground := Ground.data }, { on := 21, ground := Ground.chain }, { on := 18, ground := Ground.guard }], guard := some (18, false) }) rfl (fun K hK => ?_) AllReadyH.nil)
        go_simp
        go_at_call 15
        refine ((r_size_any A3 c3 x (HTL.out u4 HG4x.out).2.2 HTOK.out (by omega))).mono ?_
        rintro e u5 ⟨rfl, hbu⟩
        have HW5x := Lib.hid (HW4x.out.trans (hbu.mono HW4x.out.size))
        have HG5x := Lib.hid (HG9.out.trans (HW5x.out.mono HG9.out.size))
        have HS5x := Lib.hid (HSS.out u5 HG5x.out)
        clear hbu
        refine hK.out _ _ HS5x.out (fun _ => ?_)
        clear hK K
        try simp only [Act.put, List.setIfInBounds_toArray, List.set_cons_zero, List.set_cons_succ]
        refine wpAnyH_take (i := 25) (oi := { dst := some 87, op := Op.binOp BinOp.neq 3 (Operand.tmp 83) (Operand.tmp 86) 3, type := 4, pos := "law.go:83", after := #[{ on := 21, ground := Ground.data }, { on := 24, ground := Ground.data }, { on := 18, ground := Ground.guard }], guard := some (18, false) }) (v := .bool false) rfl (by kernel_rfl) (by kernel_rfl) (by kernel_rfl) (fun _ _ _ h => h) (Or.inl ⟨by rfl, ?_⟩) HS5x.out ?_
        · (intro w' hSw; go_simp)
        simp only [Act.put, List.setIfInBounds_toArray, List.set_cons_zero, List.set_cons_succ]
        refine wpAnyH_take (i := 26) (oi := { dst := some 88, op := Op.pick (Operand.tmp 80) (Operand.const (Value.bool true)) (Operand.tmp 87), type := 4, pos := "law.go:83", after := #[{ on := 18, ground := Ground.data }, { on := 25, ground := Ground.data }], guard := none }) (v := .bool false) rfl (by kernel_rfl) (by kernel_rfl) (by kernel_rfl) (fun _ _ _ h => h) (Or.inl ⟨by rfl, ?_⟩) HS5x.out ?_
        · (intro w' hSw; go_simp)
        simp only [Act.put, List.setIfInBounds_toArray, List.set_cons_zero, List.set_cons_succ]
        refine wpAnyH_done (by kernel_rfl) ?_ _
        refine NoPanic.normal ?_
        go_wp2_with (fail)
        refine ⟨?_, by simp [intOf]; omega⟩
        repeat apply Exists.intro (α := Value)
        refine And.intro ?_ rfl
        exact ⟨k + 1, by omega, by go_num, HW5x⟩
      · obtain rfl : k = 3 + l.length := by omega
        go_wp2_with (fail)
        go_ret
        exact ⟨rfl, HB6.out.trans (HGR.out.mono HB6.out.size)⟩
    
-- END A
theorem law_evals (W : Int) (A : Option Addr) (c : Nat) (ns : List Tm) (I : Option Addr) (d : Nat) (inp : List Int) (odd : Int) (w : World) (ht : TabS w) (ha : TOpn w A ns) (hz : ZOpn w I d inp) : Calls Tryd.prog 3 #[.int .i64 W, .slice A ns.length c, .slice I inp.length d, .int .i64 odd] w fun e w' => e = .returned (.bool true) ∧ Below w.heap.size w w' := by
  by_cases h : (W < 2 ∨ 8 < W) ∨ 40 < ns.length
  · exact evals_out W A c _ I d _ odd w ht h
  · exact evals_in W A c ns I d inp odd w ht ha.2.1 ha.2.2 hz.2.2.1 (by omega) (fun hh => h (.inl hh))
end Go.Proofs.YtjgkcicgjnjepaaDoor
