/- What is proved: the law GatesParts, over the example's contract. -/
import Derived.Test.YtaccienlokoolaaGaCr2
import Derived.Test.YtaccienlokoolaaGaAwk
set_option linter.unusedVariables false
set_option linter.unusedSimpArgs false
namespace Go.Proofs.Ytaccienlokoolaa
open Go.RowKit Go.Maps

theorem co_gtOk {I : Int} {gs : List Gt} {ls : List Int} (hn : gs.length ≤ 5000) : ∀ x ∈ coG I gs ls, GtOk x := by
  cases hv : fitB I gs ls with
  | false => rw [(co_no hv).1]; simp
  | true =>
    obtain ⟨⟨hck, hbig⟩, hlits⟩ := fit_iff.1 hv
    have hi0 := hck.lo
    have hb : (((1 + I).toNat : Nat) : Int) = 1 + I := by omega
    rw [(co_yes hv hb).1]
    have hs := cn_small (ldF (1 + I).toNat gs ls) (1 + I).toNat gs
    exact ck_gtOk (cn_ok hck hb fun i hi h => ldF_down hck hb ls i hi h) (by omega)
theorem co_small {I : Int} {gs : List Gt} {ls : List Int} : (coG I gs ls).length ≤ gs.length ∧ (coL I gs ls).length ≤ ls.length := by
  cases hv : fitB I gs ls with
  | false => rw [(co_no hv).1, (co_no hv).2.2.1]; simp
  | true =>
    obtain ⟨⟨hck, hbig⟩, hlits⟩ := fit_iff.1 hv
    have hi0 := hck.lo
    have hb : (((1 + I).toNat : Nat) : Int) = 1 + I := by omega
    rw [(co_yes hv hb).1, (co_yes hv hb).2.2.1]
    exact ⟨cn_small _ _ gs, by simp⟩
theorem sup_few {I : Int} {gs : List Gt} {ls : List Int} (h : I ≤ 60) : (supV I gs ls).length ≤ 60 := by
  unfold supV
  split
  · have := supL_len (ldF (1 + I).toNat gs ls) I.toNat
    omega
  · simp
structure PtS (w0 : World) (gb ab bb : Nat) (I : Int) (A : Option Addr) (n c : Nat) (J : Int) (cg : List Gt) (A3 : Option Addr) (c3 : Nat) (A5 : Option Addr) (c5 : Nat) (ll : List Int) (L3 L5 : Option Addr) (w : World) : Prop where
  ck : CBx w gb I A n c
  ca : CBx w ab J A3 cg.length c3
  cb : CBx w bb J A5 cg.length c5
  ra : GRow w A3 cg
  rb : GRow w A5 cg
  za : ZRow w.heap.size w L3 ll
  zb : ZRow w.heap.size w L5 ll
  bel : Below w0.heap.size w0 w
theorem PtS.later {w0 w w' : World} {gb ab bb : Nat} {I : Int} {A : Option Addr} {n c : Nat} {J : Int} {cg : List Gt} {A3 : Option Addr} {c3 : Nat} {A5 : Option Addr} {c5 : Nat} {ll : List Int} {L3 L5 : Option Addr} (h : PtS w0 gb ab bb I A n c J cg A3 c3 A5 c5 ll L3 L5 w) (hb : Below w.heap.size w w') : PtS w0 gb ab bb I A n c J cg A3 c3 A5 c5 ll L3 L5 w' :=
  ⟨h.ck.later hb, h.ca.later hb, h.cb.later hb, h.ra.later hb, h.rb.later hb, h.za.later hb, h.zb.later hb, h.bel.trans (hb.mono h.bel.size)⟩
set_option maxRecDepth 100000 in
set_option maxHeartbeats 8000000 in
theorem law_parts (I : Int) (A : Option Addr) (c : Nat) (gs : List Gt) (AL : Option Addr) (cl : Nat) (ls : List Int) (w : World) (hI64 : I64o I) (hg : GOpn w A gs) (hz : ZOpn w AL cl ls) :
    Calls Try.prog 5 #[.agg #[.int .i64 I, .slice A gs.length c], .slice AL ls.length cl] w fun e w' => e = .returned (.bool true) ∧ Below w.heap.size w w' := by
  have hb1 := (Below.refl w.heap.size w).alloc (Nat.le_refl _) (.cells #[.int .i64 I, .slice A gs.length c] 30)
  have HX1 := Lib.hid (CBx.new w I A gs.length c)
  have HA := Lib.hid (awake_any (w.alloc (.cells #[.int .i64 I, .slice A gs.length c] 30)))
  have HB1 := Lib.hid hb1
  have HG := Lib.hid hg
  have HZ := Lib.hid hz
  have hl1 := hg.1
  have hl2 := hz.2.1
  clear hb1 hg hz
  go_enter Try.func5, Try.ntmps5
  go_upto_region 1 with fail
  generalize hgw : w.alloc (.cells #[.int .i64 I, .slice A gs.length c] 30) = w1 at *
  clear hgw
  obtain ⟨b0, b1⟩ := HX1.out.cells
  go_wp2_with (fail)
  refine HA.out.mono ?_
  rintro e w2 ⟨rfl, hb2⟩
  have HB2 := Lib.hid (HB1.out.trans (hb2.mono HB1.out.size))
  have HX2 := Lib.hid (HX1.out.later hb2)
  clear hb2 b0 b1 HX1 HB1 HA
  obtain ⟨b0, b1⟩ := HX2.out.cells
  by_cases h1 : 40 < gs.length
  · have d1 : decide (40 < (gs.length : Int)) = true := by simp; omega
    clear h1
    go_wp2_with (fail)
    go_ret
    exact ⟨rfl, HB2.out⟩
  · have d1 : decide (40 < (gs.length : Int)) = false := by simp; omega
    by_cases h2 : 40 < ls.length
    · have d2 : decide (40 < (ls.length : Int)) = true := by simp; omega
      clear h1 h2
      go_wp2_with (fail)
      go_ret
      exact ⟨rfl, HB2.out⟩
    · have d2 : decide (40 < (ls.length : Int)) = false := by simp; omega
      by_cases h3 : 60 < I
      · have d3 : decide (60 < I) = true := by simpa using h3
        clear h1 h2 h3
        go_wp2_with (fail)
        go_ret
        exact ⟨rfl, HB2.out⟩
      · have d3 : decide (60 < I) = false := by simpa using h3
        have HCO := Lib.hid (fun (w3 : World) (hb : Below w.heap.size w w3) => cone_any I A c gs AL cl ls w3 (HG.out.2.1.later hb) HG.out.2.2 (by omega) (HZ.out.2.2.1.later hb) (by omega))
        have HCR := Lib.hid (fun (w3 : World) (hb : Below w.heap.size w w3) => r_cone_any I A c gs AL cl ls w3 (HG.out.2.1.later hb) HG.out.2.2 (by omega) (HZ.out.2.2.1.later hb) (by omega))
        have HSU := Lib.hid (fun (w3 : World) (hb : Below w.heap.size w w3) => support_any I A c gs AL cl ls w3 (HG.out.2.1.later hb) HG.out.2.2 (by omega) (HZ.out.2.2.1.later hb) (by omega))
        have HSR := Lib.hid (fun (w3 : World) (hb : Below w.heap.size w w3) => r_support_any I A c gs AL cl ls w3 (HG.out.2.1.later hb) HG.out.2.2 (by omega) (HZ.out.2.2.1.later hb) (by omega))
        have HSF := Lib.hid (show (supV I gs ls).length ≤ 60 from sup_few (by omega))
        have HOK := Lib.hid (co_gtOk (I := I) (gs := gs) (ls := ls) (by omega))
        have HFE := Lib.hid (show (coG I gs ls).length ≤ 40 ∧ (coL I gs ls).length ≤ 40 from ⟨Nat.le_trans co_small.1 (by omega), Nat.le_trans co_small.2 (by omega)⟩)
        generalize supV I gs ls = sv at *
        generalize coG I gs ls = cg at *
        generalize coL I gs ls = ll at *
        generalize coI I gs ls = J at *
        generalize coE I gs ls = ee at *
        clear h1 h2 h3
        go_wp2_with (fail)
        refine (HCO.out _ HB2.out).mono ?_
        rintro e w3 ⟨A3, c3, L3, e3, rfl, hrow, hzr, hb⟩
        have HB3 := Lib.hid (HB2.out.trans (hb.mono HB2.out.size))
        have HX3 := Lib.hid (HX2.out.later hb)
        have HR3 := Lib.hid hrow
        have HZ3 := Lib.hid hzr
        clear hb hrow hzr b0 b1 HX2 HB2
        go_upto_region 6 with fail
        have hba := (Below.refl w3.heap.size w3).alloc (Nat.le_refl _) (.cells #[.int .i64 J, .slice A3 cg.length c3] 30)
        have HB4 := Lib.hid (HB3.out.trans (hba.mono HB3.out.size))
        have HX4 := Lib.hid (HX3.out.later hba)
        have HA4 := Lib.hid (CBx.new w3 J A3 cg.length c3)
        have HR4 := Lib.hid (HR3.out.later hba)
        have HZ4 := Lib.hid (HZ3.out.later hba)
        clear hba HB3 HX3 HR3 HZ3
        generalize hgw : w3.alloc (.cells #[.int .i64 J, .slice A3 cg.length c3] 30) = w4 at *
        clear hgw
        generalize w3.heap.size = ab at *
        obtain ⟨b0, b1⟩ := HX4.out.cells
        go_wp2_with (fail)
        refine (HCR.out _ HB4.out).mono ?_
        rintro e w5 ⟨A5, c5, L5, e5, rfl, hrow, hzr, hb⟩
        have HB5 := Lib.hid (HB4.out.trans (hb.mono HB4.out.size))
        have HX5 := Lib.hid (HX4.out.later hb)
        have HA5 := Lib.hid (HA4.out.later hb)
        have HR5 := Lib.hid (HR4.out.later hb)
        have HZ5 := Lib.hid (HZ4.out.later hb)
        have HS5 := Lib.hid hrow
        have HT5 := Lib.hid hzr
        clear hb hrow hzr b0 b1 HX4 HB4 HA4 HR4 HZ4
        go_upto_region 7 with fail
        have hba := (Below.refl w5.heap.size w5).alloc (Nat.le_refl _) (.cells #[.int .i64 J, .slice A5 cg.length c5] 30)
        have HP6 := Lib.hid ((show PtS w w.heap.size ab w5.heap.size I A gs.length c J cg A3 c3 A5 c5 ll L3 L5 (w5.alloc (.cells #[.int .i64 J, .slice A5 cg.length c5] 30)) from ⟨HX5.out.later hba, HA5.out.later hba, CBx.new w5 J A5 cg.length c5, HR5.out.later hba, HS5.out.later hba, HZ5.out.later hba, HT5.out.later hba, HB5.out.trans (hba.mono HB5.out.size)⟩).later (show Below _ _ (w5.alloc (.cells #[.int .i64 J, .slice A5 cg.length c5] 30)).drew from (Below.refl _ _).drew))
        clear hba HB5 HX5 HA5 HR5 HZ5 HS5 HT5
        generalize hgw : w5.alloc (.cells #[.int .i64 J, .slice A5 cg.length c5] 30) = w6 at *
        clear hgw
        generalize w5.heap.size = bb at *
        have HSA := Lib.hid (fun (W : World) (h : PtS w w.heap.size ab bb I A gs.length c J cg A3 c3 A5 c5 ll L3 L5 W) => show Calls Try.prog 17 #[.agg #[.int .i64 J, .slice A3 cg.length c3], .agg #[.int .i64 J, .slice A5 cg.length c5]] W fun e w' => e = .returned (.bool true) ∧ Below W.heap.size W w' from
          (same_any J A3 c3 cg J A5 c5 cg W h.ra h.rb HOK.out HOK.out (by have := HFE.out; omega)).mono fun e w' he => ⟨by rw [he.1]; simp, he.2⟩)
        have HIN := Lib.hid (fun (W : World) (h : PtS w w.heap.size ab bb I A gs.length c J cg A3 c3 A5 c5 ll L3 L5 W) => r_ints_same L3 L5 e3 e5 ll W (by have := HFE.out; omega) h.za h.zb)
        refine wp_region_noPanic ?_
        refine wp_region_held_drew (S := fun w' => (w'.cell? ⟨w.heap.size, 0, none⟩ = some (.int .i64 I) ∧ w'.cell? ⟨w.heap.size, 1, none⟩ = some (.slice A gs.length c)) ∧ (w'.cell? ⟨ab, 0, none⟩ = some (.int .i64 J) ∧ w'.cell? ⟨ab, 1, none⟩ = some (.slice A3 cg.length c3)) ∧ (w'.cell? ⟨bb, 0, none⟩ = some (.int .i64 J) ∧ w'.cell? ⟨bb, 1, none⟩ = some (.slice A5 cg.length c5))) (by kernel_rfl) ⟨HP6.out.ck.cells, HP6.out.ca.cells, HP6.out.cb.cells⟩ (fun _ => ?_)
        generalize w6.drew = w6' at *
        refine wpAnyH_take (i := 0) (oi := { dst := some 41, op := Op.move (Operand.tmp 7), type := 25, pos := "law.go:84", after := #[], guard := none }) (v := .int .i64 ee) rfl (by kernel_rfl) (by kernel_rfl) (by kernel_rfl) (fun _ _ _ h => h) (Or.inl ⟨by rfl, ?_⟩) ⟨HP6.out.ck.cells, HP6.out.ca.cells, HP6.out.cb.cells⟩ ?_
        · (intro w' hSw; go_simp)
        simp only [Act.put, List.setIfInBounds_toArray, List.set_cons_zero, List.set_cons_succ]
        refine wpAnyH_take (i := 1) (oi := { dst := some 42, op := Op.move (Operand.tmp 10), type := 25, pos := "law.go:84", after := #[], guard := none }) (v := .int .i64 ee) rfl (by kernel_rfl) (by kernel_rfl) (by kernel_rfl) (fun _ _ _ h => h) (Or.inl ⟨by rfl, ?_⟩) ⟨HP6.out.ck.cells, HP6.out.ca.cells, HP6.out.cb.cells⟩ ?_
        · (intro w' hSw; go_simp)
        simp only [Act.put, List.setIfInBounds_toArray, List.set_cons_zero, List.set_cons_succ]
        refine wpAnyH_take (i := 2) (oi := { dst := some 43, op := Op.binOp BinOp.eql 25 (Operand.tmp 41) (Operand.tmp 42) 25, type := 4, pos := "law.go:84", after := #[{ on := 0, ground := Ground.data }, { on := 1, ground := Ground.data }], guard := none }) (v := .bool true) rfl (by kernel_rfl) (by kernel_rfl) (by kernel_rfl) (fun _ _ _ h => h) (Or.inl ⟨by rfl, ?_⟩) ⟨HP6.out.ck.cells, HP6.out.ca.cells, HP6.out.cb.cells⟩ ?_
        · (intro w' hSw; go_simp)
        simp only [Act.put, List.setIfInBounds_toArray, List.set_cons_zero, List.set_cons_succ]
        refine wpAnyH_take (i := 3) (oi := { dst := some 44, op := Op.move (Operand.tmp 43), type := 4, pos := "law.go:84", after := #[{ on := 2, ground := Ground.data }], guard := none }) (v := .bool true) rfl (by kernel_rfl) (by kernel_rfl) (by kernel_rfl) (fun _ _ _ h => h) (Or.inl ⟨by rfl, ?_⟩) ⟨HP6.out.ck.cells, HP6.out.ca.cells, HP6.out.cb.cells⟩ ?_
        · (intro w' hSw; go_simp)
        simp only [Act.put, List.setIfInBounds_toArray, List.set_cons_zero, List.set_cons_succ]
        refine wpAnyH_take (i := 4) (oi := { dst := some 45, op := Op.load 30 (Operand.tmp 5), type := 30, pos := "law.go:84", after := #[{ on := 3, ground := Ground.guard }], guard := some (3, true) }) (v := .agg #[.int .i64 J, .slice A3 cg.length c3]) rfl (by kernel_rfl) (by kernel_rfl) (by kernel_rfl) (fun _ _ _ h => h) (Or.inl ⟨by rfl, ?_⟩) ⟨HP6.out.ck.cells, HP6.out.ca.cells, HP6.out.cb.cells⟩ ?_
        · (intro w' hSw; obtain ⟨⟨z0, z1⟩, ⟨z2, z3⟩, z4, z5⟩ := hSw; go_simp)
        simp only [Act.put, List.setIfInBounds_toArray, List.set_cons_zero, List.set_cons_succ]
        refine wpAnyH_take (i := 5) (oi := { dst := some 46, op := Op.load 30 (Operand.tmp 8), type := 30, pos := "law.go:84", after := #[{ on := 3, ground := Ground.guard }], guard := some (3, true) }) (v := .agg #[.int .i64 J, .slice A5 cg.length c5]) rfl (by kernel_rfl) (by kernel_rfl) (by kernel_rfl) (fun _ _ _ h => h) (Or.inl ⟨by rfl, ?_⟩) ⟨HP6.out.ck.cells, HP6.out.ca.cells, HP6.out.cb.cells⟩ ?_
        · (intro w' hSw; obtain ⟨⟨z0, z1⟩, ⟨z2, z3⟩, z4, z5⟩ := hSw; go_simp)
        simp only [Act.put, List.setIfInBounds_toArray, List.set_cons_zero, List.set_cons_succ]
        refine wpAnyH_ready (rs := [6]) (by kernel_rfl) (by simp) (AllReadyH.cons (o := { dst := some 47, op := Op.call { callee := Callee.value (Operand.func 17), args := #[Operand.tmp 45, Operand.tmp 46], argTypes := #[30, 30] }, type := 4, pos := "law.go:84", after := #[{ on := 4, ground := Ground.data }, { on := 5, ground := Ground.data }, { on := 3, ground := Ground.chain }, { on := 3, ground := Ground.guard }], guard := some (3, true) }) rfl (fun K hK => ?_) AllReadyH.nil)
        go_simp
        go_at_call 17
        refine (HSA.out _ HP6.out).mono ?_
        rintro e w7 ⟨rfl, hb⟩
        have HP7 := Lib.hid (HP6.out.later hb)
        clear hb
        refine hK.out _ _ ⟨HP7.out.ck.cells, HP7.out.ca.cells, HP7.out.cb.cells⟩ (fun _ => ?_)
        clear hK K
        try simp only [Act.put, List.setIfInBounds_toArray, List.set_cons_zero, List.set_cons_succ]
        refine wpAnyH_take (i := 7) (oi := { dst := some 48, op := Op.pick (Operand.tmp 44) (Operand.tmp 47) (Operand.const (Value.bool false)), type := 4, pos := "law.go:84", after := #[{ on := 3, ground := Ground.data }, { on := 6, ground := Ground.data }], guard := none }) (v := .bool true) rfl (by kernel_rfl) (by kernel_rfl) (by kernel_rfl) (fun _ _ _ h => h) (Or.inl ⟨by rfl, ?_⟩) ⟨HP7.out.ck.cells, HP7.out.ca.cells, HP7.out.cb.cells⟩ ?_
        · (intro w' hSw; go_simp)
        simp only [Act.put, List.setIfInBounds_toArray, List.set_cons_zero, List.set_cons_succ]
        refine wpAnyH_take (i := 8) (oi := { dst := some 49, op := Op.move (Operand.tmp 48), type := 4, pos := "law.go:84", after := #[{ on := 7, ground := Ground.data }, { on := 6, ground := Ground.chain }], guard := none }) (v := .bool true) rfl (by kernel_rfl) (by kernel_rfl) (by kernel_rfl) (fun _ _ _ h => h) (Or.inl ⟨by rfl, ?_⟩) ⟨HP7.out.ck.cells, HP7.out.ca.cells, HP7.out.cb.cells⟩ ?_
        · (intro w' hSw; go_simp)
        simp only [Act.put, List.setIfInBounds_toArray, List.set_cons_zero, List.set_cons_succ]
        refine wpAnyH_take (i := 9) (oi := { dst := some 50, op := Op.move (Operand.tmp 6), type := 48, pos := "law.go:84", after := #[{ on := 8, ground := Ground.guard }], guard := some (8, true) }) (v := .slice L3 ll.length e3) rfl (by kernel_rfl) (by kernel_rfl) (by kernel_rfl) (fun _ _ _ h => h) (Or.inl ⟨by rfl, ?_⟩) ⟨HP7.out.ck.cells, HP7.out.ca.cells, HP7.out.cb.cells⟩ ?_
        · (intro w' hSw; go_simp)
        simp only [Act.put, List.setIfInBounds_toArray, List.set_cons_zero, List.set_cons_succ]
        refine wpAnyH_take (i := 10) (oi := { dst := some 51, op := Op.move (Operand.tmp 9), type := 48, pos := "law.go:84", after := #[{ on := 8, ground := Ground.guard }], guard := some (8, true) }) (v := .slice L5 ll.length e5) rfl (by kernel_rfl) (by kernel_rfl) (by kernel_rfl) (fun _ _ _ h => h) (Or.inl ⟨by rfl, ?_⟩) ⟨HP7.out.ck.cells, HP7.out.ca.cells, HP7.out.cb.cells⟩ ?_
        · (intro w' hSw; go_simp)
        simp only [Act.put, List.setIfInBounds_toArray, List.set_cons_zero, List.set_cons_succ]
        refine wpAnyH_ready (rs := [11]) (by kernel_rfl) (by simp) (AllReadyH.cons (o := { dst := some 52, op := Op.call { callee := Callee.value (Operand.func 28), args := #[Operand.tmp 50, Operand.tmp 51], argTypes := #[48, 48] }, type := 4, pos := "law.go:84", after := #[{ on := 9, ground := Ground.data }, { on := 10, ground := Ground.data }, { on := 8, ground := Ground.chain }, { on := 8, ground := Ground.guard }], guard := some (8, true) }) rfl (fun K hK => ?_) AllReadyH.nil)
        go_simp
        go_at_call 28
        refine (HIN.out _ HP7.out).mono ?_
        rintro e w8 ⟨rfl, hb⟩
        have HP8 := Lib.hid (HP7.out.later hb)
        clear hb
        refine hK.out _ _ ⟨HP8.out.ck.cells, HP8.out.ca.cells, HP8.out.cb.cells⟩ (fun _ => ?_)
        clear hK K
        try simp only [Act.put, List.setIfInBounds_toArray, List.set_cons_zero, List.set_cons_succ]
        refine wpAnyH_take (i := 12) (oi := { dst := some 53, op := Op.pick (Operand.tmp 49) (Operand.tmp 52) (Operand.const (Value.bool false)), type := 4, pos := "law.go:84", after := #[{ on := 8, ground := Ground.data }, { on := 11, ground := Ground.data }], guard := none }) (v := .bool true) rfl (by kernel_rfl) (by kernel_rfl) (by kernel_rfl) (fun _ _ _ h => h) (Or.inl ⟨by rfl, ?_⟩) ⟨HP8.out.ck.cells, HP8.out.ca.cells, HP8.out.cb.cells⟩ ?_
        · (intro w' hSw; go_simp)
        simp only [Act.put, List.setIfInBounds_toArray, List.set_cons_zero, List.set_cons_succ]
        refine wpAnyH_take (i := 13) (oi := { dst := some 54, op := Op.move (Operand.tmp 53), type := 4, pos := "law.go:84", after := #[{ on := 12, ground := Ground.data }, { on := 11, ground := Ground.chain }], guard := none }) (v := .bool true) rfl (by kernel_rfl) (by kernel_rfl) (by kernel_rfl) (fun _ _ _ h => h) (Or.inl ⟨by rfl, ?_⟩) ⟨HP8.out.ck.cells, HP8.out.ca.cells, HP8.out.cb.cells⟩ ?_
        · (intro w' hSw; go_simp)
        simp only [Act.put, List.setIfInBounds_toArray, List.set_cons_zero, List.set_cons_succ]
        refine wpAnyH_take (i := 14) (oi := { dst := some 55, op := Op.load 30 (Operand.tmp 2), type := 30, pos := "law.go:84", after := #[{ on := 13, ground := Ground.guard }], guard := some (13, true) }) (v := .agg #[.int .i64 I, .slice A gs.length c]) rfl (by kernel_rfl) (by kernel_rfl) (by kernel_rfl) (fun _ _ _ h => h) (Or.inl ⟨by rfl, ?_⟩) ⟨HP8.out.ck.cells, HP8.out.ca.cells, HP8.out.cb.cells⟩ ?_
        · (intro w' hSw; obtain ⟨⟨z0, z1⟩, ⟨z2, z3⟩, z4, z5⟩ := hSw; go_simp)
        simp only [Act.put, List.setIfInBounds_toArray, List.set_cons_zero, List.set_cons_succ]
        refine wpAnyH_take (i := 15) (oi := { dst := some 56, op := Op.move (Operand.tmp 1), type := 48, pos := "law.go:84", after := #[{ on := 13, ground := Ground.guard }], guard := some (13, true) }) (v := .slice AL ls.length cl) rfl (by kernel_rfl) (by kernel_rfl) (by kernel_rfl) (fun _ _ _ h => h) (Or.inl ⟨by rfl, ?_⟩) ⟨HP8.out.ck.cells, HP8.out.ca.cells, HP8.out.cb.cells⟩ ?_
        · (intro w' hSw; go_simp)
        simp only [Act.put, List.setIfInBounds_toArray, List.set_cons_zero, List.set_cons_succ]
        refine wpAnyH_take (i := 17) (oi := { dst := some 58, op := Op.load 30 (Operand.tmp 2), type := 30, pos := "law.go:84", after := #[{ on := 13, ground := Ground.guard }], guard := some (13, true) }) (v := .agg #[.int .i64 I, .slice A gs.length c]) rfl (by kernel_rfl) (by kernel_rfl) (by kernel_rfl) (fun _ _ _ h => h) (Or.inl ⟨by rfl, ?_⟩) ⟨HP8.out.ck.cells, HP8.out.ca.cells, HP8.out.cb.cells⟩ ?_
        · (intro w' hSw; obtain ⟨⟨z0, z1⟩, ⟨z2, z3⟩, z4, z5⟩ := hSw; go_simp)
        simp only [Act.put, List.setIfInBounds_toArray, List.set_cons_zero, List.set_cons_succ]
        refine wpAnyH_take (i := 18) (oi := { dst := some 59, op := Op.move (Operand.tmp 1), type := 48, pos := "law.go:84", after := #[{ on := 13, ground := Ground.guard }], guard := some (13, true) }) (v := .slice AL ls.length cl) rfl (by kernel_rfl) (by kernel_rfl) (by kernel_rfl) (fun _ _ _ h => h) (Or.inl ⟨by rfl, ?_⟩) ⟨HP8.out.ck.cells, HP8.out.ca.cells, HP8.out.cb.cells⟩ ?_
        · (intro w' hSw; go_simp)
        simp only [Act.put, List.setIfInBounds_toArray, List.set_cons_zero, List.set_cons_succ]
        refine wpAnyH_ready (rs := [16]) (by kernel_rfl) (by simp) (AllReadyH.cons (o := { dst := some 57, op := Op.call { callee := Callee.value (Operand.func 29), args := #[Operand.tmp 55, Operand.tmp 56], argTypes := #[30, 48] }, type := 48, pos := "law.go:84", after := #[{ on := 14, ground := Ground.data }, { on := 15, ground := Ground.data }, { on := 13, ground := Ground.chain }, { on := 13, ground := Ground.guard }], guard := some (13, true) }) rfl (fun K hK => ?_) AllReadyH.nil)
        go_simp
        go_at_call 29
        refine (HSU.out _ HP8.out.bel).mono ?_
        rintro e w9 ⟨A9, c9, rfl, hz9, hb⟩
        have HP9 := Lib.hid (HP8.out.later hb)
        have HZ9 := Lib.hid hz9
        clear hb hz9
        refine hK.out _ _ ⟨HP9.out.ck.cells, HP9.out.ca.cells, HP9.out.cb.cells⟩ (fun _ => ?_)
        clear hK K
        try simp only [Act.put, List.setIfInBounds_toArray, List.set_cons_zero, List.set_cons_succ]
        refine wpAnyH_ready (rs := [19]) (by kernel_rfl) (by simp) (AllReadyH.cons (o := { dst := some 60, op := Op.call { callee := Callee.value (Operand.func 30), args := #[Operand.tmp 58, Operand.tmp 59], argTypes := #[30, 48] }, type := 48, pos := "law.go:84", after := #[{ on := 17, ground := Ground.data }, { on := 18, ground := Ground.data }, { on := 16, ground := Ground.chain }, { on := 13, ground := Ground.guard }], guard := some (13, true) }) rfl (fun K hK => ?_) AllReadyH.nil)
        go_simp
        go_at_call 30
        refine (HSR.out _ HP9.out.bel).mono ?_
        rintro e w10 ⟨A10, c10, rfl, hz10, hb⟩
        have HP10 := Lib.hid (HP9.out.later hb)
        have HZ10 := Lib.hid (HZ9.out.later hb)
        have HY10 := Lib.hid hz10
        clear hb hz10
        refine hK.out _ _ ⟨HP10.out.ck.cells, HP10.out.ca.cells, HP10.out.cb.cells⟩ (fun _ => ?_)
        clear hK K
        try simp only [Act.put, List.setIfInBounds_toArray, List.set_cons_zero, List.set_cons_succ]
        refine wpAnyH_ready (rs := [20]) (by kernel_rfl) (by simp) (AllReadyH.cons (o := { dst := some 61, op := Op.call { callee := Callee.value (Operand.func 28), args := #[Operand.tmp 57, Operand.tmp 60], argTypes := #[48, 48] }, type := 4, pos := "law.go:84", after := #[{ on := 16, ground := Ground.data }, { on := 19, ground := Ground.data }, { on := 19, ground := Ground.chain }, { on := 13, ground := Ground.guard }], guard := some (13, true) }) rfl (fun K hK => ?_) AllReadyH.nil)
        go_simp
        go_at_call 28
        refine (r_ints_same A9 A10 c9 c10 sv _ (by have := HSF.out; omega) HZ10.out HY10.out).mono ?_
        rintro e w11 ⟨rfl, hb⟩
        have HP11 := Lib.hid (HP10.out.later hb)
        clear hb
        refine hK.out _ _ ⟨HP11.out.ck.cells, HP11.out.ca.cells, HP11.out.cb.cells⟩ (fun _ => ?_)
        clear hK K
        try simp only [Act.put, List.setIfInBounds_toArray, List.set_cons_zero, List.set_cons_succ]
        refine wpAnyH_take (i := 21) (oi := { dst := some 62, op := Op.pick (Operand.tmp 54) (Operand.tmp 61) (Operand.const (Value.bool false)), type := 4, pos := "law.go:84", after := #[{ on := 13, ground := Ground.data }, { on := 20, ground := Ground.data }], guard := none }) (v := .bool true) rfl (by kernel_rfl) (by kernel_rfl) (by kernel_rfl) (fun _ _ _ h => h) (Or.inl ⟨by rfl, ?_⟩) ⟨HP11.out.ck.cells, HP11.out.ca.cells, HP11.out.cb.cells⟩ ?_
        · (intro w' hSw; go_simp)
        simp only [Act.put, List.setIfInBounds_toArray, List.set_cons_zero, List.set_cons_succ]
        refine wpAnyH_take (i := 22) (oi := { dst := some 4, op := Op.assign (Operand.tmp 62), type := 4, pos := "law.go:84", after := #[{ on := 21, ground := Ground.data }, { on := 20, ground := Ground.chain }, { on := 0, ground := Ground.phase }, { on := 1, ground := Ground.phase }, { on := 2, ground := Ground.phase }, { on := 3, ground := Ground.phase }, { on := 4, ground := Ground.phase }, { on := 5, ground := Ground.phase }, { on := 6, ground := Ground.phase }, { on := 7, ground := Ground.phase }, { on := 8, ground := Ground.phase }, { on := 9, ground := Ground.phase }, { on := 10, ground := Ground.phase }, { on := 11, ground := Ground.phase }, { on := 12, ground := Ground.phase }, { on := 13, ground := Ground.phase }, { on := 14, ground := Ground.phase }, { on := 15, ground := Ground.phase }, { on := 16, ground := Ground.phase }, { on := 17, ground := Ground.phase }, { on := 18, ground := Ground.phase }, { on := 19, ground := Ground.phase }, { on := 20, ground := Ground.phase }, { on := 21, ground := Ground.phase }], guard := none }) (v := .bool true) rfl (by kernel_rfl) (by kernel_rfl) (by kernel_rfl) (fun _ _ _ h => h) (Or.inl ⟨by rfl, ?_⟩) ⟨HP11.out.ck.cells, HP11.out.ca.cells, HP11.out.cb.cells⟩ ?_
        · (intro w' hSw; go_simp)
        simp only [Act.put, List.setIfInBounds_toArray, List.set_cons_zero, List.set_cons_succ]
        refine wpAnyH_done (by kernel_rfl) ?_ _
        refine NoPanic.normal ?_
        go_wp2_with (fail)
        go_ret
        exact ⟨rfl, HP11.out.bel⟩
end Go.Proofs.Ytaccienlokoolaa
