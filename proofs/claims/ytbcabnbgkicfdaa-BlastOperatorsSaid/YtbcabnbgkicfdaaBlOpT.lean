/- What is proved: the law BlastOperators, for a width, two numbers and the condition true. -/
import Derived.Test.YtbcabnbgkicfdaaBlOpW
set_option linter.unusedVariables false
set_option linter.unusedSimpArgs false
namespace Go.Proofs.Ytbcabnbgkicfdaa
open Go.RowKit Go.Maps

set_option maxRecDepth 100000 in
set_option maxHeartbeats 16000000 in
theorem ops_t (m : Nat) (x y : Int) (w : World) (hm : 2 ≤ m ∧ m ≤ 8) :
    Calls Try.prog 6 #[.int .i64 (m : Int), .int .i64 x, .int .i64 y, .bool true] w fun e w' => e = .returned (.bool true) ∧ Below w.heap.size w w' := by
  have HA := Lib.hid (bawake_any w)
  have HI := fun w' => r_isWidth_any (m : Int) w'
  rw [decide_eq_true (show 2 ≤ (m : Int) ∧ (m : Int) ≤ 8 by omega)] at HI
  have HI := Lib.hid HI
  have hW64 : IntKind.i64.wrap (m : Int) = (m : Int) := IntWalk.i64_in _ (by omega)
  have HWX := Lib.hid (fun w' => wrap_any (m : Int) x hW64 w')
  have HWY := Lib.hid (fun w' => wrap_any (m : Int) y hW64 w')
  have bx := wrp_bound (m : Int) x
  have by' := wrp_bound (m : Int) y
  have sx := wrp_wrp (m : Int) x (by omega)
  have sy := wrp_wrp (m : Int) y (by omega)
  generalize wrpP (m : Int) x = a at *
  generalize wrpP (m : Int) y = b at *
  have bm := mul_small bx by'
  have HDV := Lib.hid (fun w' => divide_any (m : Int) a b hW64 w')
  have HG1 := Lib.hid (fun w' => wrap_any (m : Int) (-a) hW64 w')
  have HG2 := Lib.hid (fun w' => wrap_any (m : Int) (a + b) hW64 w')
  have HG3 := Lib.hid (fun w' => wrap_any (m : Int) (a - b) hW64 w')
  have HG4 := Lib.hid (fun w' => wrap_any (m : Int) (a * b) hW64 w')
  have HM : Hid (IntKind.i64.wrap (-a) = -a ∧ IntKind.i64.wrap (a + b) = a + b ∧ IntKind.i64.wrap (a - b) = a - b ∧ IntKind.i64.wrap (a * b) = a * b) := Lib.hid ⟨w64 (by omega), w64 (by omega), w64 (by omega), w64 (by omega)⟩
  obtain ⟨cl, hcl, hk⟩ := OpK.of hm sx sy (c := true) (ch := 1) (by decide)
  obtain ⟨e1, e2, e3⟩ := op_words hm
  obtain ⟨e4, e5⟩ := op_bits hm sx sy (ch := 1) (by omega)
  have F1 := fun (A : Option Addr) (w' : World) (h : ZRow w'.heap.size w' A [0, 0, 1]) => words_any (m : Int) A 3 [0, 0, 1] w' h (by simp)
  have F2 := fun (A B : Option Addr) (w' : World) (h : ZRow w'.heap.size w' A [0, 0, 1]) (k : ZRow w'.heap.size w' B [a, b, 1]) => bits_any (m : Int) A 3 [0, 0, 1] B 3 [a, b, 1] w' h k (by simp) (by simp) (fun z hz => by simp at hz; omega)
  rw [e1, e2, e3, hcl] at F1
  rw [e4, e5] at F2
  have F1 := Lib.hid F1
  have F2 := Lib.hid F2
  have HK := Lib.hid hk
  clear hk e1 e2 e3 e4 e5 hcl
  generalize wordL 0 m = xs at *
  generalize wordL m m = ys at *
  generalize inpL m a b 1 = inp at *
  have F3 := Lib.hid (fun w' => new_any ((m + m + 1 : Nat) : Int) (by omega) w')
  generalize ((m + m + 1 : Nat) : Int) = I at *
  have VN := Lib.hid (fun (gs : List Gt) (z : List Int) (d : Int → Prop) (hz : z.length = m) (h : NegH xs z (litV (nv inp gs)) d) => neg_val HK.out.hm (HK.out.vx gs) hz h)
  have VA := Lib.hid (fun (gs : List Gt) (z : List Int) (d : Int → Prop) (hz : z.length = m) (h : AddH xs ys z (litV (nv inp gs)) d) => add_val HK.out.hm (HK.out.vx gs) (HK.out.vy gs) hz h)
  have VS := Lib.hid (fun (gs : List Gt) (z : List Int) (d : Int → Prop) (hz : z.length = m) (h : SubH xs ys z (litV (nv inp gs)) d) => sub_val HK.out.hm (HK.out.vx gs) (HK.out.vy gs) hz h)
  have VM := Lib.hid (fun (gs : List Gt) (z : List Int) (d : Int → Prop) (hz : z.length = m) (h : MulH xs ys z (litV (nv inp gs)) d) => mul_val HK.out.hm (HK.out.vx gs) (HK.out.vy gs) hz h)
  have VQ := Lib.hid (fun (gs : List Gt) (z : List Int) (d : Int → Prop) (hz : z.length = m) (h : QuoH xs ys z (litV (nv inp gs)) d) => quo_val HK.out.hm (HK.out.vx gs) (HK.out.vy gs) hz h)
  have VR := Lib.hid (fun (gs : List Gt) (z : List Int) (d : Int → Prop) (hz : z.length = m) (h : RemH xs ys z (litV (nv inp gs)) d) => rem_val HK.out.hm (HK.out.vx gs) (HK.out.vy gs) hz h)
  have VC := Lib.hid (fun (gs : List Gt) (z : List Int) (d : Int → Prop) (hz : z.length = m) (h : ChoH cl xs ys z (litV (nv inp gs)) d) => (cho_val HK.out.hm (HK.out.vx gs) (HK.out.vy gs) h).trans (show (if litV (nv inp gs) cl = true then a else b) = a by rw [HK.out.vc gs]; rfl))
  generalize wrpP (m : Int) (-a) = g1 at *
  generalize wrpP (m : Int) (a + b) = g2 at *
  generalize wrpP (m : Int) (a - b) = g3 at *
  generalize wrpP (m : Int) (a * b) = g4 at *
  generalize divQ (m : Int) a b = g5 at *
  generalize divR (m : Int) a b = g6 at *
  have HXL := Lib.hid (show 0 < xs.length ∧ xs.length ≤ 8 ∧ ys.length = xs.length from by have h1 := HK.out.lx; have h2 := HK.out.ly; have h3 := HK.out.hm; omega)
  have HNB : Hid (64 * m + 3 + 2 * ((10 * m + 8) * m) ≤ 1950 ∧ 8 * m * m ≤ 512 ∧ m ≤ 8) := Lib.hid (by
    rcases m_cases hm with rfl | rfl | rfl | rfl | rfl | rfl | rfl <;> decide)
  clear hm hW64 bx by' sx sy bm
  go_enter Try.func6, Try.ntmps6
  go_wp2_with (fail)
  refine HA.out.mono ?_
  rintro e w1 ⟨rfl, hb1⟩
  have HB1 := Lib.hid hb1
  clear hb1
  go_wp2_with (fail)
  refine (HI.out _).mono ?_
  rintro e wx ⟨rfl, hwx⟩
  obtain rfl := hwx.symm
  go_wp2_with (fail)
  refine (HWX.out _).mono ?_
  rintro e wx ⟨rfl, hwx⟩
  obtain rfl := hwx.symm
  go_wp2_with (fail)
  refine (HWY.out _).mono ?_
  rintro e wx ⟨rfl, hwx⟩
  obtain rfl := hwx.symm
  have hba := (Below.refl w1.heap.size w1).alloc (Nat.le_refl _) (.cells #[.int .i64 0, .int .i64 0, .int .i64 1] 3)
  have HS0 := Lib.hid (row_of w1 #[.int .i64 0, .int .i64 0, .int .i64 1] [0, 0, 1] rfl)
  have HB1 := Lib.hid (HB1.out.trans (hba.mono HB1.out.size))
  clear hba
  go_wp2_with (fail)
  refine (F1.out _ _ HS0.out.toz).mono ?_
  rintro e w2 ⟨WA, wc, rfl, _, hrow, hb⟩
  have hba := (Below.refl w2.heap.size w2).alloc (Nat.le_refl _) (.cells #[.int .i64 a, .int .i64 b, .int .i64 1] 3)
  have HR := Lib.hid (row_of w2 #[.int .i64 a, .int .i64 b, .int .i64 1] [a, b, 1] rfl)
  have HS2 := Lib.hid ((HS0.out.later hb).here.later hba)
  have HL2 := Lib.hid (hrow.later hba)
  have HB2 := Lib.hid ((HB1.out.trans (hb.mono HB1.out.size)).trans (hba.mono (Nat.le_trans HB1.out.size hb.size)))
  clear hba hb hrow HS0 HB1
  go_wp2_with (fail)
  refine (F2.out _ _ _ HS2.out.toz HR.out.toz).mono ?_
  rintro e w3 ⟨IA, ic, rfl, hrow, hb⟩
  have HL3 := Lib.hid (HL2.out.later hb)
  have HB3 := Lib.hid (HB2.out.trans (hb.mono HB2.out.size))
  have HIR3 := Lib.hid hrow
  obtain ⟨wb, wo, X0, c0, X1, c1, cb, co, c2, hWA, hop, hc0⟩ := OpW.of HL3.out HK.out.lx HK.out.ly
  subst hWA
  have HP3 := Lib.hid hop
  have HC0 := Lib.hid hc0
  clear hb hrow hop hc0 HR HS2 HL2 HB2 HL3
  go_wp2_with (fail)
  refine (F3.out w3).mono ?_
  rintro e w4 ⟨bb, mb, rfl, ht, hb⟩
  have HT4 := Lib.hid ht
  have HB34 := Lib.hid hb
  clear ht hb
  have hie : (m : Int) + (m : Int) + 1 = I := by have := HK.out.iI; omega
  go_wp2_with (fail)
  refine (HDV.out _).mono ?_
  rintro e wx ⟨rfl, k, hwx⟩
  subst hwx
  have hb45 : Below w4.heap.size w4 ((w4.drewN k).drew) := by
    have h1 := drewN_below w4 k
    exact h1.trans ((show Below _ _ (w4.drewN k).drew from (Below.refl _ _).drew).mono h1.size)
  have HT5 := Lib.hid (HT4.out.later hb45)
  have HB35 := Lib.hid (HB34.out.trans (hb45.mono HB34.out.size))
  have HP5 := Lib.hid (HP3.out.later HB35.out)
  clear hb45 HB34 HT4
  go_upto_region 16 with fail
  refine wp_region_noPanic ?_
  refine wp_region_held_drew (S := fun w' => w'.cell? ⟨wb, wo, none⟩ = some (.slice X0 m c0) ∧ w'.cell? ⟨wb, wo + 1, none⟩ = some (.slice X1 m c1) ∧ w'.cell? ⟨wb, wo + 2, none⟩ = some (.slice (some ⟨cb, co, none⟩) 1 c2) ∧ w'.cell? ⟨cb, co, none⟩ = some (.int .i64 cl)) (by kernel_rfl) HP5.out.cells (fun _ => ?_)
  generalize (w4.drewN k).drew = w5 at *
  refine wpAnyH_take (i := 0) (oi := { dst := some 88, op := Op.move (Operand.tmp 16), type := 24, pos := "law.go:86", after := #[], guard := none }) (v := .pointer (some ⟨bb, 0, none⟩)) rfl (by kernel_rfl) (by kernel_rfl) (by kernel_rfl) (fun _ _ _ h => h) (Or.inl ⟨by rfl, ?_⟩) HP5.out.cells ?_
  · (intro w' hSw; go_simp)
  simp only [Act.put, List.setIfInBounds_toArray, List.set_cons_zero, List.set_cons_succ]
  refine wpAnyH_take (i := 1) (oi := { dst := some 89, op := Op.move (Operand.tmp 11), type := 49, pos := "law.go:86", after := #[], guard := none }) (v := .slice (some ⟨wb, wo, none⟩) 3 wc) rfl (by kernel_rfl) (by kernel_rfl) (by kernel_rfl) (fun _ _ _ h => h) (Or.inl ⟨by rfl, ?_⟩) HP5.out.cells ?_
  · (intro w' hSw; go_simp)
  simp only [Act.put, List.setIfInBounds_toArray, List.set_cons_zero, List.set_cons_succ]
  refine wpAnyH_take (i := 2) (oi := { dst := some 90, op := Op.indexAddr 49 (Operand.tmp 89) (Operand.const (Value.int IntKind.i64 0)), type := 0, pos := "law.go:86", after := #[{ on := 1, ground := Ground.data }], guard := none }) (v := .pointer (some ⟨wb, wo, none⟩)) rfl (by kernel_rfl) (by kernel_rfl) (by kernel_rfl) (fun _ _ _ h => h) (Or.inl ⟨by rfl, ?_⟩) HP5.out.cells ?_
  · (intro w' hSw; go_simp)
  simp only [Act.put, List.setIfInBounds_toArray, List.set_cons_zero, List.set_cons_succ]
  refine wpAnyH_take (i := 3) (oi := { dst := some 91, op := Op.load 47 (Operand.tmp 90), type := 47, pos := "law.go:86", after := #[{ on := 2, ground := Ground.data }], guard := none }) (v := .slice X0 m c0) rfl (by kernel_rfl) (by kernel_rfl) (by kernel_rfl) (fun _ _ _ h => h) (Or.inl ⟨by rfl, ?_⟩) HP5.out.cells ?_
  · (intro w' hSw; obtain ⟨z0, z1, z2, z3⟩ := hSw; go_simp)
  simp only [Act.put, List.setIfInBounds_toArray, List.set_cons_zero, List.set_cons_succ]
  refine wpAnyH_take (i := 4) (oi := { dst := some 92, op := Op.move (Operand.tmp 11), type := 49, pos := "law.go:86", after := #[], guard := none }) (v := .slice (some ⟨wb, wo, none⟩) 3 wc) rfl (by kernel_rfl) (by kernel_rfl) (by kernel_rfl) (fun _ _ _ h => h) (Or.inl ⟨by rfl, ?_⟩) HP5.out.cells ?_
  · (intro w' hSw; go_simp)
  simp only [Act.put, List.setIfInBounds_toArray, List.set_cons_zero, List.set_cons_succ]
  refine wpAnyH_take (i := 5) (oi := { dst := some 93, op := Op.indexAddr 49 (Operand.tmp 92) (Operand.const (Value.int IntKind.i64 1)), type := 0, pos := "law.go:86", after := #[{ on := 4, ground := Ground.data }], guard := none }) (v := .pointer (some ⟨wb, wo + 1, none⟩)) rfl (by kernel_rfl) (by kernel_rfl) (by kernel_rfl) (fun _ _ _ h => h) (Or.inl ⟨by rfl, ?_⟩) HP5.out.cells ?_
  · (intro w' hSw; go_simp)
  simp only [Act.put, List.setIfInBounds_toArray, List.set_cons_zero, List.set_cons_succ]
  refine wpAnyH_take (i := 6) (oi := { dst := some 94, op := Op.load 47 (Operand.tmp 93), type := 47, pos := "law.go:86", after := #[{ on := 5, ground := Ground.data }], guard := none }) (v := .slice X1 m c1) rfl (by kernel_rfl) (by kernel_rfl) (by kernel_rfl) (fun _ _ _ h => h) (Or.inl ⟨by rfl, ?_⟩) HP5.out.cells ?_
  · (intro w' hSw; obtain ⟨z0, z1, z2, z3⟩ := hSw; go_simp)
  simp only [Act.put, List.setIfInBounds_toArray, List.set_cons_zero, List.set_cons_succ]
  refine wpAnyH_ready (rs := [7]) (by kernel_rfl) (by simp) (AllReadyH.cons (o := { dst := some 95, op := Op.call { callee := Callee.value (Operand.func 35), args := #[Operand.tmp 88, Operand.tmp 91, Operand.tmp 94], argTypes := #[24, 47, 47] }, type := 65, pos := "law.go:86", after := #[{ on := 0, ground := Ground.data }, { on := 3, ground := Ground.data }, { on := 6, ground := Ground.data }], guard := none }) rfl (fun K hK => ?_) AllReadyH.nil)
  go_simp
  go_at_call 35
  have HC := Divide_yes X0 c0 xs X1 c1 ys HT5.out HP5.out.r0 HP5.out.r1 HK.out.tx HK.out.ty HXL.out.1 HXL.out.2.1 HXL.out.2.2 (by rw [HK.out.lx]; have := HNB.out; simp; omega)
  rw [HK.out.lx, HK.out.ly] at HC
  refine HC.mono ?_
  rintro e w6 ⟨A5, k5, A6, k6, z5, z6, rv6, gs6, rfl, hs, r5, r6, l5, l6, t5, t6, hh⟩
  have HS6 := Lib.hid hs
  have HL6 := Lib.hid (show gs6.length ≤ 1950 by have h1 := hs.len; have := HNB.out; simp at h1; omega)
  have HP6 := Lib.hid (HP3.out.later (hs.res.below (w0 := w3) HT5.out (Nat.le_refl _) HB35.out))
  have HZ5 := Lib.hid (show ZP w6 gs6 I m A5 z5 (QuoH xs ys) from ⟨r5, l5, t5, fun G inp D hG hI => (hh G inp D hG hI).1⟩)
  have HZ6 := Lib.hid (show ZP w6 gs6 I m A6 z6 (RemH xs ys) from ⟨r6, l6, t6, fun G inp D hG hI => (hh G inp D hG hI).2⟩)
  clear hs r5 r6 l5 l6 t5 t6 hh HC
  refine hK.out _ _ HP6.out.cells (fun _ => ?_)
  clear hK K
  try simp only [Act.put, List.setIfInBounds_toArray, List.set_cons_zero, List.set_cons_succ]
  refine wpAnyH_take (i := 8) (oi := { dst := some 87, op := Op.move (Operand.tmp 95), type := 65, pos := "law.go:86", after := #[{ on := 7, ground := Ground.data }], guard := none }) (v := .tuple #[.slice A5 m k5, .slice A6 m k6]) rfl (by kernel_rfl) (by kernel_rfl) (by kernel_rfl) (fun _ _ _ h => h) (Or.inl ⟨by rfl, ?_⟩) HP6.out.cells ?_
  · (intro w' hSw; go_simp)
  simp only [Act.put, List.setIfInBounds_toArray, List.set_cons_zero, List.set_cons_succ]
  refine wpAnyH_take (i := 9) (oi := { dst := some 96, op := Op.extract (Operand.tmp 87) 0, type := 47, pos := "law.go:86", after := #[{ on := 8, ground := Ground.data }], guard := none }) (v := .slice A5 m k5) rfl (by kernel_rfl) (by kernel_rfl) (by kernel_rfl) (fun _ _ _ h => h) (Or.inl ⟨by rfl, ?_⟩) HP6.out.cells ?_
  · (intro w' hSw; go_simp)
  simp only [Act.put, List.setIfInBounds_toArray, List.set_cons_zero, List.set_cons_succ]
  refine wpAnyH_take (i := 10) (oi := { dst := some 97, op := Op.extract (Operand.tmp 87) 1, type := 47, pos := "law.go:86", after := #[{ on := 8, ground := Ground.data }, { on := 11, ground := Ground.gcOnly Departure.lateStores }], guard := none }) (v := .slice A6 m k6) rfl (by kernel_rfl) (by kernel_rfl) (by kernel_rfl) (fun _ _ _ h => h) (Or.inl ⟨by rfl, ?_⟩) HP6.out.cells ?_
  · (intro w' hSw; go_simp)
  simp only [Act.put, List.setIfInBounds_toArray, List.set_cons_zero, List.set_cons_succ]
  refine wpAnyH_take (i := 11) (oi := { dst := some 20, op := Op.assign (Operand.tmp 96), type := 47, pos := "law.go:86", after := #[{ on := 9, ground := Ground.data }, { on := 7, ground := Ground.chain }, { on := 0, ground := Ground.phase }, { on := 1, ground := Ground.phase }, { on := 2, ground := Ground.phase }, { on := 3, ground := Ground.phase }, { on := 4, ground := Ground.phase }, { on := 5, ground := Ground.phase }, { on := 6, ground := Ground.phase }, { on := 7, ground := Ground.phase }, { on := 8, ground := Ground.phase }, { on := 9, ground := Ground.phase }, { on := 10, ground := Ground.textOnly Departure.lateStores }], guard := none }) (v := .slice A5 m k5) rfl (by kernel_rfl) (by kernel_rfl) (by kernel_rfl) (fun _ _ _ h => h) (Or.inl ⟨by rfl, ?_⟩) HP6.out.cells ?_
  · (intro w' hSw; go_simp)
  simp only [Act.put, List.setIfInBounds_toArray, List.set_cons_zero, List.set_cons_succ]
  refine wpAnyH_take (i := 12) (oi := { dst := some 21, op := Op.assign (Operand.tmp 97), type := 47, pos := "law.go:86", after := #[{ on := 10, ground := Ground.data }, { on := 11, ground := Ground.chain }, { on := 0, ground := Ground.phase }, { on := 1, ground := Ground.phase }, { on := 2, ground := Ground.phase }, { on := 3, ground := Ground.phase }, { on := 4, ground := Ground.phase }, { on := 5, ground := Ground.phase }, { on := 6, ground := Ground.phase }, { on := 7, ground := Ground.phase }, { on := 8, ground := Ground.phase }, { on := 9, ground := Ground.phase }, { on := 10, ground := Ground.phase }, { on := 11, ground := Ground.phase }], guard := none }) (v := .slice A6 m k6) rfl (by kernel_rfl) (by kernel_rfl) (by kernel_rfl) (fun _ _ _ h => h) (Or.inl ⟨by rfl, ?_⟩) HP6.out.cells ?_
  · (intro w' hSw; go_simp)
  simp only [Act.put, List.setIfInBounds_toArray, List.set_cons_zero, List.set_cons_succ]
  refine wpAnyH_done (by kernel_rfl) ?_ _
  refine NoPanic.normal ?_
  have hd := (show Below w6.heap.size w6 w6.drew from (Below.refl _ _).drew)
  replace HS6 := Lib.hid (HS6.out.later hd HT5.out)
  replace HP6 := Lib.hid (HP6.out.later hd)
  replace HZ5 := Lib.hid (HZ5.out.later hd)
  replace HZ6 := Lib.hid (HZ6.out.later hd)
  clear hd
  go_upto_region 20 with fail
  refine wp_region_noPanic ?_
  refine wp_region_held_drew (S := fun w' => w'.cell? ⟨wb, wo, none⟩ = some (.slice X0 m c0) ∧ w'.cell? ⟨wb, wo + 1, none⟩ = some (.slice X1 m c1) ∧ w'.cell? ⟨wb, wo + 2, none⟩ = some (.slice (some ⟨cb, co, none⟩) 1 c2) ∧ w'.cell? ⟨cb, co, none⟩ = some (.int .i64 cl)) (by kernel_rfl) HP6.out.cells (fun _ => ?_)
  generalize w6.drew = w6 at *
  refine wpAnyH_take (i := 0) (oi := { dst := some 101, op := Op.move (Operand.tmp 16), type := 24, pos := "law.go:91", after := #[], guard := none }) (v := .pointer (some ⟨bb, 0, none⟩)) rfl (by kernel_rfl) (by kernel_rfl) (by kernel_rfl) (fun _ _ _ h => h) (Or.inl ⟨by rfl, ?_⟩) HP6.out.cells ?_
  · (intro w' hSw; go_simp)
  simp only [Act.put, List.setIfInBounds_toArray, List.set_cons_zero, List.set_cons_succ]
  refine wpAnyH_take (i := 1) (oi := { dst := some 102, op := Op.move (Operand.tmp 11), type := 49, pos := "law.go:91", after := #[], guard := none }) (v := .slice (some ⟨wb, wo, none⟩) 3 wc) rfl (by kernel_rfl) (by kernel_rfl) (by kernel_rfl) (fun _ _ _ h => h) (Or.inl ⟨by rfl, ?_⟩) HP6.out.cells ?_
  · (intro w' hSw; go_simp)
  simp only [Act.put, List.setIfInBounds_toArray, List.set_cons_zero, List.set_cons_succ]
  refine wpAnyH_take (i := 2) (oi := { dst := some 103, op := Op.indexAddr 49 (Operand.tmp 102) (Operand.const (Value.int IntKind.i64 0)), type := 0, pos := "law.go:91", after := #[{ on := 1, ground := Ground.data }], guard := none }) (v := .pointer (some ⟨wb, wo, none⟩)) rfl (by kernel_rfl) (by kernel_rfl) (by kernel_rfl) (fun _ _ _ h => h) (Or.inl ⟨by rfl, ?_⟩) HP6.out.cells ?_
  · (intro w' hSw; go_simp)
  simp only [Act.put, List.setIfInBounds_toArray, List.set_cons_zero, List.set_cons_succ]
  refine wpAnyH_take (i := 3) (oi := { dst := some 104, op := Op.load 47 (Operand.tmp 103), type := 47, pos := "law.go:91", after := #[{ on := 2, ground := Ground.data }], guard := none }) (v := .slice X0 m c0) rfl (by kernel_rfl) (by kernel_rfl) (by kernel_rfl) (fun _ _ _ h => h) (Or.inl ⟨by rfl, ?_⟩) HP6.out.cells ?_
  · (intro w' hSw; obtain ⟨z0, z1, z2, z3⟩ := hSw; go_simp)
  simp only [Act.put, List.setIfInBounds_toArray, List.set_cons_zero, List.set_cons_succ]
  refine wpAnyH_take (i := 5) (oi := { dst := some 106, op := Op.move (Operand.tmp 0), type := 3, pos := "law.go:91", after := #[], guard := none }) (v := .int .i64 (m : Int)) rfl (by kernel_rfl) (by kernel_rfl) (by kernel_rfl) (fun _ _ _ h => h) (Or.inl ⟨by rfl, ?_⟩) HP6.out.cells ?_
  · (intro w' hSw; go_simp)
  simp only [Act.put, List.setIfInBounds_toArray, List.set_cons_zero, List.set_cons_succ]
  refine wpAnyH_take (i := 6) (oi := { dst := some 107, op := Op.move (Operand.tmp 1), type := 3, pos := "law.go:91", after := #[], guard := none }) (v := .int .i64 a) rfl (by kernel_rfl) (by kernel_rfl) (by kernel_rfl) (fun _ _ _ h => h) (Or.inl ⟨by rfl, ?_⟩) HP6.out.cells ?_
  · (intro w' hSw; go_simp)
  simp only [Act.put, List.setIfInBounds_toArray, List.set_cons_zero, List.set_cons_succ]
  refine wpAnyH_take (i := 7) (oi := { dst := some 108, op := Op.unOp UnOp.neg 3 (Operand.tmp 107), type := 3, pos := "law.go:91", after := #[{ on := 6, ground := Ground.data }], guard := none }) (v := .int .i64 (-a)) rfl (by kernel_rfl) (by kernel_rfl) (by kernel_rfl) (fun _ _ _ h => h) (Or.inl ⟨by rfl, ?_⟩) HP6.out.cells ?_
  · (intro w' hSw; obtain ⟨i0, i1, i2, i3⟩ := HM.out; go_simp)
  simp only [Act.put, List.setIfInBounds_toArray, List.set_cons_zero, List.set_cons_succ]
  refine wpAnyH_take (i := 10) (oi := { dst := some 111, op := Op.move (Operand.tmp 16), type := 24, pos := "law.go:91", after := #[], guard := none }) (v := .pointer (some ⟨bb, 0, none⟩)) rfl (by kernel_rfl) (by kernel_rfl) (by kernel_rfl) (fun _ _ _ h => h) (Or.inl ⟨by rfl, ?_⟩) HP6.out.cells ?_
  · (intro w' hSw; go_simp)
  simp only [Act.put, List.setIfInBounds_toArray, List.set_cons_zero, List.set_cons_succ]
  refine wpAnyH_take (i := 11) (oi := { dst := some 112, op := Op.move (Operand.tmp 11), type := 49, pos := "law.go:91", after := #[], guard := none }) (v := .slice (some ⟨wb, wo, none⟩) 3 wc) rfl (by kernel_rfl) (by kernel_rfl) (by kernel_rfl) (fun _ _ _ h => h) (Or.inl ⟨by rfl, ?_⟩) HP6.out.cells ?_
  · (intro w' hSw; go_simp)
  simp only [Act.put, List.setIfInBounds_toArray, List.set_cons_zero, List.set_cons_succ]
  refine wpAnyH_take (i := 12) (oi := { dst := some 113, op := Op.indexAddr 49 (Operand.tmp 112) (Operand.const (Value.int IntKind.i64 0)), type := 0, pos := "law.go:91", after := #[{ on := 11, ground := Ground.data }], guard := none }) (v := .pointer (some ⟨wb, wo, none⟩)) rfl (by kernel_rfl) (by kernel_rfl) (by kernel_rfl) (fun _ _ _ h => h) (Or.inl ⟨by rfl, ?_⟩) HP6.out.cells ?_
  · (intro w' hSw; go_simp)
  simp only [Act.put, List.setIfInBounds_toArray, List.set_cons_zero, List.set_cons_succ]
  refine wpAnyH_take (i := 13) (oi := { dst := some 114, op := Op.load 47 (Operand.tmp 113), type := 47, pos := "law.go:91", after := #[{ on := 12, ground := Ground.data }], guard := none }) (v := .slice X0 m c0) rfl (by kernel_rfl) (by kernel_rfl) (by kernel_rfl) (fun _ _ _ h => h) (Or.inl ⟨by rfl, ?_⟩) HP6.out.cells ?_
  · (intro w' hSw; obtain ⟨z0, z1, z2, z3⟩ := hSw; go_simp)
  simp only [Act.put, List.setIfInBounds_toArray, List.set_cons_zero, List.set_cons_succ]
  refine wpAnyH_take (i := 14) (oi := { dst := some 115, op := Op.move (Operand.tmp 11), type := 49, pos := "law.go:91", after := #[], guard := none }) (v := .slice (some ⟨wb, wo, none⟩) 3 wc) rfl (by kernel_rfl) (by kernel_rfl) (by kernel_rfl) (fun _ _ _ h => h) (Or.inl ⟨by rfl, ?_⟩) HP6.out.cells ?_
  · (intro w' hSw; go_simp)
  simp only [Act.put, List.setIfInBounds_toArray, List.set_cons_zero, List.set_cons_succ]
  refine wpAnyH_take (i := 15) (oi := { dst := some 116, op := Op.indexAddr 49 (Operand.tmp 115) (Operand.const (Value.int IntKind.i64 1)), type := 0, pos := "law.go:91", after := #[{ on := 14, ground := Ground.data }], guard := none }) (v := .pointer (some ⟨wb, wo + 1, none⟩)) rfl (by kernel_rfl) (by kernel_rfl) (by kernel_rfl) (fun _ _ _ h => h) (Or.inl ⟨by rfl, ?_⟩) HP6.out.cells ?_
  · (intro w' hSw; go_simp)
  simp only [Act.put, List.setIfInBounds_toArray, List.set_cons_zero, List.set_cons_succ]
  refine wpAnyH_take (i := 16) (oi := { dst := some 117, op := Op.load 47 (Operand.tmp 116), type := 47, pos := "law.go:91", after := #[{ on := 15, ground := Ground.data }], guard := none }) (v := .slice X1 m c1) rfl (by kernel_rfl) (by kernel_rfl) (by kernel_rfl) (fun _ _ _ h => h) (Or.inl ⟨by rfl, ?_⟩) HP6.out.cells ?_
  · (intro w' hSw; obtain ⟨z0, z1, z2, z3⟩ := hSw; go_simp)
  simp only [Act.put, List.setIfInBounds_toArray, List.set_cons_zero, List.set_cons_succ]
  refine wpAnyH_take (i := 18) (oi := { dst := some 119, op := Op.move (Operand.tmp 0), type := 3, pos := "law.go:91", after := #[], guard := none }) (v := .int .i64 (m : Int)) rfl (by kernel_rfl) (by kernel_rfl) (by kernel_rfl) (fun _ _ _ h => h) (Or.inl ⟨by rfl, ?_⟩) HP6.out.cells ?_
  · (intro w' hSw; go_simp)
  simp only [Act.put, List.setIfInBounds_toArray, List.set_cons_zero, List.set_cons_succ]
  refine wpAnyH_take (i := 19) (oi := { dst := some 120, op := Op.move (Operand.tmp 1), type := 3, pos := "law.go:91", after := #[], guard := none }) (v := .int .i64 a) rfl (by kernel_rfl) (by kernel_rfl) (by kernel_rfl) (fun _ _ _ h => h) (Or.inl ⟨by rfl, ?_⟩) HP6.out.cells ?_
  · (intro w' hSw; go_simp)
  simp only [Act.put, List.setIfInBounds_toArray, List.set_cons_zero, List.set_cons_succ]
  refine wpAnyH_take (i := 20) (oi := { dst := some 121, op := Op.move (Operand.tmp 2), type := 3, pos := "law.go:91", after := #[], guard := none }) (v := .int .i64 b) rfl (by kernel_rfl) (by kernel_rfl) (by kernel_rfl) (fun _ _ _ h => h) (Or.inl ⟨by rfl, ?_⟩) HP6.out.cells ?_
  · (intro w' hSw; go_simp)
  simp only [Act.put, List.setIfInBounds_toArray, List.set_cons_zero, List.set_cons_succ]
  refine wpAnyH_take (i := 21) (oi := { dst := some 122, op := Op.binOp BinOp.add 3 (Operand.tmp 120) (Operand.tmp 121) 3, type := 3, pos := "law.go:91", after := #[{ on := 19, ground := Ground.data }, { on := 20, ground := Ground.data }], guard := none }) (v := .int .i64 (a + b)) rfl (by kernel_rfl) (by kernel_rfl) (by kernel_rfl) (fun _ _ _ h => h) (Or.inl ⟨by rfl, ?_⟩) HP6.out.cells ?_
  · (intro w' hSw; obtain ⟨i0, i1, i2, i3⟩ := HM.out; go_simp)
  simp only [Act.put, List.setIfInBounds_toArray, List.set_cons_zero, List.set_cons_succ]
  refine wpAnyH_take (i := 24) (oi := { dst := some 125, op := Op.move (Operand.tmp 16), type := 24, pos := "law.go:91", after := #[], guard := none }) (v := .pointer (some ⟨bb, 0, none⟩)) rfl (by kernel_rfl) (by kernel_rfl) (by kernel_rfl) (fun _ _ _ h => h) (Or.inl ⟨by rfl, ?_⟩) HP6.out.cells ?_
  · (intro w' hSw; go_simp)
  simp only [Act.put, List.setIfInBounds_toArray, List.set_cons_zero, List.set_cons_succ]
  refine wpAnyH_take (i := 25) (oi := { dst := some 126, op := Op.move (Operand.tmp 11), type := 49, pos := "law.go:91", after := #[], guard := none }) (v := .slice (some ⟨wb, wo, none⟩) 3 wc) rfl (by kernel_rfl) (by kernel_rfl) (by kernel_rfl) (fun _ _ _ h => h) (Or.inl ⟨by rfl, ?_⟩) HP6.out.cells ?_
  · (intro w' hSw; go_simp)
  simp only [Act.put, List.setIfInBounds_toArray, List.set_cons_zero, List.set_cons_succ]
  refine wpAnyH_take (i := 26) (oi := { dst := some 127, op := Op.indexAddr 49 (Operand.tmp 126) (Operand.const (Value.int IntKind.i64 0)), type := 0, pos := "law.go:91", after := #[{ on := 25, ground := Ground.data }], guard := none }) (v := .pointer (some ⟨wb, wo, none⟩)) rfl (by kernel_rfl) (by kernel_rfl) (by kernel_rfl) (fun _ _ _ h => h) (Or.inl ⟨by rfl, ?_⟩) HP6.out.cells ?_
  · (intro w' hSw; go_simp)
  simp only [Act.put, List.setIfInBounds_toArray, List.set_cons_zero, List.set_cons_succ]
  refine wpAnyH_take (i := 27) (oi := { dst := some 128, op := Op.load 47 (Operand.tmp 127), type := 47, pos := "law.go:91", after := #[{ on := 26, ground := Ground.data }], guard := none }) (v := .slice X0 m c0) rfl (by kernel_rfl) (by kernel_rfl) (by kernel_rfl) (fun _ _ _ h => h) (Or.inl ⟨by rfl, ?_⟩) HP6.out.cells ?_
  · (intro w' hSw; obtain ⟨z0, z1, z2, z3⟩ := hSw; go_simp)
  simp only [Act.put, List.setIfInBounds_toArray, List.set_cons_zero, List.set_cons_succ]
  refine wpAnyH_take (i := 28) (oi := { dst := some 129, op := Op.move (Operand.tmp 11), type := 49, pos := "law.go:91", after := #[], guard := none }) (v := .slice (some ⟨wb, wo, none⟩) 3 wc) rfl (by kernel_rfl) (by kernel_rfl) (by kernel_rfl) (fun _ _ _ h => h) (Or.inl ⟨by rfl, ?_⟩) HP6.out.cells ?_
  · (intro w' hSw; go_simp)
  simp only [Act.put, List.setIfInBounds_toArray, List.set_cons_zero, List.set_cons_succ]
  refine wpAnyH_take (i := 29) (oi := { dst := some 130, op := Op.indexAddr 49 (Operand.tmp 129) (Operand.const (Value.int IntKind.i64 1)), type := 0, pos := "law.go:91", after := #[{ on := 28, ground := Ground.data }], guard := none }) (v := .pointer (some ⟨wb, wo + 1, none⟩)) rfl (by kernel_rfl) (by kernel_rfl) (by kernel_rfl) (fun _ _ _ h => h) (Or.inl ⟨by rfl, ?_⟩) HP6.out.cells ?_
  · (intro w' hSw; go_simp)
  simp only [Act.put, List.setIfInBounds_toArray, List.set_cons_zero, List.set_cons_succ]
  refine wpAnyH_take (i := 30) (oi := { dst := some 131, op := Op.load 47 (Operand.tmp 130), type := 47, pos := "law.go:91", after := #[{ on := 29, ground := Ground.data }], guard := none }) (v := .slice X1 m c1) rfl (by kernel_rfl) (by kernel_rfl) (by kernel_rfl) (fun _ _ _ h => h) (Or.inl ⟨by rfl, ?_⟩) HP6.out.cells ?_
  · (intro w' hSw; obtain ⟨z0, z1, z2, z3⟩ := hSw; go_simp)
  simp only [Act.put, List.setIfInBounds_toArray, List.set_cons_zero, List.set_cons_succ]
  refine wpAnyH_take (i := 32) (oi := { dst := some 133, op := Op.move (Operand.tmp 0), type := 3, pos := "law.go:91", after := #[], guard := none }) (v := .int .i64 (m : Int)) rfl (by kernel_rfl) (by kernel_rfl) (by kernel_rfl) (fun _ _ _ h => h) (Or.inl ⟨by rfl, ?_⟩) HP6.out.cells ?_
  · (intro w' hSw; go_simp)
  simp only [Act.put, List.setIfInBounds_toArray, List.set_cons_zero, List.set_cons_succ]
  refine wpAnyH_take (i := 33) (oi := { dst := some 134, op := Op.move (Operand.tmp 1), type := 3, pos := "law.go:91", after := #[], guard := none }) (v := .int .i64 a) rfl (by kernel_rfl) (by kernel_rfl) (by kernel_rfl) (fun _ _ _ h => h) (Or.inl ⟨by rfl, ?_⟩) HP6.out.cells ?_
  · (intro w' hSw; go_simp)
  simp only [Act.put, List.setIfInBounds_toArray, List.set_cons_zero, List.set_cons_succ]
  refine wpAnyH_take (i := 34) (oi := { dst := some 135, op := Op.move (Operand.tmp 2), type := 3, pos := "law.go:91", after := #[], guard := none }) (v := .int .i64 b) rfl (by kernel_rfl) (by kernel_rfl) (by kernel_rfl) (fun _ _ _ h => h) (Or.inl ⟨by rfl, ?_⟩) HP6.out.cells ?_
  · (intro w' hSw; go_simp)
  simp only [Act.put, List.setIfInBounds_toArray, List.set_cons_zero, List.set_cons_succ]
  refine wpAnyH_take (i := 35) (oi := { dst := some 136, op := Op.binOp BinOp.sub 3 (Operand.tmp 134) (Operand.tmp 135) 3, type := 3, pos := "law.go:91", after := #[{ on := 33, ground := Ground.data }, { on := 34, ground := Ground.data }], guard := none }) (v := .int .i64 (a - b)) rfl (by kernel_rfl) (by kernel_rfl) (by kernel_rfl) (fun _ _ _ h => h) (Or.inl ⟨by rfl, ?_⟩) HP6.out.cells ?_
  · (intro w' hSw; obtain ⟨i0, i1, i2, i3⟩ := HM.out; go_simp)
  simp only [Act.put, List.setIfInBounds_toArray, List.set_cons_zero, List.set_cons_succ]
  refine wpAnyH_take (i := 38) (oi := { dst := some 139, op := Op.move (Operand.tmp 16), type := 24, pos := "law.go:91", after := #[], guard := none }) (v := .pointer (some ⟨bb, 0, none⟩)) rfl (by kernel_rfl) (by kernel_rfl) (by kernel_rfl) (fun _ _ _ h => h) (Or.inl ⟨by rfl, ?_⟩) HP6.out.cells ?_
  · (intro w' hSw; go_simp)
  simp only [Act.put, List.setIfInBounds_toArray, List.set_cons_zero, List.set_cons_succ]
  refine wpAnyH_take (i := 39) (oi := { dst := some 140, op := Op.move (Operand.tmp 11), type := 49, pos := "law.go:91", after := #[], guard := none }) (v := .slice (some ⟨wb, wo, none⟩) 3 wc) rfl (by kernel_rfl) (by kernel_rfl) (by kernel_rfl) (fun _ _ _ h => h) (Or.inl ⟨by rfl, ?_⟩) HP6.out.cells ?_
  · (intro w' hSw; go_simp)
  simp only [Act.put, List.setIfInBounds_toArray, List.set_cons_zero, List.set_cons_succ]
  refine wpAnyH_take (i := 40) (oi := { dst := some 141, op := Op.indexAddr 49 (Operand.tmp 140) (Operand.const (Value.int IntKind.i64 0)), type := 0, pos := "law.go:91", after := #[{ on := 39, ground := Ground.data }], guard := none }) (v := .pointer (some ⟨wb, wo, none⟩)) rfl (by kernel_rfl) (by kernel_rfl) (by kernel_rfl) (fun _ _ _ h => h) (Or.inl ⟨by rfl, ?_⟩) HP6.out.cells ?_
  · (intro w' hSw; go_simp)
  simp only [Act.put, List.setIfInBounds_toArray, List.set_cons_zero, List.set_cons_succ]
  refine wpAnyH_take (i := 41) (oi := { dst := some 142, op := Op.load 47 (Operand.tmp 141), type := 47, pos := "law.go:91", after := #[{ on := 40, ground := Ground.data }], guard := none }) (v := .slice X0 m c0) rfl (by kernel_rfl) (by kernel_rfl) (by kernel_rfl) (fun _ _ _ h => h) (Or.inl ⟨by rfl, ?_⟩) HP6.out.cells ?_
  · (intro w' hSw; obtain ⟨z0, z1, z2, z3⟩ := hSw; go_simp)
  simp only [Act.put, List.setIfInBounds_toArray, List.set_cons_zero, List.set_cons_succ]
  refine wpAnyH_take (i := 42) (oi := { dst := some 143, op := Op.move (Operand.tmp 11), type := 49, pos := "law.go:91", after := #[], guard := none }) (v := .slice (some ⟨wb, wo, none⟩) 3 wc) rfl (by kernel_rfl) (by kernel_rfl) (by kernel_rfl) (fun _ _ _ h => h) (Or.inl ⟨by rfl, ?_⟩) HP6.out.cells ?_
  · (intro w' hSw; go_simp)
  simp only [Act.put, List.setIfInBounds_toArray, List.set_cons_zero, List.set_cons_succ]
  refine wpAnyH_take (i := 43) (oi := { dst := some 144, op := Op.indexAddr 49 (Operand.tmp 143) (Operand.const (Value.int IntKind.i64 1)), type := 0, pos := "law.go:91", after := #[{ on := 42, ground := Ground.data }], guard := none }) (v := .pointer (some ⟨wb, wo + 1, none⟩)) rfl (by kernel_rfl) (by kernel_rfl) (by kernel_rfl) (fun _ _ _ h => h) (Or.inl ⟨by rfl, ?_⟩) HP6.out.cells ?_
  · (intro w' hSw; go_simp)
  simp only [Act.put, List.setIfInBounds_toArray, List.set_cons_zero, List.set_cons_succ]
  refine wpAnyH_take (i := 44) (oi := { dst := some 145, op := Op.load 47 (Operand.tmp 144), type := 47, pos := "law.go:91", after := #[{ on := 43, ground := Ground.data }], guard := none }) (v := .slice X1 m c1) rfl (by kernel_rfl) (by kernel_rfl) (by kernel_rfl) (fun _ _ _ h => h) (Or.inl ⟨by rfl, ?_⟩) HP6.out.cells ?_
  · (intro w' hSw; obtain ⟨z0, z1, z2, z3⟩ := hSw; go_simp)
  simp only [Act.put, List.setIfInBounds_toArray, List.set_cons_zero, List.set_cons_succ]
  refine wpAnyH_take (i := 46) (oi := { dst := some 147, op := Op.move (Operand.tmp 0), type := 3, pos := "law.go:91", after := #[], guard := none }) (v := .int .i64 (m : Int)) rfl (by kernel_rfl) (by kernel_rfl) (by kernel_rfl) (fun _ _ _ h => h) (Or.inl ⟨by rfl, ?_⟩) HP6.out.cells ?_
  · (intro w' hSw; go_simp)
  simp only [Act.put, List.setIfInBounds_toArray, List.set_cons_zero, List.set_cons_succ]
  refine wpAnyH_take (i := 47) (oi := { dst := some 148, op := Op.move (Operand.tmp 1), type := 3, pos := "law.go:91", after := #[], guard := none }) (v := .int .i64 a) rfl (by kernel_rfl) (by kernel_rfl) (by kernel_rfl) (fun _ _ _ h => h) (Or.inl ⟨by rfl, ?_⟩) HP6.out.cells ?_
  · (intro w' hSw; go_simp)
  simp only [Act.put, List.setIfInBounds_toArray, List.set_cons_zero, List.set_cons_succ]
  refine wpAnyH_take (i := 48) (oi := { dst := some 149, op := Op.move (Operand.tmp 2), type := 3, pos := "law.go:91", after := #[], guard := none }) (v := .int .i64 b) rfl (by kernel_rfl) (by kernel_rfl) (by kernel_rfl) (fun _ _ _ h => h) (Or.inl ⟨by rfl, ?_⟩) HP6.out.cells ?_
  · (intro w' hSw; go_simp)
  simp only [Act.put, List.setIfInBounds_toArray, List.set_cons_zero, List.set_cons_succ]
  refine wpAnyH_take (i := 49) (oi := { dst := some 150, op := Op.binOp BinOp.mul 3 (Operand.tmp 148) (Operand.tmp 149) 3, type := 3, pos := "law.go:91", after := #[{ on := 47, ground := Ground.data }, { on := 48, ground := Ground.data }], guard := none }) (v := .int .i64 (a * b)) rfl (by kernel_rfl) (by kernel_rfl) (by kernel_rfl) (fun _ _ _ h => h) (Or.inl ⟨by rfl, ?_⟩) HP6.out.cells ?_
  · (intro w' hSw; obtain ⟨i0, i1, i2, i3⟩ := HM.out; go_simp)
  simp only [Act.put, List.setIfInBounds_toArray, List.set_cons_zero, List.set_cons_succ]
  refine wpAnyH_take (i := 52) (oi := { dst := some 153, op := Op.move (Operand.tmp 20), type := 47, pos := "law.go:91", after := #[], guard := none }) (v := .slice A5 m k5) rfl (by kernel_rfl) (by kernel_rfl) (by kernel_rfl) (fun _ _ _ h => h) (Or.inl ⟨by rfl, ?_⟩) HP6.out.cells ?_
  · (intro w' hSw; go_simp)
  simp only [Act.put, List.setIfInBounds_toArray, List.set_cons_zero, List.set_cons_succ]
  refine wpAnyH_take (i := 53) (oi := { dst := some 154, op := Op.move (Operand.tmp 18), type := 3, pos := "law.go:91", after := #[], guard := none }) (v := .int .i64 g5) rfl (by kernel_rfl) (by kernel_rfl) (by kernel_rfl) (fun _ _ _ h => h) (Or.inl ⟨by rfl, ?_⟩) HP6.out.cells ?_
  · (intro w' hSw; go_simp)
  simp only [Act.put, List.setIfInBounds_toArray, List.set_cons_zero, List.set_cons_succ]
  refine wpAnyH_take (i := 54) (oi := { dst := some 155, op := Op.build 68 #[(0, Operand.tmp 153), (1, Operand.tmp 154)], type := 68, pos := "law.go:91", after := #[{ on := 52, ground := Ground.data }, { on := 53, ground := Ground.data }], guard := none }) (v := .agg #[.slice A5 m k5, .int .i64 g5]) rfl (by kernel_rfl) (by kernel_rfl) (by kernel_rfl) (fun _ _ _ h => h) (Or.inl ⟨by rfl, ?_⟩) HP6.out.cells ?_
  · (intro w' hSw; go_simp)
  simp only [Act.put, List.setIfInBounds_toArray, List.set_cons_zero, List.set_cons_succ]
  refine wpAnyH_take (i := 55) (oi := { dst := some 156, op := Op.move (Operand.tmp 21), type := 47, pos := "law.go:91", after := #[], guard := none }) (v := .slice A6 m k6) rfl (by kernel_rfl) (by kernel_rfl) (by kernel_rfl) (fun _ _ _ h => h) (Or.inl ⟨by rfl, ?_⟩) HP6.out.cells ?_
  · (intro w' hSw; go_simp)
  simp only [Act.put, List.setIfInBounds_toArray, List.set_cons_zero, List.set_cons_succ]
  refine wpAnyH_take (i := 56) (oi := { dst := some 157, op := Op.move (Operand.tmp 19), type := 3, pos := "law.go:91", after := #[], guard := none }) (v := .int .i64 g6) rfl (by kernel_rfl) (by kernel_rfl) (by kernel_rfl) (fun _ _ _ h => h) (Or.inl ⟨by rfl, ?_⟩) HP6.out.cells ?_
  · (intro w' hSw; go_simp)
  simp only [Act.put, List.setIfInBounds_toArray, List.set_cons_zero, List.set_cons_succ]
  refine wpAnyH_take (i := 57) (oi := { dst := some 158, op := Op.build 68 #[(0, Operand.tmp 156), (1, Operand.tmp 157)], type := 68, pos := "law.go:91", after := #[{ on := 55, ground := Ground.data }, { on := 56, ground := Ground.data }], guard := none }) (v := .agg #[.slice A6 m k6, .int .i64 g6]) rfl (by kernel_rfl) (by kernel_rfl) (by kernel_rfl) (fun _ _ _ h => h) (Or.inl ⟨by rfl, ?_⟩) HP6.out.cells ?_
  · (intro w' hSw; go_simp)
  simp only [Act.put, List.setIfInBounds_toArray, List.set_cons_zero, List.set_cons_succ]
  refine wpAnyH_take (i := 58) (oi := { dst := some 159, op := Op.move (Operand.tmp 16), type := 24, pos := "law.go:91", after := #[], guard := none }) (v := .pointer (some ⟨bb, 0, none⟩)) rfl (by kernel_rfl) (by kernel_rfl) (by kernel_rfl) (fun _ _ _ h => h) (Or.inl ⟨by rfl, ?_⟩) HP6.out.cells ?_
  · (intro w' hSw; go_simp)
  simp only [Act.put, List.setIfInBounds_toArray, List.set_cons_zero, List.set_cons_succ]
  refine wpAnyH_take (i := 59) (oi := { dst := some 160, op := Op.move (Operand.tmp 11), type := 49, pos := "law.go:91", after := #[], guard := none }) (v := .slice (some ⟨wb, wo, none⟩) 3 wc) rfl (by kernel_rfl) (by kernel_rfl) (by kernel_rfl) (fun _ _ _ h => h) (Or.inl ⟨by rfl, ?_⟩) HP6.out.cells ?_
  · (intro w' hSw; go_simp)
  simp only [Act.put, List.setIfInBounds_toArray, List.set_cons_zero, List.set_cons_succ]
  refine wpAnyH_take (i := 60) (oi := { dst := some 161, op := Op.indexAddr 49 (Operand.tmp 160) (Operand.const (Value.int IntKind.i64 2)), type := 0, pos := "law.go:91", after := #[{ on := 59, ground := Ground.data }], guard := none }) (v := .pointer (some ⟨wb, wo + 2, none⟩)) rfl (by kernel_rfl) (by kernel_rfl) (by kernel_rfl) (fun _ _ _ h => h) (Or.inl ⟨by rfl, ?_⟩) HP6.out.cells ?_
  · (intro w' hSw; go_simp)
  simp only [Act.put, List.setIfInBounds_toArray, List.set_cons_zero, List.set_cons_succ]
  refine wpAnyH_take (i := 61) (oi := { dst := some 162, op := Op.load 47 (Operand.tmp 161), type := 47, pos := "law.go:91", after := #[{ on := 60, ground := Ground.data }], guard := none }) (v := .slice (some ⟨cb, co, none⟩) 1 c2) rfl (by kernel_rfl) (by kernel_rfl) (by kernel_rfl) (fun _ _ _ h => h) (Or.inl ⟨by rfl, ?_⟩) HP6.out.cells ?_
  · (intro w' hSw; obtain ⟨z0, z1, z2, z3⟩ := hSw; go_simp)
  simp only [Act.put, List.setIfInBounds_toArray, List.set_cons_zero, List.set_cons_succ]
  refine wpAnyH_take (i := 62) (oi := { dst := some 163, op := Op.indexAddr 47 (Operand.tmp 162) (Operand.const (Value.int IntKind.i64 0)), type := 0, pos := "law.go:91", after := #[{ on := 61, ground := Ground.data }], guard := none }) (v := .pointer (some ⟨cb, co, none⟩)) rfl (by kernel_rfl) (by kernel_rfl) (by kernel_rfl) (fun _ _ _ h => h) (Or.inl ⟨by rfl, ?_⟩) HP6.out.cells ?_
  · (intro w' hSw; go_simp)
  simp only [Act.put, List.setIfInBounds_toArray, List.set_cons_zero, List.set_cons_succ]
  refine wpAnyH_take (i := 63) (oi := { dst := some 164, op := Op.load 3 (Operand.tmp 163), type := 3, pos := "law.go:91", after := #[{ on := 62, ground := Ground.data }], guard := none }) (v := .int .i64 cl) rfl (by kernel_rfl) (by kernel_rfl) (by kernel_rfl) (fun _ _ _ h => h) (Or.inl ⟨by rfl, ?_⟩) HP6.out.cells ?_
  · (intro w' hSw; obtain ⟨z0, z1, z2, z3⟩ := hSw; go_simp)
  simp only [Act.put, List.setIfInBounds_toArray, List.set_cons_zero, List.set_cons_succ]
  refine wpAnyH_take (i := 64) (oi := { dst := some 165, op := Op.move (Operand.tmp 11), type := 49, pos := "law.go:91", after := #[], guard := none }) (v := .slice (some ⟨wb, wo, none⟩) 3 wc) rfl (by kernel_rfl) (by kernel_rfl) (by kernel_rfl) (fun _ _ _ h => h) (Or.inl ⟨by rfl, ?_⟩) HP6.out.cells ?_
  · (intro w' hSw; go_simp)
  simp only [Act.put, List.setIfInBounds_toArray, List.set_cons_zero, List.set_cons_succ]
  refine wpAnyH_take (i := 65) (oi := { dst := some 166, op := Op.indexAddr 49 (Operand.tmp 165) (Operand.const (Value.int IntKind.i64 0)), type := 0, pos := "law.go:91", after := #[{ on := 64, ground := Ground.data }], guard := none }) (v := .pointer (some ⟨wb, wo, none⟩)) rfl (by kernel_rfl) (by kernel_rfl) (by kernel_rfl) (fun _ _ _ h => h) (Or.inl ⟨by rfl, ?_⟩) HP6.out.cells ?_
  · (intro w' hSw; go_simp)
  simp only [Act.put, List.setIfInBounds_toArray, List.set_cons_zero, List.set_cons_succ]
  refine wpAnyH_take (i := 66) (oi := { dst := some 167, op := Op.load 47 (Operand.tmp 166), type := 47, pos := "law.go:91", after := #[{ on := 65, ground := Ground.data }], guard := none }) (v := .slice X0 m c0) rfl (by kernel_rfl) (by kernel_rfl) (by kernel_rfl) (fun _ _ _ h => h) (Or.inl ⟨by rfl, ?_⟩) HP6.out.cells ?_
  · (intro w' hSw; obtain ⟨z0, z1, z2, z3⟩ := hSw; go_simp)
  simp only [Act.put, List.setIfInBounds_toArray, List.set_cons_zero, List.set_cons_succ]
  refine wpAnyH_take (i := 67) (oi := { dst := some 168, op := Op.move (Operand.tmp 11), type := 49, pos := "law.go:91", after := #[], guard := none }) (v := .slice (some ⟨wb, wo, none⟩) 3 wc) rfl (by kernel_rfl) (by kernel_rfl) (by kernel_rfl) (fun _ _ _ h => h) (Or.inl ⟨by rfl, ?_⟩) HP6.out.cells ?_
  · (intro w' hSw; go_simp)
  simp only [Act.put, List.setIfInBounds_toArray, List.set_cons_zero, List.set_cons_succ]
  refine wpAnyH_take (i := 68) (oi := { dst := some 169, op := Op.indexAddr 49 (Operand.tmp 168) (Operand.const (Value.int IntKind.i64 1)), type := 0, pos := "law.go:91", after := #[{ on := 67, ground := Ground.data }], guard := none }) (v := .pointer (some ⟨wb, wo + 1, none⟩)) rfl (by kernel_rfl) (by kernel_rfl) (by kernel_rfl) (fun _ _ _ h => h) (Or.inl ⟨by rfl, ?_⟩) HP6.out.cells ?_
  · (intro w' hSw; go_simp)
  simp only [Act.put, List.setIfInBounds_toArray, List.set_cons_zero, List.set_cons_succ]
  refine wpAnyH_take (i := 69) (oi := { dst := some 170, op := Op.load 47 (Operand.tmp 169), type := 47, pos := "law.go:91", after := #[{ on := 68, ground := Ground.data }], guard := none }) (v := .slice X1 m c1) rfl (by kernel_rfl) (by kernel_rfl) (by kernel_rfl) (fun _ _ _ h => h) (Or.inl ⟨by rfl, ?_⟩) HP6.out.cells ?_
  · (intro w' hSw; obtain ⟨z0, z1, z2, z3⟩ := hSw; go_simp)
  simp only [Act.put, List.setIfInBounds_toArray, List.set_cons_zero, List.set_cons_succ]
  refine wpAnyH_take (i := 71) (oi := { dst := some 172, op := Op.move (Operand.tmp 22), type := 3, pos := "law.go:91", after := #[], guard := none }) (v := .int .i64 a) rfl (by kernel_rfl) (by kernel_rfl) (by kernel_rfl) (fun _ _ _ h => h) (Or.inl ⟨by rfl, ?_⟩) HP6.out.cells ?_
  · (intro w' hSw; go_simp)
  simp only [Act.put, List.setIfInBounds_toArray, List.set_cons_zero, List.set_cons_succ]
  refine wpAnyH_take (i := 75) (oi := { dst := some 176, op := Op.move (Operand.const (Value.int IntKind.i64 0)), type := 3, pos := "law.go:91", after := #[], guard := none }) (v := .int .i64 0) rfl (by kernel_rfl) (by kernel_rfl) (by kernel_rfl) (fun _ _ _ h => h) (Or.inl ⟨by rfl, ?_⟩) HP6.out.cells ?_
  · (intro w' hSw; go_simp)
  simp only [Act.put, List.setIfInBounds_toArray, List.set_cons_zero, List.set_cons_succ]
  refine wpAnyH_ready (rs := [4]) (by kernel_rfl) (by simp) (AllReadyH.cons (o := { dst := some 105, op := Op.call { callee := Callee.value (Operand.func 36), args := #[Operand.tmp 101, Operand.tmp 104], argTypes := #[24, 47] }, type := 47, pos := "law.go:94", after := #[{ on := 0, ground := Ground.data }, { on := 3, ground := Ground.data }], guard := none }) rfl (fun K hK => ?_) AllReadyH.nil)
  go_simp
  go_at_call 36
  have HC := Neg_yes X0 c0 xs HS6.out.tab HP6.out.r0 (HK.out.tx.more HS6.out.grow) HXL.out.1 HXL.out.2.1 (by rw [HK.out.lx]; have := HL6.out; have := HNB.out; omega)
  rw [HK.out.lx] at HC
  refine HC.mono ?_
  rintro e w7 ⟨A1, k1, z1, rv7, gs7, rfl, hac, hz, hh⟩
  have HS7 := Lib.hid (HS6.out.trans hac.st HT5.out)
  have HL7 := Lib.hid (show gs7.length ≤ 2014 by have := hac.st.len; have := HL6.out; have := HNB.out; omega)
  have HP7 := Lib.hid (HP3.out.later (HS7.out.res.below (w0 := w3) HT5.out (Nat.le_refl _) HB35.out))
  have HZ1 := Lib.hid (show ZP w7 gs7 I m A1 z1 (NegH xs) from ⟨hac.own.wrow.2.2, hz, hac.lts, hh⟩)
  replace HZ5 := Lib.hid (HZ5.out.stp HS6.out.tab hac.st)
  replace HZ6 := Lib.hid (HZ6.out.stp HS6.out.tab hac.st)
  clear hac hz hh HC
  refine hK.out _ _ HP7.out.cells (fun _ => ?_)
  clear hK K
  try simp only [Act.put, List.setIfInBounds_toArray, List.set_cons_zero, List.set_cons_succ]
  refine wpAnyH_ready (rs := [8]) (by kernel_rfl) (by simp) (AllReadyH.cons (o := { dst := some 109, op := Op.call { callee := Callee.value (Operand.func 33), args := #[Operand.tmp 106, Operand.tmp 108], argTypes := #[3, 3] }, type := 3, pos := "law.go:94", after := #[{ on := 5, ground := Ground.data }, { on := 7, ground := Ground.data }, { on := 4, ground := Ground.chain }], guard := none }) rfl (fun K hK => ?_) AllReadyH.nil)
  go_simp
  go_at_call 33
  refine (HG1.out _).mono ?_
  rintro e wx ⟨rfl, hwx⟩
  obtain rfl := hwx.symm
  refine hK.out _ _ HP7.out.cells (fun _ => ?_)
  clear hK K
  try simp only [Act.put, List.setIfInBounds_toArray, List.set_cons_zero, List.set_cons_succ]
  refine wpAnyH_take (i := 9) (oi := { dst := some 110, op := Op.build 68 #[(0, Operand.tmp 105), (1, Operand.tmp 109)], type := 68, pos := "law.go:91", after := #[{ on := 4, ground := Ground.data }, { on := 8, ground := Ground.data }], guard := none }) (v := .agg #[.slice A1 m k1, .int .i64 g1]) rfl (by kernel_rfl) (by kernel_rfl) (by kernel_rfl) (fun _ _ _ h => h) (Or.inl ⟨by rfl, ?_⟩) HP7.out.cells ?_
  · (intro w' hSw; go_simp)
  simp only [Act.put, List.setIfInBounds_toArray, List.set_cons_zero, List.set_cons_succ]
  refine wpAnyH_ready (rs := [17]) (by kernel_rfl) (by simp) (AllReadyH.cons (o := { dst := some 118, op := Op.call { callee := Callee.value (Operand.func 37), args := #[Operand.tmp 111, Operand.tmp 114, Operand.tmp 117], argTypes := #[24, 47, 47] }, type := 47, pos := "law.go:94", after := #[{ on := 10, ground := Ground.data }, { on := 13, ground := Ground.data }, { on := 16, ground := Ground.data }, { on := 8, ground := Ground.chain }], guard := none }) rfl (fun K hK => ?_) AllReadyH.nil)
  go_simp
  go_at_call 37
  have HC := Add_yes X0 c0 xs X1 c1 ys HS7.out.tab HP7.out.r0 HP7.out.r1 (HK.out.tx.more HS7.out.grow) (HK.out.ty.more HS7.out.grow) HXL.out.1 HXL.out.2.1 HXL.out.2.2 (by rw [HK.out.lx]; have := HL7.out; have := HNB.out; omega)
  rw [HK.out.lx, HK.out.ly] at HC
  refine HC.mono ?_
  rintro e w8 ⟨A2, k2, z2, rv8, gs8, rfl, hac, hz, hh⟩
  have HS8 := Lib.hid (HS7.out.trans hac.st HT5.out)
  have HL8 := Lib.hid (show gs8.length ≤ 2078 by have := hac.st.len; have := HL7.out; have := HNB.out; omega)
  have HP8 := Lib.hid (HP3.out.later (HS8.out.res.below (w0 := w3) HT5.out (Nat.le_refl _) HB35.out))
  have HZ2 := Lib.hid (show ZP w8 gs8 I m A2 z2 (AddH xs ys) from ⟨hac.own.wrow.2.2, hz, hac.lts, hh⟩)
  replace HZ5 := Lib.hid (HZ5.out.stp HS7.out.tab hac.st)
  replace HZ6 := Lib.hid (HZ6.out.stp HS7.out.tab hac.st)
  replace HZ1 := Lib.hid (HZ1.out.stp HS7.out.tab hac.st)
  clear hac hz hh HC
  refine hK.out _ _ HP8.out.cells (fun _ => ?_)
  clear hK K
  try simp only [Act.put, List.setIfInBounds_toArray, List.set_cons_zero, List.set_cons_succ]
  refine wpAnyH_ready (rs := [22]) (by kernel_rfl) (by simp) (AllReadyH.cons (o := { dst := some 123, op := Op.call { callee := Callee.value (Operand.func 33), args := #[Operand.tmp 119, Operand.tmp 122], argTypes := #[3, 3] }, type := 3, pos := "law.go:94", after := #[{ on := 18, ground := Ground.data }, { on := 21, ground := Ground.data }, { on := 17, ground := Ground.chain }], guard := none }) rfl (fun K hK => ?_) AllReadyH.nil)
  go_simp
  go_at_call 33
  refine (HG2.out _).mono ?_
  rintro e wx ⟨rfl, hwx⟩
  obtain rfl := hwx.symm
  refine hK.out _ _ HP8.out.cells (fun _ => ?_)
  clear hK K
  try simp only [Act.put, List.setIfInBounds_toArray, List.set_cons_zero, List.set_cons_succ]
  refine wpAnyH_take (i := 23) (oi := { dst := some 124, op := Op.build 68 #[(0, Operand.tmp 118), (1, Operand.tmp 123)], type := 68, pos := "law.go:91", after := #[{ on := 17, ground := Ground.data }, { on := 22, ground := Ground.data }], guard := none }) (v := .agg #[.slice A2 m k2, .int .i64 g2]) rfl (by kernel_rfl) (by kernel_rfl) (by kernel_rfl) (fun _ _ _ h => h) (Or.inl ⟨by rfl, ?_⟩) HP8.out.cells ?_
  · (intro w' hSw; go_simp)
  simp only [Act.put, List.setIfInBounds_toArray, List.set_cons_zero, List.set_cons_succ]
  refine wpAnyH_ready (rs := [31]) (by kernel_rfl) (by simp) (AllReadyH.cons (o := { dst := some 132, op := Op.call { callee := Callee.value (Operand.func 38), args := #[Operand.tmp 125, Operand.tmp 128, Operand.tmp 131], argTypes := #[24, 47, 47] }, type := 47, pos := "law.go:94", after := #[{ on := 24, ground := Ground.data }, { on := 27, ground := Ground.data }, { on := 30, ground := Ground.data }, { on := 22, ground := Ground.chain }], guard := none }) rfl (fun K hK => ?_) AllReadyH.nil)
  go_simp
  go_at_call 38
  have HC := Sub_yes X0 c0 xs X1 c1 ys HS8.out.tab HP8.out.r0 HP8.out.r1 (HK.out.tx.more HS8.out.grow) (HK.out.ty.more HS8.out.grow) HXL.out.1 HXL.out.2.1 HXL.out.2.2 (by rw [HK.out.lx]; have := HL8.out; have := HNB.out; omega)
  rw [HK.out.lx, HK.out.ly] at HC
  refine HC.mono ?_
  rintro e w9 ⟨A3, k3, z3, rv9, gs9, rfl, hac, hz, hh⟩
  have HS9 := Lib.hid (HS8.out.trans hac.st HT5.out)
  have HL9 := Lib.hid (show gs9.length ≤ 2142 by have := hac.st.len; have := HL8.out; have := HNB.out; omega)
  have HP9 := Lib.hid (HP3.out.later (HS9.out.res.below (w0 := w3) HT5.out (Nat.le_refl _) HB35.out))
  have HZ3 := Lib.hid (show ZP w9 gs9 I m A3 z3 (SubH xs ys) from ⟨hac.own.wrow.2.2, hz, hac.lts, hh⟩)
  replace HZ5 := Lib.hid (HZ5.out.stp HS8.out.tab hac.st)
  replace HZ6 := Lib.hid (HZ6.out.stp HS8.out.tab hac.st)
  replace HZ1 := Lib.hid (HZ1.out.stp HS8.out.tab hac.st)
  replace HZ2 := Lib.hid (HZ2.out.stp HS8.out.tab hac.st)
  clear hac hz hh HC
  refine hK.out _ _ HP9.out.cells (fun _ => ?_)
  clear hK K
  try simp only [Act.put, List.setIfInBounds_toArray, List.set_cons_zero, List.set_cons_succ]
  refine wpAnyH_ready (rs := [36]) (by kernel_rfl) (by simp) (AllReadyH.cons (o := { dst := some 137, op := Op.call { callee := Callee.value (Operand.func 33), args := #[Operand.tmp 133, Operand.tmp 136], argTypes := #[3, 3] }, type := 3, pos := "law.go:94", after := #[{ on := 32, ground := Ground.data }, { on := 35, ground := Ground.data }, { on := 31, ground := Ground.chain }], guard := none }) rfl (fun K hK => ?_) AllReadyH.nil)
  go_simp
  go_at_call 33
  refine (HG3.out _).mono ?_
  rintro e wx ⟨rfl, hwx⟩
  obtain rfl := hwx.symm
  refine hK.out _ _ HP9.out.cells (fun _ => ?_)
  clear hK K
  try simp only [Act.put, List.setIfInBounds_toArray, List.set_cons_zero, List.set_cons_succ]
  refine wpAnyH_take (i := 37) (oi := { dst := some 138, op := Op.build 68 #[(0, Operand.tmp 132), (1, Operand.tmp 137)], type := 68, pos := "law.go:91", after := #[{ on := 31, ground := Ground.data }, { on := 36, ground := Ground.data }], guard := none }) (v := .agg #[.slice A3 m k3, .int .i64 g3]) rfl (by kernel_rfl) (by kernel_rfl) (by kernel_rfl) (fun _ _ _ h => h) (Or.inl ⟨by rfl, ?_⟩) HP9.out.cells ?_
  · (intro w' hSw; go_simp)
  simp only [Act.put, List.setIfInBounds_toArray, List.set_cons_zero, List.set_cons_succ]
  refine wpAnyH_ready (rs := [45]) (by kernel_rfl) (by simp) (AllReadyH.cons (o := { dst := some 146, op := Op.call { callee := Callee.value (Operand.func 39), args := #[Operand.tmp 139, Operand.tmp 142, Operand.tmp 145], argTypes := #[24, 47, 47] }, type := 47, pos := "law.go:94", after := #[{ on := 38, ground := Ground.data }, { on := 41, ground := Ground.data }, { on := 44, ground := Ground.data }, { on := 36, ground := Ground.chain }], guard := none }) rfl (fun K hK => ?_) AllReadyH.nil)
  go_simp
  go_at_call 39
  have HC := Mul_yes X0 c0 xs X1 c1 ys HS9.out.tab HP9.out.r0 HP9.out.r1 (HK.out.tx.more HS9.out.grow) (HK.out.ty.more HS9.out.grow) HXL.out.1 HXL.out.2.1 HXL.out.2.2 (by rw [HK.out.lx]; exact HC0.out) (by rw [HK.out.lx]; have := HL9.out; have := HNB.out; omega)
  rw [HK.out.lx, HK.out.ly] at HC
  refine HC.mono ?_
  rintro e w10 ⟨A4, k4, z4, rv10, gs10, rfl, hac, hz, hh⟩
  have HS10 := Lib.hid (HS9.out.trans hac.st HT5.out)
  have HL10 := Lib.hid (show gs10.length ≤ 2654 by have := hac.st.len; have := HL9.out; have := HNB.out; omega)
  have HP10 := Lib.hid (HP3.out.later (HS10.out.res.below (w0 := w3) HT5.out (Nat.le_refl _) HB35.out))
  have HZ4 := Lib.hid (show ZP w10 gs10 I m A4 z4 (MulH xs ys) from ⟨hac.own.wrow.2.2, hz, hac.lts, hh⟩)
  replace HZ5 := Lib.hid (HZ5.out.stp HS9.out.tab hac.st)
  replace HZ6 := Lib.hid (HZ6.out.stp HS9.out.tab hac.st)
  replace HZ1 := Lib.hid (HZ1.out.stp HS9.out.tab hac.st)
  replace HZ2 := Lib.hid (HZ2.out.stp HS9.out.tab hac.st)
  replace HZ3 := Lib.hid (HZ3.out.stp HS9.out.tab hac.st)
  clear hac hz hh HC
  refine hK.out _ _ HP10.out.cells (fun _ => ?_)
  clear hK K
  try simp only [Act.put, List.setIfInBounds_toArray, List.set_cons_zero, List.set_cons_succ]
  refine wpAnyH_ready (rs := [50]) (by kernel_rfl) (by simp) (AllReadyH.cons (o := { dst := some 151, op := Op.call { callee := Callee.value (Operand.func 33), args := #[Operand.tmp 147, Operand.tmp 150], argTypes := #[3, 3] }, type := 3, pos := "law.go:94", after := #[{ on := 46, ground := Ground.data }, { on := 49, ground := Ground.data }, { on := 45, ground := Ground.chain }], guard := none }) rfl (fun K hK => ?_) AllReadyH.nil)
  go_simp
  go_at_call 33
  refine (HG4.out _).mono ?_
  rintro e wx ⟨rfl, hwx⟩
  obtain rfl := hwx.symm
  refine hK.out _ _ HP10.out.cells (fun _ => ?_)
  clear hK K
  try simp only [Act.put, List.setIfInBounds_toArray, List.set_cons_zero, List.set_cons_succ]
  refine wpAnyH_take (i := 51) (oi := { dst := some 152, op := Op.build 68 #[(0, Operand.tmp 146), (1, Operand.tmp 151)], type := 68, pos := "law.go:91", after := #[{ on := 45, ground := Ground.data }, { on := 50, ground := Ground.data }], guard := none }) (v := .agg #[.slice A4 m k4, .int .i64 g4]) rfl (by kernel_rfl) (by kernel_rfl) (by kernel_rfl) (fun _ _ _ h => h) (Or.inl ⟨by rfl, ?_⟩) HP10.out.cells ?_
  · (intro w' hSw; go_simp)
  simp only [Act.put, List.setIfInBounds_toArray, List.set_cons_zero, List.set_cons_succ]
  refine wpAnyH_ready (rs := [70]) (by kernel_rfl) (by simp) (AllReadyH.cons (o := { dst := some 171, op := Op.call { callee := Callee.value (Operand.func 40), args := #[Operand.tmp 159, Operand.tmp 164, Operand.tmp 167, Operand.tmp 170], argTypes := #[24, 3, 47, 47] }, type := 47, pos := "law.go:94", after := #[{ on := 58, ground := Ground.data }, { on := 63, ground := Ground.data }, { on := 66, ground := Ground.data }, { on := 69, ground := Ground.data }, { on := 50, ground := Ground.chain }], guard := none }) rfl (fun K hK => ?_) AllReadyH.nil)
  go_simp
  go_at_call 40
  have HC := Choose_yes cl X0 c0 xs X1 c1 ys HS10.out.tab HP10.out.r0 HP10.out.r1 (HK.out.tx.more HS10.out.grow) (HK.out.ty.more HS10.out.grow) HXL.out.1 HXL.out.2.1 HXL.out.2.2 (show isLit I _ cl from HK.out.tc.more HS10.out.grow) (by rw [HK.out.lx]; have := HL10.out; have := HNB.out; omega)
  rw [HK.out.lx, HK.out.ly] at HC
  refine HC.mono ?_
  rintro e w11 ⟨A7, k7, z7, rv11, gs11, rfl, hac, hz, hh⟩
  have HS11 := Lib.hid (HS10.out.trans hac.st HT5.out)
  have HL11 := Lib.hid (show gs11.length ≤ 2718 by have := hac.st.len; have := HL10.out; have := HNB.out; omega)
  have HP11 := Lib.hid (HP3.out.later (HS11.out.res.below (w0 := w3) HT5.out (Nat.le_refl _) HB35.out))
  have HZ7 := Lib.hid (show ZP w11 gs11 I m A7 z7 (ChoH cl xs ys) from ⟨hac.own.wrow.2.2, hz, hac.lts, hh⟩)
  replace HZ5 := Lib.hid (HZ5.out.stp HS10.out.tab hac.st)
  replace HZ6 := Lib.hid (HZ6.out.stp HS10.out.tab hac.st)
  replace HZ1 := Lib.hid (HZ1.out.stp HS10.out.tab hac.st)
  replace HZ2 := Lib.hid (HZ2.out.stp HS10.out.tab hac.st)
  replace HZ3 := Lib.hid (HZ3.out.stp HS10.out.tab hac.st)
  replace HZ4 := Lib.hid (HZ4.out.stp HS10.out.tab hac.st)
  clear hac hz hh HC
  refine hK.out _ _ HP11.out.cells (fun _ => ?_)
  clear hK K
  try simp only [Act.put, List.setIfInBounds_toArray, List.set_cons_zero, List.set_cons_succ]
  refine wpAnyH_take (i := 72) (oi := { dst := some 173, op := Op.build 68 #[(0, Operand.tmp 171), (1, Operand.tmp 172)], type := 68, pos := "law.go:91", after := #[{ on := 70, ground := Ground.data }, { on := 71, ground := Ground.data }], guard := none }) (v := .agg #[.slice A7 m k7, .int .i64 a]) rfl (by kernel_rfl) (by kernel_rfl) (by kernel_rfl) (fun _ _ _ h => h) (Or.inl ⟨by rfl, ?_⟩) HP11.out.cells ?_
  · (intro w' hSw; go_simp)
  simp only [Act.put, List.setIfInBounds_toArray, List.set_cons_zero, List.set_cons_succ]
  refine wpAnyH_ready (rs := [73]) (by kernel_rfl) (by simp) (AllReadyH.cons (o := { dst := some 174, op := Op.buildSlice 71 7 #[(0, Operand.tmp 110), (1, Operand.tmp 124), (2, Operand.tmp 138), (3, Operand.tmp 152), (4, Operand.tmp 155), (5, Operand.tmp 158), (6, Operand.tmp 173)], type := 71, pos := "law.go:91", after := #[{ on := 9, ground := Ground.data }, { on := 23, ground := Ground.data }, { on := 37, ground := Ground.data }, { on := 51, ground := Ground.data }, { on := 54, ground := Ground.data }, { on := 57, ground := Ground.data }, { on := 72, ground := Ground.data }], guard := none }) rfl (fun K hK => ?_) AllReadyH.nil)
  have hba := (Below.refl w11.heap.size w11).alloc (Nat.le_refl _) (.cells #[.slice A1 m k1, .int .i64 g1, .slice A2 m k2, .int .i64 g2, .slice A3 m k3, .int .i64 g3, .slice A4 m k4, .int .i64 g4, .slice A5 m k5, .int .i64 g5, .slice A6 m k6, .int .i64 g6, .slice A7 m k7, .int .i64 a] 68)
  have HS12 := Lib.hid (HS11.out.later hba HT5.out)
  have HP12 := Lib.hid (HP11.out.later hba)
  have HBK := Lib.hid (heap_alloc_new w11 (.cells #[.slice A1 m k1, .int .i64 g1, .slice A2 m k2, .int .i64 g2, .slice A3 m k3, .int .i64 g3, .slice A4 m k4, .int .i64 g4, .slice A5 m k5, .int .i64 g5, .slice A6 m k6, .int .i64 g6, .slice A7 m k7, .int .i64 a] 68))
  replace HZ1 := Lib.hid (HZ1.out.later hba)
  replace HZ2 := Lib.hid (HZ2.out.later hba)
  replace HZ3 := Lib.hid (HZ3.out.later hba)
  replace HZ4 := Lib.hid (HZ4.out.later hba)
  replace HZ5 := Lib.hid (HZ5.out.later hba)
  replace HZ6 := Lib.hid (HZ6.out.later hba)
  replace HZ7 := Lib.hid (HZ7.out.later hba)
  clear hba
  go_simp
  generalize hgw : w11.alloc (.cells #[.slice A1 m k1, .int .i64 g1, .slice A2 m k2, .int .i64 g2, .slice A3 m k3, .int .i64 g3, .slice A4 m k4, .int .i64 g4, .slice A5 m k5, .int .i64 g5, .slice A6 m k6, .int .i64 g6, .slice A7 m k7, .int .i64 a] 68) = w12 at *
  clear hgw
  generalize w11.heap.size = sb at *
  refine hK.out _ _ HP12.out.cells (fun _ => ?_)
  clear hK K
  try simp only [Act.put, List.setIfInBounds_toArray, List.set_cons_zero, List.set_cons_succ]
  refine wpAnyH_take (i := 74) (oi := { dst := some 175, op := Op.call { callee := Callee.builtin Builtin.len, args := #[Operand.tmp 174], argTypes := #[71] }, type := 3, pos := "law.go:91", after := #[{ on := 73, ground := Ground.data }], guard := none }) (v := .int .i64 7) rfl (by kernel_rfl) (by kernel_rfl) (by kernel_rfl) (fun _ _ _ h => h) (Or.inl ⟨by rfl, ?_⟩) HP12.out.cells ?_
  · (intro w' hSw; go_simp)
  simp only [Act.put, List.setIfInBounds_toArray, List.set_cons_zero, List.set_cons_succ]
  refine wpAnyH_done (by kernel_rfl) ?_ _
  refine NoPanic.normal ?_
  have HALL : Hid (∀ k, k < 7 → ∃ A c z wt, w12.cell? ⟨sb, k * 2, none⟩ = some (.slice A m c) ∧ w12.cell? ⟨sb, k * 2 + 1, none⟩ = some (.int .i64 wt) ∧ ZW w12 gs11 I m inp A z wt) := Lib.hid (fun k hk => by
    have h7 : k = 0 ∨ k = 1 ∨ k = 2 ∨ k = 3 ∨ k = 4 ∨ k = 5 ∨ k = 6 := by omega
    rcases h7 with rfl | rfl | rfl | rfl | rfl | rfl | rfl
    · exact ⟨A1, k1, z1, g1, Lib.cell_of_heap HBK.out 0, Lib.cell_of_heap HBK.out 1, HZ1.out.zw HK.out.il (fun h => VN.out _ _ _ HZ1.out.len h)⟩
    · exact ⟨A2, k2, z2, g2, Lib.cell_of_heap HBK.out 2, Lib.cell_of_heap HBK.out 3, HZ2.out.zw HK.out.il (fun h => VA.out _ _ _ HZ2.out.len h)⟩
    · exact ⟨A3, k3, z3, g3, Lib.cell_of_heap HBK.out 4, Lib.cell_of_heap HBK.out 5, HZ3.out.zw HK.out.il (fun h => VS.out _ _ _ HZ3.out.len h)⟩
    · exact ⟨A4, k4, z4, g4, Lib.cell_of_heap HBK.out 6, Lib.cell_of_heap HBK.out 7, HZ4.out.zw HK.out.il (fun h => VM.out _ _ _ HZ4.out.len h)⟩
    · exact ⟨A5, k5, z5, g5, Lib.cell_of_heap HBK.out 8, Lib.cell_of_heap HBK.out 9, HZ5.out.zw HK.out.il (fun h => VQ.out _ _ _ HZ5.out.len h)⟩
    · exact ⟨A6, k6, z6, g6, Lib.cell_of_heap HBK.out 10, Lib.cell_of_heap HBK.out 11, HZ6.out.zw HK.out.il (fun h => VR.out _ _ _ HZ6.out.len h)⟩
    · exact ⟨A7, k7, z7, a, Lib.cell_of_heap HBK.out 12, Lib.cell_of_heap HBK.out 13, HZ7.out.zw HK.out.il (fun h => VC.out _ _ _ HZ7.out.len h)⟩)
  have HB312 := Lib.hid (HS12.out.res.below (w0 := w3) HT5.out (Nat.le_refl _) HB35.out)
  have HIR12 := Lib.hid (HIR3.out.later HB312.out)
  have HT12 := Lib.hid HS12.out.tab
  have HSB := Lib.hid (show sb < w12.heap.size from Go.Proofs.Ytbcabnbgkicfdaa.hlt HBK.out)
  have HVE := Lib.hid (fun (gs : List Gt) (z : Int) (d : Int → Prop) (h : EqH xs ys z (litV (nv inp gs)) d) => eq_val HK.out.hm (HK.out.vx gs) (HK.out.vy gs) h)
  have HVL := Lib.hid (fun (gs : List Gt) (z : Int) (d : Int → Prop) (h : LsH xs ys z (litV (nv inp gs)) d) => less_val HK.out.hm (HK.out.vx gs) (HK.out.vy gs) h)
  clear HBK HZ1 HZ2 HZ3 HZ4 HZ5 HZ6 HZ7 VN VA VS VM VQ VR VC HP6 HP7 HP8 HP9 HP10 HP11 HS6 HS7 HS8 HS9 HS10 HS11 HL6 HL7 HL8 HL9 HL10 HG1 HG2 HG3 HG4 HDV HWX HWY F1 F2 F3 HI HA
  go_wp2_with (fail)
  go_loopw [176] (fun jv wr => ∃ (k : Nat), k ≤ 7 ∧ jv = .int .i64 (k : Int) ∧ Hid (Below w12.heap.size w12 wr)) (fun jv _ => 7 - (intOf jv).toNat)
  case atStart => exact ⟨0, Nat.zero_le _, rfl, Lib.hid (Below.refl _ _)⟩
  case round =>
    obtain ⟨k, hk, rfl, hbw⟩ := hrel
    by_cases hlt' : k < 7
    · obtain ⟨A, cA, z, wt, q0, q1, hzw⟩ := HALL.out k hlt'
      have c0' := (hbw.out.cell (p := ⟨sb, k * 2, none⟩) HSB.out).trans q0
      have c1' := (hbw.out.cell (p := ⟨sb, k * 2 + 1, none⟩) HSB.out).trans q1
      have HZW := Lib.hid hzw
      clear q0 q1 hzw
      go_upto_region 23 with fail
      have hba := (Below.refl wr.heap.size wr).alloc (Nat.le_refl _) (.cells #[.slice A m cA, .int .i64 wt] 68)
      have hd := (show Below (wr.alloc (.cells #[.slice A m cA, .int .i64 wt] 68)).heap.size (wr.alloc (.cells #[.slice A m cA, .int .i64 wt] 68)) (wr.alloc (.cells #[.slice A m cA, .int .i64 wt] 68)).drew from (Below.refl _ _).drew)
      have hbx := hba.trans (hd.mono hba.size)
      have HX13 := Lib.hid ((hd.block _ (Go.Proofs.Ytbcabnbgkicfdaa.hlt (heap_alloc_new wr (.cells #[.slice A m cA, .int .i64 wt] 68)))).trans (heap_alloc_new wr (.cells #[.slice A m cA, .int .i64 wt] 68)))
      have HB13 := Lib.hid (hbw.out.trans (hbx.mono hbw.out.size))
      clear hba hd hbx
      refine wp_region_noPanic ?_
      refine wp_region_held_drew (S := fun w' => w'.cell? ⟨wr.heap.size, 0, none⟩ = some (.slice A m cA) ∧ w'.cell? ⟨wr.heap.size, 1, none⟩ = some (.int .i64 wt)) (by kernel_rfl) ⟨Lib.cell_of_heap HX13.out 0, Lib.cell_of_heap HX13.out 1⟩ (fun _ => ?_)
      generalize (wr.alloc (.cells #[.slice A m cA, .int .i64 wt] 68)).drew = w13 at *
      generalize wr.heap.size = zb at *
      refine wpAnyH_take (i := 0) (oi := { dst := some 181, op := Op.move (Operand.tmp 16), type := 24, pos := "law.go:95", after := #[], guard := none }) (v := .pointer (some ⟨bb, 0, none⟩)) rfl (by kernel_rfl) (by kernel_rfl) (by kernel_rfl) (fun _ _ _ h => h) (Or.inl ⟨by rfl, ?_⟩) ⟨Lib.cell_of_heap HX13.out 0, Lib.cell_of_heap HX13.out 1⟩ ?_
      · (intro w' hSw; go_simp)
      simp only [Act.put, List.setIfInBounds_toArray, List.set_cons_zero, List.set_cons_succ]
      refine wpAnyH_take (i := 2) (oi := { dst := some 183, op := Op.move (Operand.tmp 14), type := 48, pos := "law.go:95", after := #[], guard := none }) (v := .slice IA inp.length ic) rfl (by kernel_rfl) (by kernel_rfl) (by kernel_rfl) (fun _ _ _ h => h) (Or.inl ⟨by rfl, ?_⟩) ⟨Lib.cell_of_heap HX13.out 0, Lib.cell_of_heap HX13.out 1⟩ ?_
      · (intro w' hSw; go_simp)
      simp only [Act.put, List.setIfInBounds_toArray, List.set_cons_zero, List.set_cons_succ]
      refine wpAnyH_take (i := 3) (oi := { dst := some 184, op := Op.fieldAddr 68 (Operand.tmp 24) 0, type := 0, pos := "law.go:95", after := #[], guard := none }) (v := .pointer (some ⟨zb, 0, none⟩)) rfl (by kernel_rfl) (by kernel_rfl) (by kernel_rfl) (fun _ _ _ h => h) (Or.inl ⟨by rfl, ?_⟩) ⟨Lib.cell_of_heap HX13.out 0, Lib.cell_of_heap HX13.out 1⟩ ?_
      · (intro w' hSw; go_simp)
      simp only [Act.put, List.setIfInBounds_toArray, List.set_cons_zero, List.set_cons_succ]
      refine wpAnyH_take (i := 4) (oi := { dst := some 185, op := Op.load 47 (Operand.tmp 184), type := 47, pos := "law.go:95", after := #[{ on := 3, ground := Ground.data }], guard := none }) (v := .slice A m cA) rfl (by kernel_rfl) (by kernel_rfl) (by kernel_rfl) (fun _ _ _ h => h) (Or.inl ⟨by rfl, ?_⟩) ⟨Lib.cell_of_heap HX13.out 0, Lib.cell_of_heap HX13.out 1⟩ ?_
      · (intro w' hSw; obtain ⟨z0, z1⟩ := hSw; go_simp)
      simp only [Act.put, List.setIfInBounds_toArray, List.set_cons_zero, List.set_cons_succ]
      refine wpAnyH_ready (rs := [1]) (by kernel_rfl) (by simp) (AllReadyH.cons (o := { dst := some 182, op := Op.call { callee := Callee.value (Operand.func 17), args := #[Operand.tmp 181], argTypes := #[24] }, type := 30, pos := "law.go:95", after := #[{ on := 0, ground := Ground.data }], guard := none }) rfl (fun K hK => ?_) AllReadyH.nil)
      go_simp
      go_at_call 17
      refine (circuit_any (HT12.out.later HB13.out)).mono ?_
      rintro e w14 ⟨GA, gc, rfl, ho, hb⟩
      have HX14 := Lib.hid ((hb.block _ (Go.Proofs.Ytbcabnbgkicfdaa.hlt HX13.out)).trans HX13.out)
      have HB14 := Lib.hid (HB13.out.trans (hb.mono HB13.out.size))
      obtain ⟨A9, c9, hX9, _, hrow9, _⟩ := ho.form
      injection hX9 with hX9 _ hc9
      subst hX9
      subst hc9
      have HGR := Lib.hid hrow9
      clear ho hb hrow9
      refine hK.out _ _ ⟨Lib.cell_of_heap HX14.out 0, Lib.cell_of_heap HX14.out 1⟩ (fun _ => ?_)
      clear hK K
      try simp only [Act.put, List.setIfInBounds_toArray, List.set_cons_zero, List.set_cons_succ]
      refine wpAnyH_ready (rs := [5]) (by kernel_rfl) (by simp) (AllReadyH.cons (o := { dst := some 186, op := Op.call { callee := Callee.value (Operand.func 41), args := #[Operand.tmp 182, Operand.tmp 183, Operand.tmp 185], argTypes := #[30, 48, 47] }, type := 52, pos := "law.go:95", after := #[{ on := 1, ground := Ground.data }, { on := 2, ground := Ground.data }, { on := 4, ground := Ground.data }, { on := 1, ground := Ground.chain }], guard := none }) rfl (fun K hK => ?_) AllReadyH.nil)
      go_simp
      go_at_call 41
      have HEV := eval_any I GA gc gs11 IA ic inp A cA z w14 HGR.out HT12.out.gt HT12.out.few (HIR12.out.later HB14.out) (by have := HK.out.il; have := HK.out.iI; have := HK.out.hm; omega) ((HZW.out.1.later HB14.out).toz) (by rw [HZW.out.2.1]; have := HK.out.hm; omega)
      obtain ⟨ev1, ev2⟩ := ev_lits (inp := inp) HT12.out.ck HT12.out.few HZW.out.2.2.1 HK.out.il
      rw [ev1, ev2, List.length_map, HZW.out.2.1] at HEV
      refine HEV.mono ?_
      rintro e w15 ⟨OA, oc, rfl, hor, hb⟩
      have HX15 := Lib.hid ((hb.block _ (Go.Proofs.Ytbcabnbgkicfdaa.hlt HX14.out)).trans HX14.out)
      have HB15 := Lib.hid (HB14.out.trans (hb.mono HB14.out.size))
      have HOR := Lib.hid hor
      clear hb hor HEV ev1 ev2
      refine hK.out _ _ ⟨Lib.cell_of_heap HX15.out 0, Lib.cell_of_heap HX15.out 1⟩ (fun _ => ?_)
      clear hK K
      try simp only [Act.put, List.setIfInBounds_toArray, List.set_cons_zero, List.set_cons_succ]
      refine wpAnyH_take (i := 6) (oi := { dst := some 180, op := Op.move (Operand.tmp 186), type := 52, pos := "law.go:95", after := #[{ on := 5, ground := Ground.data }], guard := none }) (v := .tuple #[.slice OA m oc, .int .i64 0]) rfl (by kernel_rfl) (by kernel_rfl) (by kernel_rfl) (fun _ _ _ h => h) (Or.inl ⟨by rfl, ?_⟩) ⟨Lib.cell_of_heap HX15.out 0, Lib.cell_of_heap HX15.out 1⟩ ?_
      · (intro w' hSw; go_simp)
      simp only [Act.put, List.setIfInBounds_toArray, List.set_cons_zero, List.set_cons_succ]
      refine wpAnyH_take (i := 7) (oi := { dst := some 187, op := Op.extract (Operand.tmp 180) 0, type := 48, pos := "law.go:95", after := #[{ on := 6, ground := Ground.data }], guard := none }) (v := .slice OA m oc) rfl (by kernel_rfl) (by kernel_rfl) (by kernel_rfl) (fun _ _ _ h => h) (Or.inl ⟨by rfl, ?_⟩) ⟨Lib.cell_of_heap HX15.out 0, Lib.cell_of_heap HX15.out 1⟩ ?_
      · (intro w' hSw; go_simp)
      simp only [Act.put, List.setIfInBounds_toArray, List.set_cons_zero, List.set_cons_succ]
      refine wpAnyH_take (i := 8) (oi := { dst := some 188, op := Op.extract (Operand.tmp 180) 1, type := 25, pos := "law.go:95", after := #[{ on := 6, ground := Ground.data }, { on := 9, ground := Ground.gcOnly Departure.lateStores }], guard := none }) (v := .int .i64 0) rfl (by kernel_rfl) (by kernel_rfl) (by kernel_rfl) (fun _ _ _ h => h) (Or.inl ⟨by rfl, ?_⟩) ⟨Lib.cell_of_heap HX15.out 0, Lib.cell_of_heap HX15.out 1⟩ ?_
      · (intro w' hSw; go_simp)
      simp only [Act.put, List.setIfInBounds_toArray, List.set_cons_zero, List.set_cons_succ]
      refine wpAnyH_take (i := 9) (oi := { dst := some 25, op := Op.assign (Operand.tmp 187), type := 48, pos := "law.go:95", after := #[{ on := 7, ground := Ground.data }, { on := 5, ground := Ground.chain }, { on := 0, ground := Ground.phase }, { on := 1, ground := Ground.phase }, { on := 2, ground := Ground.phase }, { on := 3, ground := Ground.phase }, { on := 4, ground := Ground.phase }, { on := 5, ground := Ground.phase }, { on := 6, ground := Ground.phase }, { on := 7, ground := Ground.phase }, { on := 8, ground := Ground.textOnly Departure.lateStores }], guard := none }) (v := .slice OA m oc) rfl (by kernel_rfl) (by kernel_rfl) (by kernel_rfl) (fun _ _ _ h => h) (Or.inl ⟨by rfl, ?_⟩) ⟨Lib.cell_of_heap HX15.out 0, Lib.cell_of_heap HX15.out 1⟩ ?_
      · (intro w' hSw; go_simp)
      simp only [Act.put, List.setIfInBounds_toArray, List.set_cons_zero, List.set_cons_succ]
      refine wpAnyH_take (i := 10) (oi := { dst := some 26, op := Op.assign (Operand.tmp 188), type := 25, pos := "law.go:95", after := #[{ on := 8, ground := Ground.data }, { on := 9, ground := Ground.chain }, { on := 0, ground := Ground.phase }, { on := 1, ground := Ground.phase }, { on := 2, ground := Ground.phase }, { on := 3, ground := Ground.phase }, { on := 4, ground := Ground.phase }, { on := 5, ground := Ground.phase }, { on := 6, ground := Ground.phase }, { on := 7, ground := Ground.phase }, { on := 8, ground := Ground.phase }, { on := 9, ground := Ground.phase }], guard := none }) (v := .int .i64 0) rfl (by kernel_rfl) (by kernel_rfl) (by kernel_rfl) (fun _ _ _ h => h) (Or.inl ⟨by rfl, ?_⟩) ⟨Lib.cell_of_heap HX15.out 0, Lib.cell_of_heap HX15.out 1⟩ ?_
      · (intro w' hSw; go_simp)
      simp only [Act.put, List.setIfInBounds_toArray, List.set_cons_zero, List.set_cons_succ]
      refine wpAnyH_done (by kernel_rfl) ?_ _
      refine NoPanic.normal ?_
      have hb := (show Below w15.heap.size w15 w15.drew from (Below.refl _ _).drew)
      replace HX15 := Lib.hid ((hb.block _ (Go.Proofs.Ytbcabnbgkicfdaa.hlt HX15.out)).trans HX15.out)
      replace HOR := Lib.hid (HOR.out.later hb)
      replace HB15 := Lib.hid (HB15.out.trans (hb.mono HB15.out.size))
      clear hb
      go_upto_region 24 with fail
      refine wp_region_noPanic ?_
      refine wp_region_held_drew (S := fun w' => w'.cell? ⟨zb, 0, none⟩ = some (.slice A m cA) ∧ w'.cell? ⟨zb, 1, none⟩ = some (.int .i64 wt)) (by kernel_rfl) ⟨Lib.cell_of_heap HX15.out 0, Lib.cell_of_heap HX15.out 1⟩ (fun _ => ?_)
      generalize w15.drew = w15 at *
      refine wpAnyH_take (i := 0) (oi := { dst := some 189, op := Op.move (Operand.tmp 26), type := 25, pos := "law.go:96", after := #[], guard := none }) (v := .int .i64 0) rfl (by kernel_rfl) (by kernel_rfl) (by kernel_rfl) (fun _ _ _ h => h) (Or.inl ⟨by rfl, ?_⟩) ⟨Lib.cell_of_heap HX15.out 0, Lib.cell_of_heap HX15.out 1⟩ ?_
      · (intro w' hSw; go_simp)
      simp only [Act.put, List.setIfInBounds_toArray, List.set_cons_zero, List.set_cons_succ]
      refine wpAnyH_take (i := 1) (oi := { dst := some 190, op := Op.binOp BinOp.neq 25 (Operand.tmp 189) (Operand.const (Value.int IntKind.i64 0)) 25, type := 4, pos := "law.go:96", after := #[{ on := 0, ground := Ground.data }], guard := none }) (v := .bool false) rfl (by kernel_rfl) (by kernel_rfl) (by kernel_rfl) (fun _ _ _ h => h) (Or.inl ⟨by rfl, ?_⟩) ⟨Lib.cell_of_heap HX15.out 0, Lib.cell_of_heap HX15.out 1⟩ ?_
      · (intro w' hSw; go_simp)
      simp only [Act.put, List.setIfInBounds_toArray, List.set_cons_zero, List.set_cons_succ]
      refine wpAnyH_take (i := 2) (oi := { dst := some 191, op := Op.move (Operand.tmp 190), type := 4, pos := "law.go:96", after := #[{ on := 1, ground := Ground.data }], guard := none }) (v := .bool false) rfl (by kernel_rfl) (by kernel_rfl) (by kernel_rfl) (fun _ _ _ h => h) (Or.inl ⟨by rfl, ?_⟩) ⟨Lib.cell_of_heap HX15.out 0, Lib.cell_of_heap HX15.out 1⟩ ?_
      · (intro w' hSw; go_simp)
      simp only [Act.put, List.setIfInBounds_toArray, List.set_cons_zero, List.set_cons_succ]
      refine wpAnyH_take (i := 3) (oi := { dst := some 192, op := Op.move (Operand.tmp 25), type := 48, pos := "law.go:96", after := #[{ on := 2, ground := Ground.guard }], guard := some (2, false) }) (v := .slice OA m oc) rfl (by kernel_rfl) (by kernel_rfl) (by kernel_rfl) (fun _ _ _ h => h) (Or.inl ⟨by rfl, ?_⟩) ⟨Lib.cell_of_heap HX15.out 0, Lib.cell_of_heap HX15.out 1⟩ ?_
      · (intro w' hSw; go_simp)
      simp only [Act.put, List.setIfInBounds_toArray, List.set_cons_zero, List.set_cons_succ]
      refine wpAnyH_take (i := 4) (oi := { dst := some 193, op := Op.call { callee := Callee.builtin Builtin.len, args := #[Operand.tmp 192], argTypes := #[48] }, type := 3, pos := "law.go:96", after := #[{ on := 3, ground := Ground.data }, { on := 2, ground := Ground.guard }], guard := some (2, false) }) (v := .int .i64 (m : Int)) rfl (by kernel_rfl) (by kernel_rfl) (by kernel_rfl) (fun _ _ _ h => h) (Or.inl ⟨by rfl, ?_⟩) ⟨Lib.cell_of_heap HX15.out 0, Lib.cell_of_heap HX15.out 1⟩ ?_
      · (intro w' hSw; go_simp)
      simp only [Act.put, List.setIfInBounds_toArray, List.set_cons_zero, List.set_cons_succ]
      refine wpAnyH_take (i := 5) (oi := { dst := some 194, op := Op.move (Operand.tmp 0), type := 3, pos := "law.go:96", after := #[{ on := 2, ground := Ground.guard }], guard := some (2, false) }) (v := .int .i64 (m : Int)) rfl (by kernel_rfl) (by kernel_rfl) (by kernel_rfl) (fun _ _ _ h => h) (Or.inl ⟨by rfl, ?_⟩) ⟨Lib.cell_of_heap HX15.out 0, Lib.cell_of_heap HX15.out 1⟩ ?_
      · (intro w' hSw; go_simp)
      simp only [Act.put, List.setIfInBounds_toArray, List.set_cons_zero, List.set_cons_succ]
      refine wpAnyH_take (i := 6) (oi := { dst := some 195, op := Op.binOp BinOp.neq 3 (Operand.tmp 193) (Operand.tmp 194) 3, type := 4, pos := "law.go:96", after := #[{ on := 4, ground := Ground.data }, { on := 5, ground := Ground.data }, { on := 2, ground := Ground.guard }], guard := some (2, false) }) (v := .bool false) rfl (by kernel_rfl) (by kernel_rfl) (by kernel_rfl) (fun _ _ _ h => h) (Or.inl ⟨by rfl, ?_⟩) ⟨Lib.cell_of_heap HX15.out 0, Lib.cell_of_heap HX15.out 1⟩ ?_
      · (intro w' hSw; go_simp)
      simp only [Act.put, List.setIfInBounds_toArray, List.set_cons_zero, List.set_cons_succ]
      refine wpAnyH_take (i := 7) (oi := { dst := some 196, op := Op.pick (Operand.tmp 191) (Operand.const (Value.bool true)) (Operand.tmp 195), type := 4, pos := "law.go:96", after := #[{ on := 2, ground := Ground.data }, { on := 6, ground := Ground.data }], guard := none }) (v := .bool false) rfl (by kernel_rfl) (by kernel_rfl) (by kernel_rfl) (fun _ _ _ h => h) (Or.inl ⟨by rfl, ?_⟩) ⟨Lib.cell_of_heap HX15.out 0, Lib.cell_of_heap HX15.out 1⟩ ?_
      · (intro w' hSw; go_simp)
      simp only [Act.put, List.setIfInBounds_toArray, List.set_cons_zero, List.set_cons_succ]
      refine wpAnyH_take (i := 8) (oi := { dst := some 197, op := Op.move (Operand.tmp 196), type := 4, pos := "law.go:96", after := #[{ on := 7, ground := Ground.data }, { on := 2, ground := Ground.chain }], guard := none }) (v := .bool false) rfl (by kernel_rfl) (by kernel_rfl) (by kernel_rfl) (fun _ _ _ h => h) (Or.inl ⟨by rfl, ?_⟩) ⟨Lib.cell_of_heap HX15.out 0, Lib.cell_of_heap HX15.out 1⟩ ?_
      · (intro w' hSw; go_simp)
      simp only [Act.put, List.setIfInBounds_toArray, List.set_cons_zero, List.set_cons_succ]
      refine wpAnyH_take (i := 9) (oi := { dst := some 198, op := Op.move (Operand.tmp 25), type := 48, pos := "law.go:96", after := #[{ on := 8, ground := Ground.guard }], guard := some (8, false) }) (v := .slice OA m oc) rfl (by kernel_rfl) (by kernel_rfl) (by kernel_rfl) (fun _ _ _ h => h) (Or.inl ⟨by rfl, ?_⟩) ⟨Lib.cell_of_heap HX15.out 0, Lib.cell_of_heap HX15.out 1⟩ ?_
      · (intro w' hSw; go_simp)
      simp only [Act.put, List.setIfInBounds_toArray, List.set_cons_zero, List.set_cons_succ]
      refine wpAnyH_take (i := 11) (oi := { dst := some 200, op := Op.fieldAddr 68 (Operand.tmp 24) 1, type := 0, pos := "law.go:96", after := #[{ on := 8, ground := Ground.guard }], guard := some (8, false) }) (v := .pointer (some ⟨zb, 1, none⟩)) rfl (by kernel_rfl) (by kernel_rfl) (by kernel_rfl) (fun _ _ _ h => h) (Or.inl ⟨by rfl, ?_⟩) ⟨Lib.cell_of_heap HX15.out 0, Lib.cell_of_heap HX15.out 1⟩ ?_
      · (intro w' hSw; go_simp)
      simp only [Act.put, List.setIfInBounds_toArray, List.set_cons_zero, List.set_cons_succ]
      refine wpAnyH_take (i := 12) (oi := { dst := some 201, op := Op.load 3 (Operand.tmp 200), type := 3, pos := "law.go:96", after := #[{ on := 11, ground := Ground.data }, { on := 8, ground := Ground.guard }], guard := some (8, false) }) (v := .int .i64 wt) rfl (by kernel_rfl) (by kernel_rfl) (by kernel_rfl) (fun _ _ _ h => h) (Or.inl ⟨by rfl, ?_⟩) ⟨Lib.cell_of_heap HX15.out 0, Lib.cell_of_heap HX15.out 1⟩ ?_
      · (intro w' hSw; obtain ⟨z0, z1⟩ := hSw; go_simp)
      simp only [Act.put, List.setIfInBounds_toArray, List.set_cons_zero, List.set_cons_succ]
      refine wpAnyH_ready (rs := [10]) (by kernel_rfl) (by simp) (AllReadyH.cons (o := { dst := some 199, op := Op.call { callee := Callee.value (Operand.func 27), args := #[Operand.const (Value.int IntKind.i64 0), Operand.tmp 198], argTypes := #[3, 48] }, type := 3, pos := "law.go:96", after := #[{ on := 9, ground := Ground.data }, { on := 8, ground := Ground.chain }, { on := 8, ground := Ground.guard }], guard := some (8, false) }) rfl (fun K hK => ?_) AllReadyH.nil)
      go_simp
      go_at_call 27
      have HVA := value_any 0 OA oc (z.map (litV (nv inp gs11))) w15 HOR.out (by rw [List.length_map, HZW.out.2.1]; have := HK.out.hm; omega)
      rw [List.length_map, HZW.out.2.1, HZW.out.2.2.2] at HVA
      refine HVA.mono ?_
      rintro e wx ⟨rfl, hwx⟩
      obtain rfl := hwx.symm
      refine hK.out _ _ ⟨Lib.cell_of_heap HX15.out 0, Lib.cell_of_heap HX15.out 1⟩ (fun _ => ?_)
      clear hK K
      try simp only [Act.put, List.setIfInBounds_toArray, List.set_cons_zero, List.set_cons_succ]
      refine wpAnyH_take (i := 13) (oi := { dst := some 202, op := Op.binOp BinOp.neq 3 (Operand.tmp 199) (Operand.tmp 201) 3, type := 4, pos := "law.go:96", after := #[{ on := 10, ground := Ground.data }, { on := 12, ground := Ground.data }, { on := 8, ground := Ground.guard }], guard := some (8, false) }) (v := .bool false) rfl (by kernel_rfl) (by kernel_rfl) (by kernel_rfl) (fun _ _ _ h => h) (Or.inl ⟨by rfl, ?_⟩) ⟨Lib.cell_of_heap HX15.out 0, Lib.cell_of_heap HX15.out 1⟩ ?_
      · (intro w' hSw; go_simp)
      simp only [Act.put, List.setIfInBounds_toArray, List.set_cons_zero, List.set_cons_succ]
      refine wpAnyH_take (i := 14) (oi := { dst := some 203, op := Op.pick (Operand.tmp 197) (Operand.const (Value.bool true)) (Operand.tmp 202), type := 4, pos := "law.go:96", after := #[{ on := 8, ground := Ground.data }, { on := 13, ground := Ground.data }], guard := none }) (v := .bool false) rfl (by kernel_rfl) (by kernel_rfl) (by kernel_rfl) (fun _ _ _ h => h) (Or.inl ⟨by rfl, ?_⟩) ⟨Lib.cell_of_heap HX15.out 0, Lib.cell_of_heap HX15.out 1⟩ ?_
      · (intro w' hSw; go_simp)
      simp only [Act.put, List.setIfInBounds_toArray, List.set_cons_zero, List.set_cons_succ]
      refine wpAnyH_done (by kernel_rfl) ?_ _
      refine NoPanic.normal ?_
      go_wp2_with (fail)
      exact ⟨⟨k + 1, by omega, by go_num, HB15⟩, by simp [intOf]; omega⟩
    · obtain rfl : k = 7 := by omega
      go_upto_region 27 with fail
      have hb := (show Below wr.heap.size wr wr.drew from (Below.refl _ _).drew)
      have hbr := hbw.out.trans (hb.mono hbw.out.size)
      have HS16 := Lib.hid (HS12.out.later hbr HT5.out)
      have HP16 := Lib.hid (HP12.out.later hbr)
      clear hb hbr
      refine wp_region_noPanic ?_
      refine wp_region_held_drew (S := fun w' => w'.cell? ⟨wb, wo, none⟩ = some (.slice X0 m c0) ∧ w'.cell? ⟨wb, wo + 1, none⟩ = some (.slice X1 m c1) ∧ w'.cell? ⟨wb, wo + 2, none⟩ = some (.slice (some ⟨cb, co, none⟩) 1 c2) ∧ w'.cell? ⟨cb, co, none⟩ = some (.int .i64 cl)) (by kernel_rfl) HP16.out.cells (fun _ => ?_)
      generalize wr.drew = w16 at *
      refine wpAnyH_take (i := 0) (oi := { dst := some 205, op := Op.move (Operand.tmp 16), type := 24, pos := "law.go:100", after := #[], guard := none }) (v := .pointer (some ⟨bb, 0, none⟩)) rfl (by kernel_rfl) (by kernel_rfl) (by kernel_rfl) (fun _ _ _ h => h) (Or.inl ⟨by rfl, ?_⟩) HP16.out.cells ?_
      · (intro w' hSw; go_simp)
      simp only [Act.put, List.setIfInBounds_toArray, List.set_cons_zero, List.set_cons_succ]
      refine wpAnyH_take (i := 1) (oi := { dst := some 206, op := Op.move (Operand.tmp 11), type := 49, pos := "law.go:100", after := #[], guard := none }) (v := .slice (some ⟨wb, wo, none⟩) 3 wc) rfl (by kernel_rfl) (by kernel_rfl) (by kernel_rfl) (fun _ _ _ h => h) (Or.inl ⟨by rfl, ?_⟩) HP16.out.cells ?_
      · (intro w' hSw; go_simp)
      simp only [Act.put, List.setIfInBounds_toArray, List.set_cons_zero, List.set_cons_succ]
      refine wpAnyH_take (i := 2) (oi := { dst := some 207, op := Op.indexAddr 49 (Operand.tmp 206) (Operand.const (Value.int IntKind.i64 0)), type := 0, pos := "law.go:100", after := #[{ on := 1, ground := Ground.data }], guard := none }) (v := .pointer (some ⟨wb, wo, none⟩)) rfl (by kernel_rfl) (by kernel_rfl) (by kernel_rfl) (fun _ _ _ h => h) (Or.inl ⟨by rfl, ?_⟩) HP16.out.cells ?_
      · (intro w' hSw; go_simp)
      simp only [Act.put, List.setIfInBounds_toArray, List.set_cons_zero, List.set_cons_succ]
      refine wpAnyH_take (i := 3) (oi := { dst := some 208, op := Op.load 47 (Operand.tmp 207), type := 47, pos := "law.go:100", after := #[{ on := 2, ground := Ground.data }], guard := none }) (v := .slice X0 m c0) rfl (by kernel_rfl) (by kernel_rfl) (by kernel_rfl) (fun _ _ _ h => h) (Or.inl ⟨by rfl, ?_⟩) HP16.out.cells ?_
      · (intro w' hSw; obtain ⟨z0, z1, z2, z3⟩ := hSw; go_simp)
      simp only [Act.put, List.setIfInBounds_toArray, List.set_cons_zero, List.set_cons_succ]
      refine wpAnyH_take (i := 4) (oi := { dst := some 209, op := Op.move (Operand.tmp 11), type := 49, pos := "law.go:100", after := #[], guard := none }) (v := .slice (some ⟨wb, wo, none⟩) 3 wc) rfl (by kernel_rfl) (by kernel_rfl) (by kernel_rfl) (fun _ _ _ h => h) (Or.inl ⟨by rfl, ?_⟩) HP16.out.cells ?_
      · (intro w' hSw; go_simp)
      simp only [Act.put, List.setIfInBounds_toArray, List.set_cons_zero, List.set_cons_succ]
      refine wpAnyH_take (i := 5) (oi := { dst := some 210, op := Op.indexAddr 49 (Operand.tmp 209) (Operand.const (Value.int IntKind.i64 1)), type := 0, pos := "law.go:100", after := #[{ on := 4, ground := Ground.data }], guard := none }) (v := .pointer (some ⟨wb, wo + 1, none⟩)) rfl (by kernel_rfl) (by kernel_rfl) (by kernel_rfl) (fun _ _ _ h => h) (Or.inl ⟨by rfl, ?_⟩) HP16.out.cells ?_
      · (intro w' hSw; go_simp)
      simp only [Act.put, List.setIfInBounds_toArray, List.set_cons_zero, List.set_cons_succ]
      refine wpAnyH_take (i := 6) (oi := { dst := some 211, op := Op.load 47 (Operand.tmp 210), type := 47, pos := "law.go:100", after := #[{ on := 5, ground := Ground.data }], guard := none }) (v := .slice X1 m c1) rfl (by kernel_rfl) (by kernel_rfl) (by kernel_rfl) (fun _ _ _ h => h) (Or.inl ⟨by rfl, ?_⟩) HP16.out.cells ?_
      · (intro w' hSw; obtain ⟨z0, z1, z2, z3⟩ := hSw; go_simp)
      simp only [Act.put, List.setIfInBounds_toArray, List.set_cons_zero, List.set_cons_succ]
      refine wpAnyH_take (i := 8) (oi := { dst := some 213, op := Op.move (Operand.tmp 16), type := 24, pos := "law.go:100", after := #[], guard := none }) (v := .pointer (some ⟨bb, 0, none⟩)) rfl (by kernel_rfl) (by kernel_rfl) (by kernel_rfl) (fun _ _ _ h => h) (Or.inl ⟨by rfl, ?_⟩) HP16.out.cells ?_
      · (intro w' hSw; go_simp)
      simp only [Act.put, List.setIfInBounds_toArray, List.set_cons_zero, List.set_cons_succ]
      refine wpAnyH_take (i := 9) (oi := { dst := some 214, op := Op.move (Operand.tmp 11), type := 49, pos := "law.go:100", after := #[], guard := none }) (v := .slice (some ⟨wb, wo, none⟩) 3 wc) rfl (by kernel_rfl) (by kernel_rfl) (by kernel_rfl) (fun _ _ _ h => h) (Or.inl ⟨by rfl, ?_⟩) HP16.out.cells ?_
      · (intro w' hSw; go_simp)
      simp only [Act.put, List.setIfInBounds_toArray, List.set_cons_zero, List.set_cons_succ]
      refine wpAnyH_take (i := 10) (oi := { dst := some 215, op := Op.indexAddr 49 (Operand.tmp 214) (Operand.const (Value.int IntKind.i64 0)), type := 0, pos := "law.go:100", after := #[{ on := 9, ground := Ground.data }], guard := none }) (v := .pointer (some ⟨wb, wo, none⟩)) rfl (by kernel_rfl) (by kernel_rfl) (by kernel_rfl) (fun _ _ _ h => h) (Or.inl ⟨by rfl, ?_⟩) HP16.out.cells ?_
      · (intro w' hSw; go_simp)
      simp only [Act.put, List.setIfInBounds_toArray, List.set_cons_zero, List.set_cons_succ]
      refine wpAnyH_take (i := 11) (oi := { dst := some 216, op := Op.load 47 (Operand.tmp 215), type := 47, pos := "law.go:100", after := #[{ on := 10, ground := Ground.data }], guard := none }) (v := .slice X0 m c0) rfl (by kernel_rfl) (by kernel_rfl) (by kernel_rfl) (fun _ _ _ h => h) (Or.inl ⟨by rfl, ?_⟩) HP16.out.cells ?_
      · (intro w' hSw; obtain ⟨z0, z1, z2, z3⟩ := hSw; go_simp)
      simp only [Act.put, List.setIfInBounds_toArray, List.set_cons_zero, List.set_cons_succ]
      refine wpAnyH_take (i := 12) (oi := { dst := some 217, op := Op.move (Operand.tmp 11), type := 49, pos := "law.go:100", after := #[], guard := none }) (v := .slice (some ⟨wb, wo, none⟩) 3 wc) rfl (by kernel_rfl) (by kernel_rfl) (by kernel_rfl) (fun _ _ _ h => h) (Or.inl ⟨by rfl, ?_⟩) HP16.out.cells ?_
      · (intro w' hSw; go_simp)
      simp only [Act.put, List.setIfInBounds_toArray, List.set_cons_zero, List.set_cons_succ]
      refine wpAnyH_take (i := 13) (oi := { dst := some 218, op := Op.indexAddr 49 (Operand.tmp 217) (Operand.const (Value.int IntKind.i64 1)), type := 0, pos := "law.go:100", after := #[{ on := 12, ground := Ground.data }], guard := none }) (v := .pointer (some ⟨wb, wo + 1, none⟩)) rfl (by kernel_rfl) (by kernel_rfl) (by kernel_rfl) (fun _ _ _ h => h) (Or.inl ⟨by rfl, ?_⟩) HP16.out.cells ?_
      · (intro w' hSw; go_simp)
      simp only [Act.put, List.setIfInBounds_toArray, List.set_cons_zero, List.set_cons_succ]
      refine wpAnyH_take (i := 14) (oi := { dst := some 219, op := Op.load 47 (Operand.tmp 218), type := 47, pos := "law.go:100", after := #[{ on := 13, ground := Ground.data }], guard := none }) (v := .slice X1 m c1) rfl (by kernel_rfl) (by kernel_rfl) (by kernel_rfl) (fun _ _ _ h => h) (Or.inl ⟨by rfl, ?_⟩) HP16.out.cells ?_
      · (intro w' hSw; obtain ⟨z0, z1, z2, z3⟩ := hSw; go_simp)
      simp only [Act.put, List.setIfInBounds_toArray, List.set_cons_zero, List.set_cons_succ]
      refine wpAnyH_ready (rs := [7]) (by kernel_rfl) (by simp) (AllReadyH.cons (o := { dst := some 212, op := Op.call { callee := Callee.value (Operand.func 42), args := #[Operand.tmp 205, Operand.tmp 208, Operand.tmp 211], argTypes := #[24, 47, 47] }, type := 3, pos := "law.go:100", after := #[{ on := 0, ground := Ground.data }, { on := 3, ground := Ground.data }, { on := 6, ground := Ground.data }], guard := none }) rfl (fun K hK => ?_) AllReadyH.nil)
      go_simp
      go_at_call 42
      have HC := Equal_yes X0 c0 xs X1 c1 ys HS16.out.tab HP16.out.r0 HP16.out.r1 (HK.out.tx.more HS16.out.grow) (HK.out.ty.more HS16.out.grow) HXL.out.1 HXL.out.2.1 HXL.out.2.2 (by rw [HK.out.lx]; have := HL11.out; have := HNB.out; omega)
      rw [HK.out.lx, HK.out.ly] at HC
      refine HC.mono ?_
      rintro e w17 ⟨ze, rv17, gs17, rfl, hs, hz, hh⟩
      have HS17 := Lib.hid (HS16.out.trans hs HT5.out)
      have HL17 := Lib.hid (show gs17.length ≤ 2782 by have := hs.len; have := HL11.out; have := HNB.out; omega)
      have HP17 := Lib.hid (HP3.out.later (HS17.out.res.below (w0 := w3) HT5.out (Nat.le_refl _) HB35.out))
      have HE := Lib.hid (show isLit I gs17 ze ∧ Hol I gs17 (EqH xs ys ze) from ⟨hz, hh⟩)
      clear hs hz hh HC
      refine hK.out _ _ HP17.out.cells (fun _ => ?_)
      clear hK K
      try simp only [Act.put, List.setIfInBounds_toArray, List.set_cons_zero, List.set_cons_succ]
      refine wpAnyH_ready (rs := [15]) (by kernel_rfl) (by simp) (AllReadyH.cons (o := { dst := some 220, op := Op.call { callee := Callee.value (Operand.func 43), args := #[Operand.tmp 213, Operand.tmp 216, Operand.tmp 219], argTypes := #[24, 47, 47] }, type := 3, pos := "law.go:100", after := #[{ on := 8, ground := Ground.data }, { on := 11, ground := Ground.data }, { on := 14, ground := Ground.data }, { on := 7, ground := Ground.chain }], guard := none }) rfl (fun K hK => ?_) AllReadyH.nil)
      go_simp
      go_at_call 43
      have HC := Less_yes X0 c0 xs X1 c1 ys HS17.out.tab HP17.out.r0 HP17.out.r1 (HK.out.tx.more HS17.out.grow) (HK.out.ty.more HS17.out.grow) HXL.out.1 HXL.out.2.1 HXL.out.2.2 (by rw [HK.out.lx]; have := HL17.out; have := HNB.out; omega)
      rw [HK.out.lx, HK.out.ly] at HC
      refine HC.mono ?_
      rintro e w18 ⟨zl, rv18, gs18, rfl, hs, hz, hh⟩
      have HS18 := Lib.hid (HS17.out.trans hs HT5.out)
      have HL18 := Lib.hid (show gs18.length ≤ 2846 by have := hs.len; have := HL17.out; have := HNB.out; omega)
      have HP18 := Lib.hid (HP3.out.later (HS18.out.res.below (w0 := w3) HT5.out (Nat.le_refl _) HB35.out))
      replace HE := Lib.hid (show isLit I gs18 ze ∧ Hol I gs18 (EqH xs ys ze) from ⟨HE.out.1.more hs.grow, HE.out.2.more hs.pre⟩)
      have HF := Lib.hid (show isLit I gs18 zl ∧ Hol I gs18 (LsH xs ys zl) from ⟨hz, hh⟩)
      clear hs hz hh HC
      refine hK.out _ _ HP18.out.cells (fun _ => ?_)
      clear hK K
      try simp only [Act.put, List.setIfInBounds_toArray, List.set_cons_zero, List.set_cons_succ]
      refine wpAnyH_take (i := 16) (oi := { dst := some 27, op := Op.assign (Operand.tmp 212), type := 3, pos := "law.go:100", after := #[{ on := 7, ground := Ground.data }, { on := 15, ground := Ground.chain }, { on := 0, ground := Ground.phase }, { on := 1, ground := Ground.phase }, { on := 2, ground := Ground.phase }, { on := 3, ground := Ground.phase }, { on := 4, ground := Ground.phase }, { on := 5, ground := Ground.phase }, { on := 6, ground := Ground.phase }, { on := 7, ground := Ground.phase }, { on := 8, ground := Ground.textOnly Departure.lateStores }, { on := 9, ground := Ground.textOnly Departure.lateStores }, { on := 10, ground := Ground.textOnly Departure.lateStores }, { on := 11, ground := Ground.textOnly Departure.lateStores }, { on := 12, ground := Ground.textOnly Departure.lateStores }, { on := 13, ground := Ground.textOnly Departure.lateStores }, { on := 14, ground := Ground.textOnly Departure.lateStores }, { on := 15, ground := Ground.textOnly Departure.lateStoresUnsure }], guard := none }) (v := .int .i64 ze) rfl (by kernel_rfl) (by kernel_rfl) (by kernel_rfl) (fun _ _ _ h => h) (Or.inl ⟨by rfl, ?_⟩) HP18.out.cells ?_
      · (intro w' hSw; go_simp)
      simp only [Act.put, List.setIfInBounds_toArray, List.set_cons_zero, List.set_cons_succ]
      refine wpAnyH_take (i := 17) (oi := { dst := some 28, op := Op.assign (Operand.tmp 220), type := 3, pos := "law.go:100", after := #[{ on := 15, ground := Ground.data }, { on := 16, ground := Ground.chain }, { on := 0, ground := Ground.phase }, { on := 1, ground := Ground.phase }, { on := 2, ground := Ground.phase }, { on := 3, ground := Ground.phase }, { on := 4, ground := Ground.phase }, { on := 5, ground := Ground.phase }, { on := 6, ground := Ground.phase }, { on := 7, ground := Ground.phase }, { on := 8, ground := Ground.phase }, { on := 9, ground := Ground.phase }, { on := 10, ground := Ground.phase }, { on := 11, ground := Ground.phase }, { on := 12, ground := Ground.phase }, { on := 13, ground := Ground.phase }, { on := 14, ground := Ground.phase }, { on := 15, ground := Ground.phase }, { on := 16, ground := Ground.phase }], guard := none }) (v := .int .i64 zl) rfl (by kernel_rfl) (by kernel_rfl) (by kernel_rfl) (fun _ _ _ h => h) (Or.inl ⟨by rfl, ?_⟩) HP18.out.cells ?_
      · (intro w' hSw; go_simp)
      simp only [Act.put, List.setIfInBounds_toArray, List.set_cons_zero, List.set_cons_succ]
      refine wpAnyH_done (by kernel_rfl) ?_ _
      refine NoPanic.normal ?_
      go_wp2_with (fail)
      refine (circuit_any HS18.out.tab).mono ?_
      rintro e w19 ⟨GA, gc, rfl, ho, hb⟩
      have hba := (Below.refl w19.heap.size w19).alloc (Nat.le_refl _) (.cells #[.int .i64 ze, .int .i64 zl] 3)
      have h318 := HS18.out.res.below (w0 := w3) HT5.out (Nat.le_refl _) HB35.out
      have h1820 := hb.trans (hba.mono hb.size)
      obtain ⟨A9, c9, hX9, _, hrow9, _⟩ := (ho.later hba).form
      injection hX9 with hX9 _ hc9
      subst hX9
      subst hc9
      have HEV := eval_any I GA gc gs18 IA ic inp (some ⟨w19.heap.size, 0, none⟩) 2 [ze, zl] (w19.alloc (.cells #[.int .i64 ze, .int .i64 zl] 3)) hrow9 HS18.out.tab.gt HS18.out.tab.few (HIR3.out.later (h318.trans (h1820.mono h318.size))) (by have := HK.out.il; have := HK.out.iI; have := HK.out.hm; omega) (row_of w19 _ [ze, zl] rfl).toz (by simp)
      obtain ⟨ev1, ev2⟩ := ev_lits (inp := inp) (ls := [ze, zl]) HS18.out.tab.ck HS18.out.tab.few (fun q hq => by simp at hq; rcases hq with rfl | rfl; exact HE.out.1; exact HF.out.1) HK.out.il
      have e9 : [ze, zl].map (litV (nv inp gs18)) = [decide (a = b), decide (a < b)] := by simp only [List.map_cons, List.map_nil, HVE.out _ _ _ (HE.out.2 gs18 inp (fun _ => True) (List.prefix_refl _) HK.out.il), HVL.out _ _ _ (HF.out.2 gs18 inp (fun _ => True) (List.prefix_refl _) HK.out.il)]
      rw [ev1, e9, ev2, show ([decide (a = b), decide (a < b)] : List Bool).length = 2 from rfl, show ([ze, zl] : List Int).length = 2 from rfl] at HEV
      have hE : (a == b) = decide (a = b) := rfl
      have HEV := Lib.hid HEV
      have HB20 := Lib.hid (HB3.out.trans ((h318.trans (h1820.mono h318.size)).mono HB3.out.size))
      have HT20 := Lib.hid (HS18.out.tab.later h1820)
      clear ho hb hba h318 h1820 hrow9 ev1 ev2 e9
      go_wp2_with (fail)
      refine HEV.out.mono ?_
      rintro e w21 ⟨OA, oc, rfl, hor, hb⟩
      obtain ⟨ob, oo, hOA, _, hcc⟩ := hor (by simp)
      have q0 := hcc 0 (by simp)
      have q1 := hcc 1 (by simp)
      simp only [List.getElem_cons_zero, List.getElem_cons_succ, Nat.add_zero] at q0 q1
      subst hOA
      generalize decide (a = b) = d1 at *
      obtain ⟨d2, hL⟩ : ∃ d : Bool, decide (a < b) = d := ⟨_, rfl⟩
      rw [hL] at q1
      have HER := Lib.hid (berr_any (HT20.out.later hb))
      have HB21 := Lib.hid (HB20.out.trans (hb.mono HB20.out.size))
      clear hor hcc hb HEV
      go_wp2_with (fail)
      refine HER.out.mono ?_
      rintro e wx ⟨rfl, hwx⟩
      obtain rfl := hwx.symm
      go_wp2_with (fail)
      go_ret
      exact ⟨rfl, HB21.out⟩
end Go.Proofs.Ytbcabnbgkicfdaa
