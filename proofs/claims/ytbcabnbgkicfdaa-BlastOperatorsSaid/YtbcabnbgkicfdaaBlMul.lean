/- What is proved: package blast: product. -/
import Derived.Test.YtbcabnbgkicfdaaBlBlk
set_option linter.unusedVariables false
namespace Go.Proofs.Ytbcabnbgkicfdaa
open Go.RowKit Go.Maps

def MulH (x y z : List Int) (v : Int → Bool) (d : Int → Prop) : Prop := (∃ q : Int, un v z + pw x.length * q = un v x * un v y) ∧ (Dps d x → Dps d y → Dps d z)
def MulP (x y : List Int) (k : Nat) (z : List Int) (v : Int → Bool) (d : Int → Prop) : Prop := (∃ q : Int, un v z + pw x.length * q = un v x * un v (y.take k)) ∧ (Dps d x → Dps d y → Dps d z)
def RowP (x : List Int) (b : Int) (k : Nat) (r : List Int) (v : Int → Bool) (d : Int → Prop) : Prop := un v r = b2n (v b) * un v (x.take k) ∧ (Dps d x → d b → Dps d r)
theorem pw_add (a b : Nat) : pw (a + b) = pw a * pw b := by unfold pw; exact Int.pow_add 2 a b
theorem row_step {x r : List Int} {b s : Int} {k : Nat} {v : Int → Bool} {d : Int → Prop} (hk : k < x.length) (hr : r.length = k) (h : RowP x b k r v d) (h1 : v s = (v x[k] && v b) ∧ (d x[k] → d b → d s)) : RowP x b (k + 1) (r ++ [s]) v d := by
  refine ⟨?_, fun dx db => (h.2 dx db).snoc (h1.2 (dx.at hk) db)⟩
  rw [un_snoc, un_take v x hk, h.1, h1.1, hr]
  generalize un v (x.take k) = X
  generalize pw k = P
  cases v x[k] <;> cases v b <;> simp [b2n]
theorem mul_step {x y z r s : List Int} {k m : Nat} {v : Int → Bool} {d : Int → Prop} (hk : k < x.length) (hk2 : k < y.length) (hz : z.length = x.length) (hm : k + m = x.length) (hr : r.length = m)
    (h : MulP x y k z v d) (h1 : RowP x y[k] m r v d) (h2 : AddH (z.drop k) r s v d) : MulP x y (k + 1) (z.take k ++ s) v d := by
  obtain ⟨⟨q, e1⟩, e2⟩ := h
  obtain ⟨e3, e4⟩ := h1
  obtain ⟨⟨q2, _, _, e5⟩, e6⟩ := h2
  refine ⟨⟨b2n (v y[k]) * un v (x.drop m) + q + q2, ?_⟩, fun dx dy => ?_⟩
  · have a1 : un v z = un v (z.take k) + pw k * un v (z.drop k) := by
      conv => lhs; rw [← List.take_append_drop k z, un_append, List.length_take, Nat.min_eq_left (by omega)]
    have a2 : un v x = un v (x.take m) + pw m * un v (x.drop m) := by
      conv => lhs; rw [← List.take_append_drop m x, un_append, List.length_take, Nat.min_eq_left (by omega)]
    have a3 : pw x.length = pw k * pw m := by rw [← hm, pw_add]
    have a4 : (z.drop k).length = m := by rw [List.length_drop]; omega
    rw [un_append, List.length_take, Nat.min_eq_left (by omega), un_take v y hk2]
    rw [a4, e3] at e5
    rw [a1, a3] at e1
    rw [a3]
    rw [a2] at e1 ⊢
    generalize un v (z.take k) = T at *
    generalize un v (z.drop k) = Dz at *
    generalize un v (x.take m) = X1 at *
    generalize un v (x.drop m) = X2 at *
    generalize un v (y.take k) = Y at *
    generalize un v s = S at *
    generalize pw k = P at *
    generalize pw m = M at *
    generalize b2n (v y[k]) = b at *
    clear e2 e3 e4 e6 a1 a2 a3 a4
    grind
  · exact ((e2 dx dy).sub fun a ha => List.mem_of_mem_take ha).append (e6 ((e2 dx dy).sub fun a ha => List.mem_of_mem_drop ha) (e4 dx (dy.at hk2)))
section
variable {n₀ bb mb : Nat} {rv : Value} {I : Int} {gs : List Gt} {w : World}
theorem mul_start {x y : List Int} {v : Int → Bool} {d : Int → Prop} (ho : VOk v d) (n : Nat) : MulP x y 0 (List.replicate n 0) v d :=
  ⟨⟨0, by rw [un_zeros ho]; simp [un]⟩, fun _ _ a ha => by rw [(List.mem_replicate.1 ha).2]; exact ho.d0⟩
set_option maxRecDepth 100000 in
set_option maxHeartbeats 4000000 in
theorem product_any (A : Option Addr) (cx : Nat) (x : List Int) (B : Option Addr) (cy : Nat) (y : List Int) (h : Bld w n₀ bb mb rv I gs 0) (hX : WRow w.heap.size w A x) (hY : WRow w.heap.size w B y) (lx : Lts I gs x) (ly : Lts I gs y) (hl : x.length ≤ 20) (hcx : x.length ≤ cx) (hxy : y.length = x.length) (hf : gs.length + 8 * x.length * x.length ≤ 5000) :
    Calls Try.prog 82 #[.pointer (some ⟨bb, 0, none⟩), .slice A x.length cx, .slice B y.length cy] w (WdG n₀ bb mb rv I gs (8 * x.length * x.length) w x.length (MulH x y)) := by
  have hmk := do_make_in x.length (by omega)
  have hb0 := (Below.refl w.heap.size w).alloc (Nat.le_refl _) (.cells (hdr (fun _ => .int .i64 0) x.length) 3)
  have HT := Lib.hid h
  have HX := Lib.hid hX
  have HY := Lib.hid hY
  have LX := Lib.hid lx
  have LY := Lib.hid ly
  have HF := Lib.hid hf
  have HXY := Lib.hid hxy
  have HCX := Lib.hid hcx
  have HS0 := Lib.hid ((Stp.refl h).later hb0 h)
  have HZ0 := Lib.hid (ZBlk.new w x.length)
  have HL0 := Lib.hid (lts_zeros h x.length)
  have HH0 : Hid (Hol I gs (MulP x y 0 (List.replicate x.length 0))) := Lib.hid (Hol.triv fun v d ho => mul_start ho _)
  clear h hX hY lx ly hf hxy hcx hb0
  go_enter Try.func82, Try.ntmps82
  go_wp2_with (fail)
  clear hmk
  generalize hgw : w.alloc (.cells (hdr (fun _ => .int .i64 0) x.length) 3) = w1 at *
  clear hgw
  obtain ⟨zb, HZB⟩ : ∃ zb, Hid (w.heap.size = zb) := ⟨_, Lib.hid rfl⟩
  rw [HZB.out] at HZ0 ⊢
  go_loopw [17] (fun jv wr => ∃ (k : Nat) (z : List Int) (rv1 : Value) (gs1 : List Gt), k ≤ x.length ∧ jv = .int .i64 (k : Int) ∧ Hid (Stp n₀ bb mb rv I gs (8 * x.length * k) w wr rv1 gs1) ∧ Hid (ZBlk wr zb z) ∧ Hid (z.length = x.length) ∧ Hid (Lts I gs1 z) ∧ Hid (Hol I gs1 (MulP x y k z))) (fun jv _ => x.length - (intOf jv).toNat)
  case atStart => exact ⟨0, List.replicate x.length 0, rv, gs, Nat.zero_le _, rfl, HS0, HZ0, Lib.hid (by simp), HL0, HH0⟩
  case round =>
    obtain ⟨k, z, rv1, gs1, hk, rfl, hst, hzb, hzl, hlz, hho⟩ := hrel
    by_cases hlt : k < x.length
    · have hlt2 : k < y.length := by have := HXY.out; omega
      obtain ⟨m, hm⟩ : ∃ m, k + m = x.length := ⟨x.length - k, by omega⟩
      obtain ⟨b1, o1, hA, _⟩ := HX.out.at hlt
      obtain ⟨b2, o2, hB, q2⟩ := (HY.out.stp HT.out hst.out).at hlt2
      have hsub : IntKind.i64.wrap ((x.length : Int) - (k : Int)) = (m : Int) := by rw [IntWalk.i64_in _ (by omega)]; omega
      have hsub2 : (x.length : Int) - (k : Int) = (m : Int) := by omega
      have hsl := fun W => sl_to b1 o1 x.length cx m (by omega) HCX.out W
      have hn1 := hst.out.len
      have HG1 := Lib.hid (show gs1.length + 8 * m ≤ 5000 by
        have := HF.out
        have e : 8 * x.length * k + 8 * x.length ≤ 8 * x.length * x.length := by
          have := Nat.mul_le_mul_left (8 * x.length) (show k + 1 ≤ x.length by omega)
          rw [Nat.mul_succ] at this
          exact this
        omega)
      have HRX := Lib.hid (fun (j : Nat) (hj : j < x.length) (n : Nat) (w2 : World) (rv2 : Value) (gs2 : List Gt) (hs : Stp n₀ bb mb rv I gs n w w2 rv2 gs2) => show w2.cell? ⟨b1, o1 + j, none⟩ = some (.int .i64 x[j]) by obtain ⟨b, o, e, h⟩ := (HX.out.stp HT.out hs).at hj; rw [hA] at e; cases e; exact h)
      have HRY := Lib.hid (fun (n : Nat) (w2 : World) (rv2 : Value) (gs2 : List Gt) (hs : Stp n₀ bb mb rv I gs n w w2 rv2 gs2) => show w2.cell? ⟨b2, o2 + k, none⟩ = some (.int .i64 y[k]) by obtain ⟨b, o, e, h⟩ := (HY.out.stp HT.out hs).at hlt2; rw [hB] at e; cases e; exact h)
      have HLY := Lib.hid ((LY.out.at hlt2).more hst.out.grow)
      have HMS := Lib.hid (fun v d (r s : List Int) => @mul_step x y z r s k m v d hlt hlt2 hzl.out hm)
      have HM := Lib.hid hm
      obtain ⟨q, HQ⟩ : ∃ q, Hid (y[k] = q) := ⟨_, Lib.hid rfl⟩
      rw [HQ.out] at HRY HLY HMS
      have HAC0 := Lib.hid (Acc.start hst.out.tab)
      have HRP : Hid (Hol I gs1 (RowP x q 0 [])) := Lib.hid (Hol.triv fun v d _ => ⟨by simp [un], fun _ _ => Dps.nil d⟩)
      subst hA
      subst hB
      have hmx : m ≤ x.length := by omega
      clear q2 hm hn1
      generalize hgo : wr = w2 at *
      clear hgo
      go_wp2_with (fail)
      clear hsub hsub2 hsl
      go_loopw [9, 27] (fun u9 jv wr => ∃ (j : Nat) (r : List Int) (rv2 : Value) (gs2 : List Gt), j ≤ m ∧ jv = .int .i64 (j : Int) ∧ Hid (Acc n₀ bb mb rv1 I gs1 w2 j wr u9 r rv2 gs2) ∧ Hid (r.length = j) ∧ Hid (Hol I gs2 (RowP x q j r))) (fun _ jv _ => m - (intOf jv).toNat)
      case atStart => exact ⟨0, [], rv1, gs1, Nat.zero_le _, rfl, HAC0, Lib.hid rfl, HRP⟩
      case round =>
        obtain ⟨j, r, rv2, gs2, hj, rfl, hac, hrl, hrp⟩ := hrel
        by_cases hjt : j < m
        · have hjx : j < x.length := by omega
          have HS2 := Lib.hid (hst.out.trans hac.out.st HT.out)
          have c1 := HRX.out j hjx _ _ _ _ HS2.out
          have c2 := HRY.out _ _ _ _ HS2.out
          have HLX := Lib.hid ((LX.out.at hjx).more (Nat.le_trans hst.out.grow hac.out.st.grow))
          have HRS := Lib.hid (fun v d (s : Int) => @row_step x r q s j v d hjx hrl.out)
          obtain ⟨p, HP⟩ : ∃ p, Hid (x[j] = p) := ⟨_, Lib.hid rfl⟩
          rw [HP.out] at c1 HLX HRS
          have HAN := Lib.hid (a_And p q hac.out.st.tab HLX.out (HLY.out.more hac.out.st.grow) (by have := hac.out.st.len; have := HG1.out; omega))
          go_wp2_with (fail)
          refine HAN.out.mono ?_
          rintro e w3 ⟨s, rv3, gs3, rfl, hs3, hl3, hh3⟩
          have HH3 : Hid (Hol I gs3 (RowP x q (j + 1) (r ++ [s]))) := Lib.hid ((hrp.out.more hs3.pre).mp2 hh3 fun v d _ a b => HRS.out _ _ s a b)
          obtain ⟨X, cap, w4, hrun, hac4⟩ := (hac.out.go hs3 hst.out.tab).push hst.out.tab (by have := hrl.out; omega) hl3
          have hrl2 := hrl.out
          have HRL : Hid ((r ++ [s]).length = j + 1) := Lib.hid (by rw [List.length_append, hrl2]; rfl)
          rw [hrl2] at hrun hac4
          have HAC4 := Lib.hid hac4
          clear hs3 hl3 hh3 hac4 hrl2 HAN c1 c2 HS2 hrp
          go_wp2_with (at_builtin; refine app_by rfl _ _ 47 47 rfl _ _ rfl rfl _ _ hrun ?_; intro w9 hw9; obtain rfl := hw9.out)
          exact ⟨⟨j + 1, r ++ [s], rv3, gs3, by omega, by go_num, HAC4, HRL, HH3⟩, by simp [intOf]; omega⟩
        · obtain rfl : j = m := by omega
          obtain ⟨RA, rc, hu, _, _⟩ := hac.out.own.form
          rw [hrl.out] at hu
          subst hu
          have hdr : Below wr.heap.size wr wr.drew := (Below.refl _ _).drew
          have HAC := Lib.hid (hac.out.later hdr hst.out.tab)
          have HZB1 := Lib.hid (hzb.out.stp hst.out.tab HAC.out.st)
          have hdl : (z.drop k).length = j := by rw [List.length_drop]; have := hzl.out; have := HM.out; omega
          have hsl := fun W => sl_from zb 0 x.length x.length k hlt (Nat.le_refl _) W
          rw [Nat.zero_add, show x.length - k = j by have := HM.out; omega] at hsl
          have HSM := sum_any (some ⟨zb, k, none⟩) j (z.drop k) RA rc r HAC.out.st.tab (HZB1.out.wrow k) HAC.out.own.wrow.2.2 ((hlz.out.more hac.out.st.grow).sub fun a ha => List.mem_of_mem_drop ha) hac.out.lts (by omega) (by have := hrl.out; omega) (by rw [hdl]; have := hac.out.st.len; have := HG1.out; omega)
          rw [hdl, hrl.out] at HSM
          have HSM := Lib.hid HSM
          have HDL := Lib.hid hdl
          clear hdl hdr
          go_upto_region 11 with fail
          rename_i K hKK
          refine wp_region_noPanic ?_
          refine wp_region_held_drew (S := fun _ => True) (by kernel_rfl) trivial (fun _ => ?_)
          generalize wr.drew = w5 at *
          refine wpAnyH_take (i := 0) (oi := { dst := some 42, op := Op.move (Operand.tmp 7), type := 47, pos := "arithmetic.go:54", after := #[], guard := none }) (v := .slice (some ⟨zb, 0, none⟩) x.length x.length) rfl (by kernel_rfl) (by kernel_rfl) (by kernel_rfl) (fun _ _ _ h => h) (Or.inl ⟨by rfl, ?_⟩) trivial ?_
          · (intro w' hSw; go_simp)
          simp only [Act.put, List.setIfInBounds_toArray, List.set_cons_zero, List.set_cons_succ]
          refine wpAnyH_take (i := 1) (oi := { dst := some 43, op := Op.move (Operand.tmp 8), type := 3, pos := "arithmetic.go:54", after := #[], guard := none }) (v := .int .i64 (k : Int)) rfl (by kernel_rfl) (by kernel_rfl) (by kernel_rfl) (fun _ _ _ h => h) (Or.inl ⟨by rfl, ?_⟩) trivial ?_
          · (intro w' hSw; go_simp)
          simp only [Act.put, List.setIfInBounds_toArray, List.set_cons_zero, List.set_cons_succ]
          refine wpAnyH_take (i := 2) (oi := { dst := some 44, op := Op.slice 47 (Operand.tmp 42) (some (Operand.tmp 43)) none none, type := 47, pos := "arithmetic.go:54", after := #[{ on := 0, ground := Ground.data }, { on := 1, ground := Ground.data }], guard := none }) (v := .slice (some ⟨zb, k, none⟩) j j) rfl (by kernel_rfl) (by kernel_rfl) (by kernel_rfl) (fun _ _ _ h => h) (Or.inl ⟨by rfl, ?_⟩) trivial ?_
          · (intro w' hSw; go_simp)
          simp only [Act.put, List.setIfInBounds_toArray, List.set_cons_zero, List.set_cons_succ]
          refine wpAnyH_take (i := 3) (oi := { dst := some 45, op := Op.move (Operand.tmp 0), type := 24, pos := "arithmetic.go:54", after := #[], guard := none }) (v := .pointer (some ⟨bb, 0, none⟩)) rfl (by kernel_rfl) (by kernel_rfl) (by kernel_rfl) (fun _ _ _ h => h) (Or.inl ⟨by rfl, ?_⟩) trivial ?_
          · (intro w' hSw; go_simp)
          simp only [Act.put, List.setIfInBounds_toArray, List.set_cons_zero, List.set_cons_succ]
          refine wpAnyH_take (i := 4) (oi := { dst := some 46, op := Op.move (Operand.tmp 7), type := 47, pos := "arithmetic.go:54", after := #[], guard := none }) (v := .slice (some ⟨zb, 0, none⟩) x.length x.length) rfl (by kernel_rfl) (by kernel_rfl) (by kernel_rfl) (fun _ _ _ h => h) (Or.inl ⟨by rfl, ?_⟩) trivial ?_
          · (intro w' hSw; go_simp)
          simp only [Act.put, List.setIfInBounds_toArray, List.set_cons_zero, List.set_cons_succ]
          refine wpAnyH_take (i := 5) (oi := { dst := some 47, op := Op.move (Operand.tmp 8), type := 3, pos := "arithmetic.go:54", after := #[], guard := none }) (v := .int .i64 (k : Int)) rfl (by kernel_rfl) (by kernel_rfl) (by kernel_rfl) (fun _ _ _ h => h) (Or.inl ⟨by rfl, ?_⟩) trivial ?_
          · (intro w' hSw; go_simp)
          simp only [Act.put, List.setIfInBounds_toArray, List.set_cons_zero, List.set_cons_succ]
          refine wpAnyH_take (i := 6) (oi := { dst := some 48, op := Op.slice 47 (Operand.tmp 46) (some (Operand.tmp 47)) none none, type := 47, pos := "arithmetic.go:54", after := #[{ on := 4, ground := Ground.data }, { on := 5, ground := Ground.data }], guard := none }) (v := .slice (some ⟨zb, k, none⟩) j j) rfl (by kernel_rfl) (by kernel_rfl) (by kernel_rfl) (fun _ _ _ h => h) (Or.inl ⟨by rfl, ?_⟩) trivial ?_
          · (intro w' hSw; go_simp)
          simp only [Act.put, List.setIfInBounds_toArray, List.set_cons_zero, List.set_cons_succ]
          refine wpAnyH_take (i := 7) (oi := { dst := some 49, op := Op.move (Operand.tmp 9), type := 47, pos := "arithmetic.go:54", after := #[], guard := none }) (v := .slice RA j rc) rfl (by kernel_rfl) (by kernel_rfl) (by kernel_rfl) (fun _ _ _ h => h) (Or.inl ⟨by rfl, ?_⟩) trivial ?_
          · (intro w' hSw; go_simp)
          simp only [Act.put, List.setIfInBounds_toArray, List.set_cons_zero, List.set_cons_succ]
          refine wpAnyH_ready (rs := [8]) (by kernel_rfl) (by simp) (AllReadyH.cons (o := { dst := some 50, op := Op.call { callee := Callee.value (Operand.func 78), args := #[Operand.tmp 45, Operand.tmp 48, Operand.tmp 49], argTypes := #[24, 47, 47] }, type := 47, pos := "arithmetic.go:54", after := #[{ on := 3, ground := Ground.data }, { on := 6, ground := Ground.data }, { on := 7, ground := Ground.data }], guard := none }) rfl (fun K hK => ?_) AllReadyH.nil)
          go_simp
          go_at_call 78
          refine HSM.out.mono ?_
          rintro e w3 ⟨SA, sc, s, rv3, gs3, rfl, hac3, hsl3, hh3⟩
          have HAC3 := Lib.hid hac3
          have HSL := Lib.hid hsl3
          have HS3 := Lib.hid (hst.out.trans (HAC.out.st.trans hac3.st hst.out.tab) HT.out)
          have HZB3 := Lib.hid (HZB1.out.stp HAC.out.st.tab hac3.st)
          have HH3 : Hid (Hol I gs3 (MulP x y (k + 1) (z.take k ++ s))) := Lib.hid (((((hho.out.more hac.out.st.pre).mp2 hrp.out (χ := fun v d => MulP x y k z v d ∧ RowP x q j r v d) fun v d _ a b => ⟨a, b⟩)).more hac3.st.pre).mp2 hh3 fun v d _ ⟨a, b⟩ c => HMS.out _ _ r s hrl.out a b c)
          have HLZ3 := Lib.hid (((hlz.out.more hac.out.st.grow).more hac3.st.grow).sub (m := z.take k) fun a ha => List.mem_of_mem_take ha)
          have hcp := run_copy_blk (w := w3) HZB3.out k SA sc j _ hac3.own.wrow.2.2 (by have := HM.out; omega) (by have := HM.out; have := hzl.out; omega) 3
          rw [hsl3] at hcp
          have HCP := Lib.hid hcp
          clear hac3 hsl3 hh3 hcp HSM HAC HZB1 hho hrp
          refine hK.out _ _ trivial (fun _ => ?_)
          clear hK K
          try simp only [Act.put, List.setIfInBounds_toArray, List.set_cons_zero, List.set_cons_succ]
          refine wpAnyH_ready (rs := [9]) (by kernel_rfl) (by simp) (AllReadyH.cons (o := { dst := some 51, op := Op.call { callee := Callee.builtin Builtin.copy, args := #[Operand.tmp 44, Operand.tmp 50], argTypes := #[47, 47] }, type := 3, pos := "arithmetic.go:54", after := #[{ on := 2, ground := Ground.data }, { on := 8, ground := Ground.data }, { on := 8, ground := Ground.chain }], guard := none }) rfl (fun K hK => ?_) AllReadyH.nil)
          refine step_copy_by (by rfl) _ _ 47 47 (by rfl) _ _ (by rfl) (by rfl) _ _ HCP.out ?_
          intro w9 hw9
          have HS9 := Lib.hid (show Stp n₀ bb mb rv I gs (8 * x.length * (k + 1)) w w9 rv3 gs3 from by rw [hw9.out]; exact (HS3.out.puts _ _ _ _ HZB3.out (Nat.le_of_eq HZB.out)).mono (by have := hmx; rw [Nat.mul_succ]; omega))
          have HZB9 := Lib.hid (show ZBlk w9 zb (z.take k ++ s) from by rw [hw9.out]; exact ZBlk.sets s k w3 z (by have := HM.out; have := hzl.out; have := HSL.out; omega) HZB3.out)
          clear hw9
          refine hK.out _ _ trivial (fun _ => ?_)
          clear hK K
          try simp only [Act.put, List.setIfInBounds_toArray, List.set_cons_zero, List.set_cons_succ]
          refine wpAnyH_done (by kernel_rfl) ?_ _
          refine NoPanic.normal ?_
          have HZL9 : Hid ((z.take k ++ s).length = x.length) := Lib.hid (by rw [List.length_append, List.length_take, HSL.out]; have := HM.out; have := hzl.out; omega)
          have HLZ9 : Hid (Lts I gs3 (z.take k ++ s)) := Lib.hid (HLZ3.out.append HAC3.out.lts)
          go_wp2_with (fail)
          exact ⟨⟨k + 1, z.take k ++ s, rv3, gs3, by omega, by go_num, HS9, HZB9, HZL9, HLZ9, HH3⟩, by simp [intOf]; omega⟩
    · obtain rfl : k = x.length := by omega
      have HE : Hid (Hol I gs1 (MulH x y z)) := Lib.hid (hho.out.mp fun v d _ a => ⟨by have := a.1; rwa [← HXY.out, List.take_length, HXY.out] at this, a.2⟩)
      have HO : Hid (ZOwn wr w.heap.size (.slice (some ⟨zb, 0, none⟩) x.length x.length) z) := Lib.hid (hzb.out.own (Nat.le_of_eq HZB.out) hzl.out.symm (by have := hzl.out; omega))
      have hnl : ¬ x.length < y.length := by have := HXY.out; omega
      clear hho
      go_wp2_with (fail)
      go_ret
      exact ⟨_, x.length, z, rv1, gs1, rfl, ⟨hst.out, HO.out, hlz.out⟩, hzl.out, HE.out⟩
end
end Go.Proofs.Ytbcabnbgkicfdaa
