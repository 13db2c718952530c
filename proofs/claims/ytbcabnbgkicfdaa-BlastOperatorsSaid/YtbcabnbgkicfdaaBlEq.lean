/- What is proved: package blast: equal, less. -/
import Derived.Test.YtbcabnbgkicfdaaBlOps
set_option linter.unusedVariables false
namespace Go.Proofs.Ytbcabnbgkicfdaa
open Go.RowKit Go.Maps

def EqH (x y : List Int) (z : Int) (v : Int → Bool) (d : Int → Prop) : Prop := v z = decide (un v x = un v y) ∧ (Dps d x → Dps d y → d z)
/-- the number of a word, with its sign -/
def sv (v : Int → Bool) (x : List Int) : Int := un v x - pw x.length * b2n (v (sg x))
def LsH (x y : List Int) (z : Int) (v : Int → Bool) (d : Int → Prop) : Prop := v z = decide (sv v x < sv v y) ∧ (Dps d x → Dps d y → d z)
def EqP (x y : List Int) (k : Nat) (z : Int) (v : Int → Bool) (d : Int → Prop) : Prop := v z = decide (un v (x.take k) = un v (y.take k)) ∧ (Dps d x → Dps d y → d z)
def LsP (x y : List Int) (k : Nat) (z : Int) (v : Int → Bool) (d : Int → Prop) : Prop := (k < x.length → v z = decide (un v (x.take k) < un v (y.take k))) ∧ (k = x.length → v z = decide (sv v x < sv v y)) ∧ (Dps d x → Dps d y → d z)
theorem eq_step {x y : List Int} {k : Nat} {z z' : Int} {v : Int → Bool} {d : Int → Prop} (hk : k < x.length) (hk2 : k < y.length) (h : EqP x y k z v d) (h1 : v z' = (v z && !(v x[k] != v y[k]))) (hd : d z → d x[k] → d y[k] → d z') : EqP x y (k + 1) z' v d := by
  refine ⟨?_, fun dx dy => hd (h.2 dx dy) (dx.at hk) (dy.at hk2)⟩
  have lx := un_lo v (x.take k)
  have ly := un_lo v (y.take k)
  rw [List.length_take, Nat.min_eq_left (by omega)] at lx ly
  rw [h1, h.1, un_take v x hk, un_take v y hk2]
  generalize un v (x.take k) = X at *
  generalize un v (y.take k) = Y at *
  generalize pw k = P at *
  cases v x[k] <;> cases v y[k] <;> simp [b2n]
  · omega
  · omega
theorem sv_at (v : Int → Bool) {x : List Int} {k : Nat} (hk : k < x.length) (hl : k + 1 = x.length) : sv v x = un v (x.take k) - pw k * b2n (v x[k]) := by
  have e := un_take v x hk
  rw [hl, List.take_length] at e
  have e2 : sg x = x[k] := by
    rw [sg_at (by omega)]
    simp only [show x.length - 1 = k by omega]
  unfold sv
  rw [e, e2, ← hl, pw_succ, Int.mul_assoc]
  omega
theorem ls_step {x y : List Int} {k : Nat} {z z' p q : Int} {v : Int → Bool} {d : Int → Prop} (hxy : y.length = x.length) (hk : k < x.length) (hk2 : k < y.length) (h : LsP x y k z v d)
    (hp : (k + 1 < x.length ∧ p = x[k] ∧ q = y[k]) ∨ (k + 1 = x.length ∧ p = y[k] ∧ q = x[k])) (h1 : v z' = ((!(v p) && v q) || (!(v p && !(v q)) && v z))) (hd : d z → d p → d q → d z') : LsP x y (k + 1) z' v d := by
  have h0 := h.1 hk
  have lx := un_lo v (x.take k)
  have ly := un_lo v (y.take k)
  rw [List.length_take, Nat.min_eq_left (by omega)] at lx ly
  rcases hp with ⟨hl, rfl, rfl⟩ | ⟨hl, rfl, rfl⟩
  · refine ⟨fun _ => ?_, fun e => by omega, fun dx dy => hd (h.2.2 dx dy) (dx.at hk) (dy.at hk2)⟩
    rw [h1, h0, un_take v x hk, un_take v y hk2]
    generalize un v (x.take k) = X at *
    generalize un v (y.take k) = Y at *
    generalize pw k = P at *
    cases v x[k] <;> cases v y[k] <;> simp [b2n] <;> omega
  · refine ⟨fun e => by omega, fun _ => ?_, fun dx dy => hd (h.2.2 dx dy) (dy.at hk2) (dx.at hk)⟩
    rw [h1, h0, sv_at v hk hl, sv_at v hk2 (by omega)]
    generalize un v (x.take k) = X at *
    generalize un v (y.take k) = Y at *
    generalize pw k = P at *
    cases v x[k] <;> cases v y[k] <;> simp [b2n] <;> omega
section
variable {n₀ bb mb : Nat} {rv : Value} {I : Int} {gs : List Gt} {w : World}
set_option maxRecDepth 100000 in
set_option maxHeartbeats 4000000 in
theorem equal_any (A : Option Addr) (cx : Nat) (x : List Int) (B : Option Addr) (cy : Nat) (y : List Int) (h : Bld w n₀ bb mb rv I gs 0) (hX : WRow w.heap.size w A x) (hY : WRow w.heap.size w B y) (lx : Lts I gs x) (ly : Lts I gs y) (h0 : 0 < x.length) (hl : x.length ≤ 100) (hxy : y.length = x.length) (hf : gs.length + 4 * x.length ≤ 5000) :
    Calls Try.prog 89 #[.pointer (some ⟨bb, 0, none⟩), .slice A x.length cx, .slice B y.length cy] w (OneG n₀ bb mb rv I gs (4 * x.length) w (EqH x y)) := by
  have HT := Lib.hid h
  have HX := Lib.hid hX
  have HY := Lib.hid hY
  have LX := Lib.hid lx
  have LY := Lib.hid ly
  have HF := Lib.hid hf
  have HXY := Lib.hid hxy
  have HPS := Lib.hid h0
  have HS0 := Lib.hid (Stp.refl h)
  have HL0 : Hid (isLit I gs 1) := Lib.hid ⟨by omega, by have := h.ck.lo; omega⟩
  have HH0 : Hid (Hol I gs (EqP x y 0 1)) := Lib.hid (Hol.triv fun v d ho => ⟨by rw [ho.one]; rfl, fun _ _ => ho.d1⟩)
  clear h hX hY lx ly hf hxy h0
  go_enter Try.func89, Try.ntmps89
  go_wp2_with (fail)
  go_loopw [7, 11] (fun u7 jv wr => ∃ (k : Nat) (z : Int) (rv1 : Value) (gs1 : List Gt), k ≤ x.length ∧ u7 = .int .i64 z ∧ jv = .int .i64 (k : Int) ∧ Hid (Stp n₀ bb mb rv I gs (4 * k) w wr rv1 gs1) ∧ Hid (isLit I gs1 z) ∧ Hid (Hol I gs1 (EqP x y k z))) (fun _ jv _ => x.length - (intOf jv).toNat)
  case atStart => exact ⟨0, 1, rv, gs, Nat.zero_le _, rfl, rfl, HS0, HL0, HH0⟩
  case round =>
    obtain ⟨k, z, rv1, gs1, hk, rfl, rfl, hst, hlz, hho⟩ := hrel
    by_cases hlt : k < x.length
    · have hlt2 : k < y.length := by have := HXY.out; omega
      have hdr : Below wr.heap.size wr wr.drew := (Below.refl _ _).drew
      have HST := Lib.hid (hst.out.later hdr HT.out)
      obtain ⟨b1, o1, hA, q1⟩ := (HX.out.stp HT.out HST.out).at hlt
      obtain ⟨b2, o2, hB, q2⟩ := (HY.out.stp HT.out HST.out).at hlt2
      have HGL := Lib.hid (show gs1.length + 4 ≤ 5000 by have := hst.out.len; have := HF.out; omega)
      have HLX := Lib.hid ((LX.out.at hlt).more hst.out.grow)
      have HLY := Lib.hid ((LY.out.at hlt2).more hst.out.grow)
      have HSM := Lib.hid (fun v d (z' : Int) => @eq_step x y k z z' v d hlt hlt2)
      have HRX := Lib.hid (fun (m : Nat) (w2 : World) (rv2 : Value) (gs2 : List Gt) (hs : Stp n₀ bb mb rv I gs m w w2 rv2 gs2) => (HX.out.stp HT.out hs).at hlt)
      have HRY := Lib.hid (fun (m : Nat) (w2 : World) (rv2 : Value) (gs2 : List Gt) (hs : Stp n₀ bb mb rv I gs m w w2 rv2 gs2) => (HY.out.stp HT.out hs).at hlt2)
      obtain ⟨p, HP⟩ : ∃ p, Hid (x[k] = p) := ⟨_, Lib.hid rfl⟩
      obtain ⟨q, HQ⟩ : ∃ q, Hid (y[k] = q) := ⟨_, Lib.hid rfl⟩
      rw [HP.out] at q1 HLX HSM HRX
      rw [HQ.out] at q2 HLY HSM HRY
      subst hA
      subst hB
      have HRX := Lib.hid (fun (m : Nat) (w2 : World) (rv2 : Value) (gs2 : List Gt) (hs : Stp n₀ bb mb rv I gs m w w2 rv2 gs2) => show w2.cell? ⟨b1, o1 + k, none⟩ = some (.int .i64 p) by obtain ⟨b, o, e, h⟩ := HRX.out _ _ _ _ hs; cases e; exact h)
      have HRY := Lib.hid (fun (m : Nat) (w2 : World) (rv2 : Value) (gs2 : List Gt) (hs : Stp n₀ bb mb rv I gs m w w2 rv2 gs2) => show w2.cell? ⟨b2, o2 + k, none⟩ = some (.int .i64 q) by obtain ⟨b, o, e, h⟩ := HRY.out _ _ _ _ hs; cases e; exact h)
      have HSS := Lib.hid (And.intro q1 q2)
      have HXR := Lib.hid (a_Xor p q HST.out.tab HLX.out HLY.out (by have := HGL.out; omega))
      clear q1 q2 hst hdr
      go_upto_region 5 with fail
      rename_i K hKK
      refine wp_region_noPanic ?_
      refine wp_region_held_drew (S := fun w' => w'.cell? ⟨b1, o1 + k, none⟩ = some (.int .i64 p) ∧ w'.cell? ⟨b2, o2 + k, none⟩ = some (.int .i64 q)) (by kernel_rfl) HSS.out (fun _ => ?_)
      generalize wr.drew = w1 at *
      refine wpAnyH_take (i := 0) (oi := { dst := some 14, op := Op.move (Operand.tmp 0), type := 24, pos := "arithmetic.go:62", after := #[], guard := none }) (v := .pointer (some ⟨bb, 0, none⟩)) rfl (by kernel_rfl) (by kernel_rfl) (by kernel_rfl) (fun _ _ _ h => h) (Or.inl ⟨by rfl, ?_⟩) HSS.out ?_
      · (intro w' hSw; go_simp)
      simp only [Act.put, List.setIfInBounds_toArray, List.set_cons_zero, List.set_cons_succ]
      refine wpAnyH_take (i := 1) (oi := { dst := some 15, op := Op.move (Operand.tmp 7), type := 3, pos := "arithmetic.go:62", after := #[], guard := none }) (v := .int .i64 z) rfl (by kernel_rfl) (by kernel_rfl) (by kernel_rfl) (fun _ _ _ h => h) (Or.inl ⟨by rfl, ?_⟩) HSS.out ?_
      · (intro w' hSw; go_simp)
      simp only [Act.put, List.setIfInBounds_toArray, List.set_cons_zero, List.set_cons_succ]
      refine wpAnyH_take (i := 2) (oi := { dst := some 16, op := Op.move (Operand.tmp 0), type := 24, pos := "arithmetic.go:62", after := #[], guard := none }) (v := .pointer (some ⟨bb, 0, none⟩)) rfl (by kernel_rfl) (by kernel_rfl) (by kernel_rfl) (fun _ _ _ h => h) (Or.inl ⟨by rfl, ?_⟩) HSS.out ?_
      · (intro w' hSw; go_simp)
      simp only [Act.put, List.setIfInBounds_toArray, List.set_cons_zero, List.set_cons_succ]
      refine wpAnyH_take (i := 3) (oi := { dst := some 17, op := Op.move (Operand.tmp 1), type := 47, pos := "arithmetic.go:62", after := #[], guard := none }) (v := .slice (some ⟨b1, o1, none⟩) x.length cx) rfl (by kernel_rfl) (by kernel_rfl) (by kernel_rfl) (fun _ _ _ h => h) (Or.inl ⟨by rfl, ?_⟩) HSS.out ?_
      · (intro w' hSw; go_simp)
      simp only [Act.put, List.setIfInBounds_toArray, List.set_cons_zero, List.set_cons_succ]
      refine wpAnyH_take (i := 4) (oi := { dst := some 18, op := Op.move (Operand.tmp 8), type := 3, pos := "arithmetic.go:62", after := #[], guard := none }) (v := .int .i64 (k : Int)) rfl (by kernel_rfl) (by kernel_rfl) (by kernel_rfl) (fun _ _ _ h => h) (Or.inl ⟨by rfl, ?_⟩) HSS.out ?_
      · (intro w' hSw; go_simp)
      simp only [Act.put, List.setIfInBounds_toArray, List.set_cons_zero, List.set_cons_succ]
      refine wpAnyH_take (i := 5) (oi := { dst := some 19, op := Op.indexAddr 47 (Operand.tmp 17) (Operand.tmp 18), type := 0, pos := "arithmetic.go:62", after := #[{ on := 3, ground := Ground.data }, { on := 4, ground := Ground.data }], guard := none }) (v := .pointer (some ⟨b1, o1 + k, none⟩)) rfl (by kernel_rfl) (by kernel_rfl) (by kernel_rfl) (fun _ _ _ h => h) (Or.inl ⟨by rfl, ?_⟩) HSS.out ?_
      · (intro w' hSw; go_simp)
      simp only [Act.put, List.setIfInBounds_toArray, List.set_cons_zero, List.set_cons_succ]
      refine wpAnyH_take (i := 6) (oi := { dst := some 20, op := Op.load 3 (Operand.tmp 19), type := 3, pos := "arithmetic.go:62", after := #[{ on := 5, ground := Ground.data }], guard := none }) (v := .int .i64 p) rfl (by kernel_rfl) (by kernel_rfl) (by kernel_rfl) (fun _ _ _ h => h) (Or.inl ⟨by rfl, ?_⟩) HSS.out ?_
      · (intro w' hSw; obtain ⟨z0, z1⟩ := hSw; go_simp)
      simp only [Act.put, List.setIfInBounds_toArray, List.set_cons_zero, List.set_cons_succ]
      refine wpAnyH_take (i := 7) (oi := { dst := some 21, op := Op.move (Operand.tmp 2), type := 47, pos := "arithmetic.go:62", after := #[], guard := none }) (v := .slice (some ⟨b2, o2, none⟩) y.length cy) rfl (by kernel_rfl) (by kernel_rfl) (by kernel_rfl) (fun _ _ _ h => h) (Or.inl ⟨by rfl, ?_⟩) HSS.out ?_
      · (intro w' hSw; go_simp)
      simp only [Act.put, List.setIfInBounds_toArray, List.set_cons_zero, List.set_cons_succ]
      refine wpAnyH_take (i := 8) (oi := { dst := some 22, op := Op.move (Operand.tmp 8), type := 3, pos := "arithmetic.go:62", after := #[], guard := none }) (v := .int .i64 (k : Int)) rfl (by kernel_rfl) (by kernel_rfl) (by kernel_rfl) (fun _ _ _ h => h) (Or.inl ⟨by rfl, ?_⟩) HSS.out ?_
      · (intro w' hSw; go_simp)
      simp only [Act.put, List.setIfInBounds_toArray, List.set_cons_zero, List.set_cons_succ]
      refine wpAnyH_take (i := 9) (oi := { dst := some 23, op := Op.indexAddr 47 (Operand.tmp 21) (Operand.tmp 22), type := 0, pos := "arithmetic.go:62", after := #[{ on := 7, ground := Ground.data }, { on := 8, ground := Ground.data }], guard := none }) (v := .pointer (some ⟨b2, o2 + k, none⟩)) rfl (by kernel_rfl) (by kernel_rfl) (by kernel_rfl) (fun _ _ _ h => h) (Or.inl ⟨by rfl, ?_⟩) HSS.out ?_
      · (intro w' hSw; go_simp)
      simp only [Act.put, List.setIfInBounds_toArray, List.set_cons_zero, List.set_cons_succ]
      refine wpAnyH_take (i := 10) (oi := { dst := some 24, op := Op.load 3 (Operand.tmp 23), type := 3, pos := "arithmetic.go:62", after := #[{ on := 9, ground := Ground.data }], guard := none }) (v := .int .i64 q) rfl (by kernel_rfl) (by kernel_rfl) (by kernel_rfl) (fun _ _ _ h => h) (Or.inl ⟨by rfl, ?_⟩) HSS.out ?_
      · (intro w' hSw; obtain ⟨z0, z1⟩ := hSw; go_simp)
      simp only [Act.put, List.setIfInBounds_toArray, List.set_cons_zero, List.set_cons_succ]
      refine wpAnyH_ready (rs := [11]) (by kernel_rfl) (by simp) (AllReadyH.cons (o := { dst := some 25, op := Op.call { callee := Callee.value (Operand.func 47), args := #[Operand.tmp 16, Operand.tmp 20, Operand.tmp 24], argTypes := #[24, 3, 3] }, type := 3, pos := "arithmetic.go:62", after := #[{ on := 2, ground := Ground.data }, { on := 6, ground := Ground.data }, { on := 10, ground := Ground.data }], guard := none }) rfl (fun K hK => ?_) AllReadyH.nil)
      go_simp
      go_at_call 47
      refine HXR.out.mono ?_
      rintro e w2 ⟨s, rv2, gs2, rfl, hs2, hl2, hh2⟩
      have HST2 := Lib.hid (HST.out.trans hs2 HT.out)
      have HL2 := Lib.hid hl2
      have HLZ2 := Lib.hid (hlz.out.more hs2.grow)
      have HGL2 := Lib.hid (show gs2.length + 1 ≤ 5000 by have := hs2.len; have := HGL.out; omega)
      have HH2 := Lib.hid ((hho.out.more hs2.pre).mp2 hh2 (χ := fun v d => EqP x y k z v d ∧ (v s = (v p != v q) ∧ (d p → d q → d s))) fun v d _ a b => ⟨a, b⟩)
      have HSS2 := Lib.hid (And.intro (HRX.out _ _ _ _ HST2.out) (HRY.out _ _ _ _ HST2.out))
      have HN := Lib.hid (fun W => not_any s (by have := bl_small hs2.tab hl2; omega) W)
      clear hs2 hl2 hh2 hho hlz HXR HST HSS HGL
      refine hK.out _ _ HSS2.out (fun _ => ?_)
      clear hK K
      try simp only [Act.put, List.setIfInBounds_toArray, List.set_cons_zero, List.set_cons_succ]
      refine wpAnyH_ready (rs := [12]) (by kernel_rfl) (by simp) (AllReadyH.cons (o := { dst := some 26, op := Op.call { callee := Callee.value (Operand.func 18), args := #[Operand.tmp 25], argTypes := #[3] }, type := 3, pos := "arithmetic.go:62", after := #[{ on := 11, ground := Ground.data }, { on := 11, ground := Ground.chain }], guard := none }) rfl (fun K hK => ?_) AllReadyH.nil)
      go_simp
      go_at_call 18
      refine (HN.out _).mono ?_
      rintro e wx ⟨rfl, hwx⟩
      obtain rfl := hwx.symm
      clear hwx
      refine hK.out _ _ HSS2.out (fun _ => ?_)
      clear hK K
      try simp only [Act.put, List.setIfInBounds_toArray, List.set_cons_zero, List.set_cons_succ]
      refine wpAnyH_ready (rs := [13]) (by kernel_rfl) (by simp) (AllReadyH.cons (o := { dst := some 27, op := Op.call { callee := Callee.value (Operand.func 46), args := #[Operand.tmp 14, Operand.tmp 15, Operand.tmp 26], argTypes := #[24, 3, 3] }, type := 3, pos := "arithmetic.go:62", after := #[{ on := 0, ground := Ground.data }, { on := 1, ground := Ground.data }, { on := 12, ground := Ground.data }, { on := 12, ground := Ground.chain }], guard := none }) rfl (fun K hK => ?_) AllReadyH.nil)
      have HAN := Lib.hid (a_And z (notP s) HST2.out.tab HLZ2.out HL2.out.not HGL2.out)
      go_simp
      go_at_call 46
      refine HAN.out.mono ?_
      rintro e w3 ⟨z3, rv3, gs3, rfl, hs3, hl3, hh3⟩
      have HST3 := Lib.hid (show Stp n₀ bb mb rv I gs (4 * (k + 1)) w w3 rv3 gs3 from (HST2.out.trans hs3 HT.out).mono (by omega))
      have HL3 := Lib.hid hl3
      have HH3 : Hid (Hol I gs3 (EqP x y (k + 1) z3)) := Lib.hid ((HH2.out.more hs3.pre).mp2 hh3 fun v d ho ⟨a, b1, b2⟩ ⟨c1, c2⟩ => HSM.out _ _ z3 a (by rw [c1, ho.not, b1]) fun dz dp dq => c2 dz ((ho.dnot _).2 (b2 dp dq)))
      have HSS3 := Lib.hid (And.intro (HRX.out _ _ _ _ HST3.out) (HRY.out _ _ _ _ HST3.out))
      clear hs3 hl3 hh3 HAN HST2 HSS2 HH2 HGL2 HL2 HLZ2
      refine hK.out _ _ HSS3.out (fun _ => ?_)
      clear hK K
      try simp only [Act.put, List.setIfInBounds_toArray, List.set_cons_zero, List.set_cons_succ]
      refine wpAnyH_take (i := 14) (oi := { dst := some 7, op := Op.assign (Operand.tmp 27), type := 3, pos := "arithmetic.go:62", after := #[{ on := 13, ground := Ground.data }, { on := 13, ground := Ground.chain }, { on := 0, ground := Ground.phase }, { on := 1, ground := Ground.phase }, { on := 2, ground := Ground.phase }, { on := 3, ground := Ground.phase }, { on := 4, ground := Ground.phase }, { on := 5, ground := Ground.phase }, { on := 6, ground := Ground.phase }, { on := 7, ground := Ground.phase }, { on := 8, ground := Ground.phase }, { on := 9, ground := Ground.phase }, { on := 10, ground := Ground.phase }, { on := 11, ground := Ground.phase }, { on := 12, ground := Ground.phase }, { on := 13, ground := Ground.phase }], guard := none }) (v := .int .i64 z3) rfl (by kernel_rfl) (by kernel_rfl) (by kernel_rfl) (fun _ _ _ h => h) (Or.inl ⟨by rfl, ?_⟩) HSS3.out ?_
      · (intro w' hSw; go_simp)
      simp only [Act.put, List.setIfInBounds_toArray, List.set_cons_zero, List.set_cons_succ]
      refine wpAnyH_done (by kernel_rfl) ?_ _
      refine NoPanic.normal ?_
      go_wp2_with (fail)
      exact ⟨⟨k + 1, z3, rv3, gs3, by omega, rfl, by go_num, HST3, HL3, HH3⟩, by simp [intOf]; omega⟩
    · obtain rfl : k = x.length := by omega
      have HE := Lib.hid (hho.out.mp fun v d _ a => show EqH x y z v d from ⟨by have := a.1; rwa [List.take_length, ← HXY.out, List.take_length] at this, a.2⟩)
      clear hho
      go_wp2_with (fail)
      go_ret
      exact ⟨z, rv1, gs1, rfl, hst.out, hlz.out, HE.out⟩
set_option maxRecDepth 100000 in
set_option maxHeartbeats 4000000 in
theorem less_any (A : Option Addr) (cx : Nat) (x : List Int) (B : Option Addr) (cy : Nat) (y : List Int) (h : Bld w n₀ bb mb rv I gs 0) (hX : WRow w.heap.size w A x) (hY : WRow w.heap.size w B y) (lx : Lts I gs x) (ly : Lts I gs y) (h0 : 0 < x.length) (hl : x.length ≤ 100) (hxy : y.length = x.length) (hf : gs.length + 4 * x.length ≤ 5000) :
    Calls Try.prog 91 #[.pointer (some ⟨bb, 0, none⟩), .slice A x.length cx, .slice B y.length cy] w (OneG n₀ bb mb rv I gs (4 * x.length) w (LsH x y)) := by
  have HT := Lib.hid h
  have HX := Lib.hid hX
  have HY := Lib.hid hY
  have LX := Lib.hid lx
  have LY := Lib.hid ly
  have HF := Lib.hid hf
  have HXY := Lib.hid hxy
  have HPS := Lib.hid h0
  have HS0 := Lib.hid (Stp.refl h)
  have HL0 : Hid (isLit I gs 0) := Lib.hid ⟨by omega, by have := h.ck.lo; omega⟩
  have HH0 : Hid (Hol I gs (LsP x y 0 0)) := Lib.hid (Hol.triv fun v d ho => ⟨fun _ => by rw [ho.zero]; simp [un], fun e => by have := HPS.out; omega, fun _ _ => ho.d0⟩)
  clear h hX hY lx ly hf hxy h0
  go_enter Try.func91, Try.ntmps91
  go_wp2_with (fail)
  go_loopw [7, 14] (fun u7 jv wr => ∃ (k : Nat) (z : Int) (rv1 : Value) (gs1 : List Gt), k ≤ x.length ∧ u7 = .int .i64 z ∧ jv = .int .i64 (k : Int) ∧ Hid (Stp n₀ bb mb rv I gs (4 * k) w wr rv1 gs1) ∧ Hid (isLit I gs1 z) ∧ Hid (Hol I gs1 (LsP x y k z))) (fun _ jv _ => x.length - (intOf jv).toNat)
  case atStart => exact ⟨0, 0, rv, gs, Nat.zero_le _, rfl, rfl, HS0, HL0, HH0⟩
  case round =>
    obtain ⟨k, z, rv1, gs1, hk, rfl, rfl, hst, hlz, hho⟩ := hrel
    by_cases hlt : k < x.length
    · have hlt2 : k < y.length := by have := HXY.out; omega
      have hdr : Below wr.heap.size wr wr.drew := (Below.refl _ _).drew
      have HST := Lib.hid (hst.out.later hdr HT.out)
      obtain ⟨b1, o1, hA, q1⟩ := (HX.out.stp HT.out HST.out).at hlt
      obtain ⟨b2, o2, hB, q2⟩ := (HY.out.stp HT.out HST.out).at hlt2
      have HGL := Lib.hid (show gs1.length + 4 ≤ 5000 by have := hst.out.len; have := HF.out; omega)
      have HLX := Lib.hid ((LX.out.at hlt).more hst.out.grow)
      have HLY := Lib.hid ((LY.out.at hlt2).more hst.out.grow)
      have HSM := Lib.hid (fun v d (z' p q : Int) => @ls_step x y k z z' p q v d HXY.out hlt hlt2)
      have HRX := Lib.hid (fun (m : Nat) (w2 : World) (rv2 : Value) (gs2 : List Gt) (hs : Stp n₀ bb mb rv I gs m w w2 rv2 gs2) => (HX.out.stp HT.out hs).at hlt)
      have HRY := Lib.hid (fun (m : Nat) (w2 : World) (rv2 : Value) (gs2 : List Gt) (hs : Stp n₀ bb mb rv I gs m w w2 rv2 gs2) => (HY.out.stp HT.out hs).at hlt2)
      obtain ⟨p, HP⟩ : ∃ p, Hid (x[k] = p) := ⟨_, Lib.hid rfl⟩
      obtain ⟨q, HQ⟩ : ∃ q, Hid (y[k] = q) := ⟨_, Lib.hid rfl⟩
      rw [HP.out] at q1 HLX HSM HRX
      rw [HQ.out] at q2 HLY HSM HRY
      subst hA
      subst hB
      have HRX := Lib.hid (fun (m : Nat) (w2 : World) (rv2 : Value) (gs2 : List Gt) (hs : Stp n₀ bb mb rv I gs m w w2 rv2 gs2) => show w2.cell? ⟨b1, o1 + k, none⟩ = some (.int .i64 p) by obtain ⟨b, o, e, h⟩ := HRX.out _ _ _ _ hs; cases e; exact h)
      have HRY := Lib.hid (fun (m : Nat) (w2 : World) (rv2 : Value) (gs2 : List Gt) (hs : Stp n₀ bb mb rv I gs m w w2 rv2 gs2) => show w2.cell? ⟨b2, o2 + k, none⟩ = some (.int .i64 q) by obtain ⟨b, o, e, h⟩ := HRY.out _ _ _ _ hs; cases e; exact h)
      have HSS := Lib.hid (And.intro q1 q2)
      clear q1 q2 hst hdr
      go_upto_region 5 with fail
      rename_i K hKK
      refine wp_region_noPanic ?_
      refine wp_region_held_drew (S := fun w' => w'.cell? ⟨b1, o1 + k, none⟩ = some (.int .i64 p) ∧ w'.cell? ⟨b2, o2 + k, none⟩ = some (.int .i64 q)) (by kernel_rfl) HSS.out (fun _ => ?_)
      generalize wr.drew = w1 at *
      refine wpAnyH_take (i := 0) (oi := { dst := some 17, op := Op.move (Operand.tmp 1), type := 47, pos := "arithmetic.go:70", after := #[], guard := none }) (v := .slice (some ⟨b1, o1, none⟩) x.length cx) rfl (by kernel_rfl) (by kernel_rfl) (by kernel_rfl) (fun _ _ _ h => h) (Or.inl ⟨by rfl, ?_⟩) HSS.out ?_
      · (intro w' hSw; go_simp)
      simp only [Act.put, List.setIfInBounds_toArray, List.set_cons_zero, List.set_cons_succ]
      refine wpAnyH_take (i := 1) (oi := { dst := some 18, op := Op.move (Operand.tmp 8), type := 3, pos := "arithmetic.go:70", after := #[], guard := none }) (v := .int .i64 (k : Int)) rfl (by kernel_rfl) (by kernel_rfl) (by kernel_rfl) (fun _ _ _ h => h) (Or.inl ⟨by rfl, ?_⟩) HSS.out ?_
      · (intro w' hSw; go_simp)
      simp only [Act.put, List.setIfInBounds_toArray, List.set_cons_zero, List.set_cons_succ]
      refine wpAnyH_take (i := 2) (oi := { dst := some 19, op := Op.indexAddr 47 (Operand.tmp 17) (Operand.tmp 18), type := 0, pos := "arithmetic.go:70", after := #[{ on := 0, ground := Ground.data }, { on := 1, ground := Ground.data }], guard := none }) (v := .pointer (some ⟨b1, o1 + k, none⟩)) rfl (by kernel_rfl) (by kernel_rfl) (by kernel_rfl) (fun _ _ _ h => h) (Or.inl ⟨by rfl, ?_⟩) HSS.out ?_
      · (intro w' hSw; go_simp)
      simp only [Act.put, List.setIfInBounds_toArray, List.set_cons_zero, List.set_cons_succ]
      refine wpAnyH_take (i := 3) (oi := { dst := some 20, op := Op.load 3 (Operand.tmp 19), type := 3, pos := "arithmetic.go:70", after := #[{ on := 2, ground := Ground.data }], guard := none }) (v := .int .i64 p) rfl (by kernel_rfl) (by kernel_rfl) (by kernel_rfl) (fun _ _ _ h => h) (Or.inl ⟨by rfl, ?_⟩) HSS.out ?_
      · (intro w' hSw; obtain ⟨z0, z1⟩ := hSw; go_simp)
      simp only [Act.put, List.setIfInBounds_toArray, List.set_cons_zero, List.set_cons_succ]
      refine wpAnyH_take (i := 4) (oi := { dst := some 21, op := Op.move (Operand.tmp 2), type := 47, pos := "arithmetic.go:70", after := #[{ on := 8, ground := Ground.gcOnly Departure.lateStores }], guard := none }) (v := .slice (some ⟨b2, o2, none⟩) y.length cy) rfl (by kernel_rfl) (by kernel_rfl) (by kernel_rfl) (fun _ _ _ h => h) (Or.inl ⟨by rfl, ?_⟩) HSS.out ?_
      · (intro w' hSw; go_simp)
      simp only [Act.put, List.setIfInBounds_toArray, List.set_cons_zero, List.set_cons_succ]
      refine wpAnyH_take (i := 5) (oi := { dst := some 22, op := Op.move (Operand.tmp 8), type := 3, pos := "arithmetic.go:70", after := #[{ on := 8, ground := Ground.gcOnly Departure.lateStores }], guard := none }) (v := .int .i64 (k : Int)) rfl (by kernel_rfl) (by kernel_rfl) (by kernel_rfl) (fun _ _ _ h => h) (Or.inl ⟨by rfl, ?_⟩) HSS.out ?_
      · (intro w' hSw; go_simp)
      simp only [Act.put, List.setIfInBounds_toArray, List.set_cons_zero, List.set_cons_succ]
      refine wpAnyH_take (i := 6) (oi := { dst := some 23, op := Op.indexAddr 47 (Operand.tmp 21) (Operand.tmp 22), type := 0, pos := "arithmetic.go:70", after := #[{ on := 4, ground := Ground.data }, { on := 5, ground := Ground.data }, { on := 8, ground := Ground.gcOnly Departure.lateStores }], guard := none }) (v := .pointer (some ⟨b2, o2 + k, none⟩)) rfl (by kernel_rfl) (by kernel_rfl) (by kernel_rfl) (fun _ _ _ h => h) (Or.inl ⟨by rfl, ?_⟩) HSS.out ?_
      · (intro w' hSw; go_simp)
      simp only [Act.put, List.setIfInBounds_toArray, List.set_cons_zero, List.set_cons_succ]
      refine wpAnyH_take (i := 7) (oi := { dst := some 24, op := Op.load 3 (Operand.tmp 23), type := 3, pos := "arithmetic.go:70", after := #[{ on := 6, ground := Ground.data }, { on := 8, ground := Ground.gcOnly Departure.lateStores }], guard := none }) (v := .int .i64 q) rfl (by kernel_rfl) (by kernel_rfl) (by kernel_rfl) (fun _ _ _ h => h) (Or.inl ⟨by rfl, ?_⟩) HSS.out ?_
      · (intro w' hSw; obtain ⟨z0, z1⟩ := hSw; go_simp)
      simp only [Act.put, List.setIfInBounds_toArray, List.set_cons_zero, List.set_cons_succ]
      refine wpAnyH_take (i := 8) (oi := { dst := some 9, op := Op.assign (Operand.tmp 20), type := 3, pos := "arithmetic.go:70", after := #[{ on := 3, ground := Ground.data }, { on := 0, ground := Ground.phase }, { on := 1, ground := Ground.phase }, { on := 2, ground := Ground.phase }, { on := 3, ground := Ground.phase }, { on := 4, ground := Ground.textOnly Departure.lateStores }, { on := 5, ground := Ground.textOnly Departure.lateStores }, { on := 6, ground := Ground.textOnly Departure.lateStores }, { on := 7, ground := Ground.textOnly Departure.lateStores }], guard := none }) (v := .int .i64 p) rfl (by kernel_rfl) (by kernel_rfl) (by kernel_rfl) (fun _ _ _ h => h) (Or.inl ⟨by rfl, ?_⟩) HSS.out ?_
      · (intro w' hSw; go_simp)
      simp only [Act.put, List.setIfInBounds_toArray, List.set_cons_zero, List.set_cons_succ]
      refine wpAnyH_take (i := 9) (oi := { dst := some 10, op := Op.assign (Operand.tmp 24), type := 3, pos := "arithmetic.go:70", after := #[{ on := 7, ground := Ground.data }, { on := 8, ground := Ground.chain }, { on := 0, ground := Ground.phase }, { on := 1, ground := Ground.phase }, { on := 2, ground := Ground.phase }, { on := 3, ground := Ground.phase }, { on := 4, ground := Ground.phase }, { on := 5, ground := Ground.phase }, { on := 6, ground := Ground.phase }, { on := 7, ground := Ground.phase }, { on := 8, ground := Ground.phase }], guard := none }) (v := .int .i64 q) rfl (by kernel_rfl) (by kernel_rfl) (by kernel_rfl) (fun _ _ _ h => h) (Or.inl ⟨by rfl, ?_⟩) HSS.out ?_
      · (intro w' hSw; go_simp)
      simp only [Act.put, List.setIfInBounds_toArray, List.set_cons_zero, List.set_cons_succ]
      refine wpAnyH_done (by kernel_rfl) ?_ _
      refine NoPanic.normal ?_
      by_cases hlast : k + 1 = x.length
      · have hlast2 : ((k : Int) + 1 == (x.length : Int)) = true := by simp only [beq_iff_eq]; omega
        have HL := Lib.hid hlast
        clear hlast
        have HN := Lib.hid (fun W => not_any p (by have := bl_small HST.out.tab HLX.out; omega) W)
        have HNP := Lib.hid (fun W => not_any q (by have := bl_small HST.out.tab HLY.out; omega) W)
        have HA1 := Lib.hid (a_And q (notP p) HST.out.tab HLY.out HLX.out.not (by have := HGL.out; omega))
        go_wp2_with (fail)
        refine (HN.out _).mono ?_
        rintro e wx ⟨rfl, hwx⟩
        obtain rfl := hwx.symm
        clear hwx
        go_wp2_with (fail)
        refine HA1.out.mono ?_
        rintro e w2 ⟨g, rv2, gs2, rfl, hs2, hl2, hh2⟩
        have HST2 := Lib.hid (HST.out.trans hs2 HT.out)
        have HLG := Lib.hid hl2
        have HLZ2 := Lib.hid (hlz.out.more hs2.grow)
        have HLX2 := Lib.hid (HLX.out.more hs2.grow)
        have HLY2 := Lib.hid (HLY.out.more hs2.grow)
        have HGL2 := Lib.hid (show gs2.length + 3 ≤ 5000 by have := hs2.len; have := HGL.out; omega)
        have HH2 := Lib.hid ((hho.out.more hs2.pre).mp2 hh2 (χ := fun v d => LsP x y k z v d ∧ (v g = (v q && v (notP p)) ∧ (d q → d (notP p) → d g))) fun v d _ a b => ⟨a, b⟩)
        have HNG := Lib.hid (fun W => not_any g (by have := bl_small hs2.tab hl2; omega) W)
        have HA2 := Lib.hid (a_And (notP q) p hs2.tab HLY2.out.not HLX2.out (by have := HGL2.out; omega))
        clear hs2 hl2 hh2 hho hlz HST HA1 HGL
        go_wp2_with (fail)
        refine (HNP.out _).mono ?_
        rintro e wx ⟨rfl, hwx⟩
        obtain rfl := hwx.symm
        clear hwx
        go_wp2_with (fail)
        refine HA2.out.mono ?_
        rintro e w3 ⟨g2, rv3, gs3, rfl, hs3, hl3, hh3⟩
        have HST3 := Lib.hid (HST2.out.trans hs3 HT.out)
        have HLG3 := Lib.hid (HLG.out.more hs3.grow)
        have HLZ3 := Lib.hid (HLZ2.out.more hs3.grow)
        have HLH := Lib.hid hl3
        have HGL3 := Lib.hid (show gs3.length + 2 ≤ 5000 by have := hs3.len; have := HGL2.out; omega)
        have HH3 := Lib.hid ((HH2.out.more hs3.pre).mp2 hh3 (χ := fun v d => (LsP x y k z v d ∧ (v g = (v q && v (notP p)) ∧ (d q → d (notP p) → d g))) ∧ (v g2 = (v (notP q) && v p) ∧ (d (notP q) → d p → d g2))) fun v d _ a b => ⟨a, b⟩)
        have HA3 := Lib.hid (a_And (notP g) z hs3.tab HLG3.out.not HLZ3.out (by have := HGL3.out; omega))
        clear hs3 hl3 hh3 HST2 HH2 HA2 HGL2
        go_wp2_with (fail)
        refine (HNG.out _).mono ?_
        rintro e wx ⟨rfl, hwx⟩
        obtain rfl := hwx.symm
        clear hwx
        go_wp2_with (fail)
        refine HA3.out.mono ?_
        rintro e w4 ⟨g3, rv4, gs4, rfl, hs4, hl4, hh4⟩
        have HST4 := Lib.hid (HST3.out.trans hs4 HT.out)
        have HLH4 := Lib.hid (HLH.out.more hs4.grow)
        have HLI := Lib.hid hl4
        have HGL4 := Lib.hid (show gs4.length + 1 ≤ 5000 by have := hs4.len; have := HGL3.out; omega)
        have HH4 := Lib.hid ((HH3.out.more hs4.pre).mp2 hh4 (χ := fun v d => ((LsP x y k z v d ∧ (v g = (v q && v (notP p)) ∧ (d q → d (notP p) → d g))) ∧ (v g2 = (v (notP q) && v p) ∧ (d (notP q) → d p → d g2))) ∧ (v g3 = (v (notP g) && v z) ∧ (d (notP g) → d z → d g3))) fun v d _ a b => ⟨a, b⟩)
        have HO := Lib.hid (a_Or g2 g3 hs4.tab HLH4.out HLI.out HGL4.out)
        clear hs4 hl4 hh4 HST3 HH3 HA3 HGL3
        go_wp2_with (fail)
        refine HO.out.mono ?_
        rintro e w5 ⟨z5, rv5, gs5, rfl, hs5, hl5, hh5⟩
        have HST5 := Lib.hid (show Stp n₀ bb mb rv I gs (4 * (k + 1)) w w5 rv5 gs5 from (HST4.out.trans hs5 HT.out).mono (by omega))
        have HL5 := Lib.hid hl5
        have HH5 : Hid (Hol I gs5 (LsP x y (k + 1) z5)) := Lib.hid ((HH4.out.more hs5.pre).mp2 hh5 fun v d ho ⟨⟨⟨a, b1, b2⟩, c1, c2⟩, e1, e2⟩ ⟨f1, f2⟩ => HSM.out _ _ z5 q p a (.inr ⟨HL.out, rfl, rfl⟩) (by rw [f1, c1, e1, ho.not, ho.not, b1, ho.not]) fun dz dp dq => f2 (c2 ((ho.dnot _).2 dp) dq) (e2 ((ho.dnot _).2 (b2 dp ((ho.dnot _).2 dq))) dz))
        clear hs5 hl5 hh5 HST4 HH4 HO
        go_wp2_with (fail)
        exact ⟨⟨k + 1, z5, rv5, gs5, by omega, rfl, by go_num, HST5, HL5, HH5⟩, by simp [intOf]; omega⟩
      · have hlast2 : ((k : Int) + 1 == (x.length : Int)) = false := by rw [beq_eq_false_iff_ne]; omega
        have HL := Lib.hid hlast
        clear hlast
        have HN := Lib.hid (fun W => not_any q (by have := bl_small HST.out.tab HLY.out; omega) W)
        have HNP := Lib.hid (fun W => not_any p (by have := bl_small HST.out.tab HLX.out; omega) W)
        have HA1 := Lib.hid (a_And p (notP q) HST.out.tab HLX.out HLY.out.not (by have := HGL.out; omega))
        go_wp2_with (fail)
        refine (HN.out _).mono ?_
        rintro e wx ⟨rfl, hwx⟩
        obtain rfl := hwx.symm
        clear hwx
        go_wp2_with (fail)
        refine HA1.out.mono ?_
        rintro e w2 ⟨g, rv2, gs2, rfl, hs2, hl2, hh2⟩
        have HST2 := Lib.hid (HST.out.trans hs2 HT.out)
        have HLG := Lib.hid hl2
        have HLZ2 := Lib.hid (hlz.out.more hs2.grow)
        have HLX2 := Lib.hid (HLX.out.more hs2.grow)
        have HLY2 := Lib.hid (HLY.out.more hs2.grow)
        have HGL2 := Lib.hid (show gs2.length + 3 ≤ 5000 by have := hs2.len; have := HGL.out; omega)
        have HH2 := Lib.hid ((hho.out.more hs2.pre).mp2 hh2 (χ := fun v d => LsP x y k z v d ∧ (v g = (v p && v (notP q)) ∧ (d p → d (notP q) → d g))) fun v d _ a b => ⟨a, b⟩)
        have HNG := Lib.hid (fun W => not_any g (by have := bl_small hs2.tab hl2; omega) W)
        have HA2 := Lib.hid (a_And (notP p) q hs2.tab HLX2.out.not HLY2.out (by have := HGL2.out; omega))
        clear hs2 hl2 hh2 hho hlz HST HA1 HGL
        go_wp2_with (fail)
        refine (HNP.out _).mono ?_
        rintro e wx ⟨rfl, hwx⟩
        obtain rfl := hwx.symm
        clear hwx
        go_wp2_with (fail)
        refine HA2.out.mono ?_
        rintro e w3 ⟨g2, rv3, gs3, rfl, hs3, hl3, hh3⟩
        have HST3 := Lib.hid (HST2.out.trans hs3 HT.out)
        have HLG3 := Lib.hid (HLG.out.more hs3.grow)
        have HLZ3 := Lib.hid (HLZ2.out.more hs3.grow)
        have HLH := Lib.hid hl3
        have HGL3 := Lib.hid (show gs3.length + 2 ≤ 5000 by have := hs3.len; have := HGL2.out; omega)
        have HH3 := Lib.hid ((HH2.out.more hs3.pre).mp2 hh3 (χ := fun v d => (LsP x y k z v d ∧ (v g = (v p && v (notP q)) ∧ (d p → d (notP q) → d g))) ∧ (v g2 = (v (notP p) && v q) ∧ (d (notP p) → d q → d g2))) fun v d _ a b => ⟨a, b⟩)
        have HA3 := Lib.hid (a_And (notP g) z hs3.tab HLG3.out.not HLZ3.out (by have := HGL3.out; omega))
        clear hs3 hl3 hh3 HST2 HH2 HA2 HGL2
        go_wp2_with (fail)
        refine (HNG.out _).mono ?_
        rintro e wx ⟨rfl, hwx⟩
        obtain rfl := hwx.symm
        clear hwx
        go_wp2_with (fail)
        refine HA3.out.mono ?_
        rintro e w4 ⟨g3, rv4, gs4, rfl, hs4, hl4, hh4⟩
        have HST4 := Lib.hid (HST3.out.trans hs4 HT.out)
        have HLH4 := Lib.hid (HLH.out.more hs4.grow)
        have HLI := Lib.hid hl4
        have HGL4 := Lib.hid (show gs4.length + 1 ≤ 5000 by have := hs4.len; have := HGL3.out; omega)
        have HH4 := Lib.hid ((HH3.out.more hs4.pre).mp2 hh4 (χ := fun v d => ((LsP x y k z v d ∧ (v g = (v p && v (notP q)) ∧ (d p → d (notP q) → d g))) ∧ (v g2 = (v (notP p) && v q) ∧ (d (notP p) → d q → d g2))) ∧ (v g3 = (v (notP g) && v z) ∧ (d (notP g) → d z → d g3))) fun v d _ a b => ⟨a, b⟩)
        have HO := Lib.hid (a_Or g2 g3 hs4.tab HLH4.out HLI.out HGL4.out)
        clear hs4 hl4 hh4 HST3 HH3 HA3 HGL3
        go_wp2_with (fail)
        refine HO.out.mono ?_
        rintro e w5 ⟨z5, rv5, gs5, rfl, hs5, hl5, hh5⟩
        have HST5 := Lib.hid (show Stp n₀ bb mb rv I gs (4 * (k + 1)) w w5 rv5 gs5 from (HST4.out.trans hs5 HT.out).mono (by omega))
        have HL5 := Lib.hid hl5
        have HH5 : Hid (Hol I gs5 (LsP x y (k + 1) z5)) := Lib.hid ((HH4.out.more hs5.pre).mp2 hh5 fun v d ho ⟨⟨⟨a, b1, b2⟩, c1, c2⟩, e1, e2⟩ ⟨f1, f2⟩ => HSM.out _ _ z5 p q a (.inl ⟨by have := HL.out; omega, rfl, rfl⟩) (by rw [f1, c1, e1, ho.not, ho.not, b1, ho.not]) fun dz dp dq => f2 (c2 ((ho.dnot _).2 dp) dq) (e2 ((ho.dnot _).2 (b2 dp ((ho.dnot _).2 dq))) dz))
        clear hs5 hl5 hh5 HST4 HH4 HO
        go_wp2_with (fail)
        exact ⟨⟨k + 1, z5, rv5, gs5, by omega, rfl, by go_num, HST5, HL5, HH5⟩, by simp [intOf]; omega⟩
    · obtain rfl : k = x.length := by omega
      have HE := Lib.hid (hho.out.mp fun v d _ a => show LsH x y z v d from ⟨a.2.1 rfl, a.2.2⟩)
      clear hho
      go_wp2_with (fail)
      go_ret
      exact ⟨z, rv1, gs1, rfl, hst.out, hlz.out, HE.out⟩
end
end Go.Proofs.Ytbcabnbgkicfdaa
