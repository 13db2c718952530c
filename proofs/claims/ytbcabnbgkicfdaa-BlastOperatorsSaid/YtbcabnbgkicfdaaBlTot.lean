/- What is proved: package blast: not, half, total, sum, difference. -/
import Derived.Test.YtbcabnbgkicfdaaBlMem
set_option linter.unusedVariables false
namespace Go.Proofs.Ytbcabnbgkicfdaa
open Go.RowKit Go.Maps

set_option maxRecDepth 100000 in
set_option maxHeartbeats 2000000 in
theorem bnot_any (A : Option Addr) (c : Nat) (x : List Int) (w : World) (hr : WRow w.heap.size w A x) (hx : ∀ l ∈ x, 0 ≤ l ∧ l ≤ 100000) (hl : x.length ≤ 100) :
    Calls Try.prog 109 #[.slice A x.length c] w fun e w' => ∃ A' c', e = .returned (.slice A' x.length c') ∧ ZOwn w' w.heap.size (.slice A' x.length c') (x.map notP) ∧ Below w.heap.size w w' := by
  have HR := Lib.hid hr
  have HX := Lib.hid hx
  have HOW := Lib.hid (show ZOwn w w.heap.size (.slice none 0 0) [] from World.ownsRow_nil _ _ _ _)
  clear hr hx
  go_enter Try.func109, Try.ntmps109
  go_wp2_with (fail)
  go_loopw [3, 8] (fun u jv wr => ∃ (k : Nat), k ≤ x.length ∧ jv = .int .i64 (k : Int) ∧ Hid (ZOwn wr w.heap.size u ((x.take k).map notP)) ∧ Hid (Below w.heap.size w wr)) (fun _ jv _ => x.length - (intOf jv).toNat)
  case atStart => exact ⟨0, Nat.zero_le _, rfl, HOW, Lib.hid (Below.refl _ _)⟩
  case round =>
    obtain ⟨k, hk, rfl, hown, hbw⟩ := hrel
    by_cases hlt : k < x.length
    · obtain ⟨b, off, hA, q⟩ := (HR.out.later hbw.out).at hlt
      subst hA
      have HN := Lib.hid (fun W => not_any x[k] (by have := HX.out _ (List.getElem_mem hlt); omega) W)
      have HT := Lib.hid (show (x.take (k + 1)).map notP = (x.take k).map notP ++ [notP x[k]] by rw [List.take_succ_eq_append_getElem hlt, List.map_append]; rfl)
      have hba := (Below.refl wr.heap.size wr).alloc (Nat.le_refl _) (.cells #[.int .i64 (notP x[k])] 3)
      have ho := hown.out.later hba
      have hsz := Nat.le_trans hbw.out.size hba.size
      have hln : ((x.take k).map notP).length = k := by simp; omega
      obtain ⟨X', cap', w8, hrun, hown8, hgr8⟩ := z_append (w := wr.alloc (.cells #[.int .i64 (notP x[k])] 3)) w.heap.size k u3 _ ho hln.symm (some ⟨wr.heap.size, 0, none⟩) 1 1 [notP x[k]] rfl (ZRow.one wr _) (by omega) hsz
      have HO8 := Lib.hid (show ZOwn w8 w.heap.size (.slice X' (k + 1) cap') ((x.take (k + 1)).map notP) by rw [HT.out]; exact hown8)
      have HB8 := Lib.hid ((hbw.out.trans (hba.mono hbw.out.size)).trans (grown_below hgr8 (own_lo ho) hsz))
      obtain ⟨y, HY⟩ : ∃ y, Hid (x[k] = y) := ⟨_, Lib.hid rfl⟩
      rw [HY.out] at q HN hrun
      clear hba ho hsz hln hown8 hgr8 hown HT
      go_wp2_with (fail)
      refine (HN.out _).mono ?_
      rintro e wx ⟨rfl, hwx⟩
      obtain rfl := hwx.symm
      go_wp2_with (at_builtin; refine app_by rfl _ _ 47 47 rfl _ _ rfl rfl _ _ hrun ?_; intro w9 hw9; obtain rfl := hw9.out)
      exact ⟨⟨k + 1, by omega, by go_num, HO8, HB8⟩, by simp [intOf]; omega⟩
    · obtain rfl : k = x.length := by omega
      obtain ⟨A', c', hu, _, _⟩ := hown.out.form
      rw [List.take_length] at hown hu
      rw [List.length_map] at hu
      subst hu
      go_wp2_with (fail)
      go_ret
      exact ⟨A', c', rfl, hown.out, hbw.out⟩

section
variable {n₀ bb mb : Nat} {rv : Value} {I : Int} {gs : List Gt} {w : World}
theorem bl_small (h : Bld w n₀ bb mb rv I gs 0) {x : Int} (hx : isLit I gs x) : 0 ≤ x ∧ x ≤ 100000 := by
  have := h.few
  have := h.ck.hi
  unfold isLit at hx
  omega
set_option maxRecDepth 100000 in
set_option maxHeartbeats 2000000 in
theorem half_any (x y : Int) (h : Bld w n₀ bb mb rv I gs 0) (hx : isLit I gs x) (hy : isLit I gs y) (hf : gs.length + 3 ≤ 5000) :
    Calls Try.prog 113 #[.pointer (some ⟨bb, 0, none⟩), .int .i64 x, .int .i64 y] w fun e w' => ∃ s c rv' gs', e = .returned (.tuple #[.int .i64 s, .int .i64 c]) ∧ Stp n₀ bb mb rv I gs 3 w w' rv' gs' ∧ isLit I gs' s ∧ isLit I gs' c ∧ Hol I gs' (fun v d => v s = (v x != v y) ∧ v c = (v x && v y) ∧ (d x → d y → d s ∧ d c)) := by
  have HA := Lib.hid (a_And x y h hx hy (by omega))
  have HH := Lib.hid h
  have HX := Lib.hid hx
  have HY := Lib.hid hy
  have HF := Lib.hid hf
  clear h hx hy hf
  go_enter Try.func113, Try.ntmps113
  go_wp2_with (fail)
  refine HA.out.mono ?_
  rintro e w1 ⟨c, rv1, gs1, rfl, hs1, hc, h1⟩
  have HS1 := Lib.hid hs1
  have HC := Lib.hid hc
  have H1 := Lib.hid h1
  have HO := Lib.hid (a_Or x y hs1.tab (HX.out.more hs1.grow) (HY.out.more hs1.grow) (by have := hs1.len; have := HF.out; omega))
  clear hs1 hc h1 HA
  go_wp2_with (fail)
  refine HO.out.mono ?_
  rintro e w2 ⟨o, rv2, gs2, rfl, hs2, ho, h2⟩
  have HS2 := Lib.hid (HS1.out.trans hs2 HH.out)
  have HO2 := Lib.hid ho
  have HC2 := Lib.hid (HC.out.more hs2.grow)
  have H2 := Lib.hid ((H1.out.more hs2.pre).mp2 h2 (χ := fun v d => (v c = (v x && v y) ∧ (d x → d y → d c)) ∧ (v o = (v x || v y) ∧ (d x → d y → d o))) fun v d _ a b => ⟨a, b⟩)
  have HN := Lib.hid (not_any c (by have := bl_small hs2.tab HC2.out; omega) w2)
  clear hs2 ho h2 HO H1 HC
  go_wp2_with (fail)
  refine HN.out.mono ?_
  rintro e wx ⟨rfl, hwx⟩
  obtain rfl := hwx.symm
  have HA := Lib.hid (a_And o (notP c) HS2.out.tab HO2.out HC2.out.not (by have := HS2.out.len; have := HF.out; omega))
  go_wp2_with (fail)
  refine HA.out.mono ?_
  rintro e w3 ⟨s, rv3, gs3, rfl, hs3, hs, h3⟩
  have HS3 := Lib.hid (HS2.out.trans hs3 HH.out)
  have HS := Lib.hid hs
  have HC3 := Lib.hid (HC2.out.more hs3.grow)
  have H3 := Lib.hid ((H2.out.more hs3.pre).mp2 h3 (χ := fun v d => v s = (v x != v y) ∧ v c = (v x && v y) ∧ (d x → d y → d s ∧ d c)) fun v d ho ⟨⟨a1, a2⟩, ⟨b1, b2⟩⟩ ⟨k1, k2⟩ => ⟨by rw [k1, b1, ho.not, a1]; cases v x <;> cases v y <;> rfl, a1, fun dx dy => ⟨k2 (b2 dx dy) ((ho.dnot _).2 (a2 dx dy)), a2 dx dy⟩⟩)
  clear hs3 hs h3 HA
  go_wp2_with (fail)
  go_ret2
  exact ⟨s, c, rv3, gs3, rfl, HS3.out, HS.out, HC3.out, H3.out⟩
end
-- TOTAL
/-- the sum of the bits up to a place -/
def TotH (x y : List Int) (c0 : Int) (k : Nat) (c : Int) (z : List Int) (v : Int → Bool) (d : Int → Prop) : Prop :=
  (∃ q : Int, 0 ≤ q ∧ q ≤ 1 ∧ un v z + pw k * q = un v (x.take k) + un v (y.take k) + b2n (v c0) ∧ (k < x.length → q = b2n (v c))) ∧ (Dps d x → Dps d y → d c0 → Dps d z ∧ d c)
/-- the sum of two words and a bit -/
def SumH (x y : List Int) (c0 : Int) (z : List Int) (v : Int → Bool) (d : Int → Prop) : Prop :=
  (∃ q : Int, 0 ≤ q ∧ q ≤ 1 ∧ un v z + pw x.length * q = un v x + un v y + b2n (v c0)) ∧ (Dps d x → Dps d y → d c0 → Dps d z)
/-- what half answers -/
def HalfH (x y s c : Int) (v : Int → Bool) (d : Int → Prop) : Prop := v s = (v x != v y) ∧ v c = (v x && v y) ∧ (d x → d y → d s ∧ d c)
theorem tot_start (x y : List Int) (c0 : Int) (v : Int → Bool) (d : Int → Prop) : TotH x y c0 0 c0 [] v d :=
  ⟨⟨b2n (v c0), (b2n_lo _).1, (b2n_lo _).2, by simp [un, pw_zero], fun _ => rfl⟩, fun _ _ h => ⟨Dps.nil d, h⟩⟩
theorem tot_end {x y z : List Int} {c0 c : Int} {v : Int → Bool} {d : Int → Prop} (hy : y.length = x.length) (h : TotH x y c0 x.length c z v d) : SumH x y c0 z v d := by
  obtain ⟨⟨q, h1, h2, h3, _⟩, h5⟩ := h
  rw [List.take_length, ← hy, List.take_length, hy] at h3
  exact ⟨⟨q, h1, h2, h3⟩, fun a b c => (h5 a b c).1⟩
theorem tot_step {x y z : List Int} {c0 c s1 c1 s2 c2 c' : Int} {k : Nat} {v : Int → Bool} {d : Int → Prop} (hk : k < x.length) (hk2 : k < y.length) (hz : z.length = k) (h : TotH x y c0 k c z v d) (h1 : HalfH x[k] y[k] s1 c1 v d) (h2 : HalfH s1 c s2 c2 v d)
    (hc : k + 1 < x.length → v c' = (v c1 || v c2)) (hd : d c → d c1 → d c2 → d c') : TotH x y c0 (k + 1) c' (z ++ [s2]) v d := by
  obtain ⟨⟨q, q1, q2, q3, q4⟩, q5⟩ := h
  obtain ⟨a1, a2, a3⟩ := h1
  obtain ⟨b1, b2, b3⟩ := h2
  refine ⟨⟨b2n (v c1 || v c2), (b2n_lo _).1, (b2n_lo _).2, ?_, fun hlt => by rw [hc hlt]⟩, fun dx dy d0 => ?_⟩
  · rw [un_snoc, un_take v x hk, un_take v y hk2, hz, pw_succ]
    rw [q4 hk] at q3
    rw [b1, a1, a2, b2, a1]
    generalize un v z = Z at *
    generalize un v (x.take k) = X at *
    generalize un v (y.take k) = Y at *
    generalize b2n (v c0) = C at *
    generalize pw k = P at *
    clear a1 a2 a3 b1 b2 b3 hc hd q1 q2 q4 q5
    generalize v x[k] = bx at *
    generalize v y[k] = by' at *
    generalize v c = bc at *
    cases bx <;> cases by' <;> cases bc <;> simp [b2n] at q3 ⊢ <;> omega
  · obtain ⟨e1, e2⟩ := q5 dx dy d0
    obtain ⟨f1, f2⟩ := a3 (dx.at hk) (dy.at hk2)
    obtain ⟨g1, g2⟩ := b3 f1 e2
    exact ⟨e1.snoc g1, hd e2 f2 g2⟩
section
variable {n₀ bb mb : Nat} {rv : Value} {I : Int} {gs : List Gt} {w : World}
set_option maxRecDepth 100000 in
set_option maxHeartbeats 4000000 in
theorem total_any (A : Option Addr) (cx : Nat) (x : List Int) (B : Option Addr) (cy : Nat) (y : List Int) (c0 : Int) (h : Bld w n₀ bb mb rv I gs 0) (hX : WRow w.heap.size w A x) (hY : WRow w.heap.size w B y) (lx : Lts I gs x) (ly : Lts I gs y) (lc : isLit I gs c0) (hl : x.length ≤ 100) (hxy : y.length = x.length) (hf : gs.length + 7 * x.length ≤ 5000) :
    Calls Try.prog 108 #[.pointer (some ⟨bb, 0, none⟩), .slice A x.length cx, .slice B y.length cy, .int .i64 c0] w fun e w' => ∃ A' c' z rv' gs', e = .returned (.slice A' x.length c') ∧ Acc n₀ bb mb rv I gs w (7 * x.length) w' (.slice A' x.length c') z rv' gs' ∧ z.length = x.length ∧ Hol I gs' (SumH x y c0 z) := by
  have HT := Lib.hid h
  have HX := Lib.hid hX
  have HY := Lib.hid hY
  have LX := Lib.hid lx
  have LY := Lib.hid ly
  have HF := Lib.hid hf
  have HXY := Lib.hid hxy
  have HA0 := Lib.hid (Acc.start h)
  have HC0 := Lib.hid lc
  have HH0 : Hid (Hol I gs (TotH x y c0 0 c0 [])) := Lib.hid (Hol.triv fun v d _ => tot_start x y c0 v d)
  clear h hX hY lx ly hf hxy lc
  go_enter Try.func108, Try.ntmps108
  go_wp2_with (fail)
  go_loopw [3, 9, 17] (fun u3 u9 jv wr => ∃ (k : Nat) (c : Int) (z : List Int) (rv1 : Value) (gs1 : List Gt), k ≤ x.length ∧ u3 = .int .i64 c ∧ jv = .int .i64 (k : Int) ∧ Hid (Acc n₀ bb mb rv I gs w (7 * k) wr u9 z rv1 gs1) ∧ Hid (z.length = k) ∧ Hid (isLit I gs1 c) ∧ Hid (Hol I gs1 (TotH x y c0 k c z))) (fun _ _ jv _ => x.length - (intOf jv).toNat)
  case atStart => exact ⟨0, c0, [], rv, gs, Nat.zero_le _, rfl, rfl, HA0, Lib.hid rfl, HC0, HH0⟩
  case round =>
    obtain ⟨k, c, z, rv1, gs1, hk, rfl, rfl, hac, hzl, hlc, hho⟩ := hrel
    by_cases hlt : k < x.length
    · have hlt2 : k < y.length := by have := HXY.out; omega
      have hdr : Below wr.heap.size wr wr.drew := (Below.refl _ _).drew
      have HAC := Lib.hid (hac.out.later hdr HT.out)
      obtain ⟨b1, o1, hA, q1⟩ := (HX.out.stp HT.out HAC.out.st).at hlt
      obtain ⟨b2, o2, hB, q2⟩ := (HY.out.stp HT.out HAC.out.st).at hlt2
      have HGL := Lib.hid (show gs1.length + 7 ≤ 5000 by have := hac.out.st.len; have := HF.out; omega)
      have HLX := Lib.hid ((LX.out.at hlt).more hac.out.st.grow)
      have HLY := Lib.hid ((LY.out.at hlt2).more hac.out.st.grow)
      have HST := Lib.hid (fun v d (z : List Int) (c s1 c1 s2 c2 c' : Int) => @tot_step x y z c0 c s1 c1 s2 c2 c' k v d hlt hlt2)
      have HRX := Lib.hid (fun (m : Nat) (w2 : World) (rv2 : Value) (gs2 : List Gt) (hs : Stp n₀ bb mb rv I gs m w w2 rv2 gs2) => (HX.out.stp HT.out hs).at hlt)
      have HRY := Lib.hid (fun (m : Nat) (w2 : World) (rv2 : Value) (gs2 : List Gt) (hs : Stp n₀ bb mb rv I gs m w w2 rv2 gs2) => (HY.out.stp HT.out hs).at hlt2)
      obtain ⟨p, HP⟩ : ∃ p, Hid (x[k] = p) := ⟨_, Lib.hid rfl⟩
      obtain ⟨q, HQ⟩ : ∃ q, Hid (y[k] = q) := ⟨_, Lib.hid rfl⟩
      rw [HP.out] at q1 HLX HST HRX
      rw [HQ.out] at q2 HLY HST HRY
      subst hA
      subst hB
      have HRX := Lib.hid (fun (m : Nat) (w2 : World) (rv2 : Value) (gs2 : List Gt) (hs : Stp n₀ bb mb rv I gs m w w2 rv2 gs2) => show w2.cell? ⟨b1, o1 + k, none⟩ = some (.int .i64 p) by obtain ⟨b, o, e, h⟩ := HRX.out _ _ _ _ hs; cases e; exact h)
      have HRY := Lib.hid (fun (m : Nat) (w2 : World) (rv2 : Value) (gs2 : List Gt) (hs : Stp n₀ bb mb rv I gs m w w2 rv2 gs2) => show w2.cell? ⟨b2, o2 + k, none⟩ = some (.int .i64 q) by obtain ⟨b, o, e, h⟩ := HRY.out _ _ _ _ hs; cases e; exact h)
      have HSS := Lib.hid (And.intro q1 q2)
      have HHF := Lib.hid (half_any p q HAC.out.st.tab HLX.out HLY.out (by have := HGL.out; omega))
      clear q1 q2 hac hdr
      go_upto_region 5 with fail
      rename_i K hKK
      refine wp_region_noPanic ?_
      refine wp_region_held_drew (S := fun w' => w'.cell? ⟨b1, o1 + k, none⟩ = some (.int .i64 p) ∧ w'.cell? ⟨b2, o2 + k, none⟩ = some (.int .i64 q)) (by kernel_rfl) HSS.out (fun _ => ?_)
      generalize wr.drew = w1 at *
      refine wpAnyH_take (i := 0) (oi := { dst := some 21, op := Op.move (Operand.tmp 0), type := 24, pos := "arithmetic.go:28", after := #[], guard := none }) (v := .pointer (some ⟨bb, 0, none⟩)) rfl (by kernel_rfl) (by kernel_rfl) (by kernel_rfl) (fun _ _ _ h => h) (Or.inl ⟨by rfl, ?_⟩) HSS.out ?_
      · (intro w' hSw; go_simp)
      simp only [Act.put, List.setIfInBounds_toArray, List.set_cons_zero, List.set_cons_succ]
      refine wpAnyH_take (i := 1) (oi := { dst := some 22, op := Op.move (Operand.tmp 1), type := 47, pos := "arithmetic.go:28", after := #[], guard := none }) (v := .slice (some ⟨b1, o1, none⟩) x.length cx) rfl (by kernel_rfl) (by kernel_rfl) (by kernel_rfl) (fun _ _ _ h => h) (Or.inl ⟨by rfl, ?_⟩) HSS.out ?_
      · (intro w' hSw; go_simp)
      simp only [Act.put, List.setIfInBounds_toArray, List.set_cons_zero, List.set_cons_succ]
      refine wpAnyH_take (i := 2) (oi := { dst := some 23, op := Op.move (Operand.tmp 10), type := 3, pos := "arithmetic.go:28", after := #[], guard := none }) (v := .int .i64 (k : Int)) rfl (by kernel_rfl) (by kernel_rfl) (by kernel_rfl) (fun _ _ _ h => h) (Or.inl ⟨by rfl, ?_⟩) HSS.out ?_
      · (intro w' hSw; go_simp)
      simp only [Act.put, List.setIfInBounds_toArray, List.set_cons_zero, List.set_cons_succ]
      refine wpAnyH_take (i := 3) (oi := { dst := some 24, op := Op.indexAddr 47 (Operand.tmp 22) (Operand.tmp 23), type := 0, pos := "arithmetic.go:28", after := #[{ on := 1, ground := Ground.data }, { on := 2, ground := Ground.data }], guard := none }) (v := .pointer (some ⟨b1, o1 + k, none⟩)) rfl (by kernel_rfl) (by kernel_rfl) (by kernel_rfl) (fun _ _ _ h => h) (Or.inl ⟨by rfl, ?_⟩) HSS.out ?_
      · (intro w' hSw; go_simp)
      simp only [Act.put, List.setIfInBounds_toArray, List.set_cons_zero, List.set_cons_succ]
      refine wpAnyH_take (i := 4) (oi := { dst := some 25, op := Op.load 3 (Operand.tmp 24), type := 3, pos := "arithmetic.go:28", after := #[{ on := 3, ground := Ground.data }], guard := none }) (v := .int .i64 p) rfl (by kernel_rfl) (by kernel_rfl) (by kernel_rfl) (fun _ _ _ h => h) (Or.inl ⟨by rfl, ?_⟩) HSS.out ?_
      · (intro w' hSw; obtain ⟨z0, z1⟩ := hSw; go_simp)
      simp only [Act.put, List.setIfInBounds_toArray, List.set_cons_zero, List.set_cons_succ]
      refine wpAnyH_take (i := 5) (oi := { dst := some 26, op := Op.move (Operand.tmp 2), type := 47, pos := "arithmetic.go:28", after := #[], guard := none }) (v := .slice (some ⟨b2, o2, none⟩) y.length cy) rfl (by kernel_rfl) (by kernel_rfl) (by kernel_rfl) (fun _ _ _ h => h) (Or.inl ⟨by rfl, ?_⟩) HSS.out ?_
      · (intro w' hSw; go_simp)
      simp only [Act.put, List.setIfInBounds_toArray, List.set_cons_zero, List.set_cons_succ]
      refine wpAnyH_take (i := 6) (oi := { dst := some 27, op := Op.move (Operand.tmp 10), type := 3, pos := "arithmetic.go:28", after := #[], guard := none }) (v := .int .i64 (k : Int)) rfl (by kernel_rfl) (by kernel_rfl) (by kernel_rfl) (fun _ _ _ h => h) (Or.inl ⟨by rfl, ?_⟩) HSS.out ?_
      · (intro w' hSw; go_simp)
      simp only [Act.put, List.setIfInBounds_toArray, List.set_cons_zero, List.set_cons_succ]
      refine wpAnyH_take (i := 7) (oi := { dst := some 28, op := Op.indexAddr 47 (Operand.tmp 26) (Operand.tmp 27), type := 0, pos := "arithmetic.go:28", after := #[{ on := 5, ground := Ground.data }, { on := 6, ground := Ground.data }], guard := none }) (v := .pointer (some ⟨b2, o2 + k, none⟩)) rfl (by kernel_rfl) (by kernel_rfl) (by kernel_rfl) (fun _ _ _ h => h) (Or.inl ⟨by rfl, ?_⟩) HSS.out ?_
      · (intro w' hSw; go_simp)
      simp only [Act.put, List.setIfInBounds_toArray, List.set_cons_zero, List.set_cons_succ]
      refine wpAnyH_take (i := 8) (oi := { dst := some 29, op := Op.load 3 (Operand.tmp 28), type := 3, pos := "arithmetic.go:28", after := #[{ on := 7, ground := Ground.data }], guard := none }) (v := .int .i64 q) rfl (by kernel_rfl) (by kernel_rfl) (by kernel_rfl) (fun _ _ _ h => h) (Or.inl ⟨by rfl, ?_⟩) HSS.out ?_
      · (intro w' hSw; obtain ⟨z0, z1⟩ := hSw; go_simp)
      simp only [Act.put, List.setIfInBounds_toArray, List.set_cons_zero, List.set_cons_succ]
      refine wpAnyH_ready (rs := [9]) (by kernel_rfl) (by simp) (AllReadyH.cons (o := { dst := some 30, op := Op.call { callee := Callee.value (Operand.func 113), args := #[Operand.tmp 21, Operand.tmp 25, Operand.tmp 29], argTypes := #[24, 3, 3] }, type := 63, pos := "arithmetic.go:28", after := #[{ on := 0, ground := Ground.data }, { on := 4, ground := Ground.data }, { on := 8, ground := Ground.data }], guard := none }) rfl (fun K hK => ?_) AllReadyH.nil)
      go_simp
      go_at_call 113
      refine HHF.out.mono ?_
      rintro e w2 ⟨s1, c1, rv2, gs2, rfl, hs2, hl2, hm2, hh2⟩
      have HAC2 := Lib.hid (HAC.out.go hs2 HT.out)
      have HL2 := Lib.hid hl2
      have HM2 := Lib.hid hm2
      have HLC2 := Lib.hid (hlc.out.more hs2.grow)
      have HGL2 := Lib.hid (show gs2.length + 4 ≤ 5000 by have := hs2.len; have := HGL.out; omega)
      have HH2 := Lib.hid ((hho.out.more hs2.pre).mp2 hh2 (χ := fun v d => TotH x y c0 k c z v d ∧ HalfH p q s1 c1 v d) fun v d _ a b => ⟨a, b⟩)
      have HSS2 := Lib.hid (And.intro (HRX.out _ _ _ _ HAC2.out.st) (HRY.out _ _ _ _ HAC2.out.st))
      clear hs2 hl2 hm2 hh2 hho hlc HHF HAC HSS HGL
      refine hK.out _ _ HSS2.out (fun _ => ?_)
      clear hK K
      try simp only [Act.put, List.setIfInBounds_toArray, List.set_cons_zero, List.set_cons_succ]
      refine wpAnyH_take (i := 10) (oi := { dst := some 20, op := Op.move (Operand.tmp 30), type := 63, pos := "arithmetic.go:28", after := #[{ on := 9, ground := Ground.data }], guard := none }) (v := .tuple #[.int .i64 s1, .int .i64 c1]) rfl (by kernel_rfl) (by kernel_rfl) (by kernel_rfl) (fun _ _ _ h => h) (Or.inl ⟨by rfl, ?_⟩) HSS2.out ?_
      · (intro w' hSw; go_simp)
      simp only [Act.put, List.setIfInBounds_toArray, List.set_cons_zero, List.set_cons_succ]
      refine wpAnyH_take (i := 11) (oi := { dst := some 31, op := Op.extract (Operand.tmp 20) 0, type := 3, pos := "arithmetic.go:28", after := #[{ on := 10, ground := Ground.data }], guard := none }) (v := .int .i64 s1) rfl (by kernel_rfl) (by kernel_rfl) (by kernel_rfl) (fun _ _ _ h => h) (Or.inl ⟨by rfl, ?_⟩) HSS2.out ?_
      · (intro w' hSw; go_simp)
      simp only [Act.put, List.setIfInBounds_toArray, List.set_cons_zero, List.set_cons_succ]
      refine wpAnyH_take (i := 12) (oi := { dst := some 32, op := Op.extract (Operand.tmp 20) 1, type := 3, pos := "arithmetic.go:28", after := #[{ on := 10, ground := Ground.data }, { on := 13, ground := Ground.gcOnly Departure.lateStores }], guard := none }) (v := .int .i64 c1) rfl (by kernel_rfl) (by kernel_rfl) (by kernel_rfl) (fun _ _ _ h => h) (Or.inl ⟨by rfl, ?_⟩) HSS2.out ?_
      · (intro w' hSw; go_simp)
      simp only [Act.put, List.setIfInBounds_toArray, List.set_cons_zero, List.set_cons_succ]
      refine wpAnyH_take (i := 13) (oi := { dst := some 11, op := Op.assign (Operand.tmp 31), type := 3, pos := "arithmetic.go:28", after := #[{ on := 11, ground := Ground.data }, { on := 9, ground := Ground.chain }, { on := 0, ground := Ground.phase }, { on := 1, ground := Ground.phase }, { on := 2, ground := Ground.phase }, { on := 3, ground := Ground.phase }, { on := 4, ground := Ground.phase }, { on := 5, ground := Ground.phase }, { on := 6, ground := Ground.phase }, { on := 7, ground := Ground.phase }, { on := 8, ground := Ground.phase }, { on := 9, ground := Ground.phase }, { on := 10, ground := Ground.phase }, { on := 11, ground := Ground.phase }, { on := 12, ground := Ground.textOnly Departure.lateStores }], guard := none }) (v := .int .i64 s1) rfl (by kernel_rfl) (by kernel_rfl) (by kernel_rfl) (fun _ _ _ h => h) (Or.inl ⟨by rfl, ?_⟩) HSS2.out ?_
      · (intro w' hSw; go_simp)
      simp only [Act.put, List.setIfInBounds_toArray, List.set_cons_zero, List.set_cons_succ]
      refine wpAnyH_take (i := 14) (oi := { dst := some 12, op := Op.assign (Operand.tmp 32), type := 3, pos := "arithmetic.go:28", after := #[{ on := 12, ground := Ground.data }, { on := 13, ground := Ground.chain }, { on := 0, ground := Ground.phase }, { on := 1, ground := Ground.phase }, { on := 2, ground := Ground.phase }, { on := 3, ground := Ground.phase }, { on := 4, ground := Ground.phase }, { on := 5, ground := Ground.phase }, { on := 6, ground := Ground.phase }, { on := 7, ground := Ground.phase }, { on := 8, ground := Ground.phase }, { on := 9, ground := Ground.phase }, { on := 10, ground := Ground.phase }, { on := 11, ground := Ground.phase }, { on := 12, ground := Ground.phase }, { on := 13, ground := Ground.phase }], guard := none }) (v := .int .i64 c1) rfl (by kernel_rfl) (by kernel_rfl) (by kernel_rfl) (fun _ _ _ h => h) (Or.inl ⟨by rfl, ?_⟩) HSS2.out ?_
      · (intro w' hSw; go_simp)
      simp only [Act.put, List.setIfInBounds_toArray, List.set_cons_zero, List.set_cons_succ]
      refine wpAnyH_done (by kernel_rfl) ?_ _
      refine NoPanic.normal ?_
      have HHF := Lib.hid (half_any s1 c HAC2.out.st.tab HL2.out HLC2.out (by have := HGL2.out; omega))
      go_wp2_with (fail)
      refine HHF.out.mono ?_
      rintro e w3 ⟨s2, c2, rv3, gs3, rfl, hs3, hl3, hm3, hh3⟩
      have HAC3 := Lib.hid (HAC2.out.go hs3 HT.out)
      have HM2 := Lib.hid (HM2.out.more hs3.grow)
      have HM3 := Lib.hid hm3
      have HLC3 := Lib.hid (HLC2.out.more hs3.grow)
      have HGL3 := Lib.hid (show gs3.length + 1 ≤ 5000 by have := hs3.len; have := HGL2.out; omega)
      have HH3 := Lib.hid ((HH2.out.more hs3.pre).mp2 hh3 (χ := fun v d => (TotH x y c0 k c z v d ∧ HalfH p q s1 c1 v d) ∧ HalfH s1 c s2 c2 v d) fun v d _ a b => ⟨a, b⟩)
      obtain ⟨X, cap, w4, hrun, hac4⟩ := HAC3.out.push HT.out (by have := hzl.out; omega) hl3
      have hzl2 := hzl.out
      have HZL : Hid ((z ++ [s2]).length = k + 1) := Lib.hid (by rw [List.length_append, hzl2]; rfl)
      rw [hzl2] at hrun hac4
      have HAC4 := Lib.hid hac4
      clear hs3 hl3 hm3 hh3 hac4 hzl2 HHF HSS2 HAC2 HH2 HGL2 HL2
      by_cases hlast : k + 1 < x.length
      · have hlast2 : decide ((k : Int) + 1 < (x.length : Int)) = true := decide_eq_true (by omega)
        have HOR := Lib.hid (a_Or c1 c2 HAC4.out.st.tab HM2.out HM3.out HGL3.out)
        have HL := Lib.hid hlast
        clear hlast
        go_wp2_with (at_builtin; refine app_by rfl _ _ 47 47 rfl _ _ rfl rfl _ _ hrun ?_; intro w9 hw9; obtain rfl := hw9.out)
        refine HOR.out.mono ?_
        rintro e w5 ⟨c3, rv5, gs5, rfl, hs5, hl5, hh5⟩
        have HAC5 := Lib.hid (show Acc n₀ bb mb rv I gs w (7 * (k + 1)) w5 (.slice X (k + 1) cap) (z ++ [s2]) rv5 gs5 from (HAC4.out.go hs5 HT.out).mono (by omega))
        have HLC5 := Lib.hid hl5
        have HH5 : Hid (Hol I gs5 (TotH x y c0 (k + 1) c3 (z ++ [s2]))) := Lib.hid ((HH3.out.more hs5.pre).mp2 hh5 fun v d _ ⟨⟨a1, a2⟩, a3⟩ b => HST.out _ _ z c s1 c1 s2 c2 c3 hzl.out a1 a2 a3 (fun _ => b.1) (fun _ e1 e2 => b.2 e1 e2))
        clear hs5 hl5 hh5 hrun HOR
        go_wp2_with (fail)
        exact ⟨⟨k + 1, c3, z ++ [s2], rv5, gs5, by omega, rfl, by go_num, HAC5, HZL, HLC5, HH5⟩, by simp [intOf]; omega⟩
      · have hlast2 : decide ((k : Int) + 1 < (x.length : Int)) = false := decide_eq_false (by omega)
        have HL := Lib.hid hlast
        have HAC5 := Lib.hid (show Acc n₀ bb mb rv I gs w (7 * (k + 1)) w4 (.slice X (k + 1) cap) (z ++ [s2]) rv3 gs3 from HAC4.out.mono (by omega))
        have HH5 : Hid (Hol I gs3 (TotH x y c0 (k + 1) c (z ++ [s2]))) := Lib.hid (HH3.out.mp fun v d _ ⟨⟨a1, a2⟩, a3⟩ => HST.out _ _ z c s1 c1 s2 c2 c hzl.out a1 a2 a3 (fun e => absurd e HL.out) (fun e _ _ => e))
        clear hlast
        go_wp2_with (at_builtin; refine app_by rfl _ _ 47 47 rfl _ _ rfl rfl _ _ hrun ?_; intro w9 hw9; obtain rfl := hw9.out)
        exact ⟨⟨k + 1, c, z ++ [s2], rv3, gs3, by omega, rfl, by go_num, HAC5, HZL, HLC3, HH5⟩, by simp [intOf]; omega⟩
    · obtain rfl : k = x.length := by omega
      obtain ⟨A', c', hu, _, _⟩ := hac.out.form
      rw [hzl.out] at hu
      subst hu
      have HE := Lib.hid (hho.out.mp fun v d _ a => tot_end HXY.out a)
      clear hho
      go_wp2_with (fail)
      go_ret
      exact ⟨A', c', z, rv1, gs1, rfl, hac.out, hzl.out, HE.out⟩
end
end Go.Proofs.Ytbcabnbgkicfdaa
