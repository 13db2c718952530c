/- What is proved: package blast: quotient, remainder. -/
import Derived.Test.YtbcabnbgkicfdaaBlDiv
set_option linter.unusedVariables false
namespace Go.Proofs.Ytbcabnbgkicfdaa
open Go.RowKit Go.Maps

/-- the number of a word without its sign -/
def abv (v : Int → Bool) (x : List Int) : Int := if v (sg x) then pw x.length - un v x else un v x
/-- a word stands for a number, but for what is too large -/
def Con (v : Int → Bool) (z : List Int) (a : Int) : Prop := ∃ q : Int, un v z + pw z.length * q = a
def quoP (a b : Int) : Int := if b = 0 then 0 else a / b
def remP (a b : Int) : Int := if b = 0 then a else a % b
def QuoH (x y z : List Int) (v : Int → Bool) (d : Int → Prop) : Prop := Con v z (if v (sg x) = v (sg y) then quoP (abv v x) (abv v y) else - quoP (abv v x) (abv v y)) ∧ (Dps d x → Dps d y → Dps d z)
def RemH (x y z : List Int) (v : Int → Bool) (d : Int → Prop) : Prop := Con v z (if v (sg x) then - remP (abv v x) (abv v y) else remP (abv v x) (abv v y)) ∧ (Dps d x → Dps d y → Dps d z)
theorem div_unique {x y q r : Int} (hr : 0 ≤ r) (h : x = y * q + r) (h1 : 0 < y → r < y) (hy : 0 ≤ y) : (y = 0 → r = x) ∧ (0 < y → q = x / y ∧ r = x % y) := by
  refine ⟨fun e => by subst e; simp at h; exact h.symm, fun hp => ?_⟩
  have h2 := h1 hp
  have := Int.ediv_emod_unique (a := x) (b := y) (r := r) (q := q) hp
  have k := this.2 ⟨by rw [h]; omega, hr, h2⟩
  exact ⟨k.1.symm, k.2.symm⟩
theorem un_masked {v : Int → Bool} {b : Bool} : ∀ {l m : List Int}, l.length = m.length → (∀ (j : Nat) (h1 : j < l.length) (h2 : j < m.length), v l[j] = (v m[j] && b)) → un v l = if b then un v m else 0 := by
  intro l
  induction l with
  | nil =>
    intro m hl _
    cases m with
    | nil => cases b <;> rfl
    | cons => simp at hl
  | cons x l ih =>
    intro m hl h
    cases m with
    | nil => simp at hl
    | cons y m =>
      have h0 := h 0 (by simp) (by simp)
      have h1 := ih (m := m) (by simpa using hl) (fun j a c => h (j + 1) (by simpa using a) (by simpa using c))
      simp only [List.getElem_cons_zero] at h0
      simp only [un, h0, h1]
      cases b <;> simp [b2n]
def MskP (q0 : List Int) (sm : Int) (k : Nat) (q : List Int) (v : Int → Bool) (d : Int → Prop) : Prop := (∀ (j : Nat) (h1 : j < q.length) (h2 : j < q0.length), v q[j] = (v q0[j] && (decide (k ≤ j) || v sm))) ∧ (Dps d q0 → d sm → Dps d q)
theorem msk_step {q0 q : List Int} {sm s : Int} {k : Nat} {v : Int → Bool} {d : Int → Prop} (hk : k < q.length) (hl : q.length = q0.length) (h : MskP q0 sm k q v d) (h1 : v s = (v q[k] && v sm) ∧ (d q[k] → d sm → d s)) : MskP q0 sm (k + 1) (q.set k s) v d := by
  refine ⟨fun j a c => ?_, fun dq ds x hx => ?_⟩
  · by_cases e : j = k
    · subst e
      rw [List.getElem_set_self, h1.1, h.1 j hk c]
      have e1 : decide (j + 1 ≤ j) = false := decide_eq_false (by omega)
      have e2 : decide (j ≤ j) = true := decide_eq_true (Nat.le_refl _)
      rw [e1, e2]
      cases v q0[j] <;> cases v sm <;> rfl
    · rw [List.getElem_set_ne (fun h => e h.symm), h.1 j (by simpa using a) c]
      have : decide (k ≤ j) = decide (k + 1 ≤ j) := decide_eq_decide.2 (by omega)
      rw [this]
  · rcases List.mem_or_eq_of_mem_set hx with hm | hm
    · exact h.2 dq ds x hm
    · rw [hm]; exact h1.2 ((h.2 dq ds).at hk) ds
theorem msk_end {q0 q : List Int} {sm : Int} {v : Int → Bool} {d : Int → Prop} (hl : q.length = q0.length) (h : MskP q0 sm q0.length q v d) : un v q = if v sm then un v q0 else 0 :=
  un_masked hl fun j a c => by
    rw [h.1 j a c]
    have e1 : decide (q0.length ≤ j) = false := decide_eq_false (by omega)
    rw [e1]; rfl
theorem abs_lo {v : Int → Bool} {d : Int → Prop} {x z : List Int} (h : AbsH x z v d) : un v z = abv v x := h.1
theorem quo_end {x y ax ay q0 q z nw : List Int} {sm c : Int} {n : Nat} {v : Int → Bool} {d : Int → Prop} (ho : VOk v d) (hlz : z.length = q.length) (hl : q.length = q0.length) (hq0 : q0.length = n) (hn : 0 < nw.length) (hx : 0 < x.length) (hy : 0 < y.length)
    (h1 : AbsH x ax v d) (h2 : AbsH y ay v d) (r : List Int) (h3 : DivH ax ay q0 r v d) (h4 : EmpH ay nw v d) (h5 : MskP q0 (notP nw[0]) n q v d) (h6 : v c = (v (sg x) != v (sg y)) ∧ (d (sg x) → d (sg y) → d c)) (h7 : SigH c q z v d) : QuoH x y z v d := by
  obtain ⟨⟨k, k1, k2, k3, k4⟩, k5⟩ := h7
  have hs := msk_end hl (by rw [hq0]; exact h5)
  have he := h4.1 0 hn
  rw [List.drop_zero] at he
  have l1 := un_lo v ay
  have l2 := un_lo v r
  obtain ⟨e1, e2, e3⟩ := h3
  obtain ⟨u1, u2⟩ := div_unique l2.1 e1 e2 l1.1
  have hval : un v q = quoP (abv v x) (abv v y) := by
    rw [hs, ho.not, he, ← abs_lo h1, ← abs_lo h2]
    unfold quoP
    by_cases hz : un v ay = 0
    · simp [hz]
    · rw [if_neg hz]
      simp [hz]
      exact (u2 (by omega)).1
  refine ⟨?_, fun dx dy => ?_⟩
  · rw [← hval]
    unfold Con
    rw [hlz]
    cases hv : (v (sg x) != v (sg y)) with
    | true =>
      have := k3 (by rw [h6.1, hv])
      rw [if_neg (by simpa using hv)]
      exact ⟨k - 1, by rw [Int.mul_sub]; omega⟩
    | false =>
      have := k4 (by rw [h6.1, hv])
      rw [if_pos (by simpa using hv)]
      exact ⟨0, by omega⟩
  · have dax := h1.2 dx
    have day := h2.2 dy
    have dq0 := (e3 dax day).1
    have dn := (h4.2 day).at hn
    exact k5 (h6.2 (by rw [sg_at hx]; exact dx.at _) (by rw [sg_at hy]; exact dy.at _)) (h5.2 dq0 ((ho.dnot _).2 dn))
theorem rem_end {x y ax ay r z : List Int} {v : Int → Bool} {d : Int → Prop} (hlz : z.length = r.length) (hx : 0 < x.length) (h1 : AbsH x ax v d) (h2 : AbsH y ay v d) (q0 : List Int) (h3 : DivH ax ay q0 r v d) (h7 : SigH (sg x) r z v d) : RemH x y z v d := by
  obtain ⟨⟨k, k1, k2, k3, k4⟩, k5⟩ := h7
  have l1 := un_lo v ay
  have l2 := un_lo v r
  obtain ⟨e1, e2, e3⟩ := h3
  obtain ⟨u1, u2⟩ := div_unique l2.1 e1 e2 l1.1
  have hval : un v r = remP (abv v x) (abv v y) := by
    rw [← abs_lo h1, ← abs_lo h2]
    unfold remP
    by_cases hz : un v ay = 0
    · rw [if_pos hz]; exact u1 hz
    · rw [if_neg hz]; exact (u2 (by omega)).2
  refine ⟨?_, fun dx dy => k5 (by rw [sg_at hx]; exact dx.at _) (e3 (h1.2 dx) (h2.2 dy)).2⟩
  rw [← hval]
  unfold Con
  rw [hlz]
  cases hv : v (sg x) with
  | true =>
    have := k3 hv
    rw [if_pos rfl]
    exact ⟨k - 1, by rw [Int.mul_sub]; omega⟩
  | false =>
    have := k4 hv
    rw [if_neg (by simp)]
    exact ⟨0, by omega⟩
section
variable {n₀ bb mb : Nat} {rv : Value} {I : Int} {gs : List Gt} {w : World}
theorem sg_lit {x : List Int} (lx : Lts I gs x) (h0 : 0 < x.length) : isLit I gs (sg x) := by rw [sg_at h0]; exact lx.at _
set_option maxRecDepth 100000 in
set_option maxHeartbeats 8000000 in
theorem remainder_any (A : Option Addr) (cx : Nat) (x : List Int) (B : Option Addr) (cy : Nat) (y : List Int) (h : Bld w n₀ bb mb rv I gs 0) (hX : WRow w.heap.size w A x) (hY : WRow w.heap.size w B y) (lx : Lts I gs x) (ly : Lts I gs y) (h0 : 0 < x.length) (hl : x.length ≤ 20) (hxy : y.length = x.length) (hf : gs.length + (31 * x.length + (10 * x.length + 8) * x.length) ≤ 5000) :
    Calls Try.prog 73 #[.pointer (some ⟨bb, 0, none⟩), .slice A x.length cx, .slice B y.length cy] w (WdG n₀ bb mb rv I gs (31 * x.length + (10 * x.length + 8) * x.length) w x.length (RemH x y)) := by
  have HA1 := Lib.hid (absolute_any A cx x h hX lx h0 (by omega) (by omega))
  have HT := Lib.hid h
  have HX := Lib.hid hX
  have HY := Lib.hid hY
  have LX := Lib.hid lx
  have LY := Lib.hid ly
  have HF := Lib.hid hf
  have HXY := Lib.hid hxy
  have HPS := Lib.hid h0
  clear h hX hY lx ly hf hxy h0
  go_enter Try.func73, Try.ntmps73
  go_wp2_with (fail)
  refine HA1.out.mono ?_
  rintro e w1 ⟨XA, xc, ax, rv1, gs1, rfl, hac1, hl1, hh1⟩
  have HAC1 := Lib.hid hac1
  have HL1 := Lib.hid hl1
  have HH1 := Lib.hid hh1
  have HA2 := Lib.hid (absolute_any B cy y hac1.st.tab ((HY.out.stp HT.out hac1.st).mono hac1.st.size) (LY.out.more hac1.st.grow) (by have := HPS.out; have := HXY.out; omega) (by have := HXY.out; omega) (by have := hac1.st.len; have := HF.out; have := HXY.out; omega))
  clear hac1 hl1 hh1 HA1
  go_wp2_with (fail)
  refine HA2.out.mono ?_
  rintro e w2 ⟨YA, yc, ay, rv2, gs2, rfl, hac2, hl2, hh2⟩
  have HS2 := Lib.hid (HAC1.out.st.trans hac2.st HT.out)
  have HXR2 := Lib.hid ((HAC1.out.own.wrow.2.2.stp HAC1.out.st.tab hac2.st).mono hac2.st.size)
  have HYR2 := Lib.hid hac2.own.wrow.2.2
  have HLX2 := Lib.hid (HAC1.out.lts.more hac2.st.grow)
  have HLY2 := Lib.hid hac2.lts
  have HL2 := Lib.hid hl2
  have HH2 := Lib.hid ((HH1.out.more hac2.st.pre).mp2 hh2 (χ := fun v d => AbsH x ax v d ∧ AbsH y ay v d) fun v d _ a b => ⟨a, b⟩)
  have hyc : ay.length ≤ yc := hac2.own.wrow.2.1
  have HD := bldiv_any XA xc ax YA yc ay hac2.st.tab HXR2.out HYR2.out HLX2.out HLY2.out (by rw [HL1.out]; exact HPS.out) (by rw [HL1.out]; exact hl) hyc (by rw [hl2, HL1.out]; exact HXY.out) (by rw [HL1.out]; have := HS2.out.len; have := HF.out; have := HXY.out; omega)
  rw [HL1.out, hl2] at HD
  have HD := Lib.hid HD
  clear hac2 hl2 hh2 HA2 hyc
  go_wp2_with (fail)
  refine HD.out.mono ?_
  rintro e w3 ⟨qb, RA, rc, q, r, rv3, gs3, rfl, hs3, hqb, hqs, hql, hlq, hro, hrl, hlr, hh3⟩
  have HS3 := Lib.hid (HS2.out.trans hs3 HT.out)
  have HRR := Lib.hid hro.wrow.2.2
  have HRL := Lib.hid hrl
  have HLR := Lib.hid hlr
  have HXW := Lib.hid (HX.out.stp HT.out HS3.out)
  have HH3 := Lib.hid ((HH2.out.more hs3.pre).mp2 hh3 (χ := fun v d => (AbsH x ax v d ∧ AbsH y ay v d) ∧ DivH ax ay q r v d) fun v d _ a b => ⟨a, b⟩)
  have HSG := Lib.hid (sign_any A cx x _ HXW.out HPS.out (by omega))
  have HSI := signed_any (sg x) RA rc r hs3.tab (sg_lit (LX.out.more HS3.out.grow) HPS.out) HRR.out HLR.out (by rw [hrl]; omega) (by rw [hrl]; have := HS3.out.len; have := HF.out; have := HXY.out; omega)
  rw [hrl] at HSI
  have HSI := Lib.hid HSI
  clear hs3 hqb hqs hql hlq hro hrl hlr hh3 HD
  go_wp2_with (fail)
  refine HSG.out.mono ?_
  rintro e wx ⟨rfl, hwx⟩
  obtain rfl := hwx.symm
  go_wp2_with (fail)
  refine HSI.out.mono ?_
  rintro e w4 ⟨ZA, zc, z, rv4, gs4, rfl, hac4, hl4, hh4⟩
  have HAC4 := Lib.hid ((hac4.over HS3.out HT.out).mono (m := 31 * x.length + (10 * x.length + 8) * x.length) (by have := HXY.out; omega))
  have HL4 := Lib.hid hl4
  have HH4 : Hid (Hol I gs4 (RemH x y z)) := Lib.hid ((HH3.out.more hac4.st.pre).mp2 hh4 fun v d ho ⟨⟨a, b⟩, c⟩ e => rem_end (by rw [HL4.out, HRL.out]) HPS.out a b q c e)
  clear hac4 hl4 hh4 HSI
  go_wp2_with (fail)
  go_ret
  exact ⟨ZA, zc, z, rv4, gs4, rfl, HAC4.out, HL4.out, HH4.out⟩
set_option maxRecDepth 100000 in
set_option maxHeartbeats 8000000 in
theorem quotient_any (A : Option Addr) (cx : Nat) (x : List Int) (B : Option Addr) (cy : Nat) (y : List Int) (h : Bld w n₀ bb mb rv I gs 0) (hX : WRow w.heap.size w A x) (hY : WRow w.heap.size w B y) (lx : Lts I gs x) (ly : Lts I gs y) (h0 : 0 < x.length) (hl : x.length ≤ 20) (hxy : y.length = x.length) (hf : gs.length + (33 * x.length + 3 + (10 * x.length + 8) * x.length) ≤ 5000) :
    Calls Try.prog 72 #[.pointer (some ⟨bb, 0, none⟩), .slice A x.length cx, .slice B y.length cy] w (WdG n₀ bb mb rv I gs (33 * x.length + 3 + (10 * x.length + 8) * x.length) w x.length (QuoH x y)) := by
  have HA1 := Lib.hid (absolute_any B cy y h hY ly (by omega) (by omega) (by omega))
  have HT := Lib.hid h
  have HX := Lib.hid hX
  have HY := Lib.hid hY
  have LX := Lib.hid lx
  have LY := Lib.hid ly
  have HF := Lib.hid hf
  have HXY := Lib.hid hxy
  have HPS := Lib.hid h0
  clear h hX hY lx ly hf hxy h0
  go_enter Try.func72, Try.ntmps72
  go_wp2_with (fail)
  refine HA1.out.mono ?_
  rintro e w1 ⟨YA, yc, ay, rv1, gs1, rfl, hac1, hl1, hh1⟩
  have HAC1 := Lib.hid hac1
  have HL1 := Lib.hid hl1
  have HH1 := Lib.hid hh1
  have HA2 := Lib.hid (absolute_any A cx x hac1.st.tab ((HX.out.stp HT.out hac1.st).mono hac1.st.size) (LX.out.more hac1.st.grow) HPS.out (by omega) (by have := hac1.st.len; have := HF.out; have := HXY.out; omega))
  clear hac1 hl1 hh1 HA1
  go_wp2_with (fail)
  refine HA2.out.mono ?_
  rintro e w2 ⟨XA, xc, ax, rv2, gs2, rfl, hac2, hl2, hh2⟩
  have HS2 := Lib.hid (HAC1.out.st.trans hac2.st HT.out)
  have HYR2 := Lib.hid ((HAC1.out.own.wrow.2.2.stp HAC1.out.st.tab hac2.st).mono hac2.st.size)
  have HXR2 := Lib.hid hac2.own.wrow.2.2
  have HLY2 := Lib.hid (HAC1.out.lts.more hac2.st.grow)
  have HLX2 := Lib.hid hac2.lts
  have HL2 := Lib.hid hl2
  have HH2 := Lib.hid ((HH1.out.more hac2.st.pre).mp2 hh2 (χ := fun v d => AbsH x ax v d ∧ AbsH y ay v d) fun v d _ a b => ⟨b, a⟩)
  have hyc : ay.length ≤ yc := HAC1.out.own.wrow.2.1
  have HD := bldiv_any XA xc ax YA yc ay hac2.st.tab HXR2.out HYR2.out HLX2.out HLY2.out (by rw [hl2]; exact HPS.out) (by rw [hl2]; exact hl) hyc (by rw [hl2, HL1.out]; exact HXY.out) (by rw [hl2]; have := HS2.out.len; have := HF.out; have := HXY.out; omega)
  rw [HL1.out, hl2] at HD
  have HD := Lib.hid HD
  clear hac2 hl2 hh2 HA2 hyc
  go_wp2_with (fail)
  refine HD.out.mono ?_
  rintro e w3 ⟨qb, RA, rc, q0, r, rv3, gs3, rfl, hs3, hqb, hqs, hql, hlq, hro, hrl, hlr, hh3⟩
  have HS3 := Lib.hid (HS2.out.trans hs3 HT.out)
  have HQB := Lib.hid hqb
  have HQS := Lib.hid (show w.heap.size ≤ qb by have := HS2.out.size; omega)
  have HQL := Lib.hid hql
  have HLQ := Lib.hid hlq
  have HH3 := Lib.hid ((HH2.out.more hs3.pre).mp2 hh3 (χ := fun v d => (AbsH x ax v d ∧ AbsH y ay v d) ∧ DivH ax ay q0 r v d) fun v d _ a b => ⟨a, b⟩)
  have HEM := empty_any YA yc ay hs3.tab ((HYR2.out.stp HS2.out.tab hs3).mono hs3.size) (HLY2.out.more hs3.grow) (by have := HL1.out; have := HXY.out; omega) (by have := HS3.out.len; have := HF.out; have := HL1.out; have := HXY.out; omega)
  rw [HL1.out] at HEM
  have HEM := Lib.hid HEM
  clear hs3 hqb hqs hql hlq hro hrl hlr hh3 HD
  go_wp2_with (fail)
  refine HEM.out.mono ?_
  rintro e w4 ⟨NA, nc, nw, rv4, gs4, rfl, hac4, hl4, hh4⟩
  have HS4 := Lib.hid (HS3.out.trans hac4.st HT.out)
  have HQ4 := Lib.hid (HQB.out.stp HS3.out.tab hac4.st)
  have HLQ4 := Lib.hid (HLQ.out.more hac4.st.grow)
  have hn0 : 0 < nw.length := by omega
  obtain ⟨nb, no, hNA, c1⟩ := hac4.own.wrow.2.2.at hn0
  subst hNA
  have HLN := Lib.hid ((hac4.lts.at hn0).not)
  have HNT := Lib.hid (fun W => not_any nw[0] (by have := bl_small hac4.st.tab (hac4.lts.at hn0); omega) W)
  have HH4 := Lib.hid ((HH3.out.more hac4.st.pre).mp2 hh4 (χ := fun v d => ((AbsH x ax v d ∧ AbsH y ay v d) ∧ DivH ax ay q0 r v d) ∧ EmpH ay nw v d) fun v d _ a b => ⟨a, b⟩)
  have HN0 := Lib.hid hn0
  have hpy : 0 < y.length + 1 := by omega
  have HQE := Lib.hid (fun v d (ho : VOk v d) (q z : List Int) (c : Int) (hlz : z.length = q.length) (hl : q.length = q0.length) => @quo_end x y ax ay q0 q z nw (notP nw[0]) c x.length v d ho hlz hl HQL.out hn0 HPS.out (by have := HPS.out; have := HXY.out; omega))
  obtain ⟨f, HFV⟩ : ∃ f, Hid (nw[0]'hn0 = f) := ⟨_, Lib.hid rfl⟩
  rw [HFV.out] at c1 HLN HNT HQE
  rw [Nat.add_zero] at c1
  clear hac4 hl4 hh4 HEM HH3
  go_wp2_with (fail)
  refine (HNT.out _).mono ?_
  rintro e wx ⟨rfl, hwx⟩
  obtain rfl := hwx.symm
  have HM0 : Hid (Hol I gs4 (fun v d => (((AbsH x ax v d ∧ AbsH y ay v d) ∧ DivH ax ay q0 r v d) ∧ EmpH ay nw v d) ∧ MskP q0 (notP f) 0 q0 v d)) := Lib.hid (HH4.out.mp fun v d ho a => ⟨a, ⟨fun j h1 h2 => by simp, fun dq _ => dq⟩⟩)
  clear c1
  go_wp2_with (fail)
  go_loopw [32] (fun jv wr => ∃ (k : Nat) (q : List Int) (rv5 : Value) (gs5 : List Gt), k ≤ x.length ∧ jv = .int .i64 (k : Int) ∧ Hid (Stp n₀ bb mb rv I gs (22 * x.length + (10 * x.length + 8) * x.length + k) w wr rv5 gs5) ∧ Hid (ZBlk wr qb q) ∧ Hid (q.length = x.length) ∧ Hid (Lts I gs5 q) ∧ Hid (isLit I gs5 (notP f)) ∧ Hid (Hol I gs5 (fun v d => (((AbsH x ax v d ∧ AbsH y ay v d) ∧ DivH ax ay q0 r v d) ∧ EmpH ay nw v d) ∧ MskP q0 (notP f) k q v d))) (fun jv _ => x.length - (intOf jv).toNat)
  case atStart => exact ⟨0, q0, rv4, gs4, Nat.zero_le _, rfl, Lib.hid (HS4.out.mono (by have := HXY.out; have := HL1.out; omega)), HQ4, HQL, HLQ4, HLN, HM0⟩
  case round =>
    obtain ⟨k, q, rv5, gs5, hk, rfl, hst, hqb, hql, hlq, hln, hho⟩ := hrel
    by_cases hlt : k < x.length
    · have hkq : k < q.length := by have := hql.out; omega
      have c1 := hqb.out.cell hkq
      have HLK := Lib.hid (hlq.out.at hkq)
      have HMS := Lib.hid (fun v d (s : Int) => @msk_step q0 q (notP f) s k v d hkq (by rw [hql.out, HQL.out]))
      have HRC := Lib.hid (fun w2 (hb : ZBlk w2 qb q) => hb.cell hkq)
      obtain ⟨p, HP⟩ : ∃ p, Hid (q[k] = p) := ⟨_, Lib.hid rfl⟩
      rw [HP.out] at c1 HLK HMS HRC
      have HAN := Lib.hid (a_And p (notP f) hst.out.tab HLK.out hln.out (by have := hst.out.len; have := HF.out; omega))
      go_wp2_with (fail)
      refine HAN.out.mono ?_
      rintro e w6 ⟨s, rv6, gs6, rfl, hs6, hl6, hh6⟩
      have HZ6 := Lib.hid (hqb.out.stp hst.out.tab hs6)
      have y1 := HRC.out _ HZ6.out
      have y2 := HZ6.out.frz k
      have HS7 := Lib.hid (show Stp n₀ bb mb rv I gs (22 * x.length + (10 * x.length + 8) * x.length + (k + 1)) w (w6.setCell ⟨qb, k, none⟩ (.int .i64 s)) rv6 gs6 from (hst.out.trans hs6 HT.out).put HZ6.out HQS.out k (.int .i64 s))
      have HZ7 := Lib.hid (HZ6.out.set k s)
      have HLQ7 := Lib.hid ((hlq.out.more hs6.grow).set k hl6)
      have HLN7 := Lib.hid (hln.out.more hs6.grow)
      have HQL7 : Hid ((q.set k s).length = x.length) := Lib.hid (by rw [List.length_set]; exact hql.out)
      have HH7 : Hid (Hol I gs6 (fun v d => (((AbsH x ax v d ∧ AbsH y ay v d) ∧ DivH ax ay q0 r v d) ∧ EmpH ay nw v d) ∧ MskP q0 (notP f) (k + 1) (q.set k s) v d)) := Lib.hid ((hho.out.more hs6.pre).mp2 hh6 fun v d _ ⟨a, b⟩ c => ⟨a, HMS.out v d s b c⟩)
      clear hs6 hl6 hh6 HAN c1 hho
      go_wp2_with (fail)
      exact ⟨⟨k + 1, q.set k s, rv6, gs6, by omega, by go_num, HS7, HZ7, HQL7, HLQ7, HLN7, HH7⟩, by simp [intOf]; omega⟩
    · obtain rfl : k = x.length := by omega
      have HXW := Lib.hid (HX.out.stp HT.out hst.out)
      have HYW := Lib.hid (HY.out.stp HT.out hst.out)
      have HSX := Lib.hid (sign_any A cx x _ HXW.out HPS.out (by omega))
      have HSY := Lib.hid (sign_any B cy y _ HYW.out (by have := HPS.out; have := HXY.out; omega) (by have := HXY.out; omega))
      have HXO := Lib.hid (a_Xor (sg x) (sg y) hst.out.tab (sg_lit (LX.out.more hst.out.grow) HPS.out) (sg_lit (LY.out.more hst.out.grow) (by have := HPS.out; have := HXY.out; omega)) (by have := hst.out.len; have := HF.out; omega))
      go_wp2_with (fail)
      refine HSX.out.mono ?_
      rintro e wx ⟨rfl, hwx⟩
      obtain rfl := hwx.symm
      go_wp2_with (fail)
      refine HSY.out.mono ?_
      rintro e wx ⟨rfl, hwx⟩
      obtain rfl := hwx.symm
      go_wp2_with (fail)
      refine HXO.out.mono ?_
      rintro e w6 ⟨c, rv6, gs6, rfl, hs6, hl6, hh6⟩
      have HS6 := Lib.hid (hst.out.trans hs6 HT.out)
      have hq6 := hqb.out.stp hst.out.tab hs6
      have HH6 := Lib.hid ((hho.out.more hs6.pre).mp2 hh6 (χ := fun v d => ((((AbsH x ax v d ∧ AbsH y ay v d) ∧ DivH ax ay q0 r v d) ∧ EmpH ay nw v d) ∧ MskP q0 (notP f) x.length q v d) ∧ (v c = (v (sg x) != v (sg y)) ∧ (d (sg x) → d (sg y) → d c))) fun v d _ a b => ⟨a, b⟩)
      have HSI := signed_any c (some ⟨qb, 0, none⟩) x.length q hs6.tab hl6 (by have := hq6.wrow 0; rwa [List.drop_zero] at this) (hlq.out.more hs6.grow) (by rw [hql.out]; omega) (by rw [hql.out]; have := HS6.out.len; have := HF.out; omega)
      rw [hql.out] at HSI
      have HSI := Lib.hid HSI
      clear hs6 hl6 hh6 hq6 HXO hho
      go_wp2_with (fail)
      refine HSI.out.mono ?_
      rintro e w7 ⟨ZA, zc, z, rv7, gs7, rfl, hac7, hl7, hh7⟩
      have HAC7 := Lib.hid ((hac7.over HS6.out HT.out).mono (m := 33 * x.length + 3 + (10 * x.length + 8) * x.length) (by omega))
      have HL7 := Lib.hid hl7
      have HH7 : Hid (Hol I gs7 (QuoH x y z)) := Lib.hid ((HH6.out.more hac7.st.pre).mp2 hh7 fun v d ho ⟨⟨⟨⟨⟨a1, a2⟩, a3⟩, a4⟩, a5⟩, a6⟩ e => HQE.out v d ho q z c (by rw [HL7.out, hql.out]) (by rw [hql.out, HQL.out]) a1 a2 r a3 a4 a5 a6 e)
      clear hac7 hl7 hh7 HSI
      go_wp2_with (fail)
      go_ret
      exact ⟨ZA, zc, z, rv7, gs7, rfl, HAC7.out, HL7.out, HH7.out⟩
end
end Go.Proofs.Ytbcabnbgkicfdaa
