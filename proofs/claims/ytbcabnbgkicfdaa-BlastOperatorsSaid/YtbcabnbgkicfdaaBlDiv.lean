/- What is proved: package blast: divide. -/
import Derived.Test.YtbcabnbgkicfdaaBlEmp
import Derived.Deep.Cut
import Derived.Deep.DeepCutAuto
set_option linter.unusedVariables false
namespace Go.Proofs.Ytbcabnbgkicfdaa
open Go.RowKit Go.Maps

/-- the quotient and the remainder of numbers without signs -/
def DivH (x y q r : List Int) (v : Int → Bool) (d : Int → Prop) : Prop := un v x = un v y * un v q + un v r ∧ (0 < un v y → un v r < un v y) ∧ (Dps d x → Dps d y → Dps d q ∧ Dps d r)
def DvP (x y : List Int) (i : Nat) (q r : List Int) (v : Int → Bool) (d : Int → Prop) : Prop := un v (x.drop i) = un v y * un v (q.drop i) + un v r ∧ (0 < un v y → un v r < un v y) ∧ (Dps d x → Dps d y → Dps d q ∧ Dps d r)
theorem dv_start {x y q : List Int} {v : Int → Bool} {d : Int → Prop} (hq : q.length = x.length) (hd : Dps d q) : DvP x y x.length q [] v d := by
  refine ⟨?_, fun h => by simpa [un] using h, fun _ _ => ⟨hd, Dps.nil d⟩⟩
  rw [List.drop_length, ← hq, List.drop_length]
  simp [un]
theorem dv_num (P R0 Yt Yd T t q1 : Int) (hP : 0 < P) (h1 : 0 ≤ R0 ∧ R0 < P) (h2 : 0 ≤ Yt ∧ Yt < P) (h3 : 0 ≤ T ∧ T < P) (ht : t = 0 ∨ t = 1) (hq : q1 = 0 ∨ q1 = 1) (e : T + P * t + 2 * P * q1 = R0 + 2 * P - Yt) : (t = 0 → T = R0 - Yt) ∧ (t = 1 → R0 < Yt) := by
  rcases ht with rfl | rfl <;> rcases hq with rfl | rfl <;> simp at e ⊢ <;> omega
theorem dv_step {x y q r rest r' nw : List Int} {i m : Nat} {b : Int} {v : Int → Bool} {d : Int → Prop} (ho : VOk v d) (hi : i < x.length) (hq : q.length = x.length) (hy : y.length = x.length) (hm : i + m = x.length) (hr : r.length + 1 = m) (hn : m < nw.length) (hrl : rest.length = m + 1) (hm1 : m < rest.length)
    (h : DvP x y (i + 1) q r v d) (h1 : EmpH y nw v d) (h2 : SubH ((x[i] :: r) ++ [0]) (y.take m ++ [0]) rest v d) (h3 : v b = (v (notP rest[m]) && v nw[m]) ∧ (d (notP rest[m]) → d nw[m] → d b)) (h4 : ChoH b (rest.take m) (x[i] :: r) r' v d) : DvP x y i (q.set i b) r' v d := by
  obtain ⟨a1, a2, a3⟩ := h
  obtain ⟨b1, b2⟩ := h1
  obtain ⟨⟨q1, c1, c2, c3⟩, c4⟩ := h2
  obtain ⟨e1, e2⟩ := h3
  have f1 := ints_same_word h4
  have f2 := h4.2
  have hiq : i < q.length := by omega
  have g1 := un_drop v x hi
  have g2 : un v ((q.set i b).drop i) = b2n (v b) + 2 * un v (q.drop (i + 1)) := by
    rw [un_drop v (q.set i b) (by simpa using hiq), List.getElem_set_self, List.drop_set_of_lt (by omega)]
  have g3 := un_lo v (x[i] :: r)
  have g4 := un_lo v (y.take m)
  have g5 := un_lo v (rest.take m)
  have g6 := un_take v rest hm1
  have g7 : un v y = un v (y.take m) + pw m * un v (y.drop m) := by
    conv => lhs; rw [← List.take_append_drop m y, un_append, List.length_take, Nat.min_eq_left (by omega)]
  have g8 := un_lo v (y.drop m)
  have g9 : un v (x[i] :: r) = b2n (v x[i]) + 2 * un v r := rfl
  have g10 := un_lo v r
  have g11 := un_lo v (q.drop (i + 1))
  rw [List.length_cons, hr] at g3
  rw [List.length_take, Nat.min_eq_left (by omega)] at g4 g5
  rw [← hrl, List.take_length] at g6
  have hpm := pw_pos m
  have hlen : ((x[i] :: r) ++ [0]).length = m + 1 := by simp; omega
  have z0 : ∀ l : List Int, un v (l ++ [0]) = un v l := fun l => by rw [un_snoc, ho.zero]; simp [b2n]
  rw [hlen, z0, z0, pw_succ, g6, Int.mul_assoc] at c3
  have key := dv_num (pw m) (un v (x[i] :: r)) (un v (y.take m)) (un v (y.drop m)) (un v (rest.take m)) (b2n (v rest[m])) q1 hpm g3 g4 g5 (by cases v rest[m] <;> simp [b2n]) (by omega) (by rw [Int.mul_assoc]; omega)
  rw [ho.not, b1 m hn] at e1
  refine ⟨?_, ?_, fun dx dy => ?_⟩
  · rw [g1, g2, f1, a1]
    have hmul : un v y * (b2n (v b) + 2 * un v (q.drop (i + 1))) = un v y * b2n (v b) + 2 * (un v y * un v (q.drop (i + 1))) := by
      generalize un v y = Y; generalize b2n (v b) = B; generalize un v (q.drop (i + 1)) = Q; grind
    rw [hmul]
    generalize un v y * un v (q.drop (i + 1)) = YQ at *
    cases hb : v b with
    | true =>
      rw [hb] at e1
      have k1 : v rest[m] = false := by cases hv : v rest[m] <;> simp [hv] at e1 ⊢
      have k2 : un v (y.drop m) = 0 := by rw [k1] at e1; simpa using e1.symm
      have k3 := key.1 (by rw [k1]; rfl)
      rw [k2, Int.mul_zero] at g7
      rw [show b2n true = 1 from rfl, if_pos rfl, Int.mul_one]
      omega
    | false =>
      rw [show b2n false = 0 from rfl, if_neg (by simp), Int.mul_zero]
      omega
  · intro hpos
    rw [f1]
    have a2 := a2 hpos
    have bl := b2n_lo (v x[i])
    cases hb : v b with
    | true =>
      rw [hb] at e1
      have k1 : v rest[m] = false := by cases hv : v rest[m] <;> simp [hv] at e1 ⊢
      have k2 : un v (y.drop m) = 0 := by rw [k1] at e1; simpa using e1.symm
      have k3 := key.1 (by rw [k1]; rfl)
      rw [k2, Int.mul_zero] at g7
      simp
      omega
    | false =>
      simp
      rw [hb] at e1
      cases hv : v rest[m] with
      | true =>
        have k3 := key.2 (by rw [hv]; rfl)
        have : 0 ≤ pw m * un v (y.drop m) := Int.mul_nonneg (by omega) g8.1
        omega
      | false =>
        rw [hv] at e1
        have k2 : ¬ un v (y.drop m) = 0 := by simpa using e1
        have : pw m * 1 ≤ pw m * un v (y.drop m) := Int.mul_le_mul_of_nonneg_left (by omega) (by omega)
        omega
  · obtain ⟨d1, d2⟩ := a3 dx dy
    have dr0 : Dps d (x[i] :: r) := fun a ha => by
      rcases List.mem_cons.1 ha with rfl | ha
      · exact dx.at hi
      · exact d2 a ha
    have drest := c4 (dr0.snoc ho.d0) ((dy.sub fun a ha => List.mem_of_mem_take ha).snoc ho.d0)
    have dbb : d b := e2 ((ho.dnot _).2 (drest.at hm1)) ((b2 dy).at hn)
    refine ⟨fun a ha => ?_, f2 dbb (drest.sub fun a ha => List.mem_of_mem_take ha) dr0⟩
    rcases List.mem_or_eq_of_mem_set ha with hm' | hm'
    · exact d1 a hm'
    · rw [hm']; exact dbb
/-- two slices put together, their lengths by other names -/
theorem zconcat3 (a nl nm : Nat) (A : Option Addr) (c : Nat) (l : List Int) (B : Option Addr) (d : Nat) (m : List Int) (w : World) (h : w.heap[a]? = some (.cells #[.slice A nl c, .slice B nm d] 47 (0, 0))) (hnl : l.length = nl) (hnm : m.length = nm) (hA : WRow w.heap.size w A l) (hB : WRow w.heap.size w B m) (hl : nl + nm ≤ 1000) :
    Calls Try.prog 112 #[.slice (some ⟨a, 0, none⟩) 2 2] w fun e w' => ∃ A' c', e = .returned (.slice A' (nl + nm) c') ∧ ZOwn w' w.heap.size (.slice A' (nl + nm) c') (l ++ m) ∧ Below w.heap.size w w' := by
  subst hnl
  subst hnm
  exact zconcat2 a A c l B d m w h hA hB hl
theorem wrow_one (w : World) (x : Int) : WRow (w.alloc (.cells #[.int .i64 x] 3)).heap.size (w.alloc (.cells #[.int .i64 x] 3)) (some ⟨w.heap.size, 0, none⟩) [x] := fun _ =>
  ⟨w.heap.size, 0, _, rfl, by simp, heap_alloc_new w _, fun i hi => by
    have : i = 0 := by simp at hi; omega
    subst this
    rfl⟩
section
variable {n₀ bb mb : Nat} {rv : Value} {I : Int} {gs : List Gt} {w : World}
/-- what divide gives -/
def DvG (n₀ bb mb : Nat) (rv : Value) (I : Int) (gs : List Gt) (n : Nat) (w : World) (m : Nat) (φ : List Int → List Int → (Int → Bool) → (Int → Prop) → Prop) (e : Ending) (w' : World) : Prop :=
  ∃ qb RA rc q r rv' gs', e = .returned (.tuple #[.slice (some ⟨qb, 0, none⟩) m m, .slice RA m rc]) ∧ Stp n₀ bb mb rv I gs n w w' rv' gs' ∧ ZBlk w' qb q ∧ w.heap.size ≤ qb ∧ q.length = m ∧ Lts I gs' q ∧ ZOwn w' w.heap.size (.slice RA m rc) r ∧ r.length = m ∧ Lts I gs' r ∧ Hol I gs' (φ q r)
set_option maxRecDepth 100000 in
set_option maxHeartbeats 8000000 in
theorem bldiv_any (A : Option Addr) (cx : Nat) (x : List Int) (B : Option Addr) (cy : Nat) (y : List Int) (h : Bld w n₀ bb mb rv I gs 0) (hX : WRow w.heap.size w A x) (hY : WRow w.heap.size w B y) (lx : Lts I gs x) (ly : Lts I gs y) (h0 : 0 < x.length) (hl : x.length ≤ 20) (hcy : y.length ≤ cy) (hxy : y.length = x.length) (hf : gs.length + (x.length + (10 * x.length + 8) * x.length) ≤ 5000) :
    Calls Try.prog 104 #[.pointer (some ⟨bb, 0, none⟩), .slice A x.length cx, .slice B y.length cy] w (DvG n₀ bb mb rv I gs (x.length + (10 * x.length + 8) * x.length) w x.length (DivH x y)) := by
  have HEM := Lib.hid (empty_any B cy y h hY ly (by omega) (by omega))
  have HT := Lib.hid h
  have HX := Lib.hid hX
  have HY := Lib.hid hY
  have LX := Lib.hid lx
  have LY := Lib.hid ly
  have HF := Lib.hid hf
  have HXY := Lib.hid hxy
  have HCY := Lib.hid hcy
  have HPS := Lib.hid h0
  clear h hX hY lx ly hf hxy hcy h0
  go_enter Try.func104, Try.ntmps104
  go_wp2_with (fail)
  refine HEM.out.mono ?_
  rintro e w1 ⟨NA, nc, nw, rv1, gs1, rfl, hac, hnl, hnh⟩
  obtain ⟨nn, HNN⟩ : ∃ nn, Hid (y.length + 1 = nn) := ⟨_, Lib.hid rfl⟩
  rw [HNN.out] at hac hnl ⊢
  have hmk := do_make_in x.length (by omega)
  have hb0 := (Below.refl w1.heap.size w1).alloc (Nat.le_refl _) (.cells (hdr (fun _ => .int .i64 0) x.length) 3)
  have HS0 := Lib.hid ((hac.st.later hb0 HT.out).mono (m := x.length) (by have := HXY.out; omega))
  have HNR := Lib.hid (hac.own.wrow.2.2)
  have HNR1 := Lib.hid (HNR.out.later hb0)
  have HNL := Lib.hid hnl
  have HZ0 := Lib.hid (ZBlk.new w1 x.length)
  have HQL0 := Lib.hid (lts_zeros hac.st.tab x.length)
  have HLN0 := Lib.hid hac.lts
  have HSW := Lib.hid hac.st.size
  have HH0 : Hid (Hol I gs1 (fun v d => DvP x y x.length (List.replicate x.length 0) [] v d ∧ EmpH y nw v d)) := Lib.hid (hnh.mp fun v d ho a => ⟨dv_start (by simp) (fun a ha => by rw [(List.mem_replicate.1 ha).2]; exact ho.d0), a⟩)
  have hw3 : IntKind.i64.wrap ((x.length : Int) - 1) = (x.length : Int) - 1 := IntWalk.i64_in _ (by omega)
  have HR0 : Hid (ZOwn (w1.alloc (.cells (hdr (fun _ => .int .i64 0) x.length) 3)) (w1.heap.size + 1) (.slice Option.none 0 0) []) := Lib.hid (World.ownsRow_nil _ _ _ _)
  clear hac hnl hnh hb0 HEM HNR
  go_wp2_with (fail)
  clear hmk
  generalize hgw : w1.alloc (.cells (hdr (fun _ => .int .i64 0) x.length) 3) = w2 at *
  clear hgw
  obtain ⟨qb, HQB⟩ : ∃ qb, Hid (w1.heap.size = qb) := ⟨_, Lib.hid rfl⟩
  rw [HQB.out] at HZ0 HR0 HNR1 HSW ⊢
  go_loopw [10, 11] (fun u10 jv wr => ∃ (k : Nat) (p : Int) (q r : List Int) (rv2 : Value) (gs2 : List Gt), k ≤ x.length ∧ jv = .int .i64 p ∧ Hid (p = (x.length : Int) - 1 - (k : Int)) ∧ Hid (Stp n₀ bb mb rv I gs (x.length + (10 * x.length + 8) * k) w wr rv2 gs2) ∧ Hid (ZBlk wr qb q) ∧ Hid (q.length = x.length) ∧ Hid (Lts I gs2 q) ∧ Hid (ZOwn wr (qb + 1) u10 r) ∧ Hid (r.length = k) ∧ Hid (Lts I gs2 r) ∧ Hid (WRow qb wr NA nw) ∧ Hid (Lts I gs2 nw) ∧ Hid (Hol I gs2 (fun v d => DvP x y (x.length - k) q r v d ∧ EmpH y nw v d))) (fun _ jv _ => (intOf jv + 1).toNat)
  case atStart => exact ⟨0, (x.length : Int) - 1, _, [], rv1, gs1, Nat.zero_le _, rfl, Lib.hid (by simp), HS0, HZ0, Lib.hid (by simp), HQL0, HR0, Lib.hid rfl, Lib.hid Lts.nil, HNR1, HLN0, HH0⟩
  case round =>
    obtain ⟨k, p, q, r, rv2, gs2, hk, rfl, hp, hst, hqb, hql, hlq, hro, hrl, hlr, hnr, hln, hho⟩ := hrel
    by_cases hlt : k < x.length
    · obtain ⟨i, rfl⟩ : ∃ i : Nat, p = (i : Int) := ⟨p.toNat, by have := hp.out; omega⟩
      obtain ⟨m, HM⟩ : ∃ m, Hid (k + 1 = m) := ⟨_, Lib.hid rfl⟩
      have hki : i + m = x.length := by have := hp.out; have := HM.out; omega
      have hi : i < x.length := by have := HM.out; omega
      have hmn : m < nn := by have := HNN.out; have := HXY.out; have := HM.out; omega
      have hmnl : m < nw.length := by rw [HNL.out]; exact hmn
      obtain ⟨b1, o1, hA, c1⟩ := (HX.out.stp HT.out hst.out).at hi
      have HLX := Lib.hid ((LX.out.at hi).more hst.out.grow)
      have HNB := Lib.hid (show gs2.length + (10 * x.length + 8) ≤ 5000 by
        have h1 := hst.out.len
        have h2 := HF.out
        have e : (10 * x.length + 8) * k + (10 * x.length + 8) ≤ (10 * x.length + 8) * x.length := by
          have := Nat.mul_le_mul_left (10 * x.length + 8) (show k + 1 ≤ x.length by omega)
          rw [Nat.mul_succ] at this
          exact this
        omega)
      have HSM := Lib.hid (fun v d (ho : VOk v d) (rest r' : List Int) (b : Int) (hrl2 : rest.length = m + 1) (hm1 : m < rest.length) => @dv_step x y q r rest r' nw i m b v d ho hi hql.out HXY.out hki (by have := hrl.out; have := HM.out; omega) hmnl hrl2 hm1)
      have HE1 := Lib.hid (show x.length - k = i + 1 by have := HM.out; omega)
      have HE2 := Lib.hid (show x.length - (k + 1) = i by have := HM.out; omega)
      rw [HE1.out] at hho
      obtain ⟨s, HSV⟩ : ∃ s, Hid (x[i] = s) := ⟨_, Lib.hid rfl⟩
      rw [HSV.out] at c1 HLX HSM
      subst hA
      have HQN := Lib.hid (show (i : Int) - 1 = (x.length : Int) - 1 - ((k + 1 : Nat) : Int) by have := HM.out; omega)
      have hw4 : IntKind.i64.wrap ((i : Int) - 1) = (i : Int) - 1 := IntWalk.i64_in _ (by omega)
      have hge : decide (0 ≤ (i : Int)) = true := by simp
      have HIM := Lib.hid hki
      -- the remainder with a bit more
      have hba := (Below.refl wr.heap.size wr).alloc (Nat.le_refl _) (.cells #[.int .i64 s] 3)
      obtain ⟨RA, rc, hu10, hrrow⟩ : ∃ RA rc, u10 = .slice RA k rc ∧ WRow wr.heap.size wr RA r := by
        obtain ⟨RA, rc, e1, _, _⟩ := hro.out.form
        rw [hrl.out] at e1
        subst e1
        exact ⟨RA, rc, rfl, hro.out.wrow.2.2⟩
      subst hu10
      obtain ⟨X, cap, w8, hrun, hown8, hgr8⟩ := z_append (w := wr.alloc (.cells #[.int .i64 s] 3)) wr.heap.size 1 _ [s] (z_fresh wr [s] wr.heap.size 1 (Nat.le_refl _) rfl (by simp)) rfl RA rc k r hrl.out.symm (((hrrow.later hba).mono hba.size).zrow) (by omega) hba.size
      rw [show 1 + k = m by have := HM.out; omega] at hrun hown8
      have hb8 := hba.trans (grown_below hgr8 (own_lo (z_fresh wr [s] wr.heap.size 1 (Nat.le_refl _) rfl (by simp))) hba.size)
      have HO8 := Lib.hid (show ZOwn w8 wr.heap.size (.slice X m cap) (s :: r) from hown8)
      have HST8 := Lib.hid (hst.out.later hb8 HT.out)
      have HQB8 := Lib.hid (hqb.out.later hb8)
      have HNR8 := Lib.hid (hnr.out.later hb8)
      have HL8 : Hid ((s :: r).length = m) := Lib.hid (by rw [List.length_cons, hrl.out]; exact HM.out)
      have HLR8 : Hid (Lts I gs2 (s :: r)) := Lib.hid fun a ha => by
        rcases List.mem_cons.1 ha with rfl | ha
        · exact HLX.out
        · exact hlr.out a ha
      have HQS := Lib.hid (show qb < wr.heap.size from hqb.out.lt)
      have HWS := Lib.hid (show wr.heap.size ≤ w8.heap.size from hb8.size)
      clear hba hrrow hown8 hgr8 hb8 hst hqb hnr hro hki
      go_upto_region 9 with (at_builtin; refine app_by rfl _ _ 47 47 rfl _ _ rfl rfl _ _ hrun ?_; intro w9 hw9; obtain rfl := hw9.out)
      clear hrun c1 hw9
      obtain ⟨b2, o2, hB, c2⟩ := (HY.out.stp HT.out HST8.out).at (i := i) (by have := HXY.out; omega)
      have HYR := Lib.hid (HY.out.stp HT.out HST8.out)
      subst hB
      have hsl := fun W => sl_to b2 o2 y.length cy m (by have := HXY.out; have := HIM.out; omega) HCY.out W
      have HYT := Lib.hid (show (y.take m).length = m by rw [List.length_take]; have := HXY.out; have := HIM.out; omega)
      have HMB := Lib.hid (show m ≤ 20 by have := HIM.out; omega)
      clear c2
      go_cut [13] (fun s13 wx => ∃ (TA : Option Addr) (tc : Nat) (rest : List Int) (rv3 : Value) (gs3 : List Gt), s13 = .slice TA (m + 1) tc ∧ Hid (Acc n₀ bb mb rv2 I gs2 w9 (7 * (m + 1)) wx (.slice TA (m + 1) tc) rest rv3 gs3) ∧ Hid (rest.length = m + 1) ∧ Hid (Hol I gs3 (SubH ((s :: r) ++ [0]) (y.take m ++ [0]) rest)))
      case first =>
        have hdr : Below w9.heap.size w9 w9.drew := (Below.refl _ _).drew
        have HB := Lib.hid hdr
        have HR := Lib.hid ((HO8.out.wrow.2.2).later hdr)
        have HYW := Lib.hid ((HYR.out.later hdr).taken m)
        refine wp_region_held_drew (S := fun _ => True) (by kernel_rfl) trivial (fun _ => ?_)
        generalize w9.drew = w10 at *
        refine wpAnyH_take (i := 0) (oi := { dst := some 36, op := Op.move (Operand.tmp 0), type := 24, pos := "arithmetic.go:132", after := #[], guard := none }) (v := .pointer (some ⟨bb, 0, none⟩)) rfl (by kernel_rfl) (by kernel_rfl) (by kernel_rfl) (fun _ _ _ h => h) (Or.inl ⟨by rfl, ?_⟩) trivial ?_
        · (intro w' hSw; go_simp)
        simp only [Act.put, List.setIfInBounds_toArray, List.set_cons_zero, List.set_cons_succ]
        refine wpAnyH_take (i := 1) (oi := { dst := some 37, op := Op.move (Operand.tmp 10), type := 47, pos := "arithmetic.go:132", after := #[], guard := none }) (v := .slice X m cap) rfl (by kernel_rfl) (by kernel_rfl) (by kernel_rfl) (fun _ _ _ h => h) (Or.inl ⟨by rfl, ?_⟩) trivial ?_
        · (intro w' hSw; go_simp)
        simp only [Act.put, List.setIfInBounds_toArray, List.set_cons_zero, List.set_cons_succ]
        refine wpAnyH_take (i := 5) (oi := { dst := some 41, op := Op.move (Operand.tmp 2), type := 47, pos := "arithmetic.go:132", after := #[], guard := none }) (v := .slice (some ⟨b2, o2, none⟩) y.length cy) rfl (by kernel_rfl) (by kernel_rfl) (by kernel_rfl) (fun _ _ _ h => h) (Or.inl ⟨by rfl, ?_⟩) trivial ?_
        · (intro w' hSw; go_simp)
        simp only [Act.put, List.setIfInBounds_toArray, List.set_cons_zero, List.set_cons_succ]
        refine wpAnyH_take (i := 6) (oi := { dst := some 42, op := Op.move (Operand.tmp 12), type := 3, pos := "arithmetic.go:132", after := #[], guard := none }) (v := .int .i64 (m : Int)) rfl (by kernel_rfl) (by kernel_rfl) (by kernel_rfl) (fun _ _ _ h => h) (Or.inl ⟨by rfl, ?_⟩) trivial ?_
        · (intro w' hSw; go_simp)
        simp only [Act.put, List.setIfInBounds_toArray, List.set_cons_zero, List.set_cons_succ]
        refine wpAnyH_take (i := 7) (oi := { dst := some 43, op := Op.slice 47 (Operand.tmp 41) none (some (Operand.tmp 42)) none, type := 47, pos := "arithmetic.go:132", after := #[{ on := 5, ground := Ground.data }, { on := 6, ground := Ground.data }], guard := none }) (v := .slice (some ⟨b2, o2, none⟩) m cy) rfl (by kernel_rfl) (by kernel_rfl) (by kernel_rfl) (fun _ _ _ h => h) (Or.inl ⟨by rfl, ?_⟩) trivial ?_
        · (intro w' hSw; go_simp)
        simp only [Act.put, List.setIfInBounds_toArray, List.set_cons_zero, List.set_cons_succ]
        refine wpAnyH_ready (rs := [2, 8]) (by kernel_rfl) (by simp) (AllReadyH.cons (o := { dst := some 38, op := Op.buildSlice 47 1 #[(0, Operand.const (Value.int IntKind.i64 0))], type := 47, pos := "arithmetic.go:132", after := #[], guard := none }) rfl (fun K hK => ?_) (AllReadyH.cons (o := { dst := some 44, op := Op.buildSlice 47 1 #[(0, Operand.const (Value.int IntKind.i64 0))], type := 47, pos := "arithmetic.go:132", after := #[], guard := none }) rfl (fun K hK => ?_) AllReadyH.nil))
        · have hb := (Below.refl w10.heap.size w10).alloc (Nat.le_refl _) (.cells #[.int .i64 0] 3)
          replace HB := Lib.hid (HB.out.trans (hb.mono HB.out.size))
          replace HR := Lib.hid (HR.out.later hb)
          replace HYW := Lib.hid (HYW.out.later hb)
          have HZ1 := Lib.hid (wrow_one w10 0)
          clear hb
          go_simp
          generalize hgw : w10.alloc (.cells #[.int .i64 0] 3) = w11 at *
          clear hgw
          refine hK.out _ _ trivial (fun _ => ?_)
          clear hK K
          try simp only [Act.put, List.setIfInBounds_toArray, List.set_cons_zero, List.set_cons_succ]
          refine wpAnyH_ready (rs := [3, 8]) (by kernel_rfl) (by simp) (AllReadyH.cons (o := { dst := some 39, op := Op.buildSlice 49 2 #[(0, Operand.tmp 37), (1, Operand.tmp 38)], type := 49, pos := "arithmetic.go:132", after := #[{ on := 1, ground := Ground.data }, { on := 2, ground := Ground.data }], guard := none }) rfl (fun K hK => ?_) (AllReadyH.cons (o := { dst := some 44, op := Op.buildSlice 47 1 #[(0, Operand.const (Value.int IntKind.i64 0))], type := 47, pos := "arithmetic.go:132", after := #[], guard := none }) rfl (fun K hK => ?_) AllReadyH.nil))
          · have hb := (Below.refl w11.heap.size w11).alloc (Nat.le_refl _) (.cells #[.slice X m cap, .slice (some ⟨w10.heap.size, 0, none⟩) 1 1] 47)
            replace HB := Lib.hid (HB.out.trans (hb.mono HB.out.size))
            replace HR := Lib.hid (HR.out.later hb)
            replace HYW := Lib.hid (HYW.out.later hb)
            replace HZ1 := Lib.hid (HZ1.out.later hb)
            have HA1 := Lib.hid (heap_alloc_new w11 (.cells #[.slice X m cap, .slice (some ⟨w10.heap.size, 0, none⟩) 1 1] 47))
            clear hb
            go_simp
            generalize hgw : w11.alloc (.cells #[.slice X m cap, .slice (some ⟨w10.heap.size, 0, none⟩) 1 1] 47) = w12 at *
            clear hgw
            refine hK.out _ _ trivial (fun _ => ?_)
            clear hK K
            try simp only [Act.put, List.setIfInBounds_toArray, List.set_cons_zero, List.set_cons_succ]
            refine wpAnyH_ready (rs := [4, 8]) (by kernel_rfl) (by simp) (AllReadyH.cons (o := { dst := some 40, op := Op.call { callee := Callee.value (Operand.func 112), args := #[Operand.tmp 39], argTypes := #[49] }, type := 47, pos := "arithmetic.go:132", after := #[{ on := 3, ground := Ground.data }], guard := none }) rfl (fun K hK => ?_) (AllReadyH.cons (o := { dst := some 44, op := Op.buildSlice 47 1 #[(0, Operand.const (Value.int IntKind.i64 0))], type := 47, pos := "arithmetic.go:132", after := #[], guard := none }) rfl (fun K hK => ?_) AllReadyH.nil))
            · go_simp
              go_at_call 112
              refine (zconcat3 w11.heap.size m 1 X cap (s :: r) (some ⟨w10.heap.size, 0, none⟩) 1 [0] w12 HA1.out HL8.out rfl HR.out.here HZ1.out.here (by have := HMB.out; omega)).mono ?_
              rintro e w13 ⟨CA1, cc1, rfl, ho, hb⟩
              replace HB := Lib.hid (HB.out.trans (hb.mono HB.out.size))
              replace HR := Lib.hid (HR.out.later hb)
              replace HYW := Lib.hid (HYW.out.later hb)
              replace HZ1 := Lib.hid (HZ1.out.later hb)
              replace HA1 := Lib.hid ((hb.block _ (Go.Proofs.Ytbcabnbgkicfdaa.hlt HA1.out)).trans HA1.out)
              have HC1 := Lib.hid (ho.wrow.2.2)
              have HO1 := Lib.hid ho.wrow.1
              clear ho hb
              refine hK.out _ _ trivial (fun _ => ?_)
              clear hK K
              try simp only [Act.put, List.setIfInBounds_toArray, List.set_cons_zero, List.set_cons_succ]
              refine wpAnyH_ready (rs := [8]) (by kernel_rfl) (by simp) (AllReadyH.cons (o := { dst := some 44, op := Op.buildSlice 47 1 #[(0, Operand.const (Value.int IntKind.i64 0))], type := 47, pos := "arithmetic.go:132", after := #[], guard := none }) rfl (fun K hK => ?_) AllReadyH.nil)
              have hb := (Below.refl w13.heap.size w13).alloc (Nat.le_refl _) (.cells #[.int .i64 0] 3)
              replace HB := Lib.hid (HB.out.trans (hb.mono HB.out.size))
              replace HR := Lib.hid (HR.out.later hb)
              replace HYW := Lib.hid (HYW.out.later hb)
              replace HZ1 := Lib.hid (HZ1.out.later hb)
              replace HA1 := Lib.hid ((hb.block _ (Go.Proofs.Ytbcabnbgkicfdaa.hlt HA1.out)).trans HA1.out)
              replace HC1 := Lib.hid (HC1.out.later hb)
              have HZ2 := Lib.hid (wrow_one w13 0)
              clear hb
              go_simp
              generalize hgw : w13.alloc (.cells #[.int .i64 0] 3) = w14 at *
              clear hgw
              refine hK.out _ _ trivial (fun _ => ?_)
              clear hK K
              try simp only [Act.put, List.setIfInBounds_toArray, List.set_cons_zero, List.set_cons_succ]
              refine wpAnyH_ready (rs := [9]) (by kernel_rfl) (by simp) (AllReadyH.cons (o := { dst := some 45, op := Op.buildSlice 49 2 #[(0, Operand.tmp 43), (1, Operand.tmp 44)], type := 49, pos := "arithmetic.go:132", after := #[{ on := 7, ground := Ground.data }, { on := 8, ground := Ground.data }], guard := none }) rfl (fun K hK => ?_) AllReadyH.nil)
              have hb := (Below.refl w14.heap.size w14).alloc (Nat.le_refl _) (.cells #[.slice (some ⟨b2, o2, none⟩) m cy, .slice (some ⟨w13.heap.size, 0, none⟩) 1 1] 47)
              replace HB := Lib.hid (HB.out.trans (hb.mono HB.out.size))
              replace HR := Lib.hid (HR.out.later hb)
              replace HYW := Lib.hid (HYW.out.later hb)
              replace HZ1 := Lib.hid (HZ1.out.later hb)
              replace HA1 := Lib.hid ((hb.block _ (Go.Proofs.Ytbcabnbgkicfdaa.hlt HA1.out)).trans HA1.out)
              replace HC1 := Lib.hid (HC1.out.later hb)
              replace HZ2 := Lib.hid (HZ2.out.later hb)
              have HA2 := Lib.hid (heap_alloc_new w14 (.cells #[.slice (some ⟨b2, o2, none⟩) m cy, .slice (some ⟨w13.heap.size, 0, none⟩) 1 1] 47))
              clear hb
              go_simp
              generalize hgw : w14.alloc (.cells #[.slice (some ⟨b2, o2, none⟩) m cy, .slice (some ⟨w13.heap.size, 0, none⟩) 1 1] 47) = w15 at *
              clear hgw
              refine hK.out _ _ trivial (fun _ => ?_)
              clear hK K
              try simp only [Act.put, List.setIfInBounds_toArray, List.set_cons_zero, List.set_cons_succ]
              refine wpAnyH_ready (rs := [10]) (by kernel_rfl) (by simp) (AllReadyH.cons (o := { dst := some 46, op := Op.call { callee := Callee.value (Operand.func 112), args := #[Operand.tmp 45], argTypes := #[49] }, type := 47, pos := "arithmetic.go:132", after := #[{ on := 9, ground := Ground.data }, { on := 4, ground := Ground.chain }], guard := none }) rfl (fun K hK => ?_) AllReadyH.nil)
              go_simp
              go_at_call 112
              refine (zconcat3 w14.heap.size m 1 (some ⟨b2, o2, none⟩) cy (y.take m) (some ⟨w13.heap.size, 0, none⟩) 1 [0] w15 HA2.out HYT.out rfl HYW.out.here HZ2.out.here (by have := HMB.out; omega)).mono ?_
              rintro e w16 ⟨CA2, cc2, rfl, ho, hb⟩
              replace HB := Lib.hid (HB.out.trans (hb.mono HB.out.size))
              replace HR := Lib.hid (HR.out.later hb)
              replace HYW := Lib.hid (HYW.out.later hb)
              replace HZ1 := Lib.hid (HZ1.out.later hb)
              replace HA1 := Lib.hid ((hb.block _ (Go.Proofs.Ytbcabnbgkicfdaa.hlt HA1.out)).trans HA1.out)
              replace HC1 := Lib.hid (HC1.out.later hb)
              replace HZ2 := Lib.hid (HZ2.out.later hb)
              replace HA2 := Lib.hid ((hb.block _ (Go.Proofs.Ytbcabnbgkicfdaa.hlt HA2.out)).trans HA2.out)
              have HC2 := Lib.hid (ho.wrow.2.2)
              have HO2 := Lib.hid ho.wrow.1
              clear ho hb
              refine hK.out _ _ trivial (fun _ => ?_)
              clear hK K
              try simp only [Act.put, List.setIfInBounds_toArray, List.set_cons_zero, List.set_cons_succ]
              refine wpAnyH_ready (rs := [11]) (by kernel_rfl) (by simp) (AllReadyH.cons (o := { dst := some 47, op := Op.call { callee := Callee.value (Operand.func 80), args := #[Operand.tmp 36, Operand.tmp 40, Operand.tmp 46], argTypes := #[24, 47, 47] }, type := 47, pos := "arithmetic.go:132", after := #[{ on := 0, ground := Ground.data }, { on := 4, ground := Ground.data }, { on := 10, ground := Ground.data }, { on := 10, ground := Ground.chain }], guard := none }) rfl (fun K hK => ?_) AllReadyH.nil)
              have HBS := Lib.hid (HST8.out.tab.later HB.out)
              have HDF := difference_any (w := w16) CA1 cc1 ((s :: r) ++ [0]) CA2 cc2 (y.take m ++ [0]) HBS.out HC1.out.here HC2.out.here (HLR8.out.snoc (lts_zeros HBS.out 1 0 (by simp))) ((((LY.out.more HST8.out.grow).sub fun a ha => List.mem_of_mem_take ha)).snoc (lts_zeros HBS.out 1 0 (by simp))) (by rw [← HO1.out]; have := HMB.out; omega) (by rw [← HO1.out, ← HO2.out]) (by rw [← HO1.out]; have := HNB.out; have := HMB.out; have := HIM.out; omega)
              rw [← HO1.out, ← HO2.out] at HDF
              have HDF := Lib.hid HDF
              go_simp
              go_at_call 80
              refine HDF.out.mono ?_
              rintro e w17 ⟨TA, tc, rest, rv3, gs3, rfl, hac, hrl2, hh⟩
              have HFIN := Lib.hid (hac.ahead HB.out)
              have HFL := Lib.hid hrl2
              have HFH := Lib.hid hh
              clear hac hrl2 hh HDF
              refine hK.out _ _ trivial (fun _ => ?_)
              clear hK K
              try simp only [Act.put, List.setIfInBounds_toArray, List.set_cons_zero, List.set_cons_succ]
              refine wpAnyH_take (i := 12) (oi := { dst := some 13, op := Op.assign (Operand.tmp 47), type := 47, pos := "arithmetic.go:132", after := #[{ on := 11, ground := Ground.data }, { on := 11, ground := Ground.chain }, { on := 0, ground := Ground.phase }, { on := 1, ground := Ground.phase }, { on := 2, ground := Ground.phase }, { on := 3, ground := Ground.phase }, { on := 4, ground := Ground.phase }, { on := 5, ground := Ground.phase }, { on := 6, ground := Ground.phase }, { on := 7, ground := Ground.phase }, { on := 8, ground := Ground.phase }, { on := 9, ground := Ground.phase }, { on := 10, ground := Ground.phase }, { on := 11, ground := Ground.phase }], guard := none }) (v := .slice TA (m + 1) tc) rfl (by kernel_rfl) (by kernel_rfl) (by kernel_rfl) (fun _ _ _ h => h) (Or.inl ⟨by rfl, ?_⟩) trivial ?_
              · (intro w' hSw; go_simp)
              simp only [Act.put, List.setIfInBounds_toArray, List.set_cons_zero, List.set_cons_succ]
              refine wpAnyH_done (by kernel_rfl) ?_ _
              go_wp2_with (fail)
              go_meet
              exact ⟨TA, tc, rest, rv3, gs3, rfl, HFIN, HFL, HFH⟩
            · have hb := (Below.refl w12.heap.size w12).alloc (Nat.le_refl _) (.cells #[.int .i64 0] 3)
              replace HB := Lib.hid (HB.out.trans (hb.mono HB.out.size))
              replace HR := Lib.hid (HR.out.later hb)
              replace HYW := Lib.hid (HYW.out.later hb)
              replace HZ1 := Lib.hid (HZ1.out.later hb)
              replace HA1 := Lib.hid ((hb.block _ (Go.Proofs.Ytbcabnbgkicfdaa.hlt HA1.out)).trans HA1.out)
              have HZ2 := Lib.hid (wrow_one w12 0)
              clear hb
              go_simp
              generalize hgw : w12.alloc (.cells #[.int .i64 0] 3) = w13 at *
              clear hgw
              refine hK.out _ _ trivial (fun _ => ?_)
              clear hK K
              try simp only [Act.put, List.setIfInBounds_toArray, List.set_cons_zero, List.set_cons_succ]
              refine wpAnyH_ready (rs := [4, 9]) (by kernel_rfl) (by simp) (AllReadyH.cons (o := { dst := some 40, op := Op.call { callee := Callee.value (Operand.func 112), args := #[Operand.tmp 39], argTypes := #[49] }, type := 47, pos := "arithmetic.go:132", after := #[{ on := 3, ground := Ground.data }], guard := none }) rfl (fun K hK => ?_) (AllReadyH.cons (o := { dst := some 45, op := Op.buildSlice 49 2 #[(0, Operand.tmp 43), (1, Operand.tmp 44)], type := 49, pos := "arithmetic.go:132", after := #[{ on := 7, ground := Ground.data }, { on := 8, ground := Ground.data }], guard := none }) rfl (fun K hK => ?_) AllReadyH.nil))
              · go_simp
                go_at_call 112
                refine (zconcat3 w11.heap.size m 1 X cap (s :: r) (some ⟨w10.heap.size, 0, none⟩) 1 [0] w13 HA1.out HL8.out rfl HR.out.here HZ1.out.here (by have := HMB.out; omega)).mono ?_
                rintro e w14 ⟨CA1, cc1, rfl, ho, hb⟩
                replace HB := Lib.hid (HB.out.trans (hb.mono HB.out.size))
                replace HR := Lib.hid (HR.out.later hb)
                replace HYW := Lib.hid (HYW.out.later hb)
                replace HZ1 := Lib.hid (HZ1.out.later hb)
                replace HA1 := Lib.hid ((hb.block _ (Go.Proofs.Ytbcabnbgkicfdaa.hlt HA1.out)).trans HA1.out)
                replace HZ2 := Lib.hid (HZ2.out.later hb)
                have HC1 := Lib.hid (ho.wrow.2.2)
                have HO1 := Lib.hid ho.wrow.1
                clear ho hb
                refine hK.out _ _ trivial (fun _ => ?_)
                clear hK K
                try simp only [Act.put, List.setIfInBounds_toArray, List.set_cons_zero, List.set_cons_succ]
                refine wpAnyH_ready (rs := [9]) (by kernel_rfl) (by simp) (AllReadyH.cons (o := { dst := some 45, op := Op.buildSlice 49 2 #[(0, Operand.tmp 43), (1, Operand.tmp 44)], type := 49, pos := "arithmetic.go:132", after := #[{ on := 7, ground := Ground.data }, { on := 8, ground := Ground.data }], guard := none }) rfl (fun K hK => ?_) AllReadyH.nil)
                have hb := (Below.refl w14.heap.size w14).alloc (Nat.le_refl _) (.cells #[.slice (some ⟨b2, o2, none⟩) m cy, .slice (some ⟨w12.heap.size, 0, none⟩) 1 1] 47)
                replace HB := Lib.hid (HB.out.trans (hb.mono HB.out.size))
                replace HR := Lib.hid (HR.out.later hb)
                replace HYW := Lib.hid (HYW.out.later hb)
                replace HZ1 := Lib.hid (HZ1.out.later hb)
                replace HA1 := Lib.hid ((hb.block _ (Go.Proofs.Ytbcabnbgkicfdaa.hlt HA1.out)).trans HA1.out)
                replace HZ2 := Lib.hid (HZ2.out.later hb)
                replace HC1 := Lib.hid (HC1.out.later hb)
                have HA2 := Lib.hid (heap_alloc_new w14 (.cells #[.slice (some ⟨b2, o2, none⟩) m cy, .slice (some ⟨w12.heap.size, 0, none⟩) 1 1] 47))
                clear hb
                go_simp
                generalize hgw : w14.alloc (.cells #[.slice (some ⟨b2, o2, none⟩) m cy, .slice (some ⟨w12.heap.size, 0, none⟩) 1 1] 47) = w15 at *
                clear hgw
                refine hK.out _ _ trivial (fun _ => ?_)
                clear hK K
                try simp only [Act.put, List.setIfInBounds_toArray, List.set_cons_zero, List.set_cons_succ]
                refine wpAnyH_ready (rs := [10]) (by kernel_rfl) (by simp) (AllReadyH.cons (o := { dst := some 46, op := Op.call { callee := Callee.value (Operand.func 112), args := #[Operand.tmp 45], argTypes := #[49] }, type := 47, pos := "arithmetic.go:132", after := #[{ on := 9, ground := Ground.data }, { on := 4, ground := Ground.chain }], guard := none }) rfl (fun K hK => ?_) AllReadyH.nil)
                go_simp
                go_at_call 112
                refine (zconcat3 w14.heap.size m 1 (some ⟨b2, o2, none⟩) cy (y.take m) (some ⟨w12.heap.size, 0, none⟩) 1 [0] w15 HA2.out HYT.out rfl HYW.out.here HZ2.out.here (by have := HMB.out; omega)).mono ?_
                rintro e w16 ⟨CA2, cc2, rfl, ho, hb⟩
                replace HB := Lib.hid (HB.out.trans (hb.mono HB.out.size))
                replace HR := Lib.hid (HR.out.later hb)
                replace HYW := Lib.hid (HYW.out.later hb)
                replace HZ1 := Lib.hid (HZ1.out.later hb)
                replace HA1 := Lib.hid ((hb.block _ (Go.Proofs.Ytbcabnbgkicfdaa.hlt HA1.out)).trans HA1.out)
                replace HZ2 := Lib.hid (HZ2.out.later hb)
                replace HC1 := Lib.hid (HC1.out.later hb)
                replace HA2 := Lib.hid ((hb.block _ (Go.Proofs.Ytbcabnbgkicfdaa.hlt HA2.out)).trans HA2.out)
                have HC2 := Lib.hid (ho.wrow.2.2)
                have HO2 := Lib.hid ho.wrow.1
                clear ho hb
                refine hK.out _ _ trivial (fun _ => ?_)
                clear hK K
                try simp only [Act.put, List.setIfInBounds_toArray, List.set_cons_zero, List.set_cons_succ]
                refine wpAnyH_ready (rs := [11]) (by kernel_rfl) (by simp) (AllReadyH.cons (o := { dst := some 47, op := Op.call { callee := Callee.value (Operand.func 80), args := #[Operand.tmp 36, Operand.tmp 40, Operand.tmp 46], argTypes := #[24, 47, 47] }, type := 47, pos := "arithmetic.go:132", after := #[{ on := 0, ground := Ground.data }, { on := 4, ground := Ground.data }, { on := 10, ground := Ground.data }, { on := 10, ground := Ground.chain }], guard := none }) rfl (fun K hK => ?_) AllReadyH.nil)
                have HBS := Lib.hid (HST8.out.tab.later HB.out)
                have HDF := difference_any (w := w16) CA1 cc1 ((s :: r) ++ [0]) CA2 cc2 (y.take m ++ [0]) HBS.out HC1.out.here HC2.out.here (HLR8.out.snoc (lts_zeros HBS.out 1 0 (by simp))) ((((LY.out.more HST8.out.grow).sub fun a ha => List.mem_of_mem_take ha)).snoc (lts_zeros HBS.out 1 0 (by simp))) (by rw [← HO1.out]; have := HMB.out; omega) (by rw [← HO1.out, ← HO2.out]) (by rw [← HO1.out]; have := HNB.out; have := HMB.out; have := HIM.out; omega)
                rw [← HO1.out, ← HO2.out] at HDF
                have HDF := Lib.hid HDF
                go_simp
                go_at_call 80
                refine HDF.out.mono ?_
                rintro e w17 ⟨TA, tc, rest, rv3, gs3, rfl, hac, hrl2, hh⟩
                have HFIN := Lib.hid (hac.ahead HB.out)
                have HFL := Lib.hid hrl2
                have HFH := Lib.hid hh
                clear hac hrl2 hh HDF
                refine hK.out _ _ trivial (fun _ => ?_)
                clear hK K
                try simp only [Act.put, List.setIfInBounds_toArray, List.set_cons_zero, List.set_cons_succ]
                refine wpAnyH_take (i := 12) (oi := { dst := some 13, op := Op.assign (Operand.tmp 47), type := 47, pos := "arithmetic.go:132", after := #[{ on := 11, ground := Ground.data }, { on := 11, ground := Ground.chain }, { on := 0, ground := Ground.phase }, { on := 1, ground := Ground.phase }, { on := 2, ground := Ground.phase }, { on := 3, ground := Ground.phase }, { on := 4, ground := Ground.phase }, { on := 5, ground := Ground.phase }, { on := 6, ground := Ground.phase }, { on := 7, ground := Ground.phase }, { on := 8, ground := Ground.phase }, { on := 9, ground := Ground.phase }, { on := 10, ground := Ground.phase }, { on := 11, ground := Ground.phase }], guard := none }) (v := .slice TA (m + 1) tc) rfl (by kernel_rfl) (by kernel_rfl) (by kernel_rfl) (fun _ _ _ h => h) (Or.inl ⟨by rfl, ?_⟩) trivial ?_
                · (intro w' hSw; go_simp)
                simp only [Act.put, List.setIfInBounds_toArray, List.set_cons_zero, List.set_cons_succ]
                refine wpAnyH_done (by kernel_rfl) ?_ _
                go_wp2_with (fail)
                go_meet
                exact ⟨TA, tc, rest, rv3, gs3, rfl, HFIN, HFL, HFH⟩
              · have hb := (Below.refl w13.heap.size w13).alloc (Nat.le_refl _) (.cells #[.slice (some ⟨b2, o2, none⟩) m cy, .slice (some ⟨w12.heap.size, 0, none⟩) 1 1] 47)
                replace HB := Lib.hid (HB.out.trans (hb.mono HB.out.size))
                replace HR := Lib.hid (HR.out.later hb)
                replace HYW := Lib.hid (HYW.out.later hb)
                replace HZ1 := Lib.hid (HZ1.out.later hb)
                replace HA1 := Lib.hid ((hb.block _ (Go.Proofs.Ytbcabnbgkicfdaa.hlt HA1.out)).trans HA1.out)
                replace HZ2 := Lib.hid (HZ2.out.later hb)
                have HA2 := Lib.hid (heap_alloc_new w13 (.cells #[.slice (some ⟨b2, o2, none⟩) m cy, .slice (some ⟨w12.heap.size, 0, none⟩) 1 1] 47))
                clear hb
                go_simp
                generalize hgw : w13.alloc (.cells #[.slice (some ⟨b2, o2, none⟩) m cy, .slice (some ⟨w12.heap.size, 0, none⟩) 1 1] 47) = w14 at *
                clear hgw
                refine hK.out _ _ trivial (fun _ => ?_)
                clear hK K
                try simp only [Act.put, List.setIfInBounds_toArray, List.set_cons_zero, List.set_cons_succ]
                refine wpAnyH_ready (rs := [4]) (by kernel_rfl) (by simp) (AllReadyH.cons (o := { dst := some 40, op := Op.call { callee := Callee.value (Operand.func 112), args := #[Operand.tmp 39], argTypes := #[49] }, type := 47, pos := "arithmetic.go:132", after := #[{ on := 3, ground := Ground.data }], guard := none }) rfl (fun K hK => ?_) AllReadyH.nil)
                go_simp
                go_at_call 112
                refine (zconcat3 w11.heap.size m 1 X cap (s :: r) (some ⟨w10.heap.size, 0, none⟩) 1 [0] w14 HA1.out HL8.out rfl HR.out.here HZ1.out.here (by have := HMB.out; omega)).mono ?_
                rintro e w15 ⟨CA1, cc1, rfl, ho, hb⟩
                replace HB := Lib.hid (HB.out.trans (hb.mono HB.out.size))
                replace HR := Lib.hid (HR.out.later hb)
                replace HYW := Lib.hid (HYW.out.later hb)
                replace HZ1 := Lib.hid (HZ1.out.later hb)
                replace HA1 := Lib.hid ((hb.block _ (Go.Proofs.Ytbcabnbgkicfdaa.hlt HA1.out)).trans HA1.out)
                replace HZ2 := Lib.hid (HZ2.out.later hb)
                replace HA2 := Lib.hid ((hb.block _ (Go.Proofs.Ytbcabnbgkicfdaa.hlt HA2.out)).trans HA2.out)
                have HC1 := Lib.hid (ho.wrow.2.2)
                have HO1 := Lib.hid ho.wrow.1
                clear ho hb
                refine hK.out _ _ trivial (fun _ => ?_)
                clear hK K
                try simp only [Act.put, List.setIfInBounds_toArray, List.set_cons_zero, List.set_cons_succ]
                refine wpAnyH_ready (rs := [10]) (by kernel_rfl) (by simp) (AllReadyH.cons (o := { dst := some 46, op := Op.call { callee := Callee.value (Operand.func 112), args := #[Operand.tmp 45], argTypes := #[49] }, type := 47, pos := "arithmetic.go:132", after := #[{ on := 9, ground := Ground.data }, { on := 4, ground := Ground.chain }], guard := none }) rfl (fun K hK => ?_) AllReadyH.nil)
                go_simp
                go_at_call 112
                refine (zconcat3 w13.heap.size m 1 (some ⟨b2, o2, none⟩) cy (y.take m) (some ⟨w12.heap.size, 0, none⟩) 1 [0] w15 HA2.out HYT.out rfl HYW.out.here HZ2.out.here (by have := HMB.out; omega)).mono ?_
                rintro e w16 ⟨CA2, cc2, rfl, ho, hb⟩
                replace HB := Lib.hid (HB.out.trans (hb.mono HB.out.size))
                replace HR := Lib.hid (HR.out.later hb)
                replace HYW := Lib.hid (HYW.out.later hb)
                replace HZ1 := Lib.hid (HZ1.out.later hb)
                replace HA1 := Lib.hid ((hb.block _ (Go.Proofs.Ytbcabnbgkicfdaa.hlt HA1.out)).trans HA1.out)
                replace HZ2 := Lib.hid (HZ2.out.later hb)
                replace HA2 := Lib.hid ((hb.block _ (Go.Proofs.Ytbcabnbgkicfdaa.hlt HA2.out)).trans HA2.out)
                replace HC1 := Lib.hid (HC1.out.later hb)
                have HC2 := Lib.hid (ho.wrow.2.2)
                have HO2 := Lib.hid ho.wrow.1
                clear ho hb
                refine hK.out _ _ trivial (fun _ => ?_)
                clear hK K
                try simp only [Act.put, List.setIfInBounds_toArray, List.set_cons_zero, List.set_cons_succ]
                refine wpAnyH_ready (rs := [11]) (by kernel_rfl) (by simp) (AllReadyH.cons (o := { dst := some 47, op := Op.call { callee := Callee.value (Operand.func 80), args := #[Operand.tmp 36, Operand.tmp 40, Operand.tmp 46], argTypes := #[24, 47, 47] }, type := 47, pos := "arithmetic.go:132", after := #[{ on := 0, ground := Ground.data }, { on := 4, ground := Ground.data }, { on := 10, ground := Ground.data }, { on := 10, ground := Ground.chain }], guard := none }) rfl (fun K hK => ?_) AllReadyH.nil)
                have HBS := Lib.hid (HST8.out.tab.later HB.out)
                have HDF := difference_any (w := w16) CA1 cc1 ((s :: r) ++ [0]) CA2 cc2 (y.take m ++ [0]) HBS.out HC1.out.here HC2.out.here (HLR8.out.snoc (lts_zeros HBS.out 1 0 (by simp))) ((((LY.out.more HST8.out.grow).sub fun a ha => List.mem_of_mem_take ha)).snoc (lts_zeros HBS.out 1 0 (by simp))) (by rw [← HO1.out]; have := HMB.out; omega) (by rw [← HO1.out, ← HO2.out]) (by rw [← HO1.out]; have := HNB.out; have := HMB.out; have := HIM.out; omega)
                rw [← HO1.out, ← HO2.out] at HDF
                have HDF := Lib.hid HDF
                go_simp
                go_at_call 80
                refine HDF.out.mono ?_
                rintro e w17 ⟨TA, tc, rest, rv3, gs3, rfl, hac, hrl2, hh⟩
                have HFIN := Lib.hid (hac.ahead HB.out)
                have HFL := Lib.hid hrl2
                have HFH := Lib.hid hh
                clear hac hrl2 hh HDF
                refine hK.out _ _ trivial (fun _ => ?_)
                clear hK K
                try simp only [Act.put, List.setIfInBounds_toArray, List.set_cons_zero, List.set_cons_succ]
                refine wpAnyH_take (i := 12) (oi := { dst := some 13, op := Op.assign (Operand.tmp 47), type := 47, pos := "arithmetic.go:132", after := #[{ on := 11, ground := Ground.data }, { on := 11, ground := Ground.chain }, { on := 0, ground := Ground.phase }, { on := 1, ground := Ground.phase }, { on := 2, ground := Ground.phase }, { on := 3, ground := Ground.phase }, { on := 4, ground := Ground.phase }, { on := 5, ground := Ground.phase }, { on := 6, ground := Ground.phase }, { on := 7, ground := Ground.phase }, { on := 8, ground := Ground.phase }, { on := 9, ground := Ground.phase }, { on := 10, ground := Ground.phase }, { on := 11, ground := Ground.phase }], guard := none }) (v := .slice TA (m + 1) tc) rfl (by kernel_rfl) (by kernel_rfl) (by kernel_rfl) (fun _ _ _ h => h) (Or.inl ⟨by rfl, ?_⟩) trivial ?_
                · (intro w' hSw; go_simp)
                simp only [Act.put, List.setIfInBounds_toArray, List.set_cons_zero, List.set_cons_succ]
                refine wpAnyH_done (by kernel_rfl) ?_ _
                go_wp2_with (fail)
                go_meet
                exact ⟨TA, tc, rest, rv3, gs3, rfl, HFIN, HFL, HFH⟩
          · have hb := (Below.refl w11.heap.size w11).alloc (Nat.le_refl _) (.cells #[.int .i64 0] 3)
            replace HB := Lib.hid (HB.out.trans (hb.mono HB.out.size))
            replace HR := Lib.hid (HR.out.later hb)
            replace HYW := Lib.hid (HYW.out.later hb)
            replace HZ1 := Lib.hid (HZ1.out.later hb)
            have HZ2 := Lib.hid (wrow_one w11 0)
            clear hb
            go_simp
            generalize hgw : w11.alloc (.cells #[.int .i64 0] 3) = w12 at *
            clear hgw
            refine hK.out _ _ trivial (fun _ => ?_)
            clear hK K
            try simp only [Act.put, List.setIfInBounds_toArray, List.set_cons_zero, List.set_cons_succ]
            refine wpAnyH_ready (rs := [3, 9]) (by kernel_rfl) (by simp) (AllReadyH.cons (o := { dst := some 39, op := Op.buildSlice 49 2 #[(0, Operand.tmp 37), (1, Operand.tmp 38)], type := 49, pos := "arithmetic.go:132", after := #[{ on := 1, ground := Ground.data }, { on := 2, ground := Ground.data }], guard := none }) rfl (fun K hK => ?_) (AllReadyH.cons (o := { dst := some 45, op := Op.buildSlice 49 2 #[(0, Operand.tmp 43), (1, Operand.tmp 44)], type := 49, pos := "arithmetic.go:132", after := #[{ on := 7, ground := Ground.data }, { on := 8, ground := Ground.data }], guard := none }) rfl (fun K hK => ?_) AllReadyH.nil))
            · have hb := (Below.refl w12.heap.size w12).alloc (Nat.le_refl _) (.cells #[.slice X m cap, .slice (some ⟨w10.heap.size, 0, none⟩) 1 1] 47)
              replace HB := Lib.hid (HB.out.trans (hb.mono HB.out.size))
              replace HR := Lib.hid (HR.out.later hb)
              replace HYW := Lib.hid (HYW.out.later hb)
              replace HZ1 := Lib.hid (HZ1.out.later hb)
              replace HZ2 := Lib.hid (HZ2.out.later hb)
              have HA1 := Lib.hid (heap_alloc_new w12 (.cells #[.slice X m cap, .slice (some ⟨w10.heap.size, 0, none⟩) 1 1] 47))
              clear hb
              go_simp
              generalize hgw : w12.alloc (.cells #[.slice X m cap, .slice (some ⟨w10.heap.size, 0, none⟩) 1 1] 47) = w13 at *
              clear hgw
              refine hK.out _ _ trivial (fun _ => ?_)
              clear hK K
              try simp only [Act.put, List.setIfInBounds_toArray, List.set_cons_zero, List.set_cons_succ]
              refine wpAnyH_ready (rs := [4, 9]) (by kernel_rfl) (by simp) (AllReadyH.cons (o := { dst := some 40, op := Op.call { callee := Callee.value (Operand.func 112), args := #[Operand.tmp 39], argTypes := #[49] }, type := 47, pos := "arithmetic.go:132", after := #[{ on := 3, ground := Ground.data }], guard := none }) rfl (fun K hK => ?_) (AllReadyH.cons (o := { dst := some 45, op := Op.buildSlice 49 2 #[(0, Operand.tmp 43), (1, Operand.tmp 44)], type := 49, pos := "arithmetic.go:132", after := #[{ on := 7, ground := Ground.data }, { on := 8, ground := Ground.data }], guard := none }) rfl (fun K hK => ?_) AllReadyH.nil))
              · go_simp
                go_at_call 112
                refine (zconcat3 w12.heap.size m 1 X cap (s :: r) (some ⟨w10.heap.size, 0, none⟩) 1 [0] w13 HA1.out HL8.out rfl HR.out.here HZ1.out.here (by have := HMB.out; omega)).mono ?_
                rintro e w14 ⟨CA1, cc1, rfl, ho, hb⟩
                replace HB := Lib.hid (HB.out.trans (hb.mono HB.out.size))
                replace HR := Lib.hid (HR.out.later hb)
                replace HYW := Lib.hid (HYW.out.later hb)
                replace HZ1 := Lib.hid (HZ1.out.later hb)
                replace HZ2 := Lib.hid (HZ2.out.later hb)
                replace HA1 := Lib.hid ((hb.block _ (Go.Proofs.Ytbcabnbgkicfdaa.hlt HA1.out)).trans HA1.out)
                have HC1 := Lib.hid (ho.wrow.2.2)
                have HO1 := Lib.hid ho.wrow.1
                clear ho hb
                refine hK.out _ _ trivial (fun _ => ?_)
                clear hK K
                try simp only [Act.put, List.setIfInBounds_toArray, List.set_cons_zero, List.set_cons_succ]
                refine wpAnyH_ready (rs := [9]) (by kernel_rfl) (by simp) (AllReadyH.cons (o := { dst := some 45, op := Op.buildSlice 49 2 #[(0, Operand.tmp 43), (1, Operand.tmp 44)], type := 49, pos := "arithmetic.go:132", after := #[{ on := 7, ground := Ground.data }, { on := 8, ground := Ground.data }], guard := none }) rfl (fun K hK => ?_) AllReadyH.nil)
                have hb := (Below.refl w14.heap.size w14).alloc (Nat.le_refl _) (.cells #[.slice (some ⟨b2, o2, none⟩) m cy, .slice (some ⟨w11.heap.size, 0, none⟩) 1 1] 47)
                replace HB := Lib.hid (HB.out.trans (hb.mono HB.out.size))
                replace HR := Lib.hid (HR.out.later hb)
                replace HYW := Lib.hid (HYW.out.later hb)
                replace HZ1 := Lib.hid (HZ1.out.later hb)
                replace HZ2 := Lib.hid (HZ2.out.later hb)
                replace HA1 := Lib.hid ((hb.block _ (Go.Proofs.Ytbcabnbgkicfdaa.hlt HA1.out)).trans HA1.out)
                replace HC1 := Lib.hid (HC1.out.later hb)
                have HA2 := Lib.hid (heap_alloc_new w14 (.cells #[.slice (some ⟨b2, o2, none⟩) m cy, .slice (some ⟨w11.heap.size, 0, none⟩) 1 1] 47))
                clear hb
                go_simp
                generalize hgw : w14.alloc (.cells #[.slice (some ⟨b2, o2, none⟩) m cy, .slice (some ⟨w11.heap.size, 0, none⟩) 1 1] 47) = w15 at *
                clear hgw
                refine hK.out _ _ trivial (fun _ => ?_)
                clear hK K
                try simp only [Act.put, List.setIfInBounds_toArray, List.set_cons_zero, List.set_cons_succ]
                refine wpAnyH_ready (rs := [10]) (by kernel_rfl) (by simp) (AllReadyH.cons (o := { dst := some 46, op := Op.call { callee := Callee.value (Operand.func 112), args := #[Operand.tmp 45], argTypes := #[49] }, type := 47, pos := "arithmetic.go:132", after := #[{ on := 9, ground := Ground.data }, { on := 4, ground := Ground.chain }], guard := none }) rfl (fun K hK => ?_) AllReadyH.nil)
                go_simp
                go_at_call 112
                refine (zconcat3 w14.heap.size m 1 (some ⟨b2, o2, none⟩) cy (y.take m) (some ⟨w11.heap.size, 0, none⟩) 1 [0] w15 HA2.out HYT.out rfl HYW.out.here HZ2.out.here (by have := HMB.out; omega)).mono ?_
                rintro e w16 ⟨CA2, cc2, rfl, ho, hb⟩
                replace HB := Lib.hid (HB.out.trans (hb.mono HB.out.size))
                replace HR := Lib.hid (HR.out.later hb)
                replace HYW := Lib.hid (HYW.out.later hb)
                replace HZ1 := Lib.hid (HZ1.out.later hb)
                replace HZ2 := Lib.hid (HZ2.out.later hb)
                replace HA1 := Lib.hid ((hb.block _ (Go.Proofs.Ytbcabnbgkicfdaa.hlt HA1.out)).trans HA1.out)
                replace HC1 := Lib.hid (HC1.out.later hb)
                replace HA2 := Lib.hid ((hb.block _ (Go.Proofs.Ytbcabnbgkicfdaa.hlt HA2.out)).trans HA2.out)
                have HC2 := Lib.hid (ho.wrow.2.2)
                have HO2 := Lib.hid ho.wrow.1
                clear ho hb
                refine hK.out _ _ trivial (fun _ => ?_)
                clear hK K
                try simp only [Act.put, List.setIfInBounds_toArray, List.set_cons_zero, List.set_cons_succ]
                refine wpAnyH_ready (rs := [11]) (by kernel_rfl) (by simp) (AllReadyH.cons (o := { dst := some 47, op := Op.call { callee := Callee.value (Operand.func 80), args := #[Operand.tmp 36, Operand.tmp 40, Operand.tmp 46], argTypes := #[24, 47, 47] }, type := 47, pos := "arithmetic.go:132", after := #[{ on := 0, ground := Ground.data }, { on := 4, ground := Ground.data }, { on := 10, ground := Ground.data }, { on := 10, ground := Ground.chain }], guard := none }) rfl (fun K hK => ?_) AllReadyH.nil)
                have HBS := Lib.hid (HST8.out.tab.later HB.out)
                have HDF := difference_any (w := w16) CA1 cc1 ((s :: r) ++ [0]) CA2 cc2 (y.take m ++ [0]) HBS.out HC1.out.here HC2.out.here (HLR8.out.snoc (lts_zeros HBS.out 1 0 (by simp))) ((((LY.out.more HST8.out.grow).sub fun a ha => List.mem_of_mem_take ha)).snoc (lts_zeros HBS.out 1 0 (by simp))) (by rw [← HO1.out]; have := HMB.out; omega) (by rw [← HO1.out, ← HO2.out]) (by rw [← HO1.out]; have := HNB.out; have := HMB.out; have := HIM.out; omega)
                rw [← HO1.out, ← HO2.out] at HDF
                have HDF := Lib.hid HDF
                go_simp
                go_at_call 80
                refine HDF.out.mono ?_
                rintro e w17 ⟨TA, tc, rest, rv3, gs3, rfl, hac, hrl2, hh⟩
                have HFIN := Lib.hid (hac.ahead HB.out)
                have HFL := Lib.hid hrl2
                have HFH := Lib.hid hh
                clear hac hrl2 hh HDF
                refine hK.out _ _ trivial (fun _ => ?_)
                clear hK K
                try simp only [Act.put, List.setIfInBounds_toArray, List.set_cons_zero, List.set_cons_succ]
                refine wpAnyH_take (i := 12) (oi := { dst := some 13, op := Op.assign (Operand.tmp 47), type := 47, pos := "arithmetic.go:132", after := #[{ on := 11, ground := Ground.data }, { on := 11, ground := Ground.chain }, { on := 0, ground := Ground.phase }, { on := 1, ground := Ground.phase }, { on := 2, ground := Ground.phase }, { on := 3, ground := Ground.phase }, { on := 4, ground := Ground.phase }, { on := 5, ground := Ground.phase }, { on := 6, ground := Ground.phase }, { on := 7, ground := Ground.phase }, { on := 8, ground := Ground.phase }, { on := 9, ground := Ground.phase }, { on := 10, ground := Ground.phase }, { on := 11, ground := Ground.phase }], guard := none }) (v := .slice TA (m + 1) tc) rfl (by kernel_rfl) (by kernel_rfl) (by kernel_rfl) (fun _ _ _ h => h) (Or.inl ⟨by rfl, ?_⟩) trivial ?_
                · (intro w' hSw; go_simp)
                simp only [Act.put, List.setIfInBounds_toArray, List.set_cons_zero, List.set_cons_succ]
                refine wpAnyH_done (by kernel_rfl) ?_ _
                go_wp2_with (fail)
                go_meet
                exact ⟨TA, tc, rest, rv3, gs3, rfl, HFIN, HFL, HFH⟩
              · have hb := (Below.refl w13.heap.size w13).alloc (Nat.le_refl _) (.cells #[.slice (some ⟨b2, o2, none⟩) m cy, .slice (some ⟨w11.heap.size, 0, none⟩) 1 1] 47)
                replace HB := Lib.hid (HB.out.trans (hb.mono HB.out.size))
                replace HR := Lib.hid (HR.out.later hb)
                replace HYW := Lib.hid (HYW.out.later hb)
                replace HZ1 := Lib.hid (HZ1.out.later hb)
                replace HZ2 := Lib.hid (HZ2.out.later hb)
                replace HA1 := Lib.hid ((hb.block _ (Go.Proofs.Ytbcabnbgkicfdaa.hlt HA1.out)).trans HA1.out)
                have HA2 := Lib.hid (heap_alloc_new w13 (.cells #[.slice (some ⟨b2, o2, none⟩) m cy, .slice (some ⟨w11.heap.size, 0, none⟩) 1 1] 47))
                clear hb
                go_simp
                generalize hgw : w13.alloc (.cells #[.slice (some ⟨b2, o2, none⟩) m cy, .slice (some ⟨w11.heap.size, 0, none⟩) 1 1] 47) = w14 at *
                clear hgw
                refine hK.out _ _ trivial (fun _ => ?_)
                clear hK K
                try simp only [Act.put, List.setIfInBounds_toArray, List.set_cons_zero, List.set_cons_succ]
                refine wpAnyH_ready (rs := [4]) (by kernel_rfl) (by simp) (AllReadyH.cons (o := { dst := some 40, op := Op.call { callee := Callee.value (Operand.func 112), args := #[Operand.tmp 39], argTypes := #[49] }, type := 47, pos := "arithmetic.go:132", after := #[{ on := 3, ground := Ground.data }], guard := none }) rfl (fun K hK => ?_) AllReadyH.nil)
                go_simp
                go_at_call 112
                refine (zconcat3 w12.heap.size m 1 X cap (s :: r) (some ⟨w10.heap.size, 0, none⟩) 1 [0] w14 HA1.out HL8.out rfl HR.out.here HZ1.out.here (by have := HMB.out; omega)).mono ?_
                rintro e w15 ⟨CA1, cc1, rfl, ho, hb⟩
                replace HB := Lib.hid (HB.out.trans (hb.mono HB.out.size))
                replace HR := Lib.hid (HR.out.later hb)
                replace HYW := Lib.hid (HYW.out.later hb)
                replace HZ1 := Lib.hid (HZ1.out.later hb)
                replace HZ2 := Lib.hid (HZ2.out.later hb)
                replace HA1 := Lib.hid ((hb.block _ (Go.Proofs.Ytbcabnbgkicfdaa.hlt HA1.out)).trans HA1.out)
                replace HA2 := Lib.hid ((hb.block _ (Go.Proofs.Ytbcabnbgkicfdaa.hlt HA2.out)).trans HA2.out)
                have HC1 := Lib.hid (ho.wrow.2.2)
                have HO1 := Lib.hid ho.wrow.1
                clear ho hb
                refine hK.out _ _ trivial (fun _ => ?_)
                clear hK K
                try simp only [Act.put, List.setIfInBounds_toArray, List.set_cons_zero, List.set_cons_succ]
                refine wpAnyH_ready (rs := [10]) (by kernel_rfl) (by simp) (AllReadyH.cons (o := { dst := some 46, op := Op.call { callee := Callee.value (Operand.func 112), args := #[Operand.tmp 45], argTypes := #[49] }, type := 47, pos := "arithmetic.go:132", after := #[{ on := 9, ground := Ground.data }, { on := 4, ground := Ground.chain }], guard := none }) rfl (fun K hK => ?_) AllReadyH.nil)
                go_simp
                go_at_call 112
                refine (zconcat3 w13.heap.size m 1 (some ⟨b2, o2, none⟩) cy (y.take m) (some ⟨w11.heap.size, 0, none⟩) 1 [0] w15 HA2.out HYT.out rfl HYW.out.here HZ2.out.here (by have := HMB.out; omega)).mono ?_
                rintro e w16 ⟨CA2, cc2, rfl, ho, hb⟩
                replace HB := Lib.hid (HB.out.trans (hb.mono HB.out.size))
                replace HR := Lib.hid (HR.out.later hb)
                replace HYW := Lib.hid (HYW.out.later hb)
                replace HZ1 := Lib.hid (HZ1.out.later hb)
                replace HZ2 := Lib.hid (HZ2.out.later hb)
                replace HA1 := Lib.hid ((hb.block _ (Go.Proofs.Ytbcabnbgkicfdaa.hlt HA1.out)).trans HA1.out)
                replace HA2 := Lib.hid ((hb.block _ (Go.Proofs.Ytbcabnbgkicfdaa.hlt HA2.out)).trans HA2.out)
                replace HC1 := Lib.hid (HC1.out.later hb)
                have HC2 := Lib.hid (ho.wrow.2.2)
                have HO2 := Lib.hid ho.wrow.1
                clear ho hb
                refine hK.out _ _ trivial (fun _ => ?_)
                clear hK K
                try simp only [Act.put, List.setIfInBounds_toArray, List.set_cons_zero, List.set_cons_succ]
                refine wpAnyH_ready (rs := [11]) (by kernel_rfl) (by simp) (AllReadyH.cons (o := { dst := some 47, op := Op.call { callee := Callee.value (Operand.func 80), args := #[Operand.tmp 36, Operand.tmp 40, Operand.tmp 46], argTypes := #[24, 47, 47] }, type := 47, pos := "arithmetic.go:132", after := #[{ on := 0, ground := Ground.data }, { on := 4, ground := Ground.data }, { on := 10, ground := Ground.data }, { on := 10, ground := Ground.chain }], guard := none }) rfl (fun K hK => ?_) AllReadyH.nil)
                have HBS := Lib.hid (HST8.out.tab.later HB.out)
                have HDF := difference_any (w := w16) CA1 cc1 ((s :: r) ++ [0]) CA2 cc2 (y.take m ++ [0]) HBS.out HC1.out.here HC2.out.here (HLR8.out.snoc (lts_zeros HBS.out 1 0 (by simp))) ((((LY.out.more HST8.out.grow).sub fun a ha => List.mem_of_mem_take ha)).snoc (lts_zeros HBS.out 1 0 (by simp))) (by rw [← HO1.out]; have := HMB.out; omega) (by rw [← HO1.out, ← HO2.out]) (by rw [← HO1.out]; have := HNB.out; have := HMB.out; have := HIM.out; omega)
                rw [← HO1.out, ← HO2.out] at HDF
                have HDF := Lib.hid HDF
                go_simp
                go_at_call 80
                refine HDF.out.mono ?_
                rintro e w17 ⟨TA, tc, rest, rv3, gs3, rfl, hac, hrl2, hh⟩
                have HFIN := Lib.hid (hac.ahead HB.out)
                have HFL := Lib.hid hrl2
                have HFH := Lib.hid hh
                clear hac hrl2 hh HDF
                refine hK.out _ _ trivial (fun _ => ?_)
                clear hK K
                try simp only [Act.put, List.setIfInBounds_toArray, List.set_cons_zero, List.set_cons_succ]
                refine wpAnyH_take (i := 12) (oi := { dst := some 13, op := Op.assign (Operand.tmp 47), type := 47, pos := "arithmetic.go:132", after := #[{ on := 11, ground := Ground.data }, { on := 11, ground := Ground.chain }, { on := 0, ground := Ground.phase }, { on := 1, ground := Ground.phase }, { on := 2, ground := Ground.phase }, { on := 3, ground := Ground.phase }, { on := 4, ground := Ground.phase }, { on := 5, ground := Ground.phase }, { on := 6, ground := Ground.phase }, { on := 7, ground := Ground.phase }, { on := 8, ground := Ground.phase }, { on := 9, ground := Ground.phase }, { on := 10, ground := Ground.phase }, { on := 11, ground := Ground.phase }], guard := none }) (v := .slice TA (m + 1) tc) rfl (by kernel_rfl) (by kernel_rfl) (by kernel_rfl) (fun _ _ _ h => h) (Or.inl ⟨by rfl, ?_⟩) trivial ?_
                · (intro w' hSw; go_simp)
                simp only [Act.put, List.setIfInBounds_toArray, List.set_cons_zero, List.set_cons_succ]
                refine wpAnyH_done (by kernel_rfl) ?_ _
                go_wp2_with (fail)
                go_meet
                exact ⟨TA, tc, rest, rv3, gs3, rfl, HFIN, HFL, HFH⟩
            · have hb := (Below.refl w12.heap.size w12).alloc (Nat.le_refl _) (.cells #[.slice (some ⟨b2, o2, none⟩) m cy, .slice (some ⟨w11.heap.size, 0, none⟩) 1 1] 47)
              replace HB := Lib.hid (HB.out.trans (hb.mono HB.out.size))
              replace HR := Lib.hid (HR.out.later hb)
              replace HYW := Lib.hid (HYW.out.later hb)
              replace HZ1 := Lib.hid (HZ1.out.later hb)
              replace HZ2 := Lib.hid (HZ2.out.later hb)
              have HA2 := Lib.hid (heap_alloc_new w12 (.cells #[.slice (some ⟨b2, o2, none⟩) m cy, .slice (some ⟨w11.heap.size, 0, none⟩) 1 1] 47))
              clear hb
              go_simp
              generalize hgw : w12.alloc (.cells #[.slice (some ⟨b2, o2, none⟩) m cy, .slice (some ⟨w11.heap.size, 0, none⟩) 1 1] 47) = w13 at *
              clear hgw
              refine hK.out _ _ trivial (fun _ => ?_)
              clear hK K
              try simp only [Act.put, List.setIfInBounds_toArray, List.set_cons_zero, List.set_cons_succ]
              refine wpAnyH_ready (rs := [3]) (by kernel_rfl) (by simp) (AllReadyH.cons (o := { dst := some 39, op := Op.buildSlice 49 2 #[(0, Operand.tmp 37), (1, Operand.tmp 38)], type := 49, pos := "arithmetic.go:132", after := #[{ on := 1, ground := Ground.data }, { on := 2, ground := Ground.data }], guard := none }) rfl (fun K hK => ?_) AllReadyH.nil)
              have hb := (Below.refl w13.heap.size w13).alloc (Nat.le_refl _) (.cells #[.slice X m cap, .slice (some ⟨w10.heap.size, 0, none⟩) 1 1] 47)
              replace HB := Lib.hid (HB.out.trans (hb.mono HB.out.size))
              replace HR := Lib.hid (HR.out.later hb)
              replace HYW := Lib.hid (HYW.out.later hb)
              replace HZ1 := Lib.hid (HZ1.out.later hb)
              replace HZ2 := Lib.hid (HZ2.out.later hb)
              replace HA2 := Lib.hid ((hb.block _ (Go.Proofs.Ytbcabnbgkicfdaa.hlt HA2.out)).trans HA2.out)
              have HA1 := Lib.hid (heap_alloc_new w13 (.cells #[.slice X m cap, .slice (some ⟨w10.heap.size, 0, none⟩) 1 1] 47))
              clear hb
              go_simp
              generalize hgw : w13.alloc (.cells #[.slice X m cap, .slice (some ⟨w10.heap.size, 0, none⟩) 1 1] 47) = w14 at *
              clear hgw
              refine hK.out _ _ trivial (fun _ => ?_)
              clear hK K
              try simp only [Act.put, List.setIfInBounds_toArray, List.set_cons_zero, List.set_cons_succ]
              refine wpAnyH_ready (rs := [4]) (by kernel_rfl) (by simp) (AllReadyH.cons (o := { dst := some 40, op := Op.call { callee := Callee.value (Operand.func 112), args := #[Operand.tmp 39], argTypes := #[49] }, type := 47, pos := "arithmetic.go:132", after := #[{ on := 3, ground := Ground.data }], guard := none }) rfl (fun K hK => ?_) AllReadyH.nil)
              go_simp
              go_at_call 112
              refine (zconcat3 w13.heap.size m 1 X cap (s :: r) (some ⟨w10.heap.size, 0, none⟩) 1 [0] w14 HA1.out HL8.out rfl HR.out.here HZ1.out.here (by have := HMB.out; omega)).mono ?_
              rintro e w15 ⟨CA1, cc1, rfl, ho, hb⟩
              replace HB := Lib.hid (HB.out.trans (hb.mono HB.out.size))
              replace HR := Lib.hid (HR.out.later hb)
              replace HYW := Lib.hid (HYW.out.later hb)
              replace HZ1 := Lib.hid (HZ1.out.later hb)
              replace HZ2 := Lib.hid (HZ2.out.later hb)
              replace HA2 := Lib.hid ((hb.block _ (Go.Proofs.Ytbcabnbgkicfdaa.hlt HA2.out)).trans HA2.out)
              replace HA1 := Lib.hid ((hb.block _ (Go.Proofs.Ytbcabnbgkicfdaa.hlt HA1.out)).trans HA1.out)
              have HC1 := Lib.hid (ho.wrow.2.2)
              have HO1 := Lib.hid ho.wrow.1
              clear ho hb
              refine hK.out _ _ trivial (fun _ => ?_)
              clear hK K
              try simp only [Act.put, List.setIfInBounds_toArray, List.set_cons_zero, List.set_cons_succ]
              refine wpAnyH_ready (rs := [10]) (by kernel_rfl) (by simp) (AllReadyH.cons (o := { dst := some 46, op := Op.call { callee := Callee.value (Operand.func 112), args := #[Operand.tmp 45], argTypes := #[49] }, type := 47, pos := "arithmetic.go:132", after := #[{ on := 9, ground := Ground.data }, { on := 4, ground := Ground.chain }], guard := none }) rfl (fun K hK => ?_) AllReadyH.nil)
              go_simp
              go_at_call 112
              refine (zconcat3 w12.heap.size m 1 (some ⟨b2, o2, none⟩) cy (y.take m) (some ⟨w11.heap.size, 0, none⟩) 1 [0] w15 HA2.out HYT.out rfl HYW.out.here HZ2.out.here (by have := HMB.out; omega)).mono ?_
              rintro e w16 ⟨CA2, cc2, rfl, ho, hb⟩
              replace HB := Lib.hid (HB.out.trans (hb.mono HB.out.size))
              replace HR := Lib.hid (HR.out.later hb)
              replace HYW := Lib.hid (HYW.out.later hb)
              replace HZ1 := Lib.hid (HZ1.out.later hb)
              replace HZ2 := Lib.hid (HZ2.out.later hb)
              replace HA2 := Lib.hid ((hb.block _ (Go.Proofs.Ytbcabnbgkicfdaa.hlt HA2.out)).trans HA2.out)
              replace HA1 := Lib.hid ((hb.block _ (Go.Proofs.Ytbcabnbgkicfdaa.hlt HA1.out)).trans HA1.out)
              replace HC1 := Lib.hid (HC1.out.later hb)
              have HC2 := Lib.hid (ho.wrow.2.2)
              have HO2 := Lib.hid ho.wrow.1
              clear ho hb
              refine hK.out _ _ trivial (fun _ => ?_)
              clear hK K
              try simp only [Act.put, List.setIfInBounds_toArray, List.set_cons_zero, List.set_cons_succ]
              refine wpAnyH_ready (rs := [11]) (by kernel_rfl) (by simp) (AllReadyH.cons (o := { dst := some 47, op := Op.call { callee := Callee.value (Operand.func 80), args := #[Operand.tmp 36, Operand.tmp 40, Operand.tmp 46], argTypes := #[24, 47, 47] }, type := 47, pos := "arithmetic.go:132", after := #[{ on := 0, ground := Ground.data }, { on := 4, ground := Ground.data }, { on := 10, ground := Ground.data }, { on := 10, ground := Ground.chain }], guard := none }) rfl (fun K hK => ?_) AllReadyH.nil)
              have HBS := Lib.hid (HST8.out.tab.later HB.out)
              have HDF := difference_any (w := w16) CA1 cc1 ((s :: r) ++ [0]) CA2 cc2 (y.take m ++ [0]) HBS.out HC1.out.here HC2.out.here (HLR8.out.snoc (lts_zeros HBS.out 1 0 (by simp))) ((((LY.out.more HST8.out.grow).sub fun a ha => List.mem_of_mem_take ha)).snoc (lts_zeros HBS.out 1 0 (by simp))) (by rw [← HO1.out]; have := HMB.out; omega) (by rw [← HO1.out, ← HO2.out]) (by rw [← HO1.out]; have := HNB.out; have := HMB.out; have := HIM.out; omega)
              rw [← HO1.out, ← HO2.out] at HDF
              have HDF := Lib.hid HDF
              go_simp
              go_at_call 80
              refine HDF.out.mono ?_
              rintro e w17 ⟨TA, tc, rest, rv3, gs3, rfl, hac, hrl2, hh⟩
              have HFIN := Lib.hid (hac.ahead HB.out)
              have HFL := Lib.hid hrl2
              have HFH := Lib.hid hh
              clear hac hrl2 hh HDF
              refine hK.out _ _ trivial (fun _ => ?_)
              clear hK K
              try simp only [Act.put, List.setIfInBounds_toArray, List.set_cons_zero, List.set_cons_succ]
              refine wpAnyH_take (i := 12) (oi := { dst := some 13, op := Op.assign (Operand.tmp 47), type := 47, pos := "arithmetic.go:132", after := #[{ on := 11, ground := Ground.data }, { on := 11, ground := Ground.chain }, { on := 0, ground := Ground.phase }, { on := 1, ground := Ground.phase }, { on := 2, ground := Ground.phase }, { on := 3, ground := Ground.phase }, { on := 4, ground := Ground.phase }, { on := 5, ground := Ground.phase }, { on := 6, ground := Ground.phase }, { on := 7, ground := Ground.phase }, { on := 8, ground := Ground.phase }, { on := 9, ground := Ground.phase }, { on := 10, ground := Ground.phase }, { on := 11, ground := Ground.phase }], guard := none }) (v := .slice TA (m + 1) tc) rfl (by kernel_rfl) (by kernel_rfl) (by kernel_rfl) (fun _ _ _ h => h) (Or.inl ⟨by rfl, ?_⟩) trivial ?_
              · (intro w' hSw; go_simp)
              simp only [Act.put, List.setIfInBounds_toArray, List.set_cons_zero, List.set_cons_succ]
              refine wpAnyH_done (by kernel_rfl) ?_ _
              go_wp2_with (fail)
              go_meet
              exact ⟨TA, tc, rest, rv3, gs3, rfl, HFIN, HFL, HFH⟩
        · have hb := (Below.refl w10.heap.size w10).alloc (Nat.le_refl _) (.cells #[.int .i64 0] 3)
          replace HB := Lib.hid (HB.out.trans (hb.mono HB.out.size))
          replace HR := Lib.hid (HR.out.later hb)
          replace HYW := Lib.hid (HYW.out.later hb)
          have HZ2 := Lib.hid (wrow_one w10 0)
          clear hb
          go_simp
          generalize hgw : w10.alloc (.cells #[.int .i64 0] 3) = w11 at *
          clear hgw
          refine hK.out _ _ trivial (fun _ => ?_)
          clear hK K
          try simp only [Act.put, List.setIfInBounds_toArray, List.set_cons_zero, List.set_cons_succ]
          refine wpAnyH_ready (rs := [2, 9]) (by kernel_rfl) (by simp) (AllReadyH.cons (o := { dst := some 38, op := Op.buildSlice 47 1 #[(0, Operand.const (Value.int IntKind.i64 0))], type := 47, pos := "arithmetic.go:132", after := #[], guard := none }) rfl (fun K hK => ?_) (AllReadyH.cons (o := { dst := some 45, op := Op.buildSlice 49 2 #[(0, Operand.tmp 43), (1, Operand.tmp 44)], type := 49, pos := "arithmetic.go:132", after := #[{ on := 7, ground := Ground.data }, { on := 8, ground := Ground.data }], guard := none }) rfl (fun K hK => ?_) AllReadyH.nil))
          · have hb := (Below.refl w11.heap.size w11).alloc (Nat.le_refl _) (.cells #[.int .i64 0] 3)
            replace HB := Lib.hid (HB.out.trans (hb.mono HB.out.size))
            replace HR := Lib.hid (HR.out.later hb)
            replace HYW := Lib.hid (HYW.out.later hb)
            replace HZ2 := Lib.hid (HZ2.out.later hb)
            have HZ1 := Lib.hid (wrow_one w11 0)
            clear hb
            go_simp
            generalize hgw : w11.alloc (.cells #[.int .i64 0] 3) = w12 at *
            clear hgw
            refine hK.out _ _ trivial (fun _ => ?_)
            clear hK K
            try simp only [Act.put, List.setIfInBounds_toArray, List.set_cons_zero, List.set_cons_succ]
            refine wpAnyH_ready (rs := [3, 9]) (by kernel_rfl) (by simp) (AllReadyH.cons (o := { dst := some 39, op := Op.buildSlice 49 2 #[(0, Operand.tmp 37), (1, Operand.tmp 38)], type := 49, pos := "arithmetic.go:132", after := #[{ on := 1, ground := Ground.data }, { on := 2, ground := Ground.data }], guard := none }) rfl (fun K hK => ?_) (AllReadyH.cons (o := { dst := some 45, op := Op.buildSlice 49 2 #[(0, Operand.tmp 43), (1, Operand.tmp 44)], type := 49, pos := "arithmetic.go:132", after := #[{ on := 7, ground := Ground.data }, { on := 8, ground := Ground.data }], guard := none }) rfl (fun K hK => ?_) AllReadyH.nil))
            · have hb := (Below.refl w12.heap.size w12).alloc (Nat.le_refl _) (.cells #[.slice X m cap, .slice (some ⟨w11.heap.size, 0, none⟩) 1 1] 47)
              replace HB := Lib.hid (HB.out.trans (hb.mono HB.out.size))
              replace HR := Lib.hid (HR.out.later hb)
              replace HYW := Lib.hid (HYW.out.later hb)
              replace HZ2 := Lib.hid (HZ2.out.later hb)
              replace HZ1 := Lib.hid (HZ1.out.later hb)
              have HA1 := Lib.hid (heap_alloc_new w12 (.cells #[.slice X m cap, .slice (some ⟨w11.heap.size, 0, none⟩) 1 1] 47))
              clear hb
              go_simp
              generalize hgw : w12.alloc (.cells #[.slice X m cap, .slice (some ⟨w11.heap.size, 0, none⟩) 1 1] 47) = w13 at *
              clear hgw
              refine hK.out _ _ trivial (fun _ => ?_)
              clear hK K
              try simp only [Act.put, List.setIfInBounds_toArray, List.set_cons_zero, List.set_cons_succ]
              refine wpAnyH_ready (rs := [4, 9]) (by kernel_rfl) (by simp) (AllReadyH.cons (o := { dst := some 40, op := Op.call { callee := Callee.value (Operand.func 112), args := #[Operand.tmp 39], argTypes := #[49] }, type := 47, pos := "arithmetic.go:132", after := #[{ on := 3, ground := Ground.data }], guard := none }) rfl (fun K hK => ?_) (AllReadyH.cons (o := { dst := some 45, op := Op.buildSlice 49 2 #[(0, Operand.tmp 43), (1, Operand.tmp 44)], type := 49, pos := "arithmetic.go:132", after := #[{ on := 7, ground := Ground.data }, { on := 8, ground := Ground.data }], guard := none }) rfl (fun K hK => ?_) AllReadyH.nil))
              · go_simp
                go_at_call 112
                refine (zconcat3 w12.heap.size m 1 X cap (s :: r) (some ⟨w11.heap.size, 0, none⟩) 1 [0] w13 HA1.out HL8.out rfl HR.out.here HZ1.out.here (by have := HMB.out; omega)).mono ?_
                rintro e w14 ⟨CA1, cc1, rfl, ho, hb⟩
                replace HB := Lib.hid (HB.out.trans (hb.mono HB.out.size))
                replace HR := Lib.hid (HR.out.later hb)
                replace HYW := Lib.hid (HYW.out.later hb)
                replace HZ2 := Lib.hid (HZ2.out.later hb)
                replace HZ1 := Lib.hid (HZ1.out.later hb)
                replace HA1 := Lib.hid ((hb.block _ (Go.Proofs.Ytbcabnbgkicfdaa.hlt HA1.out)).trans HA1.out)
                have HC1 := Lib.hid (ho.wrow.2.2)
                have HO1 := Lib.hid ho.wrow.1
                clear ho hb
                refine hK.out _ _ trivial (fun _ => ?_)
                clear hK K
                try simp only [Act.put, List.setIfInBounds_toArray, List.set_cons_zero, List.set_cons_succ]
                refine wpAnyH_ready (rs := [9]) (by kernel_rfl) (by simp) (AllReadyH.cons (o := { dst := some 45, op := Op.buildSlice 49 2 #[(0, Operand.tmp 43), (1, Operand.tmp 44)], type := 49, pos := "arithmetic.go:132", after := #[{ on := 7, ground := Ground.data }, { on := 8, ground := Ground.data }], guard := none }) rfl (fun K hK => ?_) AllReadyH.nil)
                have hb := (Below.refl w14.heap.size w14).alloc (Nat.le_refl _) (.cells #[.slice (some ⟨b2, o2, none⟩) m cy, .slice (some ⟨w10.heap.size, 0, none⟩) 1 1] 47)
                replace HB := Lib.hid (HB.out.trans (hb.mono HB.out.size))
                replace HR := Lib.hid (HR.out.later hb)
                replace HYW := Lib.hid (HYW.out.later hb)
                replace HZ2 := Lib.hid (HZ2.out.later hb)
                replace HZ1 := Lib.hid (HZ1.out.later hb)
                replace HA1 := Lib.hid ((hb.block _ (Go.Proofs.Ytbcabnbgkicfdaa.hlt HA1.out)).trans HA1.out)
                replace HC1 := Lib.hid (HC1.out.later hb)
                have HA2 := Lib.hid (heap_alloc_new w14 (.cells #[.slice (some ⟨b2, o2, none⟩) m cy, .slice (some ⟨w10.heap.size, 0, none⟩) 1 1] 47))
                clear hb
                go_simp
                generalize hgw : w14.alloc (.cells #[.slice (some ⟨b2, o2, none⟩) m cy, .slice (some ⟨w10.heap.size, 0, none⟩) 1 1] 47) = w15 at *
                clear hgw
                refine hK.out _ _ trivial (fun _ => ?_)
                clear hK K
                try simp only [Act.put, List.setIfInBounds_toArray, List.set_cons_zero, List.set_cons_succ]
                refine wpAnyH_ready (rs := [10]) (by kernel_rfl) (by simp) (AllReadyH.cons (o := { dst := some 46, op := Op.call { callee := Callee.value (Operand.func 112), args := #[Operand.tmp 45], argTypes := #[49] }, type := 47, pos := "arithmetic.go:132", after := #[{ on := 9, ground := Ground.data }, { on := 4, ground := Ground.chain }], guard := none }) rfl (fun K hK => ?_) AllReadyH.nil)
                go_simp
                go_at_call 112
                refine (zconcat3 w14.heap.size m 1 (some ⟨b2, o2, none⟩) cy (y.take m) (some ⟨w10.heap.size, 0, none⟩) 1 [0] w15 HA2.out HYT.out rfl HYW.out.here HZ2.out.here (by have := HMB.out; omega)).mono ?_
                rintro e w16 ⟨CA2, cc2, rfl, ho, hb⟩
                replace HB := Lib.hid (HB.out.trans (hb.mono HB.out.size))
                replace HR := Lib.hid (HR.out.later hb)
                replace HYW := Lib.hid (HYW.out.later hb)
                replace HZ2 := Lib.hid (HZ2.out.later hb)
                replace HZ1 := Lib.hid (HZ1.out.later hb)
                replace HA1 := Lib.hid ((hb.block _ (Go.Proofs.Ytbcabnbgkicfdaa.hlt HA1.out)).trans HA1.out)
                replace HC1 := Lib.hid (HC1.out.later hb)
                replace HA2 := Lib.hid ((hb.block _ (Go.Proofs.Ytbcabnbgkicfdaa.hlt HA2.out)).trans HA2.out)
                have HC2 := Lib.hid (ho.wrow.2.2)
                have HO2 := Lib.hid ho.wrow.1
                clear ho hb
                refine hK.out _ _ trivial (fun _ => ?_)
                clear hK K
                try simp only [Act.put, List.setIfInBounds_toArray, List.set_cons_zero, List.set_cons_succ]
                refine wpAnyH_ready (rs := [11]) (by kernel_rfl) (by simp) (AllReadyH.cons (o := { dst := some 47, op := Op.call { callee := Callee.value (Operand.func 80), args := #[Operand.tmp 36, Operand.tmp 40, Operand.tmp 46], argTypes := #[24, 47, 47] }, type := 47, pos := "arithmetic.go:132", after := #[{ on := 0, ground := Ground.data }, { on := 4, ground := Ground.data }, { on := 10, ground := Ground.data }, { on := 10, ground := Ground.chain }], guard := none }) rfl (fun K hK => ?_) AllReadyH.nil)
                have HBS := Lib.hid (HST8.out.tab.later HB.out)
                have HDF := difference_any (w := w16) CA1 cc1 ((s :: r) ++ [0]) CA2 cc2 (y.take m ++ [0]) HBS.out HC1.out.here HC2.out.here (HLR8.out.snoc (lts_zeros HBS.out 1 0 (by simp))) ((((LY.out.more HST8.out.grow).sub fun a ha => List.mem_of_mem_take ha)).snoc (lts_zeros HBS.out 1 0 (by simp))) (by rw [← HO1.out]; have := HMB.out; omega) (by rw [← HO1.out, ← HO2.out]) (by rw [← HO1.out]; have := HNB.out; have := HMB.out; have := HIM.out; omega)
                rw [← HO1.out, ← HO2.out] at HDF
                have HDF := Lib.hid HDF
                go_simp
                go_at_call 80
                refine HDF.out.mono ?_
                rintro e w17 ⟨TA, tc, rest, rv3, gs3, rfl, hac, hrl2, hh⟩
                have HFIN := Lib.hid (hac.ahead HB.out)
                have HFL := Lib.hid hrl2
                have HFH := Lib.hid hh
                clear hac hrl2 hh HDF
                refine hK.out _ _ trivial (fun _ => ?_)
                clear hK K
                try simp only [Act.put, List.setIfInBounds_toArray, List.set_cons_zero, List.set_cons_succ]
                refine wpAnyH_take (i := 12) (oi := { dst := some 13, op := Op.assign (Operand.tmp 47), type := 47, pos := "arithmetic.go:132", after := #[{ on := 11, ground := Ground.data }, { on := 11, ground := Ground.chain }, { on := 0, ground := Ground.phase }, { on := 1, ground := Ground.phase }, { on := 2, ground := Ground.phase }, { on := 3, ground := Ground.phase }, { on := 4, ground := Ground.phase }, { on := 5, ground := Ground.phase }, { on := 6, ground := Ground.phase }, { on := 7, ground := Ground.phase }, { on := 8, ground := Ground.phase }, { on := 9, ground := Ground.phase }, { on := 10, ground := Ground.phase }, { on := 11, ground := Ground.phase }], guard := none }) (v := .slice TA (m + 1) tc) rfl (by kernel_rfl) (by kernel_rfl) (by kernel_rfl) (fun _ _ _ h => h) (Or.inl ⟨by rfl, ?_⟩) trivial ?_
                · (intro w' hSw; go_simp)
                simp only [Act.put, List.setIfInBounds_toArray, List.set_cons_zero, List.set_cons_succ]
                refine wpAnyH_done (by kernel_rfl) ?_ _
                go_wp2_with (fail)
                go_meet
                exact ⟨TA, tc, rest, rv3, gs3, rfl, HFIN, HFL, HFH⟩
              · have hb := (Below.refl w13.heap.size w13).alloc (Nat.le_refl _) (.cells #[.slice (some ⟨b2, o2, none⟩) m cy, .slice (some ⟨w10.heap.size, 0, none⟩) 1 1] 47)
                replace HB := Lib.hid (HB.out.trans (hb.mono HB.out.size))
                replace HR := Lib.hid (HR.out.later hb)
                replace HYW := Lib.hid (HYW.out.later hb)
                replace HZ2 := Lib.hid (HZ2.out.later hb)
                replace HZ1 := Lib.hid (HZ1.out.later hb)
                replace HA1 := Lib.hid ((hb.block _ (Go.Proofs.Ytbcabnbgkicfdaa.hlt HA1.out)).trans HA1.out)
                have HA2 := Lib.hid (heap_alloc_new w13 (.cells #[.slice (some ⟨b2, o2, none⟩) m cy, .slice (some ⟨w10.heap.size, 0, none⟩) 1 1] 47))
                clear hb
                go_simp
                generalize hgw : w13.alloc (.cells #[.slice (some ⟨b2, o2, none⟩) m cy, .slice (some ⟨w10.heap.size, 0, none⟩) 1 1] 47) = w14 at *
                clear hgw
                refine hK.out _ _ trivial (fun _ => ?_)
                clear hK K
                try simp only [Act.put, List.setIfInBounds_toArray, List.set_cons_zero, List.set_cons_succ]
                refine wpAnyH_ready (rs := [4]) (by kernel_rfl) (by simp) (AllReadyH.cons (o := { dst := some 40, op := Op.call { callee := Callee.value (Operand.func 112), args := #[Operand.tmp 39], argTypes := #[49] }, type := 47, pos := "arithmetic.go:132", after := #[{ on := 3, ground := Ground.data }], guard := none }) rfl (fun K hK => ?_) AllReadyH.nil)
                go_simp
                go_at_call 112
                refine (zconcat3 w12.heap.size m 1 X cap (s :: r) (some ⟨w11.heap.size, 0, none⟩) 1 [0] w14 HA1.out HL8.out rfl HR.out.here HZ1.out.here (by have := HMB.out; omega)).mono ?_
                rintro e w15 ⟨CA1, cc1, rfl, ho, hb⟩
                replace HB := Lib.hid (HB.out.trans (hb.mono HB.out.size))
                replace HR := Lib.hid (HR.out.later hb)
                replace HYW := Lib.hid (HYW.out.later hb)
                replace HZ2 := Lib.hid (HZ2.out.later hb)
                replace HZ1 := Lib.hid (HZ1.out.later hb)
                replace HA1 := Lib.hid ((hb.block _ (Go.Proofs.Ytbcabnbgkicfdaa.hlt HA1.out)).trans HA1.out)
                replace HA2 := Lib.hid ((hb.block _ (Go.Proofs.Ytbcabnbgkicfdaa.hlt HA2.out)).trans HA2.out)
                have HC1 := Lib.hid (ho.wrow.2.2)
                have HO1 := Lib.hid ho.wrow.1
                clear ho hb
                refine hK.out _ _ trivial (fun _ => ?_)
                clear hK K
                try simp only [Act.put, List.setIfInBounds_toArray, List.set_cons_zero, List.set_cons_succ]
                refine wpAnyH_ready (rs := [10]) (by kernel_rfl) (by simp) (AllReadyH.cons (o := { dst := some 46, op := Op.call { callee := Callee.value (Operand.func 112), args := #[Operand.tmp 45], argTypes := #[49] }, type := 47, pos := "arithmetic.go:132", after := #[{ on := 9, ground := Ground.data }, { on := 4, ground := Ground.chain }], guard := none }) rfl (fun K hK => ?_) AllReadyH.nil)
                go_simp
                go_at_call 112
                refine (zconcat3 w13.heap.size m 1 (some ⟨b2, o2, none⟩) cy (y.take m) (some ⟨w10.heap.size, 0, none⟩) 1 [0] w15 HA2.out HYT.out rfl HYW.out.here HZ2.out.here (by have := HMB.out; omega)).mono ?_
                rintro e w16 ⟨CA2, cc2, rfl, ho, hb⟩
                replace HB := Lib.hid (HB.out.trans (hb.mono HB.out.size))
                replace HR := Lib.hid (HR.out.later hb)
                replace HYW := Lib.hid (HYW.out.later hb)
                replace HZ2 := Lib.hid (HZ2.out.later hb)
                replace HZ1 := Lib.hid (HZ1.out.later hb)
                replace HA1 := Lib.hid ((hb.block _ (Go.Proofs.Ytbcabnbgkicfdaa.hlt HA1.out)).trans HA1.out)
                replace HA2 := Lib.hid ((hb.block _ (Go.Proofs.Ytbcabnbgkicfdaa.hlt HA2.out)).trans HA2.out)
                replace HC1 := Lib.hid (HC1.out.later hb)
                have HC2 := Lib.hid (ho.wrow.2.2)
                have HO2 := Lib.hid ho.wrow.1
                clear ho hb
                refine hK.out _ _ trivial (fun _ => ?_)
                clear hK K
                try simp only [Act.put, List.setIfInBounds_toArray, List.set_cons_zero, List.set_cons_succ]
                refine wpAnyH_ready (rs := [11]) (by kernel_rfl) (by simp) (AllReadyH.cons (o := { dst := some 47, op := Op.call { callee := Callee.value (Operand.func 80), args := #[Operand.tmp 36, Operand.tmp 40, Operand.tmp 46], argTypes := #[24, 47, 47] }, type := 47, pos := "arithmetic.go:132", after := #[{ on := 0, ground := Ground.data }, { on := 4, ground := Ground.data }, { on := 10, ground := Ground.data }, { on := 10, ground := Ground.chain }], guard := none }) rfl (fun K hK => ?_) AllReadyH.nil)
                have HBS := Lib.hid (HST8.out.tab.later HB.out)
                have HDF := difference_any (w := w16) CA1 cc1 ((s :: r) ++ [0]) CA2 cc2 (y.take m ++ [0]) HBS.out HC1.out.here HC2.out.here (HLR8.out.snoc (lts_zeros HBS.out 1 0 (by simp))) ((((LY.out.more HST8.out.grow).sub fun a ha => List.mem_of_mem_take ha)).snoc (lts_zeros HBS.out 1 0 (by simp))) (by rw [← HO1.out]; have := HMB.out; omega) (by rw [← HO1.out, ← HO2.out]) (by rw [← HO1.out]; have := HNB.out; have := HMB.out; have := HIM.out; omega)
                rw [← HO1.out, ← HO2.out] at HDF
                have HDF := Lib.hid HDF
                go_simp
                go_at_call 80
                refine HDF.out.mono ?_
                rintro e w17 ⟨TA, tc, rest, rv3, gs3, rfl, hac, hrl2, hh⟩
                have HFIN := Lib.hid (hac.ahead HB.out)
                have HFL := Lib.hid hrl2
                have HFH := Lib.hid hh
                clear hac hrl2 hh HDF
                refine hK.out _ _ trivial (fun _ => ?_)
                clear hK K
                try simp only [Act.put, List.setIfInBounds_toArray, List.set_cons_zero, List.set_cons_succ]
                refine wpAnyH_take (i := 12) (oi := { dst := some 13, op := Op.assign (Operand.tmp 47), type := 47, pos := "arithmetic.go:132", after := #[{ on := 11, ground := Ground.data }, { on := 11, ground := Ground.chain }, { on := 0, ground := Ground.phase }, { on := 1, ground := Ground.phase }, { on := 2, ground := Ground.phase }, { on := 3, ground := Ground.phase }, { on := 4, ground := Ground.phase }, { on := 5, ground := Ground.phase }, { on := 6, ground := Ground.phase }, { on := 7, ground := Ground.phase }, { on := 8, ground := Ground.phase }, { on := 9, ground := Ground.phase }, { on := 10, ground := Ground.phase }, { on := 11, ground := Ground.phase }], guard := none }) (v := .slice TA (m + 1) tc) rfl (by kernel_rfl) (by kernel_rfl) (by kernel_rfl) (fun _ _ _ h => h) (Or.inl ⟨by rfl, ?_⟩) trivial ?_
                · (intro w' hSw; go_simp)
                simp only [Act.put, List.setIfInBounds_toArray, List.set_cons_zero, List.set_cons_succ]
                refine wpAnyH_done (by kernel_rfl) ?_ _
                go_wp2_with (fail)
                go_meet
                exact ⟨TA, tc, rest, rv3, gs3, rfl, HFIN, HFL, HFH⟩
            · have hb := (Below.refl w12.heap.size w12).alloc (Nat.le_refl _) (.cells #[.slice (some ⟨b2, o2, none⟩) m cy, .slice (some ⟨w10.heap.size, 0, none⟩) 1 1] 47)
              replace HB := Lib.hid (HB.out.trans (hb.mono HB.out.size))
              replace HR := Lib.hid (HR.out.later hb)
              replace HYW := Lib.hid (HYW.out.later hb)
              replace HZ2 := Lib.hid (HZ2.out.later hb)
              replace HZ1 := Lib.hid (HZ1.out.later hb)
              have HA2 := Lib.hid (heap_alloc_new w12 (.cells #[.slice (some ⟨b2, o2, none⟩) m cy, .slice (some ⟨w10.heap.size, 0, none⟩) 1 1] 47))
              clear hb
              go_simp
              generalize hgw : w12.alloc (.cells #[.slice (some ⟨b2, o2, none⟩) m cy, .slice (some ⟨w10.heap.size, 0, none⟩) 1 1] 47) = w13 at *
              clear hgw
              refine hK.out _ _ trivial (fun _ => ?_)
              clear hK K
              try simp only [Act.put, List.setIfInBounds_toArray, List.set_cons_zero, List.set_cons_succ]
              refine wpAnyH_ready (rs := [3]) (by kernel_rfl) (by simp) (AllReadyH.cons (o := { dst := some 39, op := Op.buildSlice 49 2 #[(0, Operand.tmp 37), (1, Operand.tmp 38)], type := 49, pos := "arithmetic.go:132", after := #[{ on := 1, ground := Ground.data }, { on := 2, ground := Ground.data }], guard := none }) rfl (fun K hK => ?_) AllReadyH.nil)
              have hb := (Below.refl w13.heap.size w13).alloc (Nat.le_refl _) (.cells #[.slice X m cap, .slice (some ⟨w11.heap.size, 0, none⟩) 1 1] 47)
              replace HB := Lib.hid (HB.out.trans (hb.mono HB.out.size))
              replace HR := Lib.hid (HR.out.later hb)
              replace HYW := Lib.hid (HYW.out.later hb)
              replace HZ2 := Lib.hid (HZ2.out.later hb)
              replace HZ1 := Lib.hid (HZ1.out.later hb)
              replace HA2 := Lib.hid ((hb.block _ (Go.Proofs.Ytbcabnbgkicfdaa.hlt HA2.out)).trans HA2.out)
              have HA1 := Lib.hid (heap_alloc_new w13 (.cells #[.slice X m cap, .slice (some ⟨w11.heap.size, 0, none⟩) 1 1] 47))
              clear hb
              go_simp
              generalize hgw : w13.alloc (.cells #[.slice X m cap, .slice (some ⟨w11.heap.size, 0, none⟩) 1 1] 47) = w14 at *
              clear hgw
              refine hK.out _ _ trivial (fun _ => ?_)
              clear hK K
              try simp only [Act.put, List.setIfInBounds_toArray, List.set_cons_zero, List.set_cons_succ]
              refine wpAnyH_ready (rs := [4]) (by kernel_rfl) (by simp) (AllReadyH.cons (o := { dst := some 40, op := Op.call { callee := Callee.value (Operand.func 112), args := #[Operand.tmp 39], argTypes := #[49] }, type := 47, pos := "arithmetic.go:132", after := #[{ on := 3, ground := Ground.data }], guard := none }) rfl (fun K hK => ?_) AllReadyH.nil)
              go_simp
              go_at_call 112
              refine (zconcat3 w13.heap.size m 1 X cap (s :: r) (some ⟨w11.heap.size, 0, none⟩) 1 [0] w14 HA1.out HL8.out rfl HR.out.here HZ1.out.here (by have := HMB.out; omega)).mono ?_
              rintro e w15 ⟨CA1, cc1, rfl, ho, hb⟩
              replace HB := Lib.hid (HB.out.trans (hb.mono HB.out.size))
              replace HR := Lib.hid (HR.out.later hb)
              replace HYW := Lib.hid (HYW.out.later hb)
              replace HZ2 := Lib.hid (HZ2.out.later hb)
              replace HZ1 := Lib.hid (HZ1.out.later hb)
              replace HA2 := Lib.hid ((hb.block _ (Go.Proofs.Ytbcabnbgkicfdaa.hlt HA2.out)).trans HA2.out)
              replace HA1 := Lib.hid ((hb.block _ (Go.Proofs.Ytbcabnbgkicfdaa.hlt HA1.out)).trans HA1.out)
              have HC1 := Lib.hid (ho.wrow.2.2)
              have HO1 := Lib.hid ho.wrow.1
              clear ho hb
              refine hK.out _ _ trivial (fun _ => ?_)
              clear hK K
              try simp only [Act.put, List.setIfInBounds_toArray, List.set_cons_zero, List.set_cons_succ]
              refine wpAnyH_ready (rs := [10]) (by kernel_rfl) (by simp) (AllReadyH.cons (o := { dst := some 46, op := Op.call { callee := Callee.value (Operand.func 112), args := #[Operand.tmp 45], argTypes := #[49] }, type := 47, pos := "arithmetic.go:132", after := #[{ on := 9, ground := Ground.data }, { on := 4, ground := Ground.chain }], guard := none }) rfl (fun K hK => ?_) AllReadyH.nil)
              go_simp
              go_at_call 112
              refine (zconcat3 w12.heap.size m 1 (some ⟨b2, o2, none⟩) cy (y.take m) (some ⟨w10.heap.size, 0, none⟩) 1 [0] w15 HA2.out HYT.out rfl HYW.out.here HZ2.out.here (by have := HMB.out; omega)).mono ?_
              rintro e w16 ⟨CA2, cc2, rfl, ho, hb⟩
              replace HB := Lib.hid (HB.out.trans (hb.mono HB.out.size))
              replace HR := Lib.hid (HR.out.later hb)
              replace HYW := Lib.hid (HYW.out.later hb)
              replace HZ2 := Lib.hid (HZ2.out.later hb)
              replace HZ1 := Lib.hid (HZ1.out.later hb)
              replace HA2 := Lib.hid ((hb.block _ (Go.Proofs.Ytbcabnbgkicfdaa.hlt HA2.out)).trans HA2.out)
              replace HA1 := Lib.hid ((hb.block _ (Go.Proofs.Ytbcabnbgkicfdaa.hlt HA1.out)).trans HA1.out)
              replace HC1 := Lib.hid (HC1.out.later hb)
              have HC2 := Lib.hid (ho.wrow.2.2)
              have HO2 := Lib.hid ho.wrow.1
              clear ho hb
              refine hK.out _ _ trivial (fun _ => ?_)
              clear hK K
              try simp only [Act.put, List.setIfInBounds_toArray, List.set_cons_zero, List.set_cons_succ]
              refine wpAnyH_ready (rs := [11]) (by kernel_rfl) (by simp) (AllReadyH.cons (o := { dst := some 47, op := Op.call { callee := Callee.value (Operand.func 80), args := #[Operand.tmp 36, Operand.tmp 40, Operand.tmp 46], argTypes := #[24, 47, 47] }, type := 47, pos := "arithmetic.go:132", after := #[{ on := 0, ground := Ground.data }, { on := 4, ground := Ground.data }, { on := 10, ground := Ground.data }, { on := 10, ground := Ground.chain }], guard := none }) rfl (fun K hK => ?_) AllReadyH.nil)
              have HBS := Lib.hid (HST8.out.tab.later HB.out)
              have HDF := difference_any (w := w16) CA1 cc1 ((s :: r) ++ [0]) CA2 cc2 (y.take m ++ [0]) HBS.out HC1.out.here HC2.out.here (HLR8.out.snoc (lts_zeros HBS.out 1 0 (by simp))) ((((LY.out.more HST8.out.grow).sub fun a ha => List.mem_of_mem_take ha)).snoc (lts_zeros HBS.out 1 0 (by simp))) (by rw [← HO1.out]; have := HMB.out; omega) (by rw [← HO1.out, ← HO2.out]) (by rw [← HO1.out]; have := HNB.out; have := HMB.out; have := HIM.out; omega)
              rw [← HO1.out, ← HO2.out] at HDF
              have HDF := Lib.hid HDF
              go_simp
              go_at_call 80
              refine HDF.out.mono ?_
              rintro e w17 ⟨TA, tc, rest, rv3, gs3, rfl, hac, hrl2, hh⟩
              have HFIN := Lib.hid (hac.ahead HB.out)
              have HFL := Lib.hid hrl2
              have HFH := Lib.hid hh
              clear hac hrl2 hh HDF
              refine hK.out _ _ trivial (fun _ => ?_)
              clear hK K
              try simp only [Act.put, List.setIfInBounds_toArray, List.set_cons_zero, List.set_cons_succ]
              refine wpAnyH_take (i := 12) (oi := { dst := some 13, op := Op.assign (Operand.tmp 47), type := 47, pos := "arithmetic.go:132", after := #[{ on := 11, ground := Ground.data }, { on := 11, ground := Ground.chain }, { on := 0, ground := Ground.phase }, { on := 1, ground := Ground.phase }, { on := 2, ground := Ground.phase }, { on := 3, ground := Ground.phase }, { on := 4, ground := Ground.phase }, { on := 5, ground := Ground.phase }, { on := 6, ground := Ground.phase }, { on := 7, ground := Ground.phase }, { on := 8, ground := Ground.phase }, { on := 9, ground := Ground.phase }, { on := 10, ground := Ground.phase }, { on := 11, ground := Ground.phase }], guard := none }) (v := .slice TA (m + 1) tc) rfl (by kernel_rfl) (by kernel_rfl) (by kernel_rfl) (fun _ _ _ h => h) (Or.inl ⟨by rfl, ?_⟩) trivial ?_
              · (intro w' hSw; go_simp)
              simp only [Act.put, List.setIfInBounds_toArray, List.set_cons_zero, List.set_cons_succ]
              refine wpAnyH_done (by kernel_rfl) ?_ _
              go_wp2_with (fail)
              go_meet
              exact ⟨TA, tc, rest, rv3, gs3, rfl, HFIN, HFL, HFH⟩
          · have hb := (Below.refl w11.heap.size w11).alloc (Nat.le_refl _) (.cells #[.slice (some ⟨b2, o2, none⟩) m cy, .slice (some ⟨w10.heap.size, 0, none⟩) 1 1] 47)
            replace HB := Lib.hid (HB.out.trans (hb.mono HB.out.size))
            replace HR := Lib.hid (HR.out.later hb)
            replace HYW := Lib.hid (HYW.out.later hb)
            replace HZ2 := Lib.hid (HZ2.out.later hb)
            have HA2 := Lib.hid (heap_alloc_new w11 (.cells #[.slice (some ⟨b2, o2, none⟩) m cy, .slice (some ⟨w10.heap.size, 0, none⟩) 1 1] 47))
            clear hb
            go_simp
            generalize hgw : w11.alloc (.cells #[.slice (some ⟨b2, o2, none⟩) m cy, .slice (some ⟨w10.heap.size, 0, none⟩) 1 1] 47) = w12 at *
            clear hgw
            refine hK.out _ _ trivial (fun _ => ?_)
            clear hK K
            try simp only [Act.put, List.setIfInBounds_toArray, List.set_cons_zero, List.set_cons_succ]
            refine wpAnyH_ready (rs := [2]) (by kernel_rfl) (by simp) (AllReadyH.cons (o := { dst := some 38, op := Op.buildSlice 47 1 #[(0, Operand.const (Value.int IntKind.i64 0))], type := 47, pos := "arithmetic.go:132", after := #[], guard := none }) rfl (fun K hK => ?_) AllReadyH.nil)
            have hb := (Below.refl w12.heap.size w12).alloc (Nat.le_refl _) (.cells #[.int .i64 0] 3)
            replace HB := Lib.hid (HB.out.trans (hb.mono HB.out.size))
            replace HR := Lib.hid (HR.out.later hb)
            replace HYW := Lib.hid (HYW.out.later hb)
            replace HZ2 := Lib.hid (HZ2.out.later hb)
            replace HA2 := Lib.hid ((hb.block _ (Go.Proofs.Ytbcabnbgkicfdaa.hlt HA2.out)).trans HA2.out)
            have HZ1 := Lib.hid (wrow_one w12 0)
            clear hb
            go_simp
            generalize hgw : w12.alloc (.cells #[.int .i64 0] 3) = w13 at *
            clear hgw
            refine hK.out _ _ trivial (fun _ => ?_)
            clear hK K
            try simp only [Act.put, List.setIfInBounds_toArray, List.set_cons_zero, List.set_cons_succ]
            refine wpAnyH_ready (rs := [3]) (by kernel_rfl) (by simp) (AllReadyH.cons (o := { dst := some 39, op := Op.buildSlice 49 2 #[(0, Operand.tmp 37), (1, Operand.tmp 38)], type := 49, pos := "arithmetic.go:132", after := #[{ on := 1, ground := Ground.data }, { on := 2, ground := Ground.data }], guard := none }) rfl (fun K hK => ?_) AllReadyH.nil)
            have hb := (Below.refl w13.heap.size w13).alloc (Nat.le_refl _) (.cells #[.slice X m cap, .slice (some ⟨w12.heap.size, 0, none⟩) 1 1] 47)
            replace HB := Lib.hid (HB.out.trans (hb.mono HB.out.size))
            replace HR := Lib.hid (HR.out.later hb)
            replace HYW := Lib.hid (HYW.out.later hb)
            replace HZ2 := Lib.hid (HZ2.out.later hb)
            replace HA2 := Lib.hid ((hb.block _ (Go.Proofs.Ytbcabnbgkicfdaa.hlt HA2.out)).trans HA2.out)
            replace HZ1 := Lib.hid (HZ1.out.later hb)
            have HA1 := Lib.hid (heap_alloc_new w13 (.cells #[.slice X m cap, .slice (some ⟨w12.heap.size, 0, none⟩) 1 1] 47))
            clear hb
            go_simp
            generalize hgw : w13.alloc (.cells #[.slice X m cap, .slice (some ⟨w12.heap.size, 0, none⟩) 1 1] 47) = w14 at *
            clear hgw
            refine hK.out _ _ trivial (fun _ => ?_)
            clear hK K
            try simp only [Act.put, List.setIfInBounds_toArray, List.set_cons_zero, List.set_cons_succ]
            refine wpAnyH_ready (rs := [4]) (by kernel_rfl) (by simp) (AllReadyH.cons (o := { dst := some 40, op := Op.call { callee := Callee.value (Operand.func 112), args := #[Operand.tmp 39], argTypes := #[49] }, type := 47, pos := "arithmetic.go:132", after := #[{ on := 3, ground := Ground.data }], guard := none }) rfl (fun K hK => ?_) AllReadyH.nil)
            go_simp
            go_at_call 112
            refine (zconcat3 w13.heap.size m 1 X cap (s :: r) (some ⟨w12.heap.size, 0, none⟩) 1 [0] w14 HA1.out HL8.out rfl HR.out.here HZ1.out.here (by have := HMB.out; omega)).mono ?_
            rintro e w15 ⟨CA1, cc1, rfl, ho, hb⟩
            replace HB := Lib.hid (HB.out.trans (hb.mono HB.out.size))
            replace HR := Lib.hid (HR.out.later hb)
            replace HYW := Lib.hid (HYW.out.later hb)
            replace HZ2 := Lib.hid (HZ2.out.later hb)
            replace HA2 := Lib.hid ((hb.block _ (Go.Proofs.Ytbcabnbgkicfdaa.hlt HA2.out)).trans HA2.out)
            replace HZ1 := Lib.hid (HZ1.out.later hb)
            replace HA1 := Lib.hid ((hb.block _ (Go.Proofs.Ytbcabnbgkicfdaa.hlt HA1.out)).trans HA1.out)
            have HC1 := Lib.hid (ho.wrow.2.2)
            have HO1 := Lib.hid ho.wrow.1
            clear ho hb
            refine hK.out _ _ trivial (fun _ => ?_)
            clear hK K
            try simp only [Act.put, List.setIfInBounds_toArray, List.set_cons_zero, List.set_cons_succ]
            refine wpAnyH_ready (rs := [10]) (by kernel_rfl) (by simp) (AllReadyH.cons (o := { dst := some 46, op := Op.call { callee := Callee.value (Operand.func 112), args := #[Operand.tmp 45], argTypes := #[49] }, type := 47, pos := "arithmetic.go:132", after := #[{ on := 9, ground := Ground.data }, { on := 4, ground := Ground.chain }], guard := none }) rfl (fun K hK => ?_) AllReadyH.nil)
            go_simp
            go_at_call 112
            refine (zconcat3 w11.heap.size m 1 (some ⟨b2, o2, none⟩) cy (y.take m) (some ⟨w10.heap.size, 0, none⟩) 1 [0] w15 HA2.out HYT.out rfl HYW.out.here HZ2.out.here (by have := HMB.out; omega)).mono ?_
            rintro e w16 ⟨CA2, cc2, rfl, ho, hb⟩
            replace HB := Lib.hid (HB.out.trans (hb.mono HB.out.size))
            replace HR := Lib.hid (HR.out.later hb)
            replace HYW := Lib.hid (HYW.out.later hb)
            replace HZ2 := Lib.hid (HZ2.out.later hb)
            replace HA2 := Lib.hid ((hb.block _ (Go.Proofs.Ytbcabnbgkicfdaa.hlt HA2.out)).trans HA2.out)
            replace HZ1 := Lib.hid (HZ1.out.later hb)
            replace HA1 := Lib.hid ((hb.block _ (Go.Proofs.Ytbcabnbgkicfdaa.hlt HA1.out)).trans HA1.out)
            replace HC1 := Lib.hid (HC1.out.later hb)
            have HC2 := Lib.hid (ho.wrow.2.2)
            have HO2 := Lib.hid ho.wrow.1
            clear ho hb
            refine hK.out _ _ trivial (fun _ => ?_)
            clear hK K
            try simp only [Act.put, List.setIfInBounds_toArray, List.set_cons_zero, List.set_cons_succ]
            refine wpAnyH_ready (rs := [11]) (by kernel_rfl) (by simp) (AllReadyH.cons (o := { dst := some 47, op := Op.call { callee := Callee.value (Operand.func 80), args := #[Operand.tmp 36, Operand.tmp 40, Operand.tmp 46], argTypes := #[24, 47, 47] }, type := 47, pos := "arithmetic.go:132", after := #[{ on := 0, ground := Ground.data }, { on := 4, ground := Ground.data }, { on := 10, ground := Ground.data }, { on := 10, ground := Ground.chain }], guard := none }) rfl (fun K hK => ?_) AllReadyH.nil)
            have HBS := Lib.hid (HST8.out.tab.later HB.out)
            have HDF := difference_any (w := w16) CA1 cc1 ((s :: r) ++ [0]) CA2 cc2 (y.take m ++ [0]) HBS.out HC1.out.here HC2.out.here (HLR8.out.snoc (lts_zeros HBS.out 1 0 (by simp))) ((((LY.out.more HST8.out.grow).sub fun a ha => List.mem_of_mem_take ha)).snoc (lts_zeros HBS.out 1 0 (by simp))) (by rw [← HO1.out]; have := HMB.out; omega) (by rw [← HO1.out, ← HO2.out]) (by rw [← HO1.out]; have := HNB.out; have := HMB.out; have := HIM.out; omega)
            rw [← HO1.out, ← HO2.out] at HDF
            have HDF := Lib.hid HDF
            go_simp
            go_at_call 80
            refine HDF.out.mono ?_
            rintro e w17 ⟨TA, tc, rest, rv3, gs3, rfl, hac, hrl2, hh⟩
            have HFIN := Lib.hid (hac.ahead HB.out)
            have HFL := Lib.hid hrl2
            have HFH := Lib.hid hh
            clear hac hrl2 hh HDF
            refine hK.out _ _ trivial (fun _ => ?_)
            clear hK K
            try simp only [Act.put, List.setIfInBounds_toArray, List.set_cons_zero, List.set_cons_succ]
            refine wpAnyH_take (i := 12) (oi := { dst := some 13, op := Op.assign (Operand.tmp 47), type := 47, pos := "arithmetic.go:132", after := #[{ on := 11, ground := Ground.data }, { on := 11, ground := Ground.chain }, { on := 0, ground := Ground.phase }, { on := 1, ground := Ground.phase }, { on := 2, ground := Ground.phase }, { on := 3, ground := Ground.phase }, { on := 4, ground := Ground.phase }, { on := 5, ground := Ground.phase }, { on := 6, ground := Ground.phase }, { on := 7, ground := Ground.phase }, { on := 8, ground := Ground.phase }, { on := 9, ground := Ground.phase }, { on := 10, ground := Ground.phase }, { on := 11, ground := Ground.phase }], guard := none }) (v := .slice TA (m + 1) tc) rfl (by kernel_rfl) (by kernel_rfl) (by kernel_rfl) (fun _ _ _ h => h) (Or.inl ⟨by rfl, ?_⟩) trivial ?_
            · (intro w' hSw; go_simp)
            simp only [Act.put, List.setIfInBounds_toArray, List.set_cons_zero, List.set_cons_succ]
            refine wpAnyH_done (by kernel_rfl) ?_ _
            go_wp2_with (fail)
            go_meet
            exact ⟨TA, tc, rest, rv3, gs3, rfl, HFIN, HFL, HFH⟩
      case rest =>
      obtain ⟨TA, tc, rest, rv3, gs3, rfl, hac, hrl2, hsh⟩ := hcut
      generalize hwo : wc = wd at *
      clear hwo hsl
      have hdr : Below wd.heap.size wd wd.drew := (Below.refl _ _).drew
      have hm1 : m < rest.length := by have := hrl2.out; omega
      have hiq : i < q.length := by have := hql.out; omega
      have HAC := Lib.hid (hac.out.later hdr HST8.out.tab)
      have HQ3 := Lib.hid (HQB8.out.stp HST8.out.tab HAC.out.st)
      have HN3 := Lib.hid (HNR8.out.stp HST8.out.tab HAC.out.st)
      have HR3 := Lib.hid ((HO8.out.wrow.2.2).stp HST8.out.tab HAC.out.st)
      have HLN3 := Lib.hid (hln.out.more HAC.out.st.grow)
      have HLQ3 := Lib.hid (hlq.out.more HAC.out.st.grow)
      have HH3 := Lib.hid ((hho.out.more HAC.out.st.pre).mp2 hsh.out (χ := fun v d => (DvP x y (i + 1) q r v d ∧ EmpH y nw v d) ∧ SubH ((s :: r) ++ [0]) (y.take m ++ [0]) rest v d) fun v d _ a b => ⟨a, b⟩)
      have HSM := Lib.hid (fun v d (ho : VOk v d) (r' : List Int) (b : Int) => HSM.out v d ho rest r' b hrl2.out hm1)
      have HLR3 := Lib.hid (HLR8.out.more HAC.out.st.grow)
      obtain ⟨tb, tof, hTA, q1⟩ := HAC.out.own.wrow.2.2.at hm1
      obtain ⟨nb, no, hNA, q2⟩ := HN3.out.at hmnl
      have HLT := Lib.hid (HAC.out.lts.at hm1)
      have HLNM := Lib.hid (HLN3.out.at hmnl)
      have HRT := Lib.hid (fun (w2 : World) (B : Nat) (ho : WRow B w2 TA rest) => ho.at hm1)
      have HRN := Lib.hid (fun (w2 : World) (B : Nat) (ho : WRow B w2 NA nw) => ho.at hmnl)
      have HRI := Lib.hid (fun (w2 : World) (hb : ZBlk w2 qb q) => hb.cell hiq)
      obtain ⟨t, HTV⟩ : ∃ t, Hid (rest[m] = t) := ⟨_, Lib.hid rfl⟩
      obtain ⟨u, HUV⟩ : ∃ u, Hid (nw[m] = u) := ⟨_, Lib.hid rfl⟩
      rw [HTV.out] at q1 HLT HSM HRT
      rw [HUV.out] at q2 HLNM HSM HRN
      subst hTA
      subst hNA
      have HRT := Lib.hid (fun (w2 : World) (B : Nat) (ho : WRow B w2 (some ⟨tb, tof, Option.none⟩) rest) => show w2.cell? ⟨tb, tof + m, Option.none⟩ = some (.int .i64 t) by obtain ⟨b, o, e, h⟩ := HRT.out w2 B ho; cases e; exact h)
      have HRN := Lib.hid (fun (w2 : World) (B : Nat) (ho : WRow B w2 (some ⟨nb, no, Option.none⟩) nw) => show w2.cell? ⟨nb, no + m, Option.none⟩ = some (.int .i64 u) by obtain ⟨b, o, e, h⟩ := HRN.out w2 B ho; cases e; exact h)
      have HSS := Lib.hid (And.intro q1 q2)
      have HNB3 := Lib.hid (show gs3.length + (3 * m + 1) ≤ 5000 by have := HAC.out.st.len; have := HNB.out; have := HIM.out; omega)
      have HNT := Lib.hid (fun W => not_any t (by have := bl_small HAC.out.st.tab HLT.out; omega) W)
      have HAN := Lib.hid (a_And (notP t) u HAC.out.st.tab HLT.out.not HLNM.out (by have := HNB3.out; omega))
      have hmr : m < m + 1 := by omega
      have hmr2 : (m : Int) < (m : Int) + 1 := by omega
      have hmr3 : ¬ (m : Int) + 1 ≤ (m : Int) := by omega
      have HTW := Lib.hid (HAC.out.own.wrow.2.2)
      have HQW := Lib.hid (show qb < w9.heap.size by have := HQS.out; have := HWS.out; omega)
      have HTB := Lib.hid (show ∀ b, (Value.slice (some ⟨tb, tof, Option.none⟩) (m + 1) tc).ownBlock = some b → qb < b from fun b e => by have := own_lo HAC.out.own b e; have := HQW.out; omega)
      clear q1 q2 hac hdr hho hsh
      go_upto_region 10 with fail
      rename_i K hKK
      refine wp_region_noPanic ?_
      refine wp_region_held_drew (S := fun w' => w'.cell? ⟨tb, tof + m, Option.none⟩ = some (.int .i64 t) ∧ w'.cell? ⟨nb, no + m, Option.none⟩ = some (.int .i64 u)) (by kernel_rfl) HSS.out (fun _ => ?_)
      generalize wd.drew = w3 at *
      refine wpAnyH_take (i := 0) (oi := { dst := some 48, op := Op.move (Operand.tmp 9), type := 47, pos := "arithmetic.go:133", after := #[], guard := none }) (v := .slice (some ⟨qb, 0, Option.none⟩) x.length x.length) rfl (by kernel_rfl) (by kernel_rfl) (by kernel_rfl) (fun _ _ _ h => h) (Or.inl ⟨by rfl, ?_⟩) HSS.out ?_
      · (intro w' hSw; go_simp)
      simp only [Act.put, List.setIfInBounds_toArray, List.set_cons_zero, List.set_cons_succ]
      refine wpAnyH_take (i := 1) (oi := { dst := some 49, op := Op.move (Operand.tmp 11), type := 3, pos := "arithmetic.go:133", after := #[], guard := none }) (v := .int .i64 (i : Int)) rfl (by kernel_rfl) (by kernel_rfl) (by kernel_rfl) (fun _ _ _ h => h) (Or.inl ⟨by rfl, ?_⟩) HSS.out ?_
      · (intro w' hSw; go_simp)
      simp only [Act.put, List.setIfInBounds_toArray, List.set_cons_zero, List.set_cons_succ]
      refine wpAnyH_take (i := 2) (oi := { dst := some 50, op := Op.move (Operand.tmp 0), type := 24, pos := "arithmetic.go:133", after := #[], guard := none }) (v := .pointer (some ⟨bb, 0, none⟩)) rfl (by kernel_rfl) (by kernel_rfl) (by kernel_rfl) (fun _ _ _ h => h) (Or.inl ⟨by rfl, ?_⟩) HSS.out ?_
      · (intro w' hSw; go_simp)
      simp only [Act.put, List.setIfInBounds_toArray, List.set_cons_zero, List.set_cons_succ]
      refine wpAnyH_take (i := 3) (oi := { dst := some 51, op := Op.move (Operand.tmp 13), type := 47, pos := "arithmetic.go:133", after := #[], guard := none }) (v := .slice (some ⟨tb, tof, Option.none⟩) (m + 1) tc) rfl (by kernel_rfl) (by kernel_rfl) (by kernel_rfl) (fun _ _ _ h => h) (Or.inl ⟨by rfl, ?_⟩) HSS.out ?_
      · (intro w' hSw; go_simp)
      simp only [Act.put, List.setIfInBounds_toArray, List.set_cons_zero, List.set_cons_succ]
      refine wpAnyH_take (i := 4) (oi := { dst := some 52, op := Op.move (Operand.tmp 12), type := 3, pos := "arithmetic.go:133", after := #[], guard := none }) (v := .int .i64 (m : Int)) rfl (by kernel_rfl) (by kernel_rfl) (by kernel_rfl) (fun _ _ _ h => h) (Or.inl ⟨by rfl, ?_⟩) HSS.out ?_
      · (intro w' hSw; go_simp)
      simp only [Act.put, List.setIfInBounds_toArray, List.set_cons_zero, List.set_cons_succ]
      refine wpAnyH_take (i := 5) (oi := { dst := some 53, op := Op.indexAddr 47 (Operand.tmp 51) (Operand.tmp 52), type := 0, pos := "arithmetic.go:133", after := #[{ on := 3, ground := Ground.data }, { on := 4, ground := Ground.data }], guard := none }) (v := .pointer (some ⟨tb, tof + m, Option.none⟩)) rfl (by kernel_rfl) (by kernel_rfl) (by kernel_rfl) (fun _ _ _ h => h) (Or.inl ⟨by rfl, ?_⟩) HSS.out ?_
      · (intro w' hSw; go_simp)
      simp only [Act.put, List.setIfInBounds_toArray, List.set_cons_zero, List.set_cons_succ]
      refine wpAnyH_take (i := 6) (oi := { dst := some 54, op := Op.load 3 (Operand.tmp 53), type := 3, pos := "arithmetic.go:133", after := #[{ on := 5, ground := Ground.data }], guard := none }) (v := .int .i64 t) rfl (by kernel_rfl) (by kernel_rfl) (by kernel_rfl) (fun _ _ _ h => h) (Or.inl ⟨by rfl, ?_⟩) HSS.out ?_
      · (intro w' hSw; obtain ⟨z0, z1⟩ := hSw; go_simp)
      simp only [Act.put, List.setIfInBounds_toArray, List.set_cons_zero, List.set_cons_succ]
      refine wpAnyH_take (i := 8) (oi := { dst := some 56, op := Op.move (Operand.tmp 8), type := 47, pos := "arithmetic.go:133", after := #[], guard := none }) (v := .slice (some ⟨nb, no, Option.none⟩) nn nc) rfl (by kernel_rfl) (by kernel_rfl) (by kernel_rfl) (fun _ _ _ h => h) (Or.inl ⟨by rfl, ?_⟩) HSS.out ?_
      · (intro w' hSw; go_simp)
      simp only [Act.put, List.setIfInBounds_toArray, List.set_cons_zero, List.set_cons_succ]
      refine wpAnyH_take (i := 9) (oi := { dst := some 57, op := Op.move (Operand.tmp 12), type := 3, pos := "arithmetic.go:133", after := #[], guard := none }) (v := .int .i64 (m : Int)) rfl (by kernel_rfl) (by kernel_rfl) (by kernel_rfl) (fun _ _ _ h => h) (Or.inl ⟨by rfl, ?_⟩) HSS.out ?_
      · (intro w' hSw; go_simp)
      simp only [Act.put, List.setIfInBounds_toArray, List.set_cons_zero, List.set_cons_succ]
      refine wpAnyH_take (i := 10) (oi := { dst := some 58, op := Op.indexAddr 47 (Operand.tmp 56) (Operand.tmp 57), type := 0, pos := "arithmetic.go:133", after := #[{ on := 8, ground := Ground.data }, { on := 9, ground := Ground.data }], guard := none }) (v := .pointer (some ⟨nb, no + m, Option.none⟩)) rfl (by kernel_rfl) (by kernel_rfl) (by kernel_rfl) (fun _ _ _ h => h) (Or.inl ⟨by rfl, ?_⟩) HSS.out ?_
      · (intro w' hSw; go_simp)
      simp only [Act.put, List.setIfInBounds_toArray, List.set_cons_zero, List.set_cons_succ]
      refine wpAnyH_take (i := 11) (oi := { dst := some 59, op := Op.load 3 (Operand.tmp 58), type := 3, pos := "arithmetic.go:133", after := #[{ on := 10, ground := Ground.data }], guard := none }) (v := .int .i64 u) rfl (by kernel_rfl) (by kernel_rfl) (by kernel_rfl) (fun _ _ _ h => h) (Or.inl ⟨by rfl, ?_⟩) HSS.out ?_
      · (intro w' hSw; obtain ⟨z0, z1⟩ := hSw; go_simp)
      simp only [Act.put, List.setIfInBounds_toArray, List.set_cons_zero, List.set_cons_succ]
      refine wpAnyH_ready (rs := [7]) (by kernel_rfl) (by simp) (AllReadyH.cons (o := { dst := some 55, op := Op.call { callee := Callee.value (Operand.func 18), args := #[Operand.tmp 54], argTypes := #[3] }, type := 3, pos := "arithmetic.go:133", after := #[{ on := 6, ground := Ground.data }], guard := none }) rfl (fun K hK => ?_) AllReadyH.nil)
      go_simp
      go_at_call 18
      refine (HNT.out _).mono ?_
      rintro e wx ⟨rfl, hwx⟩
      obtain rfl := hwx.symm
      clear hwx
      refine hK.out _ _ HSS.out (fun _ => ?_)
      clear hK K
      try simp only [Act.put, List.setIfInBounds_toArray, List.set_cons_zero, List.set_cons_succ]
      refine wpAnyH_ready (rs := [12]) (by kernel_rfl) (by simp) (AllReadyH.cons (o := { dst := some 60, op := Op.call { callee := Callee.value (Operand.func 46), args := #[Operand.tmp 50, Operand.tmp 55, Operand.tmp 59], argTypes := #[24, 3, 3] }, type := 3, pos := "arithmetic.go:133", after := #[{ on := 2, ground := Ground.data }, { on := 7, ground := Ground.data }, { on := 11, ground := Ground.data }, { on := 7, ground := Ground.chain }], guard := none }) rfl (fun K hK => ?_) AllReadyH.nil)
      go_simp
      go_at_call 46
      refine HAN.out.mono ?_
      rintro e w4 ⟨b, rv4, gs4, rfl, hs4, hl4, hh4⟩
      have HS4 := Lib.hid (HST8.out.trans (HAC.out.st.trans hs4 HST8.out.tab) HT.out)
      have HLB := Lib.hid hl4
      have HQ4 := Lib.hid (HQ3.out.stp HAC.out.st.tab hs4)
      have HN4 := Lib.hid (HN3.out.stp HAC.out.st.tab hs4)
      have HR4 := Lib.hid (HR3.out.stp HAC.out.st.tab hs4)
      have HT4 := Lib.hid (HTW.out.stp HAC.out.st.tab hs4)
      have HLQ4 := Lib.hid ((HLQ3.out.more hs4.grow).set i hl4)
      have HLN4 := Lib.hid (HLN3.out.more hs4.grow)
      have HLR4 := Lib.hid (HLR3.out.more hs4.grow)
      have HLT4 := Lib.hid (HAC.out.lts.more hs4.grow)
      have HTO4 := Lib.hid (HAC.out.own.stp HAC.out.st.tab hs4)
      have HRO4 := Lib.hid ((HO8.out.stp HST8.out.tab HAC.out.st).stp HAC.out.st.tab hs4)
      have HNB4 := Lib.hid (show gs4.length + 3 * m ≤ 5000 by have := hs4.len; have := HNB3.out; omega)
      have HH4 := Lib.hid ((HH3.out.more hs4.pre).mp2 hh4 (χ := fun v d => ((DvP x y (i + 1) q r v d ∧ EmpH y nw v d) ∧ SubH ((s :: r) ++ [0]) (y.take m ++ [0]) rest v d) ∧ (v b = (v (notP t) && v u) ∧ (d (notP t) → d u → d b))) fun v d _ a b => ⟨a, b⟩)
      have HSS4 := Lib.hid (And.intro (HRT.out _ _ HT4.out) (HRN.out _ _ HN4.out))
      have y1 := HRI.out _ HQ4.out
      have y2 := HQ4.out.frz i
      have hqs : ∀ v l B, ZOwn w4 B v l → (∀ b, v.ownBlock = some b → qb < b) → ZOwn (w4.setCell ⟨qb, i, Option.none⟩ (.int .i64 b)) B v l := fun v l B ho hlo => own_stays ho fun c e => hfar (by show c ≠ qb; have := hlo c e; omega) _
      have HS5 := Lib.hid (HS4.out.put HQ4.out (by have := HSW.out; exact this) i (.int .i64 b))
      have HQ5 := Lib.hid (HQ4.out.set i b)
      have HN5 := Lib.hid (HN4.out.put (Nat.le_refl qb) i (.int .i64 b))
      have HTO5 := Lib.hid (hqs _ _ _ HTO4.out HTB.out)
      have HRO5 := Lib.hid (hqs _ _ _ HRO4.out fun c e => by have := own_lo HO8.out c e; have := HQS.out; omega)
      have HSS5 := Lib.hid (And.intro (HRT.out _ _ HTO5.out.wrow.2.2) (HRN.out _ _ HN5.out))
      clear hs4 hl4 hh4 HAN HAC HSS HQ3 HN3 HR3 HTW HLQ3 HLN3 HLR3 HH3 HNB3 hqs HS4 HQ4 HN4 HR4 HT4 HTO4 HRO4
      refine hK.out _ _ HSS4.out (fun _ => ?_)
      clear hK K
      try simp only [Act.put, List.setIfInBounds_toArray, List.set_cons_zero, List.set_cons_succ]
      refine wpAnyH_take (i := 13) (oi := { dst := some 61, op := Op.indexAddr 47 (Operand.tmp 48) (Operand.tmp 49), type := 0, pos := "arithmetic.go:133", after := #[{ on := 0, ground := Ground.data }, { on := 1, ground := Ground.data }, { on := 0, ground := Ground.phase }, { on := 1, ground := Ground.phase }, { on := 2, ground := Ground.phase }, { on := 3, ground := Ground.phase }, { on := 4, ground := Ground.phase }, { on := 5, ground := Ground.phase }, { on := 6, ground := Ground.phase }, { on := 7, ground := Ground.phase }, { on := 8, ground := Ground.phase }, { on := 9, ground := Ground.phase }, { on := 10, ground := Ground.phase }, { on := 11, ground := Ground.phase }, { on := 12, ground := Ground.phase }], guard := none }) (v := .pointer (some ⟨qb, i, Option.none⟩)) rfl (by kernel_rfl) (by kernel_rfl) (by kernel_rfl) (fun _ _ _ h => h) (Or.inl ⟨by rfl, ?_⟩) HSS4.out ?_
      · (intro w' hSw; go_simp)
      simp only [Act.put, List.setIfInBounds_toArray, List.set_cons_zero, List.set_cons_succ]
      refine wpAnyH_ready (rs := [14]) (by kernel_rfl) (by simp) (AllReadyH.cons (o := { dst := none, op := Op.store 3 (Operand.tmp 61) (Operand.tmp 60), type := 0, pos := "arithmetic.go:133", after := #[{ on := 13, ground := Ground.data }, { on := 12, ground := Ground.data }, { on := 12, ground := Ground.chain }, { on := 0, ground := Ground.phase }, { on := 1, ground := Ground.phase }, { on := 2, ground := Ground.phase }, { on := 3, ground := Ground.phase }, { on := 4, ground := Ground.phase }, { on := 5, ground := Ground.phase }, { on := 6, ground := Ground.phase }, { on := 7, ground := Ground.phase }, { on := 8, ground := Ground.phase }, { on := 9, ground := Ground.phase }, { on := 10, ground := Ground.phase }, { on := 11, ground := Ground.phase }, { on := 12, ground := Ground.phase }], guard := none }) rfl (fun K hK => ?_) AllReadyH.nil)
      go_simp
      clear y1 y2
      refine hK.out _ _ HSS5.out (fun _ => ?_)
      clear hK K
      try simp only [Act.put, List.setIfInBounds_toArray, List.set_cons_zero, List.set_cons_succ]
      refine wpAnyH_done (by kernel_rfl) ?_ _
      refine NoPanic.normal ?_
      generalize w4.setCell ⟨qb, i, Option.none⟩ (.int .i64 b) = w5 at *
      have hdr : Below w5.heap.size w5 w5.drew := (Below.refl _ _).drew
      have hiq2 : i < (q.set i b).length := by rw [List.length_set]; exact hiq
      have c1 := (HQ5.out.later hdr).cell hiq2
      rw [List.getElem_set_self] at c1
      have hsl := fun W => sl_to tb tof (m + 1) tc m (by omega) (HTO5.out.wrow.2.1 |> fun h => by rw [hrl2.out] at h; exact h) W
      have HS6 := Lib.hid (HS5.out.later hdr HT.out)
      have HQ6 := Lib.hid (HQ5.out.later hdr)
      have HN6 := Lib.hid (HN5.out.later hdr)
      have htl : (rest.take m).length = m := by rw [List.length_take]; omega
      have HCH := choose_any b (some ⟨tb, tof, Option.none⟩) tc (rest.take m) X cap (s :: r) HS6.out.tab HLB.out (((HTO5.out.later hdr).wrow.2.2).taken m) ((HRO5.out.later hdr).wrow.2.2) (HLT4.out.sub fun a ha => List.mem_of_mem_take ha) HLR4.out (by rw [htl]; have := HMB.out; omega) (by rw [htl]; exact HL8.out) (by rw [htl]; have := HNB4.out; omega)
      rw [htl, HL8.out] at HCH
      have HCH := Lib.hid HCH
      have HSC := Lib.hid c1
      clear hdr c1 HTO5 HRO5 HS5 HQ5 HN5 htl
      go_upto_region 11 with fail
      rename_i K hKK
      refine wp_region_noPanic ?_
      refine wp_region_held_drew (S := fun w' => w'.cell? ⟨qb, i, Option.none⟩ = some (.int .i64 b)) (by kernel_rfl) HSC.out (fun _ => ?_)
      generalize w5.drew = w6 at *
      refine wpAnyH_take (i := 0) (oi := { dst := some 62, op := Op.move (Operand.tmp 0), type := 24, pos := "arithmetic.go:134", after := #[], guard := none }) (v := .pointer (some ⟨bb, 0, none⟩)) rfl (by kernel_rfl) (by kernel_rfl) (by kernel_rfl) (fun _ _ _ h => h) (Or.inl ⟨by rfl, ?_⟩) HSC.out ?_
      · (intro w' hSw; go_simp)
      simp only [Act.put, List.setIfInBounds_toArray, List.set_cons_zero, List.set_cons_succ]
      refine wpAnyH_take (i := 1) (oi := { dst := some 63, op := Op.move (Operand.tmp 9), type := 47, pos := "arithmetic.go:134", after := #[], guard := none }) (v := .slice (some ⟨qb, 0, Option.none⟩) x.length x.length) rfl (by kernel_rfl) (by kernel_rfl) (by kernel_rfl) (fun _ _ _ h => h) (Or.inl ⟨by rfl, ?_⟩) HSC.out ?_
      · (intro w' hSw; go_simp)
      simp only [Act.put, List.setIfInBounds_toArray, List.set_cons_zero, List.set_cons_succ]
      refine wpAnyH_take (i := 2) (oi := { dst := some 64, op := Op.move (Operand.tmp 11), type := 3, pos := "arithmetic.go:134", after := #[], guard := none }) (v := .int .i64 (i : Int)) rfl (by kernel_rfl) (by kernel_rfl) (by kernel_rfl) (fun _ _ _ h => h) (Or.inl ⟨by rfl, ?_⟩) HSC.out ?_
      · (intro w' hSw; go_simp)
      simp only [Act.put, List.setIfInBounds_toArray, List.set_cons_zero, List.set_cons_succ]
      refine wpAnyH_take (i := 3) (oi := { dst := some 65, op := Op.indexAddr 47 (Operand.tmp 63) (Operand.tmp 64), type := 0, pos := "arithmetic.go:134", after := #[{ on := 1, ground := Ground.data }, { on := 2, ground := Ground.data }], guard := none }) (v := .pointer (some ⟨qb, i, Option.none⟩)) rfl (by kernel_rfl) (by kernel_rfl) (by kernel_rfl) (fun _ _ _ h => h) (Or.inl ⟨by rfl, ?_⟩) HSC.out ?_
      · (intro w' hSw; go_simp)
      simp only [Act.put, List.setIfInBounds_toArray, List.set_cons_zero, List.set_cons_succ]
      refine wpAnyH_take (i := 4) (oi := { dst := some 66, op := Op.load 3 (Operand.tmp 65), type := 3, pos := "arithmetic.go:134", after := #[{ on := 3, ground := Ground.data }], guard := none }) (v := .int .i64 b) rfl (by kernel_rfl) (by kernel_rfl) (by kernel_rfl) (fun _ _ _ h => h) (Or.inl ⟨by rfl, ?_⟩) HSC.out ?_
      · (intro w' hSw; have z0 := hSw; go_simp)
      simp only [Act.put, List.setIfInBounds_toArray, List.set_cons_zero, List.set_cons_succ]
      refine wpAnyH_take (i := 5) (oi := { dst := some 67, op := Op.move (Operand.tmp 13), type := 47, pos := "arithmetic.go:134", after := #[], guard := none }) (v := .slice (some ⟨tb, tof, Option.none⟩) (m + 1) tc) rfl (by kernel_rfl) (by kernel_rfl) (by kernel_rfl) (fun _ _ _ h => h) (Or.inl ⟨by rfl, ?_⟩) HSC.out ?_
      · (intro w' hSw; go_simp)
      simp only [Act.put, List.setIfInBounds_toArray, List.set_cons_zero, List.set_cons_succ]
      refine wpAnyH_take (i := 6) (oi := { dst := some 68, op := Op.move (Operand.tmp 12), type := 3, pos := "arithmetic.go:134", after := #[], guard := none }) (v := .int .i64 (m : Int)) rfl (by kernel_rfl) (by kernel_rfl) (by kernel_rfl) (fun _ _ _ h => h) (Or.inl ⟨by rfl, ?_⟩) HSC.out ?_
      · (intro w' hSw; go_simp)
      simp only [Act.put, List.setIfInBounds_toArray, List.set_cons_zero, List.set_cons_succ]
      refine wpAnyH_take (i := 7) (oi := { dst := some 69, op := Op.slice 47 (Operand.tmp 67) none (some (Operand.tmp 68)) none, type := 47, pos := "arithmetic.go:134", after := #[{ on := 5, ground := Ground.data }, { on := 6, ground := Ground.data }], guard := none }) (v := .slice (some ⟨tb, tof, Option.none⟩) m tc) rfl (by kernel_rfl) (by kernel_rfl) (by kernel_rfl) (fun _ _ _ h => h) (Or.inl ⟨by rfl, ?_⟩) HSC.out ?_
      · (intro w' hSw; go_simp)
      simp only [Act.put, List.setIfInBounds_toArray, List.set_cons_zero, List.set_cons_succ]
      refine wpAnyH_take (i := 8) (oi := { dst := some 70, op := Op.move (Operand.tmp 10), type := 47, pos := "arithmetic.go:134", after := #[], guard := none }) (v := .slice X m cap) rfl (by kernel_rfl) (by kernel_rfl) (by kernel_rfl) (fun _ _ _ h => h) (Or.inl ⟨by rfl, ?_⟩) HSC.out ?_
      · (intro w' hSw; go_simp)
      simp only [Act.put, List.setIfInBounds_toArray, List.set_cons_zero, List.set_cons_succ]
      refine wpAnyH_ready (rs := [9]) (by kernel_rfl) (by simp) (AllReadyH.cons (o := { dst := some 71, op := Op.call { callee := Callee.value (Operand.func 84), args := #[Operand.tmp 62, Operand.tmp 66, Operand.tmp 69, Operand.tmp 70], argTypes := #[24, 3, 47, 47] }, type := 47, pos := "arithmetic.go:134", after := #[{ on := 0, ground := Ground.data }, { on := 4, ground := Ground.data }, { on := 7, ground := Ground.data }, { on := 8, ground := Ground.data }], guard := none }) rfl (fun K hK => ?_) AllReadyH.nil)
      go_simp
      go_at_call 84
      refine HCH.out.mono ?_
      rintro e w7 ⟨VA, vc, r', rv7, gs7, rfl, hac7, hrl7, hh7⟩
      have HS7 := Lib.hid (show Stp n₀ bb mb rv I gs (x.length + (10 * x.length + 8) * (k + 1)) w w7 rv7 gs7 from (HS6.out.trans hac7.st HT.out).mono (by rw [show (10 * x.length + 8) * (k + 1) = (10 * x.length + 8) * k + (10 * x.length + 8) from Nat.mul_succ _ _]; have := HIM.out; omega))
      have HQ7 := Lib.hid (HQ6.out.stp HS6.out.tab hac7.st)
      have HN7 := Lib.hid (HN6.out.stp HS6.out.tab hac7.st)
      have HLQ7 := Lib.hid (HLQ4.out.more hac7.st.grow)
      have HLN7 := Lib.hid (HLN4.out.more hac7.st.grow)
      have HLR7 := Lib.hid hac7.lts
      have HRO7 := Lib.hid (own_down hac7.own (show qb + 1 ≤ w6.heap.size from HQ6.out.lt))
      have HRL7 := Lib.hid hrl7
      have HH7 : Hid (Hol I gs7 (fun v d => DvP x y (x.length - (k + 1)) (q.set i b) r' v d ∧ EmpH y nw v d)) := Lib.hid ((HH4.out.more hac7.st.pre).mp2 hh7 fun v d ho ⟨⟨⟨a1, a2⟩, a3⟩, a4⟩ c => ⟨by rw [HE2.out]; exact HSM.out v d ho r' b a1 a2 a3 a4 c, a2⟩)
      have HSC7 := Lib.hid (show w7.cell? ⟨qb, i, Option.none⟩ = some (.int .i64 b) from by have := HQ7.out.cell hiq2; rwa [List.getElem_set_self] at this)
      clear hac7 hrl7 hh7 HCH HSC HS6 HQ6 HN6 HH4
      refine hK.out _ _ HSC7.out (fun _ => ?_)
      clear hK K
      try simp only [Act.put, List.setIfInBounds_toArray, List.set_cons_zero, List.set_cons_succ]
      refine wpAnyH_take (i := 10) (oi := { dst := some 10, op := Op.assign (Operand.tmp 71), type := 47, pos := "arithmetic.go:134", after := #[{ on := 9, ground := Ground.data }, { on := 9, ground := Ground.chain }, { on := 0, ground := Ground.phase }, { on := 1, ground := Ground.phase }, { on := 2, ground := Ground.phase }, { on := 3, ground := Ground.phase }, { on := 4, ground := Ground.phase }, { on := 5, ground := Ground.phase }, { on := 6, ground := Ground.phase }, { on := 7, ground := Ground.phase }, { on := 8, ground := Ground.phase }, { on := 9, ground := Ground.phase }], guard := none }) (v := .slice VA m vc) rfl (by kernel_rfl) (by kernel_rfl) (by kernel_rfl) (fun _ _ _ h => h) (Or.inl ⟨by rfl, ?_⟩) HSC7.out ?_
      · (intro w' hSw; go_simp)
      simp only [Act.put, List.setIfInBounds_toArray, List.set_cons_zero, List.set_cons_succ]
      refine wpAnyH_done (by kernel_rfl) ?_ _
      refine NoPanic.normal ?_
      have HQL7 : Hid ((q.set i b).length = x.length) := Lib.hid (by rw [List.length_set]; exact hql.out)
      have HRL8 : Hid (r'.length = k + 1) := Lib.hid (by rw [HRL7.out]; exact HM.out.symm)
      go_wp2_with (fail)
      exact ⟨⟨k + 1, (i : Int) - 1, q.set i b, r', rv7, gs7, by omega, rfl, HQN, HS7, HQ7, HQL7, HLQ7, HRO7, HRL8, HLR7, HN7, HLN7, HH7⟩, by simp [intOf]⟩
    · obtain rfl : k = x.length := by omega
      obtain rfl : p = -1 := by have := hp.out; omega
      rw [Nat.sub_self] at hho
      have HE : Hid (Hol I gs2 (DivH x y q r)) := Lib.hid (hho.out.mp fun v d _ a => a.1)
      have HO := Lib.hid (own_down hro.out (show w.heap.size ≤ qb + 1 by have := HSW.out; omega))
      obtain ⟨RA, rc, hu, _, _⟩ := hro.out.form
      rw [hrl.out] at hu
      subst hu
      clear hho hp
      go_wp2_with (fail)
      go_ret2
      exact ⟨qb, RA, rc, q, r, rv2, gs2, rfl, hst.out, hqb.out, HSW.out, hql.out, hlq.out, HO.out, hrl.out, hlr.out, HE.out⟩
end
end Go.Proofs.Ytbcabnbgkicfdaa
