/- What is proved: the law ConstraintsGrow, where all constraints are possible. -/
import Derived.Test.YtmamajillkajoaaCoGrLaw
set_option linter.unusedVariables false
namespace Go.Proofs.Ytmamajillkajoaa
open Go.RowKit Go.Shelf

/-- no chain that counts so far -/
def NoQ (l : List Con) (f : Nat → Bool) (L : Nat) (xs : List (List Nat)) (t : Nat) : Prop := ∀ j (h : j < xs.length), j < t → qual l f L xs[j] = false
set_option maxRecDepth 100000 in
set_option maxHeartbeats 2000000 in
theorem grow_ok (m : Nat) (b off c k : Nat) (l : List Con) (w : World) (hm : m ≤ 60) (hl : l.length ≤ 80) (hk : l.length = k + 1) (hcap : k + 1 ≤ c) (hr : CRow w.heap.size w (some ⟨b, off, none⟩) l) (hok : ∀ x ∈ l, ConOk x) (hall : l.all (posB m) = true) :
    Calls Try.prog 5 #[.int .i64 (m : Int), .slice (some ⟨b, off, none⟩) (k + 1) c] w fun e w' => e = .returned (.bool true) ∧ Below w.heap.size w w' := by
  have HAW := Lib.hid (fun W => awake_any W)
  have hp := List.all_eq_true.1 hall
  have hff := few_f m (some ⟨b, off, none⟩) c l true (by unfold fewB; simp; omega) w
  have hbz : b < w.heap.size := by
    obtain ⟨b', off', e, h, _⟩ := hr (by omega)
    cases e
    exact h
  have hS : svOut m l = ((List.range m).map (tyL l (clss l m m)), slvC l m, 0) := by
    unfold svOut
    rw [if_neg (by omega), Int.toNat_natCast, hall, if_pos rfl]
  have hall' : (l.take k).all (posB m) = true := List.all_eq_true.2 (fun x hx => hp x (List.mem_of_mem_take hx))
  have hS' : svOut m (l.take k) = ((List.range m).map (tyL (l.take k) (clss (l.take k) m m)), slvC (l.take k) m, 0) := by
    unfold svOut
    rw [if_neg (by omega), Int.toNat_natCast, hall', if_pos rfl]
  have hV : (errV m l == 0) = true := by rw [← errV_out, hS]; rfl
  have HS := Lib.hid (fun (W : World) (hb : Below w.heap.size w W) => solve_res m (.inl (by omega)) (some ⟨b, off, none⟩) c l W hl (hr.later hb) hok)
  have hxl : (slvC l m).length ≤ 4096 := by
    have := (svOut_len m l).2
    rw [hS] at this
    exact this
  have hpl : (slvC (l.take k) m).length ≤ 4096 := by
    have := (svOut_len m (l.take k)).2
    rw [hS'] at this
    exact this
  have HFT := Lib.hid (fun (W : World) (hb : Below w.heap.size w W) => co_fits_any m (some ⟨b, off, none⟩) c l W (hr.later hb) (by omega) true hV)
  have htl : (l.take k).length = k := by rw [List.length_take]; omega
  have HPT := Lib.hid (fun (W : World) (hb : Below w.heap.size w W) => solve_res m (.inl (by omega)) (some ⟨b, off, none⟩) c (l.take k) W (by rw [htl]; omega) ((hr.later hb).take k) (fun x hx => hok x (List.mem_of_mem_take hx)))
  rw [hS] at HS
  rw [hS', htl] at HPT
  have HCN := Lib.hid (fun (u : Nat) (hu : u < m) (W : World) (hb : Below w.heap.size w W) => conn_any m u (some ⟨b, off, none⟩) c l W (by omega) hu hp (by omega) (hr.later hb))
  have HIS := Lib.hid (fun (xb xo cc : Nat) (ch : List Nat) (m q : Nat) (es : List Nat) (cm cq : Con) (hC : IsCh l ch m q es cm cq) (W : World) (hb : Below w.heap.size w W) (hes : es.length ≤ 1000000) (hcc : es.length + 2 ≤ cc) (hx : IRow W.heap.size W (some ⟨xb, xo, none⟩) ch) => isChain_any b off c l xb xo cc ch m q es cm cq hC W (by omega) hes hcc (hr.later hb) hx)
  have HGM := Lib.hid (fun ch (h : ch ∈ slvC (l.take k) m) => grow_math hp h)
  have HXK := Lib.hid (fun ch (h : ch ∈ slvC l m) => chain_known hp h)
  have HLT := Lib.hid (fun (ch : List Nat) (m q : Nat) (es : List Nat) (cm cq : Con) (h : IsCh l ch m q es cm cq) i hi => by
    have := h.lts i hi
    exact this)
  rw [hk] at HS HFT hff HCN HIS
  have HF := Lib.hid hff
  have HR := Lib.hid hr
  have HLK := Lib.hid hk
  have hkb : (k : Int) ≤ 80 := by omega
  have hcap' : (k : Int) + 1 ≤ (c : Int) := by omega
  have hkc : (k : Int) ≤ (c : Int) := by omega
  have HKC := Lib.hid hcap
  generalize (List.range m).map (tyL l (clss l m m)) = t1 at *
  generalize (List.range m).map (tyL (l.take k) (clss (l.take k) m m)) = t2 at *
  generalize slvC l m = xs at *
  generalize slvC (l.take k) m = ps at *
  clear hr hok hall hp hff hS hall' hS' hV htl hk hcap
  go_enter Try.func5, Try.ntmps5
  go_wp2_with (fail)
  refine HF.out.mono ?_
  rintro e w1 ⟨rfl, hb1⟩
  have HB1 := Lib.hid hb1
  clear hb1
  go_wp2_with (fail)
  refine (HS.out w1 HB1.out).mono ?_
  rintro e w2 ⟨TA, XA, ct, cx, rfl, _, hx2, hb2⟩
  have HX2 := Lib.hid hx2
  have HB2 := Lib.hid (HB1.out.trans (hb2.mono HB1.out.size))
  clear hb2 hx2
  dsimp only
  have hk1 : k ≤ c := by have := HKC.out; omega
  go_wp2_with (fail)
  refine (HPT.out w2 HB2.out).mono ?_
  rintro e w3 ⟨TB, XB, dt, dx, rfl, _, hp3, hb3⟩
  have HX3 := Lib.hid (lrow_later HX2.out hb3)
  have HP3 := Lib.hid hp3
  have HB3 := Lib.hid (HB2.out.trans (hb3.mono HB2.out.size))
  clear hb3 hp3 HX2
  dsimp only
  go_wp2_with (fail)
  refine (HFT.out w3 HB3.out).mono ?_
  rintro e w4 ⟨rfl, hb4⟩
  have HX4 := Lib.hid (lrow_later HX3.out hb4)
  have HP4 := Lib.hid (lrow_later HP3.out hb4)
  have HB4 := Lib.hid (HB3.out.trans (hb4.mono HB3.out.size))
  clear hb4 HX3 HP3 HB3 HB2 HB1 HF HS HPT HFT
  go_wp2_with (fail)
  go_loopw [58] (fun i wr => ∃ j : Nat, j ≤ ps.length ∧ i = .int .i64 (j : Int) ∧ Hid (Below w4.heap.size w4 wr)) (fun i _ => ps.length - (intOf i).toNat)
  case atStart => exact ⟨0, Nat.zero_le _, rfl, Lib.hid (Below.refl _ _)⟩
  case round =>
    obtain ⟨j, hj, rfl, hbr⟩ := hrel
    by_cases hlt : j < ps.length
    · obtain ⟨xb0, xo0, rfl, hxz, hxc⟩ := HP4.out (by omega)
      obtain ⟨X1, z1, c1, k1, kz⟩ := hxc j hlt
      obtain ⟨ch, HCH⟩ : ∃ ch, Hid (ps[j] = ch) := ⟨_, Lib.hid rfl⟩
      rw [HCH.out] at c1 k1 kz
      obtain ⟨m0, q, es, cm, cq, u, hI, hel, hcl, hcu, hum, hfin⟩ := HGM.out ch (by rw [← HCH.out]; exact List.getElem_mem hlt)
      obtain ⟨xb, xo, rfl, hxb, hxcell⟩ := k1 (by omega)
      have hml := HLT.out ch m0 q es cm cq hI m0 (by rw [hI.form]; simp)
      have HWR := Lib.hid (HB4.out.trans (hbr.out.mono HB4.out.size))
      have HIR := Lib.hid (show IRow w4.heap.size w4 (some ⟨xb, xo, none⟩) ch from fun h => ⟨xb, xo, rfl, hxb, hxcell⟩)
      have HI1 := Lib.hid (HIS.out xb xo z1 ch m0 q es cm cq hI wr HWR.out (by omega) (by omega) (co_irow HIR.out hbr.out))
      have c1' := (hbr.out.cell (p := ⟨xb0, xo0 + j, none⟩) hxz).trans c1
      rw [← hel] at c1'
      have HEL := Lib.hid hel
      have HCU := Lib.hid hcu
      have HFIN := Lib.hid hfin
      have hcl' : es.length ≤ 60 := by omega
      have r0 := hxcell 0 (by omega)
      have e0 : ch[0]? = some m0 := by rw [hI.form]; rfl
      rw [List.getElem?_eq_getElem (by omega)] at e0
      rw [Option.some.inj e0, Nat.add_zero] at r0
      have HR0 := Lib.hid r0
      clear hxc c1 k1 hel hcu hfin hcl e0 r0
      go_wp2_with (fail)
      refine HI1.out.mono ?_
      rintro e w5 ⟨rfl, hb5⟩
      have HW5 := Lib.hid (HWR.out.trans (hb5.mono HWR.out.size))
      have HB45 := Lib.hid (hbr.out.trans (hb5.mono hbr.out.size))
      obtain ⟨q0, q1, q2, q3, q4, q5, q6, q7⟩ := ((HR.out.get hI.gm).below HW5.out hbz)
      rw [HCU.out] at q1
      have r0' := (HB45.out.cell (p := ⟨xb, xo, none⟩) hxb).trans HR0.out
      have HC5 := Lib.hid (HCN.out u hum w5 HW5.out)
      rw [HLK.out] at hml
      clear hb5 HI1 c1'
      go_wp2_with (fail)
      refine HC5.out.mono ?_
      rintro e w6 ⟨cb, f, rfl, hba, hfc, hb6⟩
      have HFC := Lib.hid hfc
      have HBA := Lib.hid hba
      have HW6 := Lib.hid (HW5.out.trans (hb6.mono HW5.out.size))
      have HB46 := Lib.hid (HB45.out.trans (hb6.mono HB45.out.size))
      clear hfc hba hb6 HC5 r0' q0 q1 q2 q3 q4 q5 q6 q7
      go_wp2_with (fail)
      go_loopw [14, 78] (fun fd i wq => ∃ (t : Nat) (fb : Bool), t ≤ xs.length ∧ i = .int .i64 (t : Int) ∧ fd = .bool fb ∧ Hid (fb = false → NoQ l f ch.length xs t) ∧ Hid (Below w6.heap.size w6 wq)) (fun _ i _ => xs.length - (intOf i).toNat)
      case atStart => exact ⟨0, false, Nat.zero_le _, rfl, rfl, Lib.hid (fun _ j h hj => by omega), Lib.hid (Below.refl _ _)⟩
      case round =>
        obtain ⟨t, fb, ht, rfl, rfl, hno, hbq⟩ := hrel
        by_cases hlt2 : t < xs.length
        · obtain ⟨yb0, yo0, rfl, hyz, hyc⟩ := HX4.out (by omega)
          obtain ⟨Y1, z2, d1, l1, lz⟩ := hyc t hlt2
          obtain ⟨ot, HOT⟩ : ∃ ot, Hid (xs[t] = ot) := ⟨_, Lib.hid rfl⟩
          rw [HOT.out] at d1 l1 lz
          obtain ⟨m2, q2, es2, cm2, cq2, u2, hI2, hel2, hcl2, hcu2, hum2, hva2⟩ := HXK.out ot (by rw [← HOT.out]; exact List.getElem_mem hlt2)
          obtain ⟨yb, yo, rfl, hyb, hycell⟩ := l1 (by omega)
          have HB4Q := Lib.hid (HB46.out.trans (hbq.out.mono HB46.out.size))
          have HWQ := Lib.hid (HW6.out.trans (hbq.out.mono HW6.out.size))
          have d1' := (HB4Q.out.cell (p := ⟨yb0, yo0 + t, none⟩) hyz).trans d1
          rw [← hel2] at d1'
          have HQL := Lib.hid (show qual l f ch.length ot = (f u2 && decide (es2.length + 2 ≤ es.length + 2)) by
            unfold qual
            rw [hI2.form]
            show (f (vertAt l m2) && _) = _
            rw [hva2, ← hI2.form, ← hel2, HEL.out])
          have HNX := Lib.hid (show (fb = false → qual l f ch.length ot = false → NoQ l f ch.length xs (t + 1)) from fun hfb hq j h hj => by
            by_cases e : j < t
            · exact hno.out hfb j h e
            · obtain rfl : j = t := by omega
              rw [HOT.out]
              exact hq)
          clear hyc d1 l1
          cases fb with
          | true =>
            clear hel2 hcu2 hva2 hcl2 hycell
            go_wp2_with (fail)
            exact ⟨⟨t + 1, true, by omega, by go_num, rfl, Lib.hid (fun h => by cases h), hbq⟩, by simp [intOf]; omega⟩
          | false =>
            have HNY := Lib.hid (show qual l f ch.length ot = false → NoQ l f ch.length xs (t + 1) from HNX.out rfl)
            clear HNX
            have HIR2 := Lib.hid (show IRow w4.heap.size w4 (some ⟨yb, yo, none⟩) ot from fun h => ⟨yb, yo, rfl, hyb, hycell⟩)
            have HI3 := Lib.hid (HIS.out yb yo z2 ot m2 q2 es2 cm2 cq2 hI2 wr HWQ.out (by omega) (by omega) (co_irow HIR2.out HB4Q.out))
            have hml2 := HLT.out ot m2 q2 es2 cm2 cq2 hI2 m2 (by rw [hI2.form]; simp)
            rw [HLK.out] at hml2
            have r2 := hycell 0 (by omega)
            have e2 : ot[0]? = some m2 := by rw [hI2.form]; rfl
            rw [List.getElem?_eq_getElem (by omega)] at e2
            rw [Option.some.inj e2, Nat.add_zero] at r2
            have HGC := Lib.hid (HR.out.get hI2.gm)
            have HCU2 := Lib.hid hcu2
            have hel22 : es2.length ≤ 60 := by omega
            have HR2 := Lib.hid r2
            clear e2 hycell hel2 hcl2 hI2 hva2 hcu2 r2
            go_wp2_with (fail)
            refine HI3.out.mono ?_
            rintro e w7 ⟨rfl, hb7⟩
            have HB7 := Lib.hid (hbq.out.trans (hb7.mono hbq.out.size))
            have HW7 := Lib.hid (HWQ.out.trans (hb7.mono HWQ.out.size))
            have HB47 := Lib.hid (HB4Q.out.trans (hb7.mono HB4Q.out.size))
            obtain ⟨s0, s1, s2, s3, s4, s5, s6, s7⟩ := (HGC.out.below HW7.out hbz)
            rw [HCU2.out] at s1
            have r2' := (HB47.out.cell (p := ⟨yb, yo, none⟩) hyb).trans HR2.out
            have f1 := (HBA.out.below HB7.out).cell hum2
            obtain ⟨fv, HFV⟩ : ∃ fv, Hid (f u2 = fv) := ⟨_, Lib.hid rfl⟩
            rw [HFV.out] at f1
            rw [HFV.out] at HQL
            clear hb7 HI3 d1'
            cases fv with
            | false =>
              go_wp2_with (fail)
              exact ⟨⟨t + 1, false, by omega, by go_num, rfl, Lib.hid (fun _ => HNY.out (by rw [HQL.out]; rfl)), HB7⟩, by simp [intOf]; omega⟩
            | true =>
              by_cases hle : es2.length ≤ es.length
              · go_wp2_with (fail)
                exact ⟨⟨t + 1, true, by omega, by go_num, rfl, Lib.hid (fun h => by cases h), HB7⟩, by simp [intOf]; omega⟩
              · go_wp2_with (fail)
                exact ⟨⟨t + 1, false, by omega, by go_num, rfl, Lib.hid (fun _ => HNY.out (by rw [HQL.out]; simp; omega)), HB7⟩, by simp [intOf]; omega⟩
        · obtain rfl : t = xs.length := by omega
          have hfb : fb = true := by
            cases fb with
            | true => rfl
            | false =>
              obtain ⟨x, hx, hq⟩ := HFIN.out f HFC.out
              obtain ⟨i, hi, e⟩ := List.getElem_of_mem hx
              have := hno.out rfl i hi hi
              rw [e, hq] at this
              cases this
          subst hfb
          have HB4R := Lib.hid (HB46.out.trans (hbq.out.mono HB46.out.size))
          go_wp2_with (fail)
          exact ⟨⟨j + 1, by omega, by go_num, HB4R⟩, by simp [intOf]; omega⟩
    · have HB5 := Lib.hid (HB4.out.trans (hbr.out.mono HB4.out.size))
      go_wp2_with (fail)
      refine (HAW.out _).mono ?_
      rintro e w6 ⟨rfl, hb6⟩
      have HB6 := Lib.hid (HB5.out.trans (hb6.mono HB5.out.size))
      clear hb6
      go_wp2_with (fail)
      go_ret
      exact ⟨rfl, HB6.out⟩
end Go.Proofs.Ytmamajillkajoaa
