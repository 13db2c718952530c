/- What is proved: the law GatesCones, over the example's contract. -/
import Derived.Test.YtaccienlokoolaaGaCnM
import Derived.Test.YtaccienlokoolaaGaClB
import Derived.Test.YtaccienlokoolaaGaSpO
set_option linter.unusedVariables false
set_option linter.unusedSimpArgs false
namespace Go.Proofs.Ytaccienlokoolaa
open Go.RowKit Go.Maps

theorem bparts {w : World} {B n c : Nat} {A : Option Addr} {l : List Bool} (h : BOwn w B (.slice A n c) l) (hi : 0 < l.length) : ∃ g, A = some ⟨g, 0, none⟩ ∧ B ≤ g ∧ g < w.heap.size ∧ (∀ i, w.frozen? ⟨g, i, none⟩ = false) ∧ ∀ (i : Nat) (hi : i < l.length), w.cell? ⟨g, i, none⟩ = some (.bool l[i]) := by
  rcases h.2 with ⟨h1, h0⟩ | ⟨g, cap, cur, hv, hB, hg, hn, _⟩
  · omega
  · injection hv with hv _ _
    subst hv
    refine ⟨g, rfl, hB, hlt hg, fun i => hfrz hg i, fun i hi => ?_⟩
    have a := World.ownsRow.cells h (g := g) rfl _ _ (bcells_get l i hi)
    rw [do_add] at a
    exact a
theorem decide_refl {α : Type} [DecidableEq α] (a : α) : decide (a = a) = true := by simp
theorem decide_refl2 (J : Int) (cg : List Gt) : decide (J = J ∧ cg = cg) = true := by simp
set_option maxRecDepth 100000 in
set_option maxHeartbeats 16000000 in
theorem law_cones (I : Int) (A : Option Addr) (c : Nat) (gs : List Gt) (AL : Option Addr) (cl : Nat) (ls : List Int) (AI : Option Addr) (ci : Nat) (inp : List Bool) (AO : Option Addr) (co : Nat) (oth : List Bool) (w : World) (hI64 : I64o I) (hg : GOpn w A gs) (hz : ZOpn w AL cl ls) (hi : BOpn w AI ci inp) (ho : BOpn w AO co oth) :
    Calls Try.prog 7 #[.agg #[.int .i64 I, .slice A gs.length c], .slice AL ls.length cl, .slice AI inp.length ci, .slice AO oth.length co] w fun e w' => e = .returned (.bool true) ∧ Below w.heap.size w w' := by
  have hb1 := (Below.refl w.heap.size w).alloc (Nat.le_refl _) (.cells #[.int .i64 I, .slice A gs.length c] 30)
  have HX1 := Lib.hid (CBx.new w I A gs.length c)
  have HA := Lib.hid (awake_any (w.alloc (.cells #[.int .i64 I, .slice A gs.length c] 30)))
  have HB1 := Lib.hid hb1
  have HG := Lib.hid hg
  have HZ := Lib.hid hz
  have HI := Lib.hid hi
  have HO := Lib.hid ho
  have hl1 := hg.1
  have hl2 := hz.2.1
  have hl3 := hi.1
  have hl4 := ho.1
  clear hb1 hg hz hi ho
  go_enter Try.func7, Try.ntmps7
  go_upto_region 1 with fail
  generalize hgw : w.alloc (.cells #[.int .i64 I, .slice A gs.length c] 30) = w1 at *
  clear hgw
  obtain ⟨b0, b1⟩ := HX1.out.cells
  go_wp2_with (fail)
  refine HA.out.mono ?_
  rintro e w2 ⟨rfl, hb2⟩
  have HB2 := Lib.hid (HB1.out.trans (hb2.mono HB1.out.size))
  have HX2 := Lib.hid (HX1.out.later hb2)
  clear hb2 b0 b1 HX1 HB1 HA
  obtain ⟨b0, b1⟩ := HX2.out.cells
  by_cases h1 : 40 < gs.length
  · have d1 : decide (40 < (gs.length : Int)) = true := by simp; omega
    clear h1
    go_wp2_with (fail)
    go_ret
    exact ⟨rfl, HB2.out⟩
  have d1 : decide (40 < (gs.length : Int)) = false := by simp; omega
  by_cases h2 : 40 < ls.length
  · have d2 : decide (40 < (ls.length : Int)) = true := by simp; omega
    clear h1 h2
    go_wp2_with (fail)
    go_ret
    exact ⟨rfl, HB2.out⟩
  have d2 : decide (40 < (ls.length : Int)) = false := by simp; omega
  by_cases h3 : 10 < I
  · have d3 : decide (10 < I) = true := by simpa using h3
    clear h1 h2 h3
    go_wp2_with (fail)
    go_ret
    exact ⟨rfl, HB2.out⟩
  have d3 : decide (10 < I) = false := by simpa using h3
  have HVA := Lib.hid (valid_any I A c gs w2 (HG.out.2.1.later HB2.out) HG.out.2.2 (by omega))
  cases hvb : vldB I gs with
  | false =>
    rw [hvb] at HVA
    clear h1 h2 h3 hvb
    go_wp2_with (fail)
    refine HVA.out.mono ?_
    rintro e w3 ⟨rfl, hb⟩
    go_wp2_with (fail)
    go_ret
    exact ⟨rfl, HB2.out.trans (hb.mono HB2.out.size)⟩
  | true =>
    rw [hvb] at HVA
    by_cases h5' : ¬ (inp.length : Int) = I
    · have d5 : ((inp.length : Int) != I) = true := by simpa using h5'
      clear h1 h2 h3 hvb h5'
      go_wp2_with (fail)
      refine HVA.out.mono ?_
      rintro e w3 ⟨rfl, hb⟩
      obtain ⟨b0, b1⟩ := (HX2.out.later hb).cells
      go_wp2_with (fail)
      go_ret
      exact ⟨rfl, HB2.out.trans (hb.mono HB2.out.size)⟩
    have h5 : (inp.length : Int) = I := Decidable.not_not.1 h5'
    clear h5'
    by_cases h6' : ¬ (oth.length : Int) = I
    · have d5 : ((inp.length : Int) != I) = false := by rw [h5]; simp
      have d6 : ((oth.length : Int) != I) = true := by simpa using h6'
      clear h1 h2 h3 hvb h5 h6'
      go_wp2_with (fail)
      refine HVA.out.mono ?_
      rintro e w3 ⟨rfl, hb⟩
      obtain ⟨b0, b1⟩ := (HX2.out.later hb).cells
      go_wp2_with (fail)
      go_ret
      exact ⟨rfl, HB2.out.trans (hb.mono HB2.out.size)⟩
    have h6 : (oth.length : Int) = I := Decidable.not_not.1 h6'
    clear h6'
    have d5 : ((inp.length : Int) != I) = false := by rw [h5]; simp
    have d6 : ((oth.length : Int) != I) = false := by rw [h6]; simp
    have HEV := Lib.hid (fun (w3 : World) (hb : Below w.heap.size w w3) => eval_any I A c gs AI ci inp AL cl ls w3 (HG.out.2.1.later hb) HG.out.2.2 (by omega) (HI.out.2.2.later hb) HI.out.1 (HZ.out.2.2.1.later hb) (by omega))
    cases hv : fitB I gs ls with
    | false =>
      have he : evE I gs inp ls = 1 := (ev_no (fun h => by rw [hv] at h; exact absurd h.1 (by simp))).2
      rw [he] at HEV
      generalize evL I gs inp ls = el at *
      clear h1 h2 h3 hvb hv he h5 h6
      go_wp2_with (fail)
      refine HVA.out.mono ?_
      rintro e w3 ⟨rfl, hb⟩
      have HB3 := Lib.hid (HB2.out.trans (hb.mono HB2.out.size))
      have HX3 := Lib.hid (HX2.out.later hb)
      clear b0 b1 hb HX2
      obtain ⟨b0, b1⟩ := HX3.out.cells
      go_wp2_with (fail)
      refine (HEV.out _ HB3.out).mono ?_
      rintro e w4 ⟨A4, c4, rfl, hrow, hb⟩
      go_wp2_with (fail)
      go_ret
      exact ⟨rfl, HB3.out.trans (hb.mono HB3.out.size)⟩
    | true =>
      have he := (ev_yes hv h5).2
      rw [he] at HEV
      have hfa := co_facts (oth := oth) hv h5 h6 (by omega)
      have hf1 := hfa.e1
      have HSV := Lib.hid (show ∀ x ∈ supV I gs ls, 0 ≤ x ∧ x.toNat < inp.length ∧ x < (oth.length : Int) from fun x hx => by have := hfa.sv x hx; omega)
      have HCO := Lib.hid (fun (w3 : World) (hb : Below w.heap.size w w3) => cone_any I A c gs AL cl ls w3 (HG.out.2.1.later hb) HG.out.2.2 (by omega) (HZ.out.2.2.1.later hb) (by omega))
      rw [hfa.e1, hfa.i1] at HCO
      have hok := co_gtOk (I := I) (gs := gs) (ls := ls) (by omega)
      have hfe := co_small (I := I) (gs := gs) (ls := ls)
      have HC2 := Lib.hid (fun (w3 : World) (A3 : Option Addr) (c3 : Nat) (L3 : Option Addr) (e3 : Nat) (hr : GRow w3 A3 (coG I gs ls)) (hz : ZRow w3.heap.size w3 L3 (coL I gs ls)) => cone_any I A3 c3 (coG I gs ls) L3 e3 (coL I gs ls) w3 hr hok (by omega) hz (by omega))
      rw [hfa.e2, hfa.i2, hfa.g2, hfa.l2] at HC2
      have HE2 := Lib.hid (fun (w3 : World) (hb : Below w.heap.size w w3) (A3 : Option Addr) (c3 : Nat) (L3 : Option Addr) (e3 : Nat) (hr : GRow w3 A3 (coG I gs ls)) (hz : ZRow w3.heap.size w3 L3 (coL I gs ls)) => eval_any I A3 c3 (coG I gs ls) AI ci inp L3 e3 (coL I gs ls) w3 hr hok (by omega) (HI.out.2.2.later hb) HI.out.1 hz (by omega))
      rw [hfa.v1, hfa.v2] at HE2
      have HV2 := Lib.hid (fun (w3 : World) (A3 : Option Addr) (c3 : Nat) (hr : GRow w3 A3 (coG I gs ls)) => valid_any I A3 c3 (coG I gs ls) w3 hr hok (by omega))
      rw [hfa.vd] at HV2
      have hmx := mix_len inp oth (supV I gs ls) (supV I gs ls).length
      have HE3 := Lib.hid (fun (w3 : World) (hb : Below w.heap.size w w3) (AM : Option Addr) (cm : Nat) (hr : BRow w3 AM (mixL inp oth (supV I gs ls) (supV I gs ls).length)) => eval_any I A c gs AM cm (mixL inp oth (supV I gs ls) (supV I gs ls).length) AL cl ls w3 (HG.out.2.1.later hb) HG.out.2.2 (by omega) hr (by rw [hmx]; omega) (HZ.out.2.2.1.later hb) (by omega))
      rw [hfa.m1, hfa.m2, hmx] at HE3
      have HSU := Lib.hid (fun (w3 : World) (hb : Below w.heap.size w w3) => support_own I A c gs AL cl ls w3 (HG.out.2.1.later hb) HG.out.2.2 (by omega) (HZ.out.2.2.1.later hb) (by omega))
      have HCB := Lib.hid (fun (w3 : World) (hb : Below w.heap.size w w3) => clone_bl AO co oth w3 (HO.out.2.2.later hb) (by omega))
      have HOK := Lib.hid hok
      have hfe1 : (coG I gs ls).length ≤ gs.length := hfe.1
      have hfe2 : (coG I gs ls).length ≤ 1000000 := by have := hfe.1; omega
      have hfe3 : (coL I gs ls).length ≤ 1000000 := by have := hfe.2; omega
      have hel : (evL I gs inp ls).length ≤ 1000000 := by unfold evL; split <;> simp; omega
      have hio : inp.length = oth.length := by omega
      have HIO := Lib.hid hio
      have HSL := Lib.hid (show (supV I gs ls).length ≤ 60 from sup_few (by omega))
      generalize evL I gs inp ls = el at *
      generalize coG I gs ls = cg at *
      generalize coL I gs ls = ll at *
      generalize supV I gs ls = sv at *
      have d7 : decide (gs.length < cg.length) = false := by simp; omega
      clear h1 h2 h3 hvb hv he h5 h6 hfa hf1 hok hfe hfe1 hmx hio
      go_wp2_with (fail)
      refine HVA.out.mono ?_
      rintro e w3 ⟨rfl, hb⟩
      have HB3 := Lib.hid (HB2.out.trans (hb.mono HB2.out.size))
      have HX3 := Lib.hid (HX2.out.later hb)
      clear b0 b1 hb HX2 HB2 HVA
      obtain ⟨b0, b1⟩ := HX3.out.cells
      go_wp2_with (fail)
      refine (HEV.out _ HB3.out).mono ?_
      rintro e w4 ⟨A4, c4, rfl, hrow, hb⟩
      have HB4 := Lib.hid (HB3.out.trans (hb.mono HB3.out.size))
      have HX4 := Lib.hid (HX3.out.later hb)
      have HW4 := Lib.hid hrow
      clear b0 b1 hb hrow HX3 HB3 HEV d1 d2 d3 d5 d6
      obtain ⟨b0, b1⟩ := HX4.out.cells
      go_wp2_with (fail)
      refine (HCO.out _ HB4.out).mono ?_
      rintro e w5 ⟨A3, c3, L3, e3, rfl, hrow, hzr, hb⟩
      have HB5 := Lib.hid (HB4.out.trans (hb.mono HB4.out.size))
      have HX5 := Lib.hid (HX4.out.later hb)
      have HW5 := Lib.hid (HW4.out.later hb)
      have HR5 := Lib.hid hrow
      have HZ5 := Lib.hid hzr
      clear b0 b1 hb hrow hzr HX4 HB4 HW4 HCO
      go_upto_region 9 with fail
      have hba := (Below.refl w5.heap.size w5).alloc (Nat.le_refl _) (.cells #[.int .i64 I, .slice A3 cg.length c3] 30)
      have HB6 := Lib.hid (HB5.out.trans (hba.mono HB5.out.size))
      have HX6 := Lib.hid (HX5.out.later hba)
      have HW6 := Lib.hid (HW5.out.later hba)
      have HA6 := Lib.hid (CBx.new w5 I A3 cg.length c3)
      have HR6 := Lib.hid (HR5.out.later hba)
      have HZ6 := Lib.hid (HZ5.out.later hba)
      clear hba HB5 HX5 HR5 HZ5 HW5
      generalize hgw : w5.alloc (.cells #[.int .i64 I, .slice A3 cg.length c3] 30) = w6 at *
      clear hgw
      generalize w5.heap.size = ab at *
      obtain ⟨y0, y1⟩ := HA6.out.cells
      go_wp2_with (fail)
      refine (HC2.out _ A3 c3 L3 e3 HR6.out HZ6.out).mono ?_
      rintro e w7 ⟨A5, c5, L5, e5, rfl, hrow, hzr, hb⟩
      have HB7 := Lib.hid (HB6.out.trans (hb.mono HB6.out.size))
      have HX7 := Lib.hid (HX6.out.later hb)
      have HW7 := Lib.hid (HW6.out.later hb)
      have HA7 := Lib.hid (HA6.out.later hb)
      have HR7 := Lib.hid (HR6.out.later hb)
      have HZ7 := Lib.hid (HZ6.out.later hb)
      have HS7 := Lib.hid hrow
      have HT7 := Lib.hid hzr
      clear y0 y1 hb hrow hzr HX6 HB6 HW6 HA6 HR6 HZ6 HC2
      go_upto_region 10 with fail
      have hba := (Below.refl w7.heap.size w7).alloc (Nat.le_refl _) (.cells #[.int .i64 I, .slice A5 cg.length c5] 30)
      have HP8 := Lib.hid (show PtS w w.heap.size ab w7.heap.size I A gs.length c I cg A3 c3 A5 c5 ll L3 L5 (w7.alloc (.cells #[.int .i64 I, .slice A5 cg.length c5] 30)) from ⟨HX7.out.later hba, HA7.out.later hba, CBx.new w7 I A5 cg.length c5, HR7.out.later hba, HS7.out.later hba, HZ7.out.later hba, HT7.out.later hba, HB7.out.trans (hba.mono HB7.out.size)⟩)
      have HW8 := Lib.hid (HW7.out.later hba)
      clear hba HB7 HX7 HA7 HR7 HZ7 HS7 HT7 HW7
      generalize hgw : w7.alloc (.cells #[.int .i64 I, .slice A5 cg.length c5] 30) = w8 at *
      clear hgw
      generalize w7.heap.size = bb at *
      obtain ⟨y0, y1⟩ := HP8.out.ca.cells
      go_wp2_with (fail)
      refine (HE2.out _ HP8.out.bel A3 c3 L3 e3 HP8.out.ra HP8.out.za).mono ?_
      rintro e w9 ⟨A9, c9, rfl, hrow, hb⟩
      have HP9 := Lib.hid (HP8.out.later hb)
      have HW9 := Lib.hid (HW8.out.later hb)
      have HV9 := Lib.hid hrow
      clear y0 y1 hb hrow HP8 HW8 HE2
      obtain ⟨y0, y1⟩ := HP9.out.ca.cells
      go_wp2_with (fail)
      refine (HV2.out _ A3 c3 HP9.out.ra).mono ?_
      rintro e w10 ⟨rfl, hb⟩
      have HP10 := Lib.hid (HP9.out.later hb)
      have HW10 := Lib.hid (HW9.out.later hb)
      have HV10 := Lib.hid (HV9.out.later hb)
      clear y0 y1 hb HP9 HW9 HV9 HV2
      go_wp2_with (fail)
      refine (equalB_any A9 c9 el A4 c4 el _ HV10.out HW10.out hel).mono ?_
      rintro e w11 ⟨rfl, hb⟩
      have HP11 := Lib.hid (HP10.out.later hb)
      have HW11 := Lib.hid (HW10.out.later hb)
      clear hb HP10 HW10 HV10
      rw [decide_refl]
      obtain ⟨y0, y1⟩ := HP11.out.ca.cells
      obtain ⟨y2, y3⟩ := HP11.out.cb.cells
      go_wp2_with (fail)
      refine (same_any I A3 c3 cg I A5 c5 cg _ HP11.out.ra HP11.out.rb HOK.out HOK.out hfe2).mono ?_
      rintro e w12 ⟨rfl, hb⟩
      rw [decide_refl2]
      have HP12 := Lib.hid (HP11.out.later hb)
      have HW12 := Lib.hid (HW11.out.later hb)
      clear y0 y1 y2 y3 hb HP11 HW11
      go_wp2_with (fail)
      refine (equalI_any L3 e3 L5 e5 ll _ HP12.out.za HP12.out.zb hfe3).mono ?_
      rintro e w13 ⟨rfl, hb⟩
      have HB13 := Lib.hid (HP12.out.later hb).bel
      have HX13 := Lib.hid (HP12.out.later hb).ck
      have HW13 := Lib.hid (HW12.out.later hb)
      obtain ⟨y0, y1⟩ := (HP12.out.later hb).ca.cells
      obtain ⟨b0, b1⟩ := HX13.out.cells
      clear hb HP12 HW12
      go_wp2_with (fail)
      refine (HCB.out _ HB13.out).mono ?_
      rintro e w14 ⟨X, cap, rfl, hown, hb⟩
      have HM14 := Lib.hid (show BOwn w14 w13.heap.size (.slice X oth.length cap) (mixL inp oth sv 0) from hown)
      have HQ14 := Lib.hid hb
      have HB14 := Lib.hid (HB13.out.trans (hb.mono HB13.out.size))
      clear hb hown b0 b1 y0 y1 HCB d7
      obtain ⟨b0, b1⟩ := (HX13.out.later HQ14.out).cells
      go_wp2_with (fail)
      refine (HSU.out _ HB14.out).mono ?_
      rintro e w15 ⟨AS, cs, rfl, hos, hb⟩
      have HM15 := Lib.hid (HM14.out.later hb)
      have HO15 := Lib.hid hos
      have HQ15 := Lib.hid (HQ14.out.trans (hb.mono HQ14.out.size))
      have HLE := Lib.hid (fun g (h : (Value.slice X oth.length cap).ownBlock = some g) => show g < w14.heap.size from (own_block' HM14.out h).2.1)
      clear hb hos b0 b1 HM14 HQ14 HB14 HSU
      go_wp2_with (fail)
      go_loopw [135] (fun jv wr => ∃ (k : Nat), k ≤ sv.length ∧ jv = .int .i64 (k : Int) ∧ Hid (BOwn wr w13.heap.size (.slice X oth.length cap) (mixL inp oth sv k)) ∧ Hid (ZOwn wr w14.heap.size (.slice AS sv.length cs) sv) ∧ Hid (Below w13.heap.size w13 wr)) (fun jv _ => sv.length - (intOf jv).toNat)
      case atStart => exact ⟨0, Nat.zero_le _, rfl, HM15, HO15, HQ15⟩
      case round =>
        obtain ⟨k, hk, rfl, hm, hs, hq⟩ := hrel
        have hsl := HSL.out
        by_cases hlt : k < sv.length
        · obtain ⟨sb, hsb, _, _⟩ := zfirst hs.out (by omega)
          subst hsb
          have r1 := (zcell hs.out hlt).1
          have hx := HSV.out _ (List.getElem_mem hlt)
          have HST := Lib.hid (mix_step (inp := inp) (oth := oth) hlt hx.2.1)
          obtain ⟨m, hm0⟩ : ∃ m : Nat, sv[k] = (m : Int) := ⟨sv[k].toNat, by omega⟩
          rw [hm0] at r1 hx
          simp only [hm0, Int.toNat_natCast] at HST
          have hmi : m < inp.length := by have := hx.2.1; omega
          have hmo : m < oth.length := by have := HIO.out; omega
          have hln := mix_len inp oth sv k
          obtain ⟨g, hg0, hg1, _, hgf, hgc⟩ := bparts hm.out (by omega)
          subst hg0
          obtain ⟨q0, y0⟩ : ∃ q0, wr.cell? ⟨g, m, none⟩ = some (.bool q0) := ⟨_, hgc m (by omega)⟩
          have y1 := hgf m
          obtain ⟨ib, io, hA, _, hic⟩ := (HI.out.2.2.later (HB13.out.trans (hq.out.mono HB13.out.size))) (by omega)
          subst hA
          have y2 := hic m hmi
          have HNX := Lib.hid (hm.out.put (by omega) m inp[m])
          have HNS := Lib.hid (show ZOwn (wr.setCell ⟨g, m, none⟩ (.bool inp[m])) w14.heap.size (.slice (some ⟨sb, 0, none⟩) sv.length cs) sv from ownsRow_setCell_below (a := ⟨g, m, none⟩) hs.out (HLE.out g rfl) (.bool inp[m]))
          have HNQ := Lib.hid (hq.out.setCell (p := ⟨g, m, none⟩) hg1 (.bool inp[m]))
          rw [← HST.out] at HNX
          obtain ⟨q, HY⟩ : ∃ q, Hid (inp[m] = q) := ⟨_, Lib.hid rfl⟩
          rw [HY.out] at HNX HNS HNQ y2
          clear hm0 HST hgf hgc hic hm hs hq hln hx
          go_wp2_with (fail)
          generalize hgw : wr.setCell ⟨g, m, none⟩ (.bool q) = wx at *
          clear hgw
          exact ⟨⟨k + 1, by omega, by go_num, HNX, HNS, HNQ⟩, by simp [intOf]; omega⟩
        · obtain rfl : k = sv.length := by omega
          obtain ⟨Xm, cm, hXm, hX0, hrow⟩ := hm.out.form
          injection hXm with hXm hX2 hX3
          subst hXm
          clear hX0 hX2 hX3
          have HBE := Lib.hid (HB13.out.trans (hq.out.mono HB13.out.size))
          have HR := Lib.hid hrow
          have HWE := Lib.hid (HW13.out.later hq.out)
          obtain ⟨b0, b1⟩ := (HX13.out.later hq.out).cells
          clear hm hs hq hrow
          go_wp2_with (fail)
          refine (HE3.out _ HBE.out X cap HR.out).mono ?_
          rintro e w20 ⟨A20, c20, rfl, hrow, hb⟩
          have HF := Lib.hid (equalB_any A20 c20 el A4 c4 el w20 hrow (HWE.out.later hb) hel)
          have HBF := Lib.hid (HBE.out.trans (hb.mono HBE.out.size))
          clear b0 b1 hb hrow
          go_wp2_with (fail)
          refine HF.out.mono ?_
          rintro e w21 ⟨rfl, hb⟩
          try rw [decide_refl]
          go_wp2_with (fail)
          go_ret
          exact ⟨rfl, HBF.out.trans (hb.mono HBF.out.size)⟩
end Go.Proofs.Ytaccienlokoolaa
