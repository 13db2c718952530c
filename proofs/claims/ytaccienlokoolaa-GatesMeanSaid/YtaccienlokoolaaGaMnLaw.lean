/- What is proved: the law GatesMean, over the example's contract. -/
import Derived.Test.YtaccienlokoolaaGaMn
set_option linter.unusedVariables false
namespace Go.Proofs.Ytaccienlokoolaa
open Go.RowKit Go.Maps

structure MnS (w0 : World) (n₀ bb mb pb pi : Nat) (I : Int) (AI : Option Addr) (n ci : Nat) (gs : List Gt) (e : Int) (rv : Value) (w : World) : Prop where
  tab : Bld w n₀ bb mb rv I gs e
  vb : VBx bb mb rv w pb 24 (.pointer (some ⟨bb, 0, none⟩))
  vi : VBx bb mb rv w pi 47 (.slice AI n ci)
  bel : Below w0.heap.size w0 w
  lo : w0.heap.size ≤ n₀
section
variable {w0 : World} {n₀ bb mb pb pi : Nat} {I : Int} {AI : Option Addr} {n ci : Nat} {gs : List Gt} {e : Int} {rv : Value} {w w' : World}
theorem MnS.later (h : MnS w0 n₀ bb mb pb pi I AI n ci gs e rv w) (hb : Below w.heap.size w w') : MnS w0 n₀ bb mb pb pi I AI n ci gs e rv w' := ⟨h.tab.later hb, h.vb.later hb, h.vi.later hb, h.bel.trans (hb.mono h.bel.size), h.lo⟩
theorem MnS.step {rv' : Value} {gs' : List Gt} {e' : Int} (h : MnS w0 n₀ bb mb pb pi I AI n ci gs e rv w) (r : BdRes n₀ bb mb rv I gs' e' w w' rv') : MnS w0 n₀ bb mb pb pi I AI n ci gs' e' rv' w' := ⟨r.tab, h.vb.step r, h.vi.step r, r.below h.tab h.lo h.bel, h.lo⟩
end
theorem mn_valid {I : Int} {gs : List Gt} (h : CkOk I gs) (hn : gs.length ≤ 5000) : vldB I gs = true := by
  have := h.hi
  exact vld_iff.2 ⟨h, by omega⟩
set_option maxRecDepth 100000 in
set_option maxHeartbeats 16000000 in
theorem law_mean (I : Int) (A : Option Addr) (c : Nat) (ops : List Op4) (AI : Option Addr) (ci : Nat) (inp : List Bool) (w : World) (hI64 : I64o I) (ho : ops.length ≤ 9223372036854775807 ∧ ORow w A ops) (hi : BOpn w AI ci inp) :
    Calls Try.prog 6 #[.int .i64 I, .slice A ops.length c, .slice AI inp.length ci] w fun e w' => e = .returned (.bool true) ∧ Below w.heap.size w w' := by
  have hb1 := (Below.refl w.heap.size w).alloc (Nat.le_refl _) (.cells #[.slice AI inp.length ci] 47)
  have HX1 := Lib.hid (show Bx (w.alloc (.cells #[.slice AI inp.length ci] 47)) w.heap.size 47 (.slice AI inp.length ci) from heap_alloc_new w _)
  have HA := Lib.hid (awake_any (w.alloc (.cells #[.slice AI inp.length ci] 47)))
  have HB1 := Lib.hid hb1
  have HO := Lib.hid ho.2
  have HI := Lib.hid hi.2.2
  have hl1 := ho.1
  have hl2 := hi.1
  clear hb1 ho hi
  go_enter Try.func6, Try.ntmps6
  go_upto_region 1 with fail
  generalize hgw : w.alloc (.cells #[.slice AI inp.length ci] 47) = w1 at *
  clear hgw
  go_wp2_with (fail)
  refine HA.out.mono ?_
  rintro e w2 ⟨rfl, hb2⟩
  have HB2 := Lib.hid (HB1.out.trans (hb2.mono HB1.out.size))
  have HX2 := Lib.hid (HX1.out.later hb2)
  clear hb2 HX1 HB1 HA
  by_cases hr : 0 ≤ I ∧ I ≤ 1024
  · have HN := Lib.hid (new_any I hr w2)
    have h0 := hr.1
    have h1 := hr.2
    clear hr
    go_wp2_with (fail)
    refine HN.out.mono ?_
    rintro e w3 ⟨bb, mb, rfl, ht3, hb3⟩
    have HB3 := Lib.hid (HB2.out.trans (hb3.mono HB2.out.size))
    have HT3 := Lib.hid ht3
    have HX3 := Lib.hid (HX2.out.later hb3)
    have HLO := Lib.hid (show w.heap.size < w2.heap.size from HX2.out.lt)
    clear ht3 hb3 HX2 HB2 HN
    go_upto_region 4 with fail
    have hba := (Below.refl w3.heap.size w3).alloc (Nat.le_refl _) (.cells #[.pointer (some ⟨bb, 0, none⟩)] 24)
    have HS4 := Lib.hid (show MnS w w2.heap.size bb mb w3.heap.size w.heap.size I AI inp.length ci [] 0 (.slice none 0 0) (w3.alloc (.cells #[.pointer (some ⟨bb, 0, none⟩)] 24)) from ⟨HT3.out.later hba, ⟨heap_alloc_new w3 _, fun h => by have := (HT3.out.lt h).2; omega⟩, ⟨HX3.out.later hba, fun h => by have := (HT3.out.lt h).1; have := HLO.out; omega⟩, HB3.out.trans (hba.mono HB3.out.size), Nat.le_of_lt HLO.out⟩)
    clear hba HT3 HX3 HB3 HLO
    generalize hgw : w3.alloc (.cells #[.pointer (some ⟨bb, 0, none⟩)] 24) = w4 at *
    clear hgw
    obtain ⟨pb, HPB⟩ : ∃ pb, Hid (w3.heap.size = pb) := ⟨_, Lib.hid rfl⟩
    rw [HPB.out] at HS4 ⊢
    obtain ⟨pi, HPI⟩ : ∃ pi, Hid (w.heap.size = pi) := ⟨_, Lib.hid rfl⟩
    have HS5 : Hid (MnS w w2.heap.size bb mb pb pi I AI inp.length ci [] 0 (.slice none 0 0) w4) := Lib.hid (by rw [← HPI.out]; exact HS4.out)
    rw [HPI.out]
    clear HS4
    generalize w2.heap.size = n₀ at *
    have cb := HS5.out.vb.bx.cell
    have cp := HS5.out.vi.bx.cell
    by_cases q1 : 40 < ops.length
    · have d1 : decide (40 < (ops.length : Int)) = true := by simp; omega
      clear q1
      go_wp2_with (fail)
      go_ret
      exact ⟨rfl, HS5.out.bel⟩
    have d1 : decide (40 < (ops.length : Int)) = false := by simp; omega
    by_cases q2n : (inp.length : Int) ≠ I
    · have d2 : ((inp.length : Int) == I) = false := by simpa using q2n
      have d2' : ((inp.length : Int) != I) = true := by simpa using q2n
      have q2m : ¬ (inp.length : Int) = I := q2n
      clear q1
      go_wp2_with (fail)
      go_ret
      exact ⟨rfl, HS5.out.bel⟩
    have q2 : (inp.length : Int) = I := by omega
    clear q2n
    have d2 : ((inp.length : Int) == I) = true := by simpa using q2
    have d2' : ((inp.length : Int) != I) = false := by simpa using q2
    by_cases q3 : 10 < I
    · have d3 : decide (10 < I) = true := by simpa using q3
      clear q1 q2 q3
      go_wp2_with (fail)
      go_ret
      exact ⟨rfl, HS5.out.bel⟩
    have d3 : decide (10 < I) = false := by simpa using q3
    have HIL := Lib.hid q2
    have HQ1 := Lib.hid q1
    clear q2 q3 q1
    go_wp2_with (fail)
    clear cb cp
    go_loopw [41] (fun jv wr => ∃ (k : Nat), k ≤ ops.length ∧ jv = .int .i64 (k : Int) ∧ Hid (∃ gs rv, gs.length ≤ 3 * k ∧ MnS w n₀ bb mb pb pi I AI inp.length ci gs 0 rv wr)) (fun jv _ => ops.length - (intOf jv).toNat)
    case atStart => exact ⟨0, Nat.zero_le _, rfl, Lib.hid ⟨[], _, by simp, HS5.out⟩⟩
    case round =>
      obtain ⟨k, hk, rfl, hex⟩ := hrel
      obtain ⟨gs, rv, hgl, hs⟩ := hex.out
      have HS := Lib.hid hs
      clear hs hex
      have hq1 := HQ1.out
      by_cases hlt : k < ops.length
      · obtain ⟨b, off, hA, _, hc0⟩ := (HO.out.later HS.out.bel) (by omega)
        obtain ⟨f0, f1, f2, f3⟩ := hc0 k hlt
        subst hA
        obtain ⟨o, HOP⟩ : ∃ o, Hid (ops[k] = o) := ⟨_, Lib.hid rfl⟩
        rw [HOP.out] at f0 f1 f2 f3
        clear hc0
        go_upto_region 10 with fail
        have hba := (Below.refl wr.heap.size wr).alloc (Nat.le_refl _) (.cells #[.int .i64 o.k, .int .i64 o.a, .int .i64 o.b, .int .i64 o.c] 36)
        have HX5 := Lib.hid (show OBox (wr.alloc (.cells #[.int .i64 o.k, .int .i64 o.a, .int .i64 o.b, .int .i64 o.c] 36)) wr.heap.size o from heap_alloc_new wr _)
        have HS6 := Lib.hid (HS.out.later hba)
        have HNO := Lib.hid (show ¬ Own bb mb rv wr.heap.size from fun h => by have := (HS.out.tab.lt h).2; omega)
        clear hba f0 f1 f2 f3 HS
        generalize hgw : wr.alloc (.cells #[.int .i64 o.k, .int .i64 o.a, .int .i64 o.b, .int .i64 o.c] 36) = w5 at *
        clear hgw
        obtain ⟨ob, HOB⟩ : ∃ ob, Hid (wr.heap.size = ob) := ⟨_, Lib.hid rfl⟩
        rw [HOB.out] at HX5 HNO ⊢
        obtain ⟨x0, x1, x2, x3⟩ := HX5.out.cells
        have cb := HS6.out.vb.bx.cell
        have HM := Lib.hid (do_any o 0 HS6.out.tab (by omega))
        go_wp2_with (fail)
        refine HM.out.mono ?_
        rintro e w6 ⟨rfl, rv', hr⟩
        have HS7 := Lib.hid (HS6.out.step hr)
        have HX7 := Lib.hid (show OBox w6 ob o from (hr.fr.block ob (Go.Proofs.Ytaccienlokoolaa.hlt HX5.out) HNO.out).trans HX5.out)
        have HLN := Lib.hid (Nat.le_trans (st_len I HS6.out.tab.ck 0 o) (show gs.length + 3 ≤ 3 * (k + 1) by omega))
        have HSV := Lib.hid (fun he => st_val (e := 0) (o := o) HS6.out.tab.ck he)
        clear hr HM x0 x1 x2 x3 cb HX5 HS6
        obtain ⟨z, HZE⟩ : ∃ z, Hid (stN I gs 0 o = z) := ⟨_, Lib.hid rfl⟩
        obtain ⟨G, HGE⟩ : ∃ G, Hid (stL I gs 0 o = G) := ⟨_, Lib.hid rfl⟩
        obtain ⟨e', HEE⟩ : ∃ e', Hid (stE I gs 0 o = e') := ⟨_, Lib.hid rfl⟩
        rw [HZE.out, HGE.out, HEE.out] at HSV
        rw [HGE.out, HEE.out] at HS7
        rw [HGE.out] at HLN
        rw [HZE.out]
        clear HZE HGE HEE
        obtain ⟨x0, x1, x2, x3⟩ := HX7.out.cells
        have cb := HS7.out.vb.bx.cell
        have HER := Lib.hid (berr_any HS7.out.tab)
        by_cases he : e' = 0
        · subst he
          have hsv := HSV.out rfl
          have HMV := Lib.hid (fun (W : World) (h : MnS w n₀ bb mb pb pi I AI inp.length ci G 0 rv' W) x (hx : isLit I G x) => mean1_any pb pi AI ci inp x h.tab h.vb.bx h.vi.bx (HI.out.later h.bel) HIL.out hx)
          obtain ⟨vz, HVZ⟩ : ∃ vz, Hid (litV (nv inp G) z = vz) := ⟨_, Lib.hid rfl⟩
          have HMZ := Lib.hid (fun W h => HMV.out W h z hsv.lit)
          have HMN := Lib.hid (fun W h => HMV.out W h (notP z) hsv.lit.not)
          rw [HVZ.out] at HMZ
          rw [litV_not, HVZ.out] at HMN
          have HNT := Lib.hid (fun w => not_any z (by have h1 := hsv.lit; have h2 := HLN.out; unfold isLit at h1; omega) w)
          have HSVH := Lib.hid hsv
          clear hsv HSV
          by_cases k0 : o.k = 0
          · have d0 : (o.k == 0) = true := by simpa using k0
            obtain ⟨a0, a1, hv⟩ := HSVH.out.v0 k0
            have ham : o.a.toNat < inp.length := by have := HIL.out; omega
            have HZV := Lib.hid (hv inp HIL.out ham)
            rw [HVZ.out] at HZV
            obtain ⟨m, hm⟩ : ∃ m : Nat, o.a = (m : Int) := ⟨o.a.toNat, by omega⟩
            have cp := HS7.out.vi.bx.cell
            obtain ⟨ib, io, hAI, _, hic⟩ := (HI.out.later HS7.out.bel) (by omega)
            have hq := hic _ ham
            obtain ⟨q, HQ⟩ : ∃ q, Hid (inp[o.a.toNat] = q) := ⟨_, Lib.hid rfl⟩
            rw [HQ.out] at hq HZV
            rw [show o.a.toNat = m by omega] at hq
            rw [hm] at x1
            rw [hAI] at cp
            have hml : m < inp.length := by omega
            have e0 : decide ((m : Int) < 0) = false := by simp
            have e1 : decide ((inp.length : Int) ≤ (m : Int)) = false := by simp; omega
            clear hic hv a0 a1 k0 hm
            subst hAI
            obtain rfl := HZV.out
            cases vz
            all_goals
              go_wp2_with (fail)
              refine HER.out.mono ?_
              rintro e wx ⟨rfl, hx⟩
              obtain rfl := hx.symm
              go_wp2_with (fail)
              refine (HMZ.out _ HS7.out).mono ?_
              rintro e w8 ⟨rfl, hb⟩
              have HS8 := Lib.hid (HS7.out.later hb)
              have HX8 := Lib.hid (show OBox w8 ob o from (hb.block ob (Go.Proofs.Ytaccienlokoolaa.hlt HX7.out)).trans HX7.out)
              clear hb
              obtain ⟨x0, x1, x2, x3⟩ := HX8.out.cells
              go_wp2_with (fail)
              refine (HNT.out _).mono ?_
              rintro e wx ⟨rfl, hx⟩
              obtain rfl := hx.symm
              go_wp2_with (fail)
              refine (HMN.out _ HS8.out).mono ?_
              rintro e w9 ⟨rfl, hb⟩
              have HS9 := Lib.hid (HS8.out.later hb)
              have HX9 := Lib.hid (show OBox w9 ob o from (hb.block ob (Go.Proofs.Ytaccienlokoolaa.hlt HX8.out)).trans HX8.out)
              clear hb
              obtain ⟨x0, x1, x2, x3⟩ := HX9.out.cells
              go_wp2_with (fail)
              exact ⟨⟨k + 1, by omega, by go_num, Lib.hid ⟨G, rv', HLN.out, HS9.out⟩⟩, by simp [intOf]; omega⟩
          have d0 : (o.k == 0) = false := by simpa using k0
          by_cases k1 : o.k = 1
          · have d1k : (o.k == 1) = true := by simpa using k1
            obtain ⟨la, lb, hv⟩ := HSVH.out.v1 k1
            obtain ⟨va, HVa⟩ : ∃ v, Hid (litV (nv inp G) o.a = v) := ⟨_, Lib.hid rfl⟩
            have HMa := Lib.hid (fun W h => HMV.out W h o.a la)
            rw [HVa.out] at HMa
            obtain ⟨vb, HVb⟩ : ∃ v, Hid (litV (nv inp G) o.b = v) := ⟨_, Lib.hid rfl⟩
            have HMb := Lib.hid (fun W h => HMV.out W h o.b lb)
            rw [HVb.out] at HMb
            have HZV := Lib.hid (hv inp HIL.out)
            rw [HVZ.out, HVa.out, HVb.out] at HZV
            clear hv la lb
            clear k0 k1
            cases va with
            | false =>
              obtain rfl : vz = false := by have := HZV.out; simpa using this
              go_wp2_with (fail)
              refine HER.out.mono ?_
              rintro e wx ⟨rfl, hx⟩
              obtain rfl := hx.symm
              go_wp2_with (fail)
              refine (HMa.out _ HS7.out).mono ?_
              rintro e w8 ⟨rfl, hb⟩
              have HS8 := Lib.hid (HS7.out.later hb)
              have HX8 := Lib.hid (show OBox w8 ob o from (hb.block ob (Go.Proofs.Ytaccienlokoolaa.hlt HX7.out)).trans HX7.out)
              clear hb
              obtain ⟨x0, x1, x2, x3⟩ := HX8.out.cells
              go_wp2_with (fail)
              refine (HMZ.out _ HS8.out).mono ?_
              rintro e w9 ⟨rfl, hb⟩
              have HS9 := Lib.hid (HS8.out.later hb)
              have HX9 := Lib.hid (show OBox w9 ob o from (hb.block ob (Go.Proofs.Ytaccienlokoolaa.hlt HX8.out)).trans HX8.out)
              clear hb
              obtain ⟨x0, x1, x2, x3⟩ := HX9.out.cells
              go_wp2_with (fail)
              refine (HNT.out _).mono ?_
              rintro e wx ⟨rfl, hx⟩
              obtain rfl := hx.symm
              go_wp2_with (fail)
              refine (HMN.out _ HS9.out).mono ?_
              rintro e w10 ⟨rfl, hb⟩
              have HS10 := Lib.hid (HS9.out.later hb)
              have HX10 := Lib.hid (show OBox w10 ob o from (hb.block ob (Go.Proofs.Ytaccienlokoolaa.hlt HX9.out)).trans HX9.out)
              clear hb
              obtain ⟨x0, x1, x2, x3⟩ := HX10.out.cells
              go_wp2_with (fail)
              exact ⟨⟨k + 1, by omega, by go_num, Lib.hid ⟨G, rv', HLN.out, HS10.out⟩⟩, by simp [intOf]; omega⟩
            | true =>
              obtain rfl : vz = vb := by have := HZV.out; simpa using this
              cases vz
              all_goals
                go_wp2_with (fail)
                refine HER.out.mono ?_
                rintro e wx ⟨rfl, hx⟩
                obtain rfl := hx.symm
                go_wp2_with (fail)
                refine (HMa.out _ HS7.out).mono ?_
                rintro e w8 ⟨rfl, hb⟩
                have HS8 := Lib.hid (HS7.out.later hb)
                have HX8 := Lib.hid (show OBox w8 ob o from (hb.block ob (Go.Proofs.Ytaccienlokoolaa.hlt HX7.out)).trans HX7.out)
                clear hb
                obtain ⟨x0, x1, x2, x3⟩ := HX8.out.cells
                go_wp2_with (fail)
                refine (HMb.out _ HS8.out).mono ?_
                rintro e w9 ⟨rfl, hb⟩
                have HS9 := Lib.hid (HS8.out.later hb)
                have HX9 := Lib.hid (show OBox w9 ob o from (hb.block ob (Go.Proofs.Ytaccienlokoolaa.hlt HX8.out)).trans HX8.out)
                clear hb
                obtain ⟨x0, x1, x2, x3⟩ := HX9.out.cells
                go_wp2_with (fail)
                refine (HMZ.out _ HS9.out).mono ?_
                rintro e w10 ⟨rfl, hb⟩
                have HS10 := Lib.hid (HS9.out.later hb)
                have HX10 := Lib.hid (show OBox w10 ob o from (hb.block ob (Go.Proofs.Ytaccienlokoolaa.hlt HX9.out)).trans HX9.out)
                clear hb
                obtain ⟨x0, x1, x2, x3⟩ := HX10.out.cells
                go_wp2_with (fail)
                refine (HNT.out _).mono ?_
                rintro e wx ⟨rfl, hx⟩
                obtain rfl := hx.symm
                go_wp2_with (fail)
                refine (HMN.out _ HS10.out).mono ?_
                rintro e w11 ⟨rfl, hb⟩
                have HS11 := Lib.hid (HS10.out.later hb)
                have HX11 := Lib.hid (show OBox w11 ob o from (hb.block ob (Go.Proofs.Ytaccienlokoolaa.hlt HX10.out)).trans HX10.out)
                clear hb
                obtain ⟨x0, x1, x2, x3⟩ := HX11.out.cells
                go_wp2_with (fail)
                exact ⟨⟨k + 1, by omega, by go_num, Lib.hid ⟨G, rv', HLN.out, HS11.out⟩⟩, by simp [intOf]; omega⟩
          have d1k : (o.k == 1) = false := by simpa using k1
          by_cases k2 : o.k = 2
          · have d2k : (o.k == 2) = true := by simpa using k2
            obtain ⟨la, lb, hv⟩ := HSVH.out.v2 k2
            obtain ⟨va, HVa⟩ : ∃ v, Hid (litV (nv inp G) o.a = v) := ⟨_, Lib.hid rfl⟩
            have HMa := Lib.hid (fun W h => HMV.out W h o.a la)
            rw [HVa.out] at HMa
            obtain ⟨vb, HVb⟩ : ∃ v, Hid (litV (nv inp G) o.b = v) := ⟨_, Lib.hid rfl⟩
            have HMb := Lib.hid (fun W h => HMV.out W h o.b lb)
            rw [HVb.out] at HMb
            have HZV := Lib.hid (hv inp HIL.out)
            rw [HVZ.out, HVa.out, HVb.out] at HZV
            clear hv la lb
            clear k0 k1 k2
            cases va with
            | true =>
              obtain rfl : vz = true := by have := HZV.out; simpa using this
              go_wp2_with (fail)
              refine HER.out.mono ?_
              rintro e wx ⟨rfl, hx⟩
              obtain rfl := hx.symm
              go_wp2_with (fail)
              refine (HMa.out _ HS7.out).mono ?_
              rintro e w8 ⟨rfl, hb⟩
              have HS8 := Lib.hid (HS7.out.later hb)
              have HX8 := Lib.hid (show OBox w8 ob o from (hb.block ob (Go.Proofs.Ytaccienlokoolaa.hlt HX7.out)).trans HX7.out)
              clear hb
              obtain ⟨x0, x1, x2, x3⟩ := HX8.out.cells
              go_wp2_with (fail)
              refine (HMZ.out _ HS8.out).mono ?_
              rintro e w9 ⟨rfl, hb⟩
              have HS9 := Lib.hid (HS8.out.later hb)
              have HX9 := Lib.hid (show OBox w9 ob o from (hb.block ob (Go.Proofs.Ytaccienlokoolaa.hlt HX8.out)).trans HX8.out)
              clear hb
              obtain ⟨x0, x1, x2, x3⟩ := HX9.out.cells
              go_wp2_with (fail)
              refine (HNT.out _).mono ?_
              rintro e wx ⟨rfl, hx⟩
              obtain rfl := hx.symm
              go_wp2_with (fail)
              refine (HMN.out _ HS9.out).mono ?_
              rintro e w10 ⟨rfl, hb⟩
              have HS10 := Lib.hid (HS9.out.later hb)
              have HX10 := Lib.hid (show OBox w10 ob o from (hb.block ob (Go.Proofs.Ytaccienlokoolaa.hlt HX9.out)).trans HX9.out)
              clear hb
              obtain ⟨x0, x1, x2, x3⟩ := HX10.out.cells
              go_wp2_with (fail)
              exact ⟨⟨k + 1, by omega, by go_num, Lib.hid ⟨G, rv', HLN.out, HS10.out⟩⟩, by simp [intOf]; omega⟩
            | false =>
              obtain rfl : vz = vb := by have := HZV.out; simpa using this
              cases vz
              all_goals
                go_wp2_with (fail)
                refine HER.out.mono ?_
                rintro e wx ⟨rfl, hx⟩
                obtain rfl := hx.symm
                go_wp2_with (fail)
                refine (HMa.out _ HS7.out).mono ?_
                rintro e w8 ⟨rfl, hb⟩
                have HS8 := Lib.hid (HS7.out.later hb)
                have HX8 := Lib.hid (show OBox w8 ob o from (hb.block ob (Go.Proofs.Ytaccienlokoolaa.hlt HX7.out)).trans HX7.out)
                clear hb
                obtain ⟨x0, x1, x2, x3⟩ := HX8.out.cells
                go_wp2_with (fail)
                refine (HMb.out _ HS8.out).mono ?_
                rintro e w9 ⟨rfl, hb⟩
                have HS9 := Lib.hid (HS8.out.later hb)
                have HX9 := Lib.hid (show OBox w9 ob o from (hb.block ob (Go.Proofs.Ytaccienlokoolaa.hlt HX8.out)).trans HX8.out)
                clear hb
                obtain ⟨x0, x1, x2, x3⟩ := HX9.out.cells
                go_wp2_with (fail)
                refine (HMZ.out _ HS9.out).mono ?_
                rintro e w10 ⟨rfl, hb⟩
                have HS10 := Lib.hid (HS9.out.later hb)
                have HX10 := Lib.hid (show OBox w10 ob o from (hb.block ob (Go.Proofs.Ytaccienlokoolaa.hlt HX9.out)).trans HX9.out)
                clear hb
                obtain ⟨x0, x1, x2, x3⟩ := HX10.out.cells
                go_wp2_with (fail)
                refine (HNT.out _).mono ?_
                rintro e wx ⟨rfl, hx⟩
                obtain rfl := hx.symm
                go_wp2_with (fail)
                refine (HMN.out _ HS10.out).mono ?_
                rintro e w11 ⟨rfl, hb⟩
                have HS11 := Lib.hid (HS10.out.later hb)
                have HX11 := Lib.hid (show OBox w11 ob o from (hb.block ob (Go.Proofs.Ytaccienlokoolaa.hlt HX10.out)).trans HX10.out)
                clear hb
                obtain ⟨x0, x1, x2, x3⟩ := HX11.out.cells
                go_wp2_with (fail)
                exact ⟨⟨k + 1, by omega, by go_num, Lib.hid ⟨G, rv', HLN.out, HS11.out⟩⟩, by simp [intOf]; omega⟩
          have d2k : (o.k == 2) = false := by simpa using k2
          by_cases k3 : o.k = 3
          · have d3k : (o.k == 3) = true := by simpa using k3
            obtain ⟨la, lb, hv⟩ := HSVH.out.v3 k3
            obtain ⟨va, HVa⟩ : ∃ v, Hid (litV (nv inp G) o.a = v) := ⟨_, Lib.hid rfl⟩
            have HMa := Lib.hid (fun W h => HMV.out W h o.a la)
            rw [HVa.out] at HMa
            obtain ⟨vb, HVb⟩ : ∃ v, Hid (litV (nv inp G) o.b = v) := ⟨_, Lib.hid rfl⟩
            have HMb := Lib.hid (fun W h => HMV.out W h o.b lb)
            rw [HVb.out] at HMb
            have HZV := Lib.hid (hv inp HIL.out)
            rw [HVZ.out, HVa.out, HVb.out] at HZV
            clear hv la lb
            clear k0 k1 k2 k3
            by_cases hctt : va = true ∧ vb = true
            · obtain ⟨ha, hb⟩ := hctt
              subst ha
              subst hb
              obtain rfl : vz = false := by have := HZV.out; simpa using this
              go_wp2_with (fail)
              refine HER.out.mono ?_
              rintro e wx ⟨rfl, hx⟩
              obtain rfl := hx.symm
              go_upto_region 26 with fail
              have HD := Lib.hid (show Below w6.heap.size w6 w6.drew from (Below.refl _ _).drew)
              have HS8 := Lib.hid (HS7.out.later HD.out)
              have HX8 := Lib.hid (show OBox w6.drew ob o from HX7.out)
              clear HD x0 x1 x2 x3 cb
              refine wp_region_noPanic ?_
              refine wp_region_held_drew (S := fun w' => w'.cell? ⟨ob, 1, none⟩ = some (.int .i64 o.a) ∧ w'.cell? ⟨ob, 2, none⟩ = some (.int .i64 o.b)) (by kernel_rfl) ⟨HX8.out.cells.2.1, HX8.out.cells.2.2.1⟩ (fun _ => ?_)
              generalize w6.drew = w8 at *
              refine wpAnyH_take (i := 0) (oi := { dst := some 108, op := Op.move (Operand.tmp 9), type := 62, pos := "law.go:117", after := #[], guard := none }) (v := .func (.func 31) #[] #[.pointer (some ⟨pb, 0, none⟩), .pointer (some ⟨pi, 0, none⟩)]) rfl (by kernel_rfl) (by kernel_rfl) (by kernel_rfl) (fun _ _ _ h => h) (Or.inl ⟨by rfl, ?_⟩) ⟨HX8.out.cells.2.1, HX8.out.cells.2.2.1⟩ ?_
              · (intro w' hSw; go_simp)
              simp only [Act.put, List.setIfInBounds_toArray, List.set_cons_zero, List.set_cons_succ]
              refine wpAnyH_take (i := 1) (oi := { dst := some 109, op := Op.fieldAddr 36 (Operand.tmp 11) 1, type := 0, pos := "law.go:117", after := #[], guard := none }) (v := .pointer (some ⟨ob, 1, none⟩)) rfl (by kernel_rfl) (by kernel_rfl) (by kernel_rfl) (fun _ _ _ h => h) (Or.inl ⟨by rfl, ?_⟩) ⟨HX8.out.cells.2.1, HX8.out.cells.2.2.1⟩ ?_
              · (intro w' hSw; go_simp)
              simp only [Act.put, List.setIfInBounds_toArray, List.set_cons_zero, List.set_cons_succ]
              refine wpAnyH_take (i := 2) (oi := { dst := some 110, op := Op.load 3 (Operand.tmp 109), type := 3, pos := "law.go:117", after := #[{ on := 1, ground := Ground.data }], guard := none }) (v := .int .i64 o.a) rfl (by kernel_rfl) (by kernel_rfl) (by kernel_rfl) (fun _ _ _ h => h) (Or.inl ⟨by rfl, ?_⟩) ⟨HX8.out.cells.2.1, HX8.out.cells.2.2.1⟩ ?_
              · (intro w' hSw; obtain ⟨z1, z2⟩ := hSw; go_simp)
              simp only [Act.put, List.setIfInBounds_toArray, List.set_cons_zero, List.set_cons_succ]
              refine wpAnyH_take (i := 4) (oi := { dst := some 112, op := Op.move (Operand.tmp 9), type := 62, pos := "law.go:117", after := #[], guard := none }) (v := .func (.func 31) #[] #[.pointer (some ⟨pb, 0, none⟩), .pointer (some ⟨pi, 0, none⟩)]) rfl (by kernel_rfl) (by kernel_rfl) (by kernel_rfl) (fun _ _ _ h => h) (Or.inl ⟨by rfl, ?_⟩) ⟨HX8.out.cells.2.1, HX8.out.cells.2.2.1⟩ ?_
              · (intro w' hSw; go_simp)
              simp only [Act.put, List.setIfInBounds_toArray, List.set_cons_zero, List.set_cons_succ]
              refine wpAnyH_take (i := 5) (oi := { dst := some 113, op := Op.fieldAddr 36 (Operand.tmp 11) 2, type := 0, pos := "law.go:117", after := #[], guard := none }) (v := .pointer (some ⟨ob, 2, none⟩)) rfl (by kernel_rfl) (by kernel_rfl) (by kernel_rfl) (fun _ _ _ h => h) (Or.inl ⟨by rfl, ?_⟩) ⟨HX8.out.cells.2.1, HX8.out.cells.2.2.1⟩ ?_
              · (intro w' hSw; go_simp)
              simp only [Act.put, List.setIfInBounds_toArray, List.set_cons_zero, List.set_cons_succ]
              refine wpAnyH_take (i := 6) (oi := { dst := some 114, op := Op.load 3 (Operand.tmp 113), type := 3, pos := "law.go:117", after := #[{ on := 5, ground := Ground.data }], guard := none }) (v := .int .i64 o.b) rfl (by kernel_rfl) (by kernel_rfl) (by kernel_rfl) (fun _ _ _ h => h) (Or.inl ⟨by rfl, ?_⟩) ⟨HX8.out.cells.2.1, HX8.out.cells.2.2.1⟩ ?_
              · (intro w' hSw; obtain ⟨z1, z2⟩ := hSw; go_simp)
              simp only [Act.put, List.setIfInBounds_toArray, List.set_cons_zero, List.set_cons_succ]
              refine wpAnyH_ready (rs := [3]) (by kernel_rfl) (by simp) (AllReadyH.cons (o := { dst := some 111, op := Op.call { callee := Callee.value (Operand.tmp 108), args := #[Operand.tmp 110], argTypes := #[3] }, type := 4, pos := "law.go:117", after := #[{ on := 0, ground := Ground.data }, { on := 2, ground := Ground.data }], guard := none }) rfl (fun K hK => ?_) AllReadyH.nil)
              go_simp
              go_at_call 31
              refine (HMa.out _ HS8.out).mono ?_
              rintro e w9 ⟨rfl, hb⟩
              have HS9 := Lib.hid (HS8.out.later hb)
              have HX9 := Lib.hid (show OBox w9 ob o from (hb.block ob (Go.Proofs.Ytaccienlokoolaa.hlt HX8.out)).trans HX8.out)
              clear hb
              refine hK.out _ _ ⟨HX9.out.cells.2.1, HX9.out.cells.2.2.1⟩ (fun _ => ?_)
              clear hK K
              try simp only [Act.put, List.setIfInBounds_toArray, List.set_cons_zero, List.set_cons_succ]
              refine wpAnyH_ready (rs := [7]) (by kernel_rfl) (by simp) (AllReadyH.cons (o := { dst := some 115, op := Op.call { callee := Callee.value (Operand.tmp 112), args := #[Operand.tmp 114], argTypes := #[3] }, type := 4, pos := "law.go:117", after := #[{ on := 4, ground := Ground.data }, { on := 6, ground := Ground.data }, { on := 3, ground := Ground.chain }], guard := none }) rfl (fun K hK => ?_) AllReadyH.nil)
              go_simp
              go_at_call 31
              refine (HMb.out _ HS9.out).mono ?_
              rintro e w10 ⟨rfl, hb⟩
              have HS10 := Lib.hid (HS9.out.later hb)
              have HX10 := Lib.hid (show OBox w10 ob o from (hb.block ob (Go.Proofs.Ytaccienlokoolaa.hlt HX9.out)).trans HX9.out)
              clear hb
              refine hK.out _ _ ⟨HX10.out.cells.2.1, HX10.out.cells.2.2.1⟩ (fun _ => ?_)
              clear hK K
              try simp only [Act.put, List.setIfInBounds_toArray, List.set_cons_zero, List.set_cons_succ]
              refine wpAnyH_take (i := 8) (oi := { dst := some 116, op := Op.binOp BinOp.neq 4 (Operand.tmp 111) (Operand.tmp 115) 4, type := 4, pos := "law.go:117", after := #[{ on := 3, ground := Ground.data }, { on := 7, ground := Ground.data }], guard := none }) (v := .bool false) rfl (by kernel_rfl) (by kernel_rfl) (by kernel_rfl) (fun _ _ _ h => h) (Or.inl ⟨by rfl, ?_⟩) ⟨HX10.out.cells.2.1, HX10.out.cells.2.2.1⟩ ?_
              · (intro w' hSw; go_simp)
              simp only [Act.put, List.setIfInBounds_toArray, List.set_cons_zero, List.set_cons_succ]
              refine wpAnyH_take (i := 9) (oi := { dst := some 13, op := Op.assign (Operand.tmp 116), type := 4, pos := "law.go:117", after := #[{ on := 8, ground := Ground.data }, { on := 7, ground := Ground.chain }, { on := 0, ground := Ground.phase }, { on := 1, ground := Ground.phase }, { on := 2, ground := Ground.phase }, { on := 3, ground := Ground.phase }, { on := 4, ground := Ground.phase }, { on := 5, ground := Ground.phase }, { on := 6, ground := Ground.phase }, { on := 7, ground := Ground.phase }, { on := 8, ground := Ground.phase }], guard := none }) (v := .bool false) rfl (by kernel_rfl) (by kernel_rfl) (by kernel_rfl) (fun _ _ _ h => h) (Or.inl ⟨by rfl, ?_⟩) ⟨HX10.out.cells.2.1, HX10.out.cells.2.2.1⟩ ?_
              · (intro w' hSw; go_simp)
              simp only [Act.put, List.setIfInBounds_toArray, List.set_cons_zero, List.set_cons_succ]
              refine wpAnyH_done (by kernel_rfl) ?_ _
              refine NoPanic.normal ?_
              obtain ⟨x0, x1, x2, x3⟩ := HX10.out.cells
              go_wp2_with (fail)
              refine (HMZ.out _ HS10.out).mono ?_
              rintro e w11 ⟨rfl, hb⟩
              have HS11 := Lib.hid (HS10.out.later hb)
              have HX11 := Lib.hid (show OBox w11 ob o from (hb.block ob (Go.Proofs.Ytaccienlokoolaa.hlt HX10.out)).trans HX10.out)
              clear hb
              obtain ⟨x0, x1, x2, x3⟩ := HX11.out.cells
              go_wp2_with (fail)
              refine (HNT.out _).mono ?_
              rintro e wx ⟨rfl, hx⟩
              obtain rfl := hx.symm
              go_wp2_with (fail)
              refine (HMN.out _ HS11.out).mono ?_
              rintro e w12 ⟨rfl, hb⟩
              have HS12 := Lib.hid (HS11.out.later hb)
              have HX12 := Lib.hid (show OBox w12 ob o from (hb.block ob (Go.Proofs.Ytaccienlokoolaa.hlt HX11.out)).trans HX11.out)
              clear hb
              obtain ⟨x0, x1, x2, x3⟩ := HX12.out.cells
              go_wp2_with (fail)
              exact ⟨⟨k + 1, by omega, by go_num, Lib.hid ⟨G, rv', HLN.out, HS12.out⟩⟩, by simp [intOf]; omega⟩
            by_cases hctf : va = true ∧ vb = false
            · obtain ⟨ha, hb⟩ := hctf
              subst ha
              subst hb
              obtain rfl : vz = true := by have := HZV.out; simpa using this
              go_wp2_with (fail)
              refine HER.out.mono ?_
              rintro e wx ⟨rfl, hx⟩
              obtain rfl := hx.symm
              go_upto_region 26 with fail
              have HD := Lib.hid (show Below w6.heap.size w6 w6.drew from (Below.refl _ _).drew)
              have HS8 := Lib.hid (HS7.out.later HD.out)
              have HX8 := Lib.hid (show OBox w6.drew ob o from HX7.out)
              clear HD x0 x1 x2 x3 cb
              refine wp_region_noPanic ?_
              refine wp_region_held_drew (S := fun w' => w'.cell? ⟨ob, 1, none⟩ = some (.int .i64 o.a) ∧ w'.cell? ⟨ob, 2, none⟩ = some (.int .i64 o.b)) (by kernel_rfl) ⟨HX8.out.cells.2.1, HX8.out.cells.2.2.1⟩ (fun _ => ?_)
              generalize w6.drew = w8 at *
              refine wpAnyH_take (i := 0) (oi := { dst := some 108, op := Op.move (Operand.tmp 9), type := 62, pos := "law.go:117", after := #[], guard := none }) (v := .func (.func 31) #[] #[.pointer (some ⟨pb, 0, none⟩), .pointer (some ⟨pi, 0, none⟩)]) rfl (by kernel_rfl) (by kernel_rfl) (by kernel_rfl) (fun _ _ _ h => h) (Or.inl ⟨by rfl, ?_⟩) ⟨HX8.out.cells.2.1, HX8.out.cells.2.2.1⟩ ?_
              · (intro w' hSw; go_simp)
              simp only [Act.put, List.setIfInBounds_toArray, List.set_cons_zero, List.set_cons_succ]
              refine wpAnyH_take (i := 1) (oi := { dst := some 109, op := Op.fieldAddr 36 (Operand.tmp 11) 1, type := 0, pos := "law.go:117", after := #[], guard := none }) (v := .pointer (some ⟨ob, 1, none⟩)) rfl (by kernel_rfl) (by kernel_rfl) (by kernel_rfl) (fun _ _ _ h => h) (Or.inl ⟨by rfl, ?_⟩) ⟨HX8.out.cells.2.1, HX8.out.cells.2.2.1⟩ ?_
              · (intro w' hSw; go_simp)
              simp only [Act.put, List.setIfInBounds_toArray, List.set_cons_zero, List.set_cons_succ]
              refine wpAnyH_take (i := 2) (oi := { dst := some 110, op := Op.load 3 (Operand.tmp 109), type := 3, pos := "law.go:117", after := #[{ on := 1, ground := Ground.data }], guard := none }) (v := .int .i64 o.a) rfl (by kernel_rfl) (by kernel_rfl) (by kernel_rfl) (fun _ _ _ h => h) (Or.inl ⟨by rfl, ?_⟩) ⟨HX8.out.cells.2.1, HX8.out.cells.2.2.1⟩ ?_
              · (intro w' hSw; obtain ⟨z1, z2⟩ := hSw; go_simp)
              simp only [Act.put, List.setIfInBounds_toArray, List.set_cons_zero, List.set_cons_succ]
              refine wpAnyH_take (i := 4) (oi := { dst := some 112, op := Op.move (Operand.tmp 9), type := 62, pos := "law.go:117", after := #[], guard := none }) (v := .func (.func 31) #[] #[.pointer (some ⟨pb, 0, none⟩), .pointer (some ⟨pi, 0, none⟩)]) rfl (by kernel_rfl) (by kernel_rfl) (by kernel_rfl) (fun _ _ _ h => h) (Or.inl ⟨by rfl, ?_⟩) ⟨HX8.out.cells.2.1, HX8.out.cells.2.2.1⟩ ?_
              · (intro w' hSw; go_simp)
              simp only [Act.put, List.setIfInBounds_toArray, List.set_cons_zero, List.set_cons_succ]
              refine wpAnyH_take (i := 5) (oi := { dst := some 113, op := Op.fieldAddr 36 (Operand.tmp 11) 2, type := 0, pos := "law.go:117", after := #[], guard := none }) (v := .pointer (some ⟨ob, 2, none⟩)) rfl (by kernel_rfl) (by kernel_rfl) (by kernel_rfl) (fun _ _ _ h => h) (Or.inl ⟨by rfl, ?_⟩) ⟨HX8.out.cells.2.1, HX8.out.cells.2.2.1⟩ ?_
              · (intro w' hSw; go_simp)
              simp only [Act.put, List.setIfInBounds_toArray, List.set_cons_zero, List.set_cons_succ]
              refine wpAnyH_take (i := 6) (oi := { dst := some 114, op := Op.load 3 (Operand.tmp 113), type := 3, pos := "law.go:117", after := #[{ on := 5, ground := Ground.data }], guard := none }) (v := .int .i64 o.b) rfl (by kernel_rfl) (by kernel_rfl) (by kernel_rfl) (fun _ _ _ h => h) (Or.inl ⟨by rfl, ?_⟩) ⟨HX8.out.cells.2.1, HX8.out.cells.2.2.1⟩ ?_
              · (intro w' hSw; obtain ⟨z1, z2⟩ := hSw; go_simp)
              simp only [Act.put, List.setIfInBounds_toArray, List.set_cons_zero, List.set_cons_succ]
              refine wpAnyH_ready (rs := [3]) (by kernel_rfl) (by simp) (AllReadyH.cons (o := { dst := some 111, op := Op.call { callee := Callee.value (Operand.tmp 108), args := #[Operand.tmp 110], argTypes := #[3] }, type := 4, pos := "law.go:117", after := #[{ on := 0, ground := Ground.data }, { on := 2, ground := Ground.data }], guard := none }) rfl (fun K hK => ?_) AllReadyH.nil)
              go_simp
              go_at_call 31
              refine (HMa.out _ HS8.out).mono ?_
              rintro e w9 ⟨rfl, hb⟩
              have HS9 := Lib.hid (HS8.out.later hb)
              have HX9 := Lib.hid (show OBox w9 ob o from (hb.block ob (Go.Proofs.Ytaccienlokoolaa.hlt HX8.out)).trans HX8.out)
              clear hb
              refine hK.out _ _ ⟨HX9.out.cells.2.1, HX9.out.cells.2.2.1⟩ (fun _ => ?_)
              clear hK K
              try simp only [Act.put, List.setIfInBounds_toArray, List.set_cons_zero, List.set_cons_succ]
              refine wpAnyH_ready (rs := [7]) (by kernel_rfl) (by simp) (AllReadyH.cons (o := { dst := some 115, op := Op.call { callee := Callee.value (Operand.tmp 112), args := #[Operand.tmp 114], argTypes := #[3] }, type := 4, pos := "law.go:117", after := #[{ on := 4, ground := Ground.data }, { on := 6, ground := Ground.data }, { on := 3, ground := Ground.chain }], guard := none }) rfl (fun K hK => ?_) AllReadyH.nil)
              go_simp
              go_at_call 31
              refine (HMb.out _ HS9.out).mono ?_
              rintro e w10 ⟨rfl, hb⟩
              have HS10 := Lib.hid (HS9.out.later hb)
              have HX10 := Lib.hid (show OBox w10 ob o from (hb.block ob (Go.Proofs.Ytaccienlokoolaa.hlt HX9.out)).trans HX9.out)
              clear hb
              refine hK.out _ _ ⟨HX10.out.cells.2.1, HX10.out.cells.2.2.1⟩ (fun _ => ?_)
              clear hK K
              try simp only [Act.put, List.setIfInBounds_toArray, List.set_cons_zero, List.set_cons_succ]
              refine wpAnyH_take (i := 8) (oi := { dst := some 116, op := Op.binOp BinOp.neq 4 (Operand.tmp 111) (Operand.tmp 115) 4, type := 4, pos := "law.go:117", after := #[{ on := 3, ground := Ground.data }, { on := 7, ground := Ground.data }], guard := none }) (v := .bool true) rfl (by kernel_rfl) (by kernel_rfl) (by kernel_rfl) (fun _ _ _ h => h) (Or.inl ⟨by rfl, ?_⟩) ⟨HX10.out.cells.2.1, HX10.out.cells.2.2.1⟩ ?_
              · (intro w' hSw; go_simp)
              simp only [Act.put, List.setIfInBounds_toArray, List.set_cons_zero, List.set_cons_succ]
              refine wpAnyH_take (i := 9) (oi := { dst := some 13, op := Op.assign (Operand.tmp 116), type := 4, pos := "law.go:117", after := #[{ on := 8, ground := Ground.data }, { on := 7, ground := Ground.chain }, { on := 0, ground := Ground.phase }, { on := 1, ground := Ground.phase }, { on := 2, ground := Ground.phase }, { on := 3, ground := Ground.phase }, { on := 4, ground := Ground.phase }, { on := 5, ground := Ground.phase }, { on := 6, ground := Ground.phase }, { on := 7, ground := Ground.phase }, { on := 8, ground := Ground.phase }], guard := none }) (v := .bool true) rfl (by kernel_rfl) (by kernel_rfl) (by kernel_rfl) (fun _ _ _ h => h) (Or.inl ⟨by rfl, ?_⟩) ⟨HX10.out.cells.2.1, HX10.out.cells.2.2.1⟩ ?_
              · (intro w' hSw; go_simp)
              simp only [Act.put, List.setIfInBounds_toArray, List.set_cons_zero, List.set_cons_succ]
              refine wpAnyH_done (by kernel_rfl) ?_ _
              refine NoPanic.normal ?_
              obtain ⟨x0, x1, x2, x3⟩ := HX10.out.cells
              go_wp2_with (fail)
              refine (HMZ.out _ HS10.out).mono ?_
              rintro e w11 ⟨rfl, hb⟩
              have HS11 := Lib.hid (HS10.out.later hb)
              have HX11 := Lib.hid (show OBox w11 ob o from (hb.block ob (Go.Proofs.Ytaccienlokoolaa.hlt HX10.out)).trans HX10.out)
              clear hb
              obtain ⟨x0, x1, x2, x3⟩ := HX11.out.cells
              go_wp2_with (fail)
              refine (HNT.out _).mono ?_
              rintro e wx ⟨rfl, hx⟩
              obtain rfl := hx.symm
              go_wp2_with (fail)
              refine (HMN.out _ HS11.out).mono ?_
              rintro e w12 ⟨rfl, hb⟩
              have HS12 := Lib.hid (HS11.out.later hb)
              have HX12 := Lib.hid (show OBox w12 ob o from (hb.block ob (Go.Proofs.Ytaccienlokoolaa.hlt HX11.out)).trans HX11.out)
              clear hb
              obtain ⟨x0, x1, x2, x3⟩ := HX12.out.cells
              go_wp2_with (fail)
              exact ⟨⟨k + 1, by omega, by go_num, Lib.hid ⟨G, rv', HLN.out, HS12.out⟩⟩, by simp [intOf]; omega⟩
            by_cases hcft : va = false ∧ vb = true
            · obtain ⟨ha, hb⟩ := hcft
              subst ha
              subst hb
              obtain rfl : vz = true := by have := HZV.out; simpa using this
              go_wp2_with (fail)
              refine HER.out.mono ?_
              rintro e wx ⟨rfl, hx⟩
              obtain rfl := hx.symm
              go_upto_region 26 with fail
              have HD := Lib.hid (show Below w6.heap.size w6 w6.drew from (Below.refl _ _).drew)
              have HS8 := Lib.hid (HS7.out.later HD.out)
              have HX8 := Lib.hid (show OBox w6.drew ob o from HX7.out)
              clear HD x0 x1 x2 x3 cb
              refine wp_region_noPanic ?_
              refine wp_region_held_drew (S := fun w' => w'.cell? ⟨ob, 1, none⟩ = some (.int .i64 o.a) ∧ w'.cell? ⟨ob, 2, none⟩ = some (.int .i64 o.b)) (by kernel_rfl) ⟨HX8.out.cells.2.1, HX8.out.cells.2.2.1⟩ (fun _ => ?_)
              generalize w6.drew = w8 at *
              refine wpAnyH_take (i := 0) (oi := { dst := some 108, op := Op.move (Operand.tmp 9), type := 62, pos := "law.go:117", after := #[], guard := none }) (v := .func (.func 31) #[] #[.pointer (some ⟨pb, 0, none⟩), .pointer (some ⟨pi, 0, none⟩)]) rfl (by kernel_rfl) (by kernel_rfl) (by kernel_rfl) (fun _ _ _ h => h) (Or.inl ⟨by rfl, ?_⟩) ⟨HX8.out.cells.2.1, HX8.out.cells.2.2.1⟩ ?_
              · (intro w' hSw; go_simp)
              simp only [Act.put, List.setIfInBounds_toArray, List.set_cons_zero, List.set_cons_succ]
              refine wpAnyH_take (i := 1) (oi := { dst := some 109, op := Op.fieldAddr 36 (Operand.tmp 11) 1, type := 0, pos := "law.go:117", after := #[], guard := none }) (v := .pointer (some ⟨ob, 1, none⟩)) rfl (by kernel_rfl) (by kernel_rfl) (by kernel_rfl) (fun _ _ _ h => h) (Or.inl ⟨by rfl, ?_⟩) ⟨HX8.out.cells.2.1, HX8.out.cells.2.2.1⟩ ?_
              · (intro w' hSw; go_simp)
              simp only [Act.put, List.setIfInBounds_toArray, List.set_cons_zero, List.set_cons_succ]
              refine wpAnyH_take (i := 2) (oi := { dst := some 110, op := Op.load 3 (Operand.tmp 109), type := 3, pos := "law.go:117", after := #[{ on := 1, ground := Ground.data }], guard := none }) (v := .int .i64 o.a) rfl (by kernel_rfl) (by kernel_rfl) (by kernel_rfl) (fun _ _ _ h => h) (Or.inl ⟨by rfl, ?_⟩) ⟨HX8.out.cells.2.1, HX8.out.cells.2.2.1⟩ ?_
              · (intro w' hSw; obtain ⟨z1, z2⟩ := hSw; go_simp)
              simp only [Act.put, List.setIfInBounds_toArray, List.set_cons_zero, List.set_cons_succ]
              refine wpAnyH_take (i := 4) (oi := { dst := some 112, op := Op.move (Operand.tmp 9), type := 62, pos := "law.go:117", after := #[], guard := none }) (v := .func (.func 31) #[] #[.pointer (some ⟨pb, 0, none⟩), .pointer (some ⟨pi, 0, none⟩)]) rfl (by kernel_rfl) (by kernel_rfl) (by kernel_rfl) (fun _ _ _ h => h) (Or.inl ⟨by rfl, ?_⟩) ⟨HX8.out.cells.2.1, HX8.out.cells.2.2.1⟩ ?_
              · (intro w' hSw; go_simp)
              simp only [Act.put, List.setIfInBounds_toArray, List.set_cons_zero, List.set_cons_succ]
              refine wpAnyH_take (i := 5) (oi := { dst := some 113, op := Op.fieldAddr 36 (Operand.tmp 11) 2, type := 0, pos := "law.go:117", after := #[], guard := none }) (v := .pointer (some ⟨ob, 2, none⟩)) rfl (by kernel_rfl) (by kernel_rfl) (by kernel_rfl) (fun _ _ _ h => h) (Or.inl ⟨by rfl, ?_⟩) ⟨HX8.out.cells.2.1, HX8.out.cells.2.2.1⟩ ?_
              · (intro w' hSw; go_simp)
              simp only [Act.put, List.setIfInBounds_toArray, List.set_cons_zero, List.set_cons_succ]
              refine wpAnyH_take (i := 6) (oi := { dst := some 114, op := Op.load 3 (Operand.tmp 113), type := 3, pos := "law.go:117", after := #[{ on := 5, ground := Ground.data }], guard := none }) (v := .int .i64 o.b) rfl (by kernel_rfl) (by kernel_rfl) (by kernel_rfl) (fun _ _ _ h => h) (Or.inl ⟨by rfl, ?_⟩) ⟨HX8.out.cells.2.1, HX8.out.cells.2.2.1⟩ ?_
              · (intro w' hSw; obtain ⟨z1, z2⟩ := hSw; go_simp)
              simp only [Act.put, List.setIfInBounds_toArray, List.set_cons_zero, List.set_cons_succ]
              refine wpAnyH_ready (rs := [3]) (by kernel_rfl) (by simp) (AllReadyH.cons (o := { dst := some 111, op := Op.call { callee := Callee.value (Operand.tmp 108), args := #[Operand.tmp 110], argTypes := #[3] }, type := 4, pos := "law.go:117", after := #[{ on := 0, ground := Ground.data }, { on := 2, ground := Ground.data }], guard := none }) rfl (fun K hK => ?_) AllReadyH.nil)
              go_simp
              go_at_call 31
              refine (HMa.out _ HS8.out).mono ?_
              rintro e w9 ⟨rfl, hb⟩
              have HS9 := Lib.hid (HS8.out.later hb)
              have HX9 := Lib.hid (show OBox w9 ob o from (hb.block ob (Go.Proofs.Ytaccienlokoolaa.hlt HX8.out)).trans HX8.out)
              clear hb
              refine hK.out _ _ ⟨HX9.out.cells.2.1, HX9.out.cells.2.2.1⟩ (fun _ => ?_)
              clear hK K
              try simp only [Act.put, List.setIfInBounds_toArray, List.set_cons_zero, List.set_cons_succ]
              refine wpAnyH_ready (rs := [7]) (by kernel_rfl) (by simp) (AllReadyH.cons (o := { dst := some 115, op := Op.call { callee := Callee.value (Operand.tmp 112), args := #[Operand.tmp 114], argTypes := #[3] }, type := 4, pos := "law.go:117", after := #[{ on := 4, ground := Ground.data }, { on := 6, ground := Ground.data }, { on := 3, ground := Ground.chain }], guard := none }) rfl (fun K hK => ?_) AllReadyH.nil)
              go_simp
              go_at_call 31
              refine (HMb.out _ HS9.out).mono ?_
              rintro e w10 ⟨rfl, hb⟩
              have HS10 := Lib.hid (HS9.out.later hb)
              have HX10 := Lib.hid (show OBox w10 ob o from (hb.block ob (Go.Proofs.Ytaccienlokoolaa.hlt HX9.out)).trans HX9.out)
              clear hb
              refine hK.out _ _ ⟨HX10.out.cells.2.1, HX10.out.cells.2.2.1⟩ (fun _ => ?_)
              clear hK K
              try simp only [Act.put, List.setIfInBounds_toArray, List.set_cons_zero, List.set_cons_succ]
              refine wpAnyH_take (i := 8) (oi := { dst := some 116, op := Op.binOp BinOp.neq 4 (Operand.tmp 111) (Operand.tmp 115) 4, type := 4, pos := "law.go:117", after := #[{ on := 3, ground := Ground.data }, { on := 7, ground := Ground.data }], guard := none }) (v := .bool true) rfl (by kernel_rfl) (by kernel_rfl) (by kernel_rfl) (fun _ _ _ h => h) (Or.inl ⟨by rfl, ?_⟩) ⟨HX10.out.cells.2.1, HX10.out.cells.2.2.1⟩ ?_
              · (intro w' hSw; go_simp)
              simp only [Act.put, List.setIfInBounds_toArray, List.set_cons_zero, List.set_cons_succ]
              refine wpAnyH_take (i := 9) (oi := { dst := some 13, op := Op.assign (Operand.tmp 116), type := 4, pos := "law.go:117", after := #[{ on := 8, ground := Ground.data }, { on := 7, ground := Ground.chain }, { on := 0, ground := Ground.phase }, { on := 1, ground := Ground.phase }, { on := 2, ground := Ground.phase }, { on := 3, ground := Ground.phase }, { on := 4, ground := Ground.phase }, { on := 5, ground := Ground.phase }, { on := 6, ground := Ground.phase }, { on := 7, ground := Ground.phase }, { on := 8, ground := Ground.phase }], guard := none }) (v := .bool true) rfl (by kernel_rfl) (by kernel_rfl) (by kernel_rfl) (fun _ _ _ h => h) (Or.inl ⟨by rfl, ?_⟩) ⟨HX10.out.cells.2.1, HX10.out.cells.2.2.1⟩ ?_
              · (intro w' hSw; go_simp)
              simp only [Act.put, List.setIfInBounds_toArray, List.set_cons_zero, List.set_cons_succ]
              refine wpAnyH_done (by kernel_rfl) ?_ _
              refine NoPanic.normal ?_
              obtain ⟨x0, x1, x2, x3⟩ := HX10.out.cells
              go_wp2_with (fail)
              refine (HMZ.out _ HS10.out).mono ?_
              rintro e w11 ⟨rfl, hb⟩
              have HS11 := Lib.hid (HS10.out.later hb)
              have HX11 := Lib.hid (show OBox w11 ob o from (hb.block ob (Go.Proofs.Ytaccienlokoolaa.hlt HX10.out)).trans HX10.out)
              clear hb
              obtain ⟨x0, x1, x2, x3⟩ := HX11.out.cells
              go_wp2_with (fail)
              refine (HNT.out _).mono ?_
              rintro e wx ⟨rfl, hx⟩
              obtain rfl := hx.symm
              go_wp2_with (fail)
              refine (HMN.out _ HS11.out).mono ?_
              rintro e w12 ⟨rfl, hb⟩
              have HS12 := Lib.hid (HS11.out.later hb)
              have HX12 := Lib.hid (show OBox w12 ob o from (hb.block ob (Go.Proofs.Ytaccienlokoolaa.hlt HX11.out)).trans HX11.out)
              clear hb
              obtain ⟨x0, x1, x2, x3⟩ := HX12.out.cells
              go_wp2_with (fail)
              exact ⟨⟨k + 1, by omega, by go_num, Lib.hid ⟨G, rv', HLN.out, HS12.out⟩⟩, by simp [intOf]; omega⟩
            by_cases hcff : va = false ∧ vb = false
            · obtain ⟨ha, hb⟩ := hcff
              subst ha
              subst hb
              obtain rfl : vz = false := by have := HZV.out; simpa using this
              go_wp2_with (fail)
              refine HER.out.mono ?_
              rintro e wx ⟨rfl, hx⟩
              obtain rfl := hx.symm
              go_upto_region 26 with fail
              have HD := Lib.hid (show Below w6.heap.size w6 w6.drew from (Below.refl _ _).drew)
              have HS8 := Lib.hid (HS7.out.later HD.out)
              have HX8 := Lib.hid (show OBox w6.drew ob o from HX7.out)
              clear HD x0 x1 x2 x3 cb
              refine wp_region_noPanic ?_
              refine wp_region_held_drew (S := fun w' => w'.cell? ⟨ob, 1, none⟩ = some (.int .i64 o.a) ∧ w'.cell? ⟨ob, 2, none⟩ = some (.int .i64 o.b)) (by kernel_rfl) ⟨HX8.out.cells.2.1, HX8.out.cells.2.2.1⟩ (fun _ => ?_)
              generalize w6.drew = w8 at *
              refine wpAnyH_take (i := 0) (oi := { dst := some 108, op := Op.move (Operand.tmp 9), type := 62, pos := "law.go:117", after := #[], guard := none }) (v := .func (.func 31) #[] #[.pointer (some ⟨pb, 0, none⟩), .pointer (some ⟨pi, 0, none⟩)]) rfl (by kernel_rfl) (by kernel_rfl) (by kernel_rfl) (fun _ _ _ h => h) (Or.inl ⟨by rfl, ?_⟩) ⟨HX8.out.cells.2.1, HX8.out.cells.2.2.1⟩ ?_
              · (intro w' hSw; go_simp)
              simp only [Act.put, List.setIfInBounds_toArray, List.set_cons_zero, List.set_cons_succ]
              refine wpAnyH_take (i := 1) (oi := { dst := some 109, op := Op.fieldAddr 36 (Operand.tmp 11) 1, type := 0, pos := "law.go:117", after := #[], guard := none }) (v := .pointer (some ⟨ob, 1, none⟩)) rfl (by kernel_rfl) (by kernel_rfl) (by kernel_rfl) (fun _ _ _ h => h) (Or.inl ⟨by rfl, ?_⟩) ⟨HX8.out.cells.2.1, HX8.out.cells.2.2.1⟩ ?_
              · (intro w' hSw; go_simp)
              simp only [Act.put, List.setIfInBounds_toArray, List.set_cons_zero, List.set_cons_succ]
              refine wpAnyH_take (i := 2) (oi := { dst := some 110, op := Op.load 3 (Operand.tmp 109), type := 3, pos := "law.go:117", after := #[{ on := 1, ground := Ground.data }], guard := none }) (v := .int .i64 o.a) rfl (by kernel_rfl) (by kernel_rfl) (by kernel_rfl) (fun _ _ _ h => h) (Or.inl ⟨by rfl, ?_⟩) ⟨HX8.out.cells.2.1, HX8.out.cells.2.2.1⟩ ?_
              · (intro w' hSw; obtain ⟨z1, z2⟩ := hSw; go_simp)
              simp only [Act.put, List.setIfInBounds_toArray, List.set_cons_zero, List.set_cons_succ]
              refine wpAnyH_take (i := 4) (oi := { dst := some 112, op := Op.move (Operand.tmp 9), type := 62, pos := "law.go:117", after := #[], guard := none }) (v := .func (.func 31) #[] #[.pointer (some ⟨pb, 0, none⟩), .pointer (some ⟨pi, 0, none⟩)]) rfl (by kernel_rfl) (by kernel_rfl) (by kernel_rfl) (fun _ _ _ h => h) (Or.inl ⟨by rfl, ?_⟩) ⟨HX8.out.cells.2.1, HX8.out.cells.2.2.1⟩ ?_
              · (intro w' hSw; go_simp)
              simp only [Act.put, List.setIfInBounds_toArray, List.set_cons_zero, List.set_cons_succ]
              refine wpAnyH_take (i := 5) (oi := { dst := some 113, op := Op.fieldAddr 36 (Operand.tmp 11) 2, type := 0, pos := "law.go:117", after := #[], guard := none }) (v := .pointer (some ⟨ob, 2, none⟩)) rfl (by kernel_rfl) (by kernel_rfl) (by kernel_rfl) (fun _ _ _ h => h) (Or.inl ⟨by rfl, ?_⟩) ⟨HX8.out.cells.2.1, HX8.out.cells.2.2.1⟩ ?_
              · (intro w' hSw; go_simp)
              simp only [Act.put, List.setIfInBounds_toArray, List.set_cons_zero, List.set_cons_succ]
              refine wpAnyH_take (i := 6) (oi := { dst := some 114, op := Op.load 3 (Operand.tmp 113), type := 3, pos := "law.go:117", after := #[{ on := 5, ground := Ground.data }], guard := none }) (v := .int .i64 o.b) rfl (by kernel_rfl) (by kernel_rfl) (by kernel_rfl) (fun _ _ _ h => h) (Or.inl ⟨by rfl, ?_⟩) ⟨HX8.out.cells.2.1, HX8.out.cells.2.2.1⟩ ?_
              · (intro w' hSw; obtain ⟨z1, z2⟩ := hSw; go_simp)
              simp only [Act.put, List.setIfInBounds_toArray, List.set_cons_zero, List.set_cons_succ]
              refine wpAnyH_ready (rs := [3]) (by kernel_rfl) (by simp) (AllReadyH.cons (o := { dst := some 111, op := Op.call { callee := Callee.value (Operand.tmp 108), args := #[Operand.tmp 110], argTypes := #[3] }, type := 4, pos := "law.go:117", after := #[{ on := 0, ground := Ground.data }, { on := 2, ground := Ground.data }], guard := none }) rfl (fun K hK => ?_) AllReadyH.nil)
              go_simp
              go_at_call 31
              refine (HMa.out _ HS8.out).mono ?_
              rintro e w9 ⟨rfl, hb⟩
              have HS9 := Lib.hid (HS8.out.later hb)
              have HX9 := Lib.hid (show OBox w9 ob o from (hb.block ob (Go.Proofs.Ytaccienlokoolaa.hlt HX8.out)).trans HX8.out)
              clear hb
              refine hK.out _ _ ⟨HX9.out.cells.2.1, HX9.out.cells.2.2.1⟩ (fun _ => ?_)
              clear hK K
              try simp only [Act.put, List.setIfInBounds_toArray, List.set_cons_zero, List.set_cons_succ]
              refine wpAnyH_ready (rs := [7]) (by kernel_rfl) (by simp) (AllReadyH.cons (o := { dst := some 115, op := Op.call { callee := Callee.value (Operand.tmp 112), args := #[Operand.tmp 114], argTypes := #[3] }, type := 4, pos := "law.go:117", after := #[{ on := 4, ground := Ground.data }, { on := 6, ground := Ground.data }, { on := 3, ground := Ground.chain }], guard := none }) rfl (fun K hK => ?_) AllReadyH.nil)
              go_simp
              go_at_call 31
              refine (HMb.out _ HS9.out).mono ?_
              rintro e w10 ⟨rfl, hb⟩
              have HS10 := Lib.hid (HS9.out.later hb)
              have HX10 := Lib.hid (show OBox w10 ob o from (hb.block ob (Go.Proofs.Ytaccienlokoolaa.hlt HX9.out)).trans HX9.out)
              clear hb
              refine hK.out _ _ ⟨HX10.out.cells.2.1, HX10.out.cells.2.2.1⟩ (fun _ => ?_)
              clear hK K
              try simp only [Act.put, List.setIfInBounds_toArray, List.set_cons_zero, List.set_cons_succ]
              refine wpAnyH_take (i := 8) (oi := { dst := some 116, op := Op.binOp BinOp.neq 4 (Operand.tmp 111) (Operand.tmp 115) 4, type := 4, pos := "law.go:117", after := #[{ on := 3, ground := Ground.data }, { on := 7, ground := Ground.data }], guard := none }) (v := .bool false) rfl (by kernel_rfl) (by kernel_rfl) (by kernel_rfl) (fun _ _ _ h => h) (Or.inl ⟨by rfl, ?_⟩) ⟨HX10.out.cells.2.1, HX10.out.cells.2.2.1⟩ ?_
              · (intro w' hSw; go_simp)
              simp only [Act.put, List.setIfInBounds_toArray, List.set_cons_zero, List.set_cons_succ]
              refine wpAnyH_take (i := 9) (oi := { dst := some 13, op := Op.assign (Operand.tmp 116), type := 4, pos := "law.go:117", after := #[{ on := 8, ground := Ground.data }, { on := 7, ground := Ground.chain }, { on := 0, ground := Ground.phase }, { on := 1, ground := Ground.phase }, { on := 2, ground := Ground.phase }, { on := 3, ground := Ground.phase }, { on := 4, ground := Ground.phase }, { on := 5, ground := Ground.phase }, { on := 6, ground := Ground.phase }, { on := 7, ground := Ground.phase }, { on := 8, ground := Ground.phase }], guard := none }) (v := .bool false) rfl (by kernel_rfl) (by kernel_rfl) (by kernel_rfl) (fun _ _ _ h => h) (Or.inl ⟨by rfl, ?_⟩) ⟨HX10.out.cells.2.1, HX10.out.cells.2.2.1⟩ ?_
              · (intro w' hSw; go_simp)
              simp only [Act.put, List.setIfInBounds_toArray, List.set_cons_zero, List.set_cons_succ]
              refine wpAnyH_done (by kernel_rfl) ?_ _
              refine NoPanic.normal ?_
              obtain ⟨x0, x1, x2, x3⟩ := HX10.out.cells
              go_wp2_with (fail)
              refine (HMZ.out _ HS10.out).mono ?_
              rintro e w11 ⟨rfl, hb⟩
              have HS11 := Lib.hid (HS10.out.later hb)
              have HX11 := Lib.hid (show OBox w11 ob o from (hb.block ob (Go.Proofs.Ytaccienlokoolaa.hlt HX10.out)).trans HX10.out)
              clear hb
              obtain ⟨x0, x1, x2, x3⟩ := HX11.out.cells
              go_wp2_with (fail)
              refine (HNT.out _).mono ?_
              rintro e wx ⟨rfl, hx⟩
              obtain rfl := hx.symm
              go_wp2_with (fail)
              refine (HMN.out _ HS11.out).mono ?_
              rintro e w12 ⟨rfl, hb⟩
              have HS12 := Lib.hid (HS11.out.later hb)
              have HX12 := Lib.hid (show OBox w12 ob o from (hb.block ob (Go.Proofs.Ytaccienlokoolaa.hlt HX11.out)).trans HX11.out)
              clear hb
              obtain ⟨x0, x1, x2, x3⟩ := HX12.out.cells
              go_wp2_with (fail)
              exact ⟨⟨k + 1, by omega, by go_num, Lib.hid ⟨G, rv', HLN.out, HS12.out⟩⟩, by simp [intOf]; omega⟩
            cases va <;> cases vb <;> simp at hctt hctf hcft hcff
            -- END X
          have d3k : (o.k == 3) = false := by simpa using k3
          obtain ⟨la, lb, lc, hv⟩ := HSVH.out.v4 k0 k1 k2 k3
          obtain ⟨va, HVa⟩ : ∃ v, Hid (litV (nv inp G) o.a = v) := ⟨_, Lib.hid rfl⟩
          have HMa := Lib.hid (fun W h => HMV.out W h o.a la)
          rw [HVa.out] at HMa
          obtain ⟨vb, HVb⟩ : ∃ v, Hid (litV (nv inp G) o.b = v) := ⟨_, Lib.hid rfl⟩
          have HMb := Lib.hid (fun W h => HMV.out W h o.b lb)
          rw [HVb.out] at HMb
          obtain ⟨vc, HVc⟩ : ∃ v, Hid (litV (nv inp G) o.c = v) := ⟨_, Lib.hid rfl⟩
          have HMc := Lib.hid (fun W h => HMV.out W h o.c lc)
          rw [HVc.out] at HMc
          have HZV := Lib.hid (hv inp HIL.out)
          rw [HVZ.out, HVa.out, HVb.out, HVc.out] at HZV
          clear hv la lb lc
          clear k0 k1 k2 k3
          cases va with
          | true =>
            obtain rfl : vz = vb := by have := HZV.out; simpa using this
            cases vz <;> cases vc
            all_goals
              go_wp2_with (fail)
              refine HER.out.mono ?_
              rintro e wx ⟨rfl, hx⟩
              obtain rfl := hx.symm
              go_wp2_with (fail)
              refine (HMc.out _ HS7.out).mono ?_
              rintro e w8 ⟨rfl, hb⟩
              have HS8 := Lib.hid (HS7.out.later hb)
              have HX8 := Lib.hid (show OBox w8 ob o from (hb.block ob (Go.Proofs.Ytaccienlokoolaa.hlt HX7.out)).trans HX7.out)
              clear hb
              obtain ⟨x0, x1, x2, x3⟩ := HX8.out.cells
              go_wp2_with (fail)
              refine (HMa.out _ HS8.out).mono ?_
              rintro e w9 ⟨rfl, hb⟩
              have HS9 := Lib.hid (HS8.out.later hb)
              have HX9 := Lib.hid (show OBox w9 ob o from (hb.block ob (Go.Proofs.Ytaccienlokoolaa.hlt HX8.out)).trans HX8.out)
              clear hb
              obtain ⟨x0, x1, x2, x3⟩ := HX9.out.cells
              go_wp2_with (fail)
              refine (HMb.out _ HS9.out).mono ?_
              rintro e w10 ⟨rfl, hb⟩
              have HS10 := Lib.hid (HS9.out.later hb)
              have HX10 := Lib.hid (show OBox w10 ob o from (hb.block ob (Go.Proofs.Ytaccienlokoolaa.hlt HX9.out)).trans HX9.out)
              clear hb
              obtain ⟨x0, x1, x2, x3⟩ := HX10.out.cells
              go_wp2_with (fail)
              refine (HMZ.out _ HS10.out).mono ?_
              rintro e w11 ⟨rfl, hb⟩
              have HS11 := Lib.hid (HS10.out.later hb)
              have HX11 := Lib.hid (show OBox w11 ob o from (hb.block ob (Go.Proofs.Ytaccienlokoolaa.hlt HX10.out)).trans HX10.out)
              clear hb
              obtain ⟨x0, x1, x2, x3⟩ := HX11.out.cells
              go_wp2_with (fail)
              refine (HNT.out _).mono ?_
              rintro e wx ⟨rfl, hx⟩
              obtain rfl := hx.symm
              go_wp2_with (fail)
              refine (HMN.out _ HS11.out).mono ?_
              rintro e w12 ⟨rfl, hb⟩
              have HS12 := Lib.hid (HS11.out.later hb)
              have HX12 := Lib.hid (show OBox w12 ob o from (hb.block ob (Go.Proofs.Ytaccienlokoolaa.hlt HX11.out)).trans HX11.out)
              clear hb
              obtain ⟨x0, x1, x2, x3⟩ := HX12.out.cells
              go_wp2_with (fail)
              exact ⟨⟨k + 1, by omega, by go_num, Lib.hid ⟨G, rv', HLN.out, HS12.out⟩⟩, by simp [intOf]; omega⟩
          | false =>
            obtain rfl : vz = vc := by have := HZV.out; simpa using this
            cases vz
            all_goals
              go_wp2_with (fail)
              refine HER.out.mono ?_
              rintro e wx ⟨rfl, hx⟩
              obtain rfl := hx.symm
              go_wp2_with (fail)
              refine (HMc.out _ HS7.out).mono ?_
              rintro e w8 ⟨rfl, hb⟩
              have HS8 := Lib.hid (HS7.out.later hb)
              have HX8 := Lib.hid (show OBox w8 ob o from (hb.block ob (Go.Proofs.Ytaccienlokoolaa.hlt HX7.out)).trans HX7.out)
              clear hb
              obtain ⟨x0, x1, x2, x3⟩ := HX8.out.cells
              go_wp2_with (fail)
              refine (HMa.out _ HS8.out).mono ?_
              rintro e w9 ⟨rfl, hb⟩
              have HS9 := Lib.hid (HS8.out.later hb)
              have HX9 := Lib.hid (show OBox w9 ob o from (hb.block ob (Go.Proofs.Ytaccienlokoolaa.hlt HX8.out)).trans HX8.out)
              clear hb
              obtain ⟨x0, x1, x2, x3⟩ := HX9.out.cells
              go_wp2_with (fail)
              refine (HMZ.out _ HS9.out).mono ?_
              rintro e w10 ⟨rfl, hb⟩
              have HS10 := Lib.hid (HS9.out.later hb)
              have HX10 := Lib.hid (show OBox w10 ob o from (hb.block ob (Go.Proofs.Ytaccienlokoolaa.hlt HX9.out)).trans HX9.out)
              clear hb
              obtain ⟨x0, x1, x2, x3⟩ := HX10.out.cells
              go_wp2_with (fail)
              refine (HNT.out _).mono ?_
              rintro e wx ⟨rfl, hx⟩
              obtain rfl := hx.symm
              go_wp2_with (fail)
              refine (HMN.out _ HS10.out).mono ?_
              rintro e w11 ⟨rfl, hb⟩
              have HS11 := Lib.hid (HS10.out.later hb)
              have HX11 := Lib.hid (show OBox w11 ob o from (hb.block ob (Go.Proofs.Ytaccienlokoolaa.hlt HX10.out)).trans HX10.out)
              clear hb
              obtain ⟨x0, x1, x2, x3⟩ := HX11.out.cells
              go_wp2_with (fail)
              exact ⟨⟨k + 1, by omega, by go_num, Lib.hid ⟨G, rv', HLN.out, HS11.out⟩⟩, by simp [intOf]; omega⟩
        · have d0 : (e' == 0) = false := by simpa using he
          have HVL := Lib.hid (mn_valid HS7.out.tab.ck HS7.out.tab.few)
          clear he
          go_wp2_with (fail)
          refine HER.out.mono ?_
          rintro e wx ⟨rfl, hx⟩
          obtain rfl := hx.symm
          go_wp2_with (fail)
          refine (circuit_any HS7.out.tab).mono ?_
          rintro e w8 ⟨X, cap, rfl, ho8, hb8⟩
          have HB8 := Lib.hid (HS7.out.bel.trans (hb8.mono HS7.out.bel.size))
          obtain ⟨A9, c9, hX9, _, hrow9, _⟩ := (show GOwn w8 _ _ _ from ho8).form
          injection hX9 with hX9 _ hc9
          subst hX9
          subst hc9
          have HVA := Lib.hid (valid_any I X cap _ w8 hrow9 (ck_gtOk HS7.out.tab.ck HS7.out.tab.few) HS7.out.tab.few)
          rw [HVL.out] at HVA
          clear ho8 hb8 hrow9
          go_wp2_with (fail)
          refine HVA.out.mono ?_
          rintro e w9 ⟨rfl, hb9⟩
          go_wp2_with (fail)
          go_ret
          exact ⟨rfl, HB8.out.trans (hb9.mono HB8.out.size)⟩
      · obtain rfl : k = ops.length := by omega
        have HS7 := HS
        have HVL := Lib.hid (mn_valid HS.out.tab.ck HS.out.tab.few)
        have cb := HS7.out.vb.bx.cell
        go_wp2_with (fail)
        refine (circuit_any HS7.out.tab).mono ?_
        rintro e w8 ⟨X, cap, rfl, ho8, hb8⟩
        have HB8 := Lib.hid (HS7.out.bel.trans (hb8.mono HS7.out.bel.size))
        obtain ⟨A9, c9, hX9, _, hrow9, _⟩ := (show GOwn w8 _ _ _ from ho8).form
        injection hX9 with hX9 _ hc9
        subst hX9
        subst hc9
        have HVA := Lib.hid (valid_any I X cap _ w8 hrow9 (ck_gtOk HS7.out.tab.ck HS7.out.tab.few) HS7.out.tab.few)
        rw [HVL.out] at HVA
        clear ho8 hb8 hrow9
        go_wp2_with (fail)
        refine HVA.out.mono ?_
        rintro e w9 ⟨rfl, hb9⟩
        go_wp2_with (fail)
        go_ret
        exact ⟨rfl, HB8.out.trans (hb9.mono HB8.out.size)⟩
  · have HN := Lib.hid (new_out I hr w2)
    clear hr
    go_wp2_with (fail)
    refine HN.out.mono ?_
    rintro e w3 ⟨rfl, hw⟩
    obtain rfl := hw.symm
    go_wp2_with (fail)
    go_ret
    exact ⟨rfl, HB2.out.trans (((Below.refl _ _).alloc (Nat.le_refl _) _).mono HB2.out.size)⟩
end Go.Proofs.Ytaccienlokoolaa
