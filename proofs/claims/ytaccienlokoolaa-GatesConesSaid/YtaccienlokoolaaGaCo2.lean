/- What is proved: Cone of package gates. -/
import Derived.Test.YtaccienlokoolaaGaCo1
import Derived.Test.YtaccienlokoolaaGaCir
set_option linter.unusedVariables false
set_option linter.unusedSimpArgs false
namespace Go.Proofs.Ytaccienlokoolaa
open Go.RowKit Go.Maps

/-- what Cone answers -/
def coG (I : Int) (gs : List Gt) (ls : List Int) : List Gt := if fitB I gs ls = true then cnA (ldF (1 + I).toNat gs ls) (1 + I).toNat gs else []
def coI (I : Int) (gs : List Gt) (ls : List Int) : Int := if fitB I gs ls = true then I else 0
def coL (I : Int) (gs : List Gt) (ls : List Int) : List Int := if fitB I gs ls = true then ls.map (mvL (ldF (1 + I).toNat gs ls) (1 + I).toNat) else []
def coE (I : Int) (gs : List Gt) (ls : List Int) : Int := if fitB I gs ls = true then 0 else 1
theorem co_no {I : Int} {gs : List Gt} {ls : List Int} (h : fitB I gs ls = false) : coG I gs ls = [] ∧ coI I gs ls = 0 ∧ coL I gs ls = [] ∧ coE I gs ls = 1 := by simp [coG, coI, coL, coE, h]
theorem co_yes {I : Int} {gs : List Gt} {ls : List Int} {b : Nat} (h : fitB I gs ls = true) (hb : (b : Int) = 1 + I) : coG I gs ls = cnA (ldF b gs ls) b gs ∧ coI I gs ls = I ∧ coL I gs ls = ls.map (mvL (ldF b gs ls) b) ∧ coE I gs ls = 0 := by
  have e : (1 + I).toNat = b := by omega
  simp [coG, coI, coL, coE, h, e]
section
variable {w0 w : World} {B cb rb kb nb sb lb N : Nat} {I : Int} {A : Option Addr} {n c : Nat} {fl : Nat → Bool} {v : Value} {cg : List Gt} {fn : Nat → Int}
theorem co_app (h : CnS w0 B cb rb kb nb sb lb N I A n c fl v cg fn w) (hcg : cg.length ≤ 5000) (g x : Gt) (gb : Nat) (hgb : GBox w gb x) (hno : v.ownBlock ≠ some gb) :
    ∃ X cap w8, (Builtin.append_ #[28, 28] 28 #[v, .slice (some ⟨w.heap.size, 0, none⟩) 1 1]).run Try.prog (w.alloc (.cells #[.int .i64 g.x, .int .i64 g.y] 69)) = .ok (.slice X (cg.length + 1) cap) w8 ∧
      ∀ w9, Hid (w9 = w8) → (w9.cell? ⟨kb, 1, none⟩ = some v ∧ w9.frozen? ⟨kb, 1, none⟩ = false) ∧ GBox w9 gb x ∧ GBox (w9.setCell ⟨kb, 1, none⟩ (.slice X (cg.length + 1) cap)) gb x ∧ Hid (CnS w0 B cb rb kb nb sb lb N I A n c fl (.slice X (cg.length + 1) cap) (cg ++ [g]) fn (w9.setCell ⟨kb, 1, none⟩ (.slice X (cg.length + 1) cap))) := by
  have hba := (Below.refl w.heap.size w).alloc (Nat.le_refl _) (.cells #[.int .i64 g.x, .int .i64 g.y] 69)
  have h1 := h.later hba
  obtain ⟨X, cap, w8, g1, g2, g3⟩ := g_append (w := w.alloc (.cells #[.int .i64 g.x, .int .i64 g.y] 69)) B cg.length v cg h1.own rfl (some ⟨w.heap.size, 0, none⟩) 1 1 [g] rfl (GRow.one w g) (by omega) h1.up
  refine ⟨X, cap, w8, g1, fun w9 h9 => ?_⟩
  obtain rfl := h9.out
  obtain ⟨k1, k2, k3⟩ := h1.grow g3 g2
  have b8 : GBox w9 gb x := (g3.block gb (hlt (hgb.later hba)) (fun e => hno e.symm)).trans (hgb.later hba)
  exact ⟨⟨k3, k2⟩, b8, (hfar (p := ⟨kb, 1, none⟩) (fun e => by
    have e : gb = kb := e
    subst e
    have hk := h1.cn
    have hg := hgb.later hba
    exact ty_ne hg hk (by decide) rfl) _).trans b8, Lib.hid k1⟩
end
theorem cir_zown {w : World} {rb B : Nat} {v : Value} {l : List Int} (hx : CBx w rb 0 none 0 0) (ho : ZOwn w B v l) (v0 v1 : Value) : ZOwn ((w.setCell ⟨rb, 0, none⟩ v0).setCell ⟨rb, 1, none⟩ v1) B v l := own_stays ho fun b e => by
  obtain ⟨_, _, cs, hc⟩ := own_block' ho e
  have hne : b ≠ rb := ty_ne hc hx (by decide)
  exact (hfar (p := ⟨rb, 1, none⟩) hne v1).trans (hfar (p := ⟨rb, 0, none⟩) hne v0)
theorem cir_cells {w : World} {rb : Nat} (hx : CBx w rb 0 none 0 0) (v0 v1 : Value) : ((w.setCell ⟨rb, 0, none⟩ v0).setCell ⟨rb, 1, none⟩ v1).cell? ⟨rb, 0, none⟩ = some v0 ∧ ((w.setCell ⟨rb, 0, none⟩ v0).setCell ⟨rb, 1, none⟩ v1).cell? ⟨rb, 1, none⟩ = some v1 := by
  have h0 := hset (i := 0) hx v0
  have h1 := hset (i := 1) h0 v1
  exact ⟨by rw [Lib.cell_of_heap h1 0]; rfl, by rw [Lib.cell_of_heap h1 1]; rfl⟩
set_option maxRecDepth 100000 in
set_option maxHeartbeats 16000000 in
theorem cone_any (I : Int) (A : Option Addr) (c : Nat) (gs : List Gt) (AL : Option Addr) (cl : Nat) (ls : List Int) (w : World) (hr : GRow w A gs) (hok : ∀ x ∈ gs, GtOk x) (hn : gs.length ≤ 5000) (hz : ZRow w.heap.size w AL ls) (hl : ls.length ≤ 1000000) :
    Calls Try.prog 26 #[.agg #[.int .i64 I, .slice A gs.length c], .slice AL ls.length cl] w fun e w' => ∃ A' c' A2 c2, e = .returned (.tuple #[.agg #[.int .i64 (coI I gs ls), .slice A' (coG I gs ls).length c'], .slice A2 (coL I gs ls).length c2, .int .i64 (coE I gs ls)]) ∧ GRow w' A' (coG I gs ls) ∧ ZRow w'.heap.size w' A2 (coL I gs ls) ∧ Below w.heap.size w w' := by
  have hb1 := (Below.refl w.heap.size w).alloc (Nat.le_refl _) (.cells #[.int .i64 I, .slice A gs.length c] 30)
  have hb2 := (Below.refl (w.alloc (.cells #[.int .i64 I, .slice A gs.length c] 30)).heap.size _).alloc (Nat.le_refl _) (.cells #[.int .i64 0, .slice none 0 0] 30)
  have HB1 := Lib.hid (hb1.trans (hb2.mono hb1.size))
  have HBX := Lib.hid ((CBx.new w I A gs.length c).later hb2)
  have hse : (w.alloc (.cells #[.int .i64 I, .slice A gs.length c] 30)).heap.size = w.heap.size + 1 := by simp
  have HRX := Lib.hid (CBx.new (w.alloc (.cells #[.int .i64 I, .slice A gs.length c] 30)) 0 none 0 0)
  rw [hse] at HRX
  have HF := Lib.hid (fit_any I A c gs AL cl ls _ (hr.later HB1.out) hok hn (hz.later HB1.out) hl)
  have HZ := Lib.hid hz
  have HR := Lib.hid hr
  clear hz hr hok hb1 hb2 hse
  obtain ⟨rb, HRB⟩ : ∃ rb, Hid (w.heap.size + 1 = rb) := ⟨_, Lib.hid rfl⟩
  have HRL := Lib.hid (show w.heap.size ≤ rb by have := HRB.out; omega)
  cases hv : fitB I gs ls with
  | false =>
    rw [hv] at HF
    obtain ⟨e1, e2, e3, e4⟩ := co_no hv
    rw [e1, e2, e3, e4]
    clear hv e1 e2 e3 e4
    go_enter Try.func26, Try.ntmps26
    go_upto_region 1 with fail
    generalize hgw : (w.alloc (.cells #[.int .i64 I, .slice A gs.length c] 30)).alloc (.cells #[.int .i64 0, .slice none 0 0] 30) = w1 at *
    clear hgw
    rw [HRB.out] at HRX ⊢
    obtain ⟨b0, b1⟩ := HBX.out.cells
    go_wp2_with (fail)
    refine HF.out.mono ?_
    rintro e w2 ⟨rfl, hb2⟩
    have HRX2 := Lib.hid (HRX.out.later hb2)
    have HB2 := Lib.hid (HB1.out.trans (hb2.mono HB1.out.size))
    obtain ⟨y0, y1⟩ := HRX2.out.cells
    have f0 : w2.frozen? ⟨rb, 0, none⟩ = false := hfrz HRX2.out 0
    have f1 : w2.frozen? ⟨rb, 1, none⟩ = false := hfrz HRX2.out 1
    have HCE := Lib.hid (cir_cells HRX2.out (.int .i64 0) (.slice none 0 0))
    have HFB := Lib.hid (cir_below HB2.out HRL.out (.int .i64 0) (.slice none 0 0))
    clear hb2 HRX HBX b0 b1
    go_wp2_with (fail)
    clear y0 y1 f0 f1
    obtain ⟨v0, v1⟩ := HCE.out
    generalize (w2.setCell ⟨rb, 0, none⟩ (.int .i64 0)).setCell ⟨rb, 1, none⟩ (.slice none 0 0) = w5 at *
    exact bodyPost_ret (v := .tuple #[.agg #[.int .i64 0, .slice none 0 0], .slice none 0 0, .int .i64 1]) (by simp [results, Try.results26, go_sem, v0, v1]) rfl ⟨none, 0, none, 0, rfl, GRow.nil _ _, ZRow.nil _ _ _, HFB.out⟩
  | true =>
    rw [hv] at HF
    obtain ⟨⟨hck, hbig⟩, hlits⟩ := fit_iff.1 hv
    have hi1 := hck.hi
    have hi0 := hck.lo
    obtain ⟨b, hb0⟩ : ∃ b : Nat, (b : Int) = 1 + I := ⟨(1 + I).toNat, by omega⟩
    have hbs : b ≤ 1025 := by omega
    obtain ⟨e1, e2, e3, e4⟩ := co_yes hv hb0
    rw [e1, e2, e3, e4, List.length_map]
    have HBI := Lib.hid hb0
    have HCK := Lib.hid hck
    have HLI := Lib.hid hlits
    have HC0 := Lib.hid (fun W => count_any I (by omega) none 0 0 (by omega) W)
    rw [show nds I 0 = (b : Int) by unfold nds; omega] at HC0
    have HC1 := Lib.hid (fun W => count_any I (by omega) A gs.length c (by omega) W)
    rw [show nds I gs.length = ((b + gs.length : Nat) : Int) by unfold nds; omega] at HC1
    have HCN := Lib.hid (fun (X : Option Addr) (cap k i : Nat) (hki : k = b + i) (hi : i ≤ gs.length) (W : World) => show Calls Try.prog 45 #[.agg #[.int .i64 I, .slice X (cnG (ldF b gs ls) b gs i).length cap]] W fun e w' => e = .returned (.int .i64 ((num (ldF b gs ls) b k : Nat) : Int)) ∧ Below W.heap.size W w' by
      have h := count_any I (by omega) X (cnG (ldF b gs ls) b gs i).length cap (by have := cntM_le (ldF b gs ls) b i; rw [cnG_len i hi]; omega) W
      rw [show nds I (cnG (ldF b gs ls) b gs i).length = ((num (ldF b gs ls) b k : Nat) : Int) by unfold nds; rw [cnG_len i hi, hki, num_high]; omega] at h
      exact h)
    have HSM := Lib.hid (show ∀ i, i ≤ gs.length → (cnG (ldF b gs ls) b gs i).length ≤ 5000 from fun i hi => by have := cntM_le (ldF b gs ls) b i; rw [cnG_len i hi]; omega)
    have HLD := Lib.hid (fun (W : World) (hb : Below w.heap.size w W) => leading_any I A c gs AL cl ls W b hb0 (HR.out.later hb) hck hn (HZ.out.later hb) hl hlits)
    have HDN := Lib.hid (show ∀ (i : Nat) (hi : i < gs.length), ldF b gs ls (b + i) = true → ldF b gs ls (gs[i].x / 2).toNat = true ∧ ldF b gs ls (gs[i].y / 2).toNat = true from fun i hi h => ldF_down hck hb0 ls i hi h)
    have HLT := Lib.hid (show ∀ x ∈ ls, ldF b gs ls (x / 2).toNat = true from fun x hx => ldF_lit ls hx)
    have hmk : ∀ W, (Instr.makeSlice 48 (.int .i64 ((b : Int) + (gs.length : Int))) (.int .i64 ((b : Int) + (gs.length : Int)))).run Try.prog W = .ok (.slice (some ⟨W.heap.size, 0, none⟩) (b + gs.length) (b + gs.length)) (W.alloc (.cells (hdr (fun _ => .int .i64 0) (b + gs.length)) 3)) := fun W => by
      have := do_make_in (b + gs.length) (by omega) W
      rw [show ((b + gs.length : Nat) : Int) = (b : Int) + (gs.length : Int) from by omega] at this
      exact this
    unfold cnA
    clear hv hck hbig hlits e1 e2 e3 e4 hb0 hi1 hi0
    generalize ldF b gs ls = f at *
    go_enter Try.func26, Try.ntmps26
    go_upto_region 1 with fail
    generalize hgw : (w.alloc (.cells #[.int .i64 I, .slice A gs.length c] 30)).alloc (.cells #[.int .i64 0, .slice none 0 0] 30) = w1 at *
    clear hgw
    rw [HRB.out] at HRX ⊢
    obtain ⟨b0, b1⟩ := HBX.out.cells
    go_wp2_with (fail)
    refine HF.out.mono ?_
    rintro e w2 ⟨rfl, hb2⟩
    have HB2 := Lib.hid (HB1.out.trans (hb2.mono HB1.out.size))
    have HX2 := Lib.hid (HBX.out.later hb2)
    have HR2 := Lib.hid (HRX.out.later hb2)
    have HRU := Lib.hid (show rb < w2.heap.size from hlt (HRX.out.later hb2))
    clear hb2 b0 b1 HBX HRX HB1 HF
    obtain ⟨b0, b1⟩ := HX2.out.cells
    go_upto_region 4 with fail
    have hba := (Below.refl w2.heap.size w2).alloc (Nat.le_refl _) (.cells #[.int .i64 I, .slice none 0 0] 30)
    have HX3 := Lib.hid (HX2.out.later hba)
    have HR3 := Lib.hid (HR2.out.later hba)
    have HB3 := Lib.hid (HB2.out.trans (hba.mono HB2.out.size))
    have HK3 := Lib.hid (CBx.new w2 I none 0 0)
    clear hba b0 b1
    generalize hgw : w2.alloc (.cells #[.int .i64 I, .slice none 0 0] 30) = w3 at *
    clear hgw
    obtain ⟨kb, HKB⟩ : ∃ kb, Hid (w2.heap.size = kb) := ⟨_, Lib.hid rfl⟩
    have HKL := Lib.hid (show w.heap.size < kb ∧ rb < kb from ⟨by have := hlt HX2.out; have := HKB.out; omega, by have := HRU.out; have := HKB.out; omega⟩)
    rw [HKB.out] at HK3 ⊢
    clear HX2 HR2 HB2 HRU HKB
    obtain ⟨b0, b1⟩ := HX3.out.cells
    obtain ⟨y0, y1⟩ := HK3.out.cells
    go_wp2_with (fail)
    refine (HC0.out _).mono ?_
    rintro e w4 ⟨rfl, hb⟩
    have HX4 := Lib.hid (HX3.out.later hb)
    have HR4 := Lib.hid (HR3.out.later hb)
    have HK4 := Lib.hid (HK3.out.later hb)
    have HB4 := Lib.hid (HB3.out.trans (hb.mono HB3.out.size))
    clear hb HX3 HR3 HK3 HB3 b0 b1 y0 y1
    obtain ⟨b0, b1⟩ := HX4.out.cells
    go_wp2_with (fail)
    refine (HC1.out _).mono ?_
    rintro e w5 ⟨rfl, hb⟩
    have HX5 := Lib.hid (HX4.out.later hb)
    have HR5 := Lib.hid (HR4.out.later hb)
    have HK5 := Lib.hid (HK4.out.later hb)
    have HB5 := Lib.hid (HB4.out.trans (hb.mono HB4.out.size))
    clear hb HX4 HR4 HK4 HB4 b0 b1
    go_upto_region 6 with fail
    have ha1 := (Below.refl w5.heap.size w5).alloc (Nat.le_refl _) (.cells (hdr (fun _ => .int .i64 0) (b + gs.length)) 3)
    have ha2 := (Below.refl (w5.alloc (.cells (hdr (fun _ => .int .i64 0) (b + gs.length)) 3)).heap.size _).alloc (Nat.le_refl _) (.cells #[.slice (some ⟨w5.heap.size, 0, none⟩) (b + gs.length) (b + gs.length)] 48)
    have HI6 := Lib.hid ((IArr.new w5 (b + gs.length)).later ha2)
    have HN6 := Lib.hid (show Bx _ (w5.alloc (.cells (hdr (fun _ => .int .i64 0) (b + gs.length)) 3)).heap.size 48 (.slice (some ⟨w5.heap.size, 0, none⟩) (b + gs.length) (b + gs.length)) from heap_alloc_new (w5.alloc (.cells (hdr (fun _ => .int .i64 0) (b + gs.length)) 3)) _)
    have HX6 := Lib.hid ((HX5.out.later ha1).later ha2)
    have HR6 := Lib.hid ((HR5.out.later ha1).later ha2)
    have HK6 := Lib.hid ((HK5.out.later ha1).later ha2)
    have HB6 := Lib.hid ((HB5.out.trans (ha1.mono HB5.out.size)).trans (ha2.mono (HB5.out.trans (ha1.mono HB5.out.size)).size))
    have hse : (w5.alloc (.cells (hdr (fun _ => .int .i64 0) (b + gs.length)) 3)).heap.size = w5.heap.size + 1 := by simp
    rw [hse] at HN6
    have HSL := Lib.hid (show w.heap.size ≤ w5.heap.size from HB5.out.size)
    clear ha1 ha2 hmk hse HX5 HR5 HK5 HB5
    generalize hgw : (w5.alloc (.cells (hdr (fun _ => .int .i64 0) (b + gs.length)) 3)).alloc (.cells #[.slice (some ⟨w5.heap.size, 0, none⟩) (b + gs.length) (b + gs.length)] 48) = w6 at *
    clear hgw
    obtain ⟨nb, HNB⟩ : ∃ nb, Hid (w5.heap.size + 1 = nb) := ⟨_, Lib.hid rfl⟩
    rw [HNB.out] at HN6 ⊢
    obtain ⟨sb, HSB⟩ : ∃ sb, Hid (w5.heap.size = sb) := ⟨_, Lib.hid rfl⟩
    rw [HSB.out] at HN6 HI6 HSL
    try rw [HSB.out]
    clear HNB HSB
    obtain ⟨b0, b1⟩ := HX6.out.cells
    go_wp2_with (fail)
    refine (HLD.out _ HB6.out).mono ?_
    rintro e w7 ⟨lb, rfl, hlb, harr, hb⟩
    have HS7 := Lib.hid (show CnS w w.heap.size w.heap.size rb kb nb sb lb (b + gs.length) I A gs.length c f (.slice none 0 0) (cnG f b gs (0 - b)) (nmK f b 0) w7 from
      ⟨HX6.out.later hb, HR6.out.later hb, HK6.out.later hb, HN6.out.later hb, (HI6.out.later hb).ext (fun v _ => nmK_zero f b v), harr, by rw [Nat.zero_sub]; exact GOwn.nil _ _, HB6.out.trans (hb.mono HB6.out.size), by have := HKL.out; omega, by have := HKL.out; omega, ⟨by have := HKL.out; omega, HSL.out, Nat.le_refl _, HRL.out⟩, (HB6.out.trans (hb.mono HB6.out.size)).size⟩)
    clear hb harr hlb b0 b1 HX6 HR6 HK6 HN6 HI6 HB6 HSL HKL
    go_wp2_with (fail)
    go_loopw [35] (fun jv wr => ∃ (k : Nat) (v : Value), k ≤ b + gs.length ∧ jv = .int .i64 (k : Int) ∧ Hid (CnS w w.heap.size w.heap.size rb kb nb sb lb (b + gs.length) I A gs.length c f v (cnG f b gs (k - b)) (nmK f b k) wr)) (fun jv _ => b + gs.length - (intOf jv).toNat)
    case atStart => exact ⟨0, _, Nat.zero_le _, rfl, HS7⟩
    case round =>
      obtain ⟨k, v, hk, rfl, hs⟩ := hrel
      by_cases hlt : k < b + gs.length
      · have q1 := hs.out.lds.cell hlt
        have c0 := hs.out.nbx.cell
        have hkz : (k : Int) < (b : Int) + (gs.length : Int) := by omega
        by_cases hkb : k < b
        · obtain ⟨h1, h2, h3⟩ := hs.out.put hlt (num f b k : Int)
          have HE := Lib.hid (h1.ext (fun v _ => nmK_put (f := f) (b := b) (k := k) (.inl hkb) v))
          rw [num_low hkb] at HE h1
          have HG := Lib.hid (show cnG f b gs (k - b) = cnG f b gs (k + 1 - b) by rw [show k - b = 0 by omega, show k + 1 - b = 0 by omega])
          rw [HG.out] at HE
          clear h1 hs HG
          go_wp2_with (fail)
          generalize hgw : wr.setCell ⟨sb, k, none⟩ (.int .i64 (k : Int)) = wx at *
          clear hgw
          exact ⟨⟨k + 1, v, by omega, by go_num, HE⟩, by simp [intOf]; omega⟩
        · obtain ⟨i, hki⟩ : ∃ i, k = b + i := ⟨k - b, by omega⟩
          have hil : i < gs.length := by omega
          have HKI := Lib.hid hki
          have hkbz : ¬ ((k : Int) < (b : Int)) := by omega
          have HI0 := Lib.hid (show k - b = i by omega)
          have HI1 := Lib.hid (show k + 1 - b = i + 1 by omega)
          rw [HI0.out] at hs
          cases hf : f k with
          | false =>
            rw [hf] at q1
            have HE := Lib.hid (hs.out.ext (fun v _ => nmK_no (f := f) (b := b) (k := k) (by rw [hf]; simp; omega) v))
            rw [← cnG_no (gs := gs) (show f (b + i) = false by rw [← hki]; exact hf), ← HI1.out] at HE
            clear hf hs hki
            go_wp2_with (fail)
            exact ⟨⟨k + 1, v, by omega, by go_num, HE⟩, by simp [intOf]; omega⟩
          | true =>
            rw [hf] at q1
            obtain ⟨X, cap, hX, _, _⟩ := hs.out.own.form
            subst hX
            have HNO := Lib.hid (fun gb (hg : wr.heap.size ≤ gb) => show (Value.slice X (cnG f b gs i).length cap).ownBlock ≠ some gb from fun e => by have := (own_block' hs.out.own e).2.1; omega)
            have HFT := Lib.hid (show f (b + i) = true by rw [← hki]; exact hf)
            have HPT := Lib.hid (fun v (_ : v < b + gs.length) => nmK_put (f := f) (b := b) (k := k) (.inr hf) v)
            have HCT := Lib.hid (fun W => HCN.out X cap k i hki (by omega) W)
            have hw1 : IntKind.i64.wrap ((k : Int) - (b : Int)) = (i : Int) := by rw [IntWalk.i64_in _ (by omega)]; omega
            have hsm := HSM.out i (by omega)
            have HNN := Lib.hid (show num f b k ≤ 1000000 from Nat.le_trans (num_le f b k) (by omega))
            clear hf hki
            go_upto_region 13 with fail
            have HS8 := Lib.hid (show CnS w w.heap.size w.heap.size rb kb nb sb lb (b + gs.length) I A gs.length c f (.slice X (cnG f b gs i).length cap) (cnG f b gs i) (nmK f b k) wr.drew from hs.out.later (Below.refl _ _).drew)
            have HSZ := Lib.hid (show wr.heap.size ≤ wr.drew.heap.size from Nat.le_refl _)
            clear hs c0 q1
            refine wp_region_noPanic ?_
            refine wp_region_held_drew (S := fun w' => w'.cell? ⟨nb, 0, none⟩ = some (.slice (some ⟨sb, 0, none⟩) (b + gs.length) (b + gs.length)) ∧ w'.cell? ⟨kb, 0, none⟩ = some (.int .i64 I) ∧ w'.cell? ⟨kb, 1, none⟩ = some (.slice X (cnG f b gs i).length cap)) (by kernel_rfl) ⟨HS8.out.nbx.cell, HS8.out.ccells.1, HS8.out.ccells.2.1⟩ (fun _ => ?_)
            generalize wr.drew = w8' at *
            refine wpAnyH_take (i := 0) (oi := { dst := some 48, op := Op.load 48 (Operand.tmp 9), type := 48, pos := "gates.go:70", after := #[], guard := none }) (v := .slice (some ⟨sb, 0, none⟩) (b + gs.length) (b + gs.length)) rfl (by kernel_rfl) (by kernel_rfl) (by kernel_rfl) (fun _ _ _ h => h) (Or.inl ⟨by rfl, ?_⟩) ⟨HS8.out.nbx.cell, HS8.out.ccells.1, HS8.out.ccells.2.1⟩ ?_
            · (intro w' hSw; obtain ⟨z0, z1, z2⟩ := hSw; go_simp)
            simp only [Act.put, List.setIfInBounds_toArray, List.set_cons_zero, List.set_cons_succ]
            refine wpAnyH_take (i := 1) (oi := { dst := some 49, op := Op.move (Operand.tmp 11), type := 3, pos := "gates.go:70", after := #[], guard := none }) (v := .int .i64 (k : Int)) rfl (by kernel_rfl) (by kernel_rfl) (by kernel_rfl) (fun _ _ _ h => h) (Or.inl ⟨by rfl, ?_⟩) ⟨HS8.out.nbx.cell, HS8.out.ccells.1, HS8.out.ccells.2.1⟩ ?_
            · (intro w' hSw; go_simp)
            simp only [Act.put, List.setIfInBounds_toArray, List.set_cons_zero, List.set_cons_succ]
            refine wpAnyH_take (i := 2) (oi := { dst := some 50, op := Op.load 30 (Operand.tmp 7), type := 30, pos := "gates.go:70", after := #[], guard := none }) (v := .agg #[.int .i64 I, .slice X (cnG f b gs i).length cap]) rfl (by kernel_rfl) (by kernel_rfl) (by kernel_rfl) (fun _ _ _ h => h) (Or.inl ⟨by rfl, ?_⟩) ⟨HS8.out.nbx.cell, HS8.out.ccells.1, HS8.out.ccells.2.1⟩ ?_
            · (intro w' hSw; obtain ⟨z0, z1, z2⟩ := hSw; go_simp)
            simp only [Act.put, List.setIfInBounds_toArray, List.set_cons_zero, List.set_cons_succ]
            refine wpAnyH_ready (rs := [3]) (by kernel_rfl) (by simp) (AllReadyH.cons (o := { dst := some 51, op := Op.call { callee := Callee.value (Operand.func 45), args := #[Operand.tmp 50], argTypes := #[30] }, type := 3, pos := "gates.go:70", after := #[{ on := 2, ground := Ground.data }], guard := none }) rfl (fun K hK => ?_) AllReadyH.nil)
            go_simp
            go_at_call 45
            refine (HCT.out _).mono ?_
            rintro e w9 ⟨rfl, hb⟩
            have HS9 := Lib.hid (HS8.out.later hb)
            have HSZ9 := Lib.hid (Nat.le_trans HSZ.out hb.size)
            clear hb
            refine hK.out _ _ ⟨HS9.out.nbx.cell, HS9.out.ccells.1, HS9.out.ccells.2.1⟩ (fun _ => ?_)
            clear hK K
            try simp only [Act.put, List.setIfInBounds_toArray, List.set_cons_zero, List.set_cons_succ]
            refine wpAnyH_take (i := 4) (oi := { dst := some 52, op := Op.indexAddr 48 (Operand.tmp 48) (Operand.tmp 49), type := 0, pos := "gates.go:70", after := #[{ on := 0, ground := Ground.data }, { on := 1, ground := Ground.data }, { on := 0, ground := Ground.phase }, { on := 1, ground := Ground.phase }, { on := 2, ground := Ground.phase }, { on := 3, ground := Ground.phase }], guard := none }) (v := .pointer (some ⟨sb, k, none⟩)) rfl (by kernel_rfl) (by kernel_rfl) (by kernel_rfl) (fun _ _ _ h => h) (Or.inl ⟨by rfl, ?_⟩) ⟨HS9.out.nbx.cell, HS9.out.ccells.1, HS9.out.ccells.2.1⟩ ?_
            · (intro w' hSw; go_simp)
            simp only [Act.put, List.setIfInBounds_toArray, List.set_cons_zero, List.set_cons_succ]
            refine wpAnyH_ready (rs := [5]) (by kernel_rfl) (by simp) (AllReadyH.cons (o := { dst := none, op := Op.store 3 (Operand.tmp 52) (Operand.tmp 51), type := 0, pos := "gates.go:70", after := #[{ on := 4, ground := Ground.data }, { on := 3, ground := Ground.data }, { on := 3, ground := Ground.chain }, { on := 0, ground := Ground.phase }, { on := 1, ground := Ground.phase }, { on := 2, ground := Ground.phase }, { on := 3, ground := Ground.phase }], guard := none }) rfl (fun K hK => ?_) AllReadyH.nil)
            obtain ⟨h1, h2, h3⟩ := HS9.out.put hlt (num f b k : Int)
            have HS10 := Lib.hid (h1.ext HPT.out)
            have HSZ10 := Lib.hid (show wr.heap.size ≤ (w9.setCell ⟨sb, k, none⟩ (.int .i64 (num f b k : Int))).heap.size by have := HSZ9.out; simp [World.setCell]; omega)
            clear h1
            go_simp
            clear h2 h3
            refine hK.out _ _ ⟨HS10.out.nbx.cell, HS10.out.ccells.1, HS10.out.ccells.2.1⟩ (fun _ => ?_)
            clear hK K
            try simp only [Act.put, List.setIfInBounds_toArray, List.set_cons_zero, List.set_cons_succ]
            refine wpAnyH_done (by kernel_rfl) ?_ _
            refine NoPanic.normal ?_
            generalize hgw : w9.setCell ⟨sb, k, none⟩ (.int .i64 (num f b k : Int)) = w10 at *
            clear hgw HS9 HS8 HSZ9 HSZ
            obtain ⟨b0, b1⟩ := HS10.out.ck.cells
            obtain ⟨ab, off, hA, hab, hc0⟩ := (HR.out.later HS10.out.bel).at hil
            subst hA
            have hcg := HCK.out.ok i hil
            have hdn := HDN.out i hil HFT.out
            have HYS := Lib.hid (cnG_yes hil HFT.out)
            obtain ⟨g, HG⟩ : ∃ g, Hid (gs[i] = g) := ⟨_, Lib.hid rfl⟩
            rw [HG.out] at hc0 hcg hdn HYS
            obtain ⟨d0, d1⟩ := hc0
            have hgx : 0 ≤ g.x ∧ (g.x / 2).toNat < k := by have := HKI.out; have := HBI.out; omega
            have hgy : 0 ≤ g.y ∧ (g.y / 2).toNat < k := by have := HKI.out; have := HBI.out; omega
            have HMX := Lib.hid (nmK_mv (b := b) (show (g.x / 2).toNat < k + 1 by omega) hdn.1)
            have HMY := Lib.hid (nmK_mv (b := b) (show (g.y / 2).toNat < k + 1 by omega) hdn.2)
            clear hcg hdn
            go_upto_region 15 with fail
            have hba := (Below.refl w10.heap.size w10).alloc (Nat.le_refl _) (.cells #[.int .i64 g.x, .int .i64 g.y] 69)
            have HGB := Lib.hid (show GBox (w10.alloc (.cells #[.int .i64 g.x, .int .i64 g.y] 69)).drew w10.heap.size g from GBox.new w10 g)
            have HS11 := Lib.hid ((HS10.out.later hba).later (Below.refl _ _).drew)
            have HNG := Lib.hid (HNO.out w10.heap.size HSZ10.out)
            clear hba d0 d1 HS10 HSZ10 b0 b1
            generalize w10.alloc (.cells #[.int .i64 g.x, .int .i64 g.y] 69) = w11 at *
            generalize w10.heap.size = gb at *
            have HCX := Lib.hid (mv1_any w11.drew nb sb (b + gs.length) (nmK f b (k + 1)) g.x hgx.1 (by omega) (by omega) (nmK_small f b (k + 1) _ (by omega)) HS11.out.nbx HS11.out.num)
            have HCY := Lib.hid (mv1_any w11.drew nb sb (b + gs.length) (nmK f b (k + 1)) g.y hgy.1 (by omega) (by omega) (nmK_small f b (k + 1) _ (by omega)) HS11.out.nbx HS11.out.num)
            rw [HMX.out] at HCX
            rw [HMY.out] at HCY
            obtain ⟨X', cap', w8, hrun, hst⟩ := co_app HS11.out hsm ⟨mvL f b g.x, mvL f b g.y⟩ g gb HGB.out HNG.out
            rw [← HYS.out, ← HI1.out] at hst
            have HRUN := Lib.hid hrun
            have HST := Lib.hid hst
            have HV0 := Lib.hid HS11.out.ccells.2.1
            have hbb := (Below.refl w11.drew.heap.size w11.drew).alloc (Nat.le_refl _) (.cells #[.int .i64 (mvL f b g.x), .int .i64 (mvL f b g.y)] 69)
            have HV1 := Lib.hid (HS11.out.later hbb).ccells.2.1
            have HS1 := Lib.hid (HGB.out.later hbb).cells
            clear hrun hst hbb HS11 HMX HMY HYS HFT hgx hgy
            generalize mvL f b g.x = mx at *
            generalize mvL f b g.y = my at *
            refine wp_region_noPanic ?_
            refine wp_region_held_drew (S := fun w' => w'.cell? ⟨gb, 0, none⟩ = some (.int .i64 g.x) ∧ w'.cell? ⟨gb, 1, none⟩ = some (.int .i64 g.y)) (by kernel_rfl) HGB.out.cells (fun _ => ?_)
            have HS0 := Lib.hid HGB.out.cells
            generalize w11.drew = w12 at *
            refine wpAnyH_take (i := 0) (oi := { dst := some 60, op := Op.fieldAddr 30 (Operand.tmp 7) 1, type := 0, pos := "gates.go:72", after := #[], guard := none }) (v := .pointer (some ⟨kb, 1, none⟩)) rfl (by kernel_rfl) (by kernel_rfl) (by kernel_rfl) (fun _ _ _ h => h) (Or.inl ⟨by rfl, ?_⟩) HS0.out ?_
            · (intro w' hSw; go_simp)
            simp only [Act.put, List.setIfInBounds_toArray, List.set_cons_zero, List.set_cons_succ]
            refine wpAnyH_take (i := 2) (oi := { dst := some 62, op := Op.move (Operand.tmp 10), type := 45, pos := "gates.go:72", after := #[], guard := none }) (v := .func (.func 50) #[] #[.pointer (some ⟨nb, 0, none⟩)]) rfl (by kernel_rfl) (by kernel_rfl) (by kernel_rfl) (fun _ _ _ h => h) (Or.inl ⟨by rfl, ?_⟩) HS0.out ?_
            · (intro w' hSw; go_simp)
            simp only [Act.put, List.setIfInBounds_toArray, List.set_cons_zero, List.set_cons_succ]
            refine wpAnyH_take (i := 3) (oi := { dst := some 63, op := Op.indexAddr 69 (Operand.tmp 13) (Operand.const (Value.int IntKind.i64 0)), type := 0, pos := "gates.go:72", after := #[], guard := none }) (v := .pointer (some ⟨gb, 0, none⟩)) rfl (by kernel_rfl) (by kernel_rfl) (by kernel_rfl) (fun _ _ _ h => h) (Or.inl ⟨by rfl, ?_⟩) HS0.out ?_
            · (intro w' hSw; go_simp)
            simp only [Act.put, List.setIfInBounds_toArray, List.set_cons_zero, List.set_cons_succ]
            refine wpAnyH_take (i := 4) (oi := { dst := some 64, op := Op.load 3 (Operand.tmp 63), type := 3, pos := "gates.go:72", after := #[{ on := 3, ground := Ground.data }], guard := none }) (v := .int .i64 g.x) rfl (by kernel_rfl) (by kernel_rfl) (by kernel_rfl) (fun _ _ _ h => h) (Or.inl ⟨by rfl, ?_⟩) HS0.out ?_
            · (intro w' hSw; have z0 := hSw.1; go_simp)
            simp only [Act.put, List.setIfInBounds_toArray, List.set_cons_zero, List.set_cons_succ]
            refine wpAnyH_take (i := 6) (oi := { dst := some 66, op := Op.move (Operand.tmp 10), type := 45, pos := "gates.go:72", after := #[], guard := none }) (v := .func (.func 50) #[] #[.pointer (some ⟨nb, 0, none⟩)]) rfl (by kernel_rfl) (by kernel_rfl) (by kernel_rfl) (fun _ _ _ h => h) (Or.inl ⟨by rfl, ?_⟩) HS0.out ?_
            · (intro w' hSw; go_simp)
            simp only [Act.put, List.setIfInBounds_toArray, List.set_cons_zero, List.set_cons_succ]
            refine wpAnyH_take (i := 7) (oi := { dst := some 67, op := Op.indexAddr 69 (Operand.tmp 13) (Operand.const (Value.int IntKind.i64 1)), type := 0, pos := "gates.go:72", after := #[], guard := none }) (v := .pointer (some ⟨gb, 1, none⟩)) rfl (by kernel_rfl) (by kernel_rfl) (by kernel_rfl) (fun _ _ _ h => h) (Or.inl ⟨by rfl, ?_⟩) HS0.out ?_
            · (intro w' hSw; go_simp)
            simp only [Act.put, List.setIfInBounds_toArray, List.set_cons_zero, List.set_cons_succ]
            refine wpAnyH_take (i := 8) (oi := { dst := some 68, op := Op.load 3 (Operand.tmp 67), type := 3, pos := "gates.go:72", after := #[{ on := 7, ground := Ground.data }], guard := none }) (v := .int .i64 g.y) rfl (by kernel_rfl) (by kernel_rfl) (by kernel_rfl) (fun _ _ _ h => h) (Or.inl ⟨by rfl, ?_⟩) HS0.out ?_
            · (intro w' hSw; have z1 := hSw.2; go_simp)
            simp only [Act.put, List.setIfInBounds_toArray, List.set_cons_zero, List.set_cons_succ]
            refine wpAnyH_ready (rs := [1, 5]) (by kernel_rfl) (by simp) (AllReadyH.cons (o := { dst := some 61, op := Op.load 28 (Operand.tmp 60), type := 28, pos := "gates.go:72", after := #[{ on := 0, ground := Ground.data }], guard := none }) rfl (fun K hK => ?_) (AllReadyH.cons (o := { dst := some 65, op := Op.call { callee := Callee.value (Operand.tmp 62), args := #[Operand.tmp 64], argTypes := #[3] }, type := 3, pos := "gates.go:72", after := #[{ on := 2, ground := Ground.data }, { on := 4, ground := Ground.data }], guard := none }) rfl (fun K hK => ?_) AllReadyH.nil))
            · have c0 := HV0.out
              go_simp
              clear c0
              refine hK.out _ _ HS0.out (fun _ => ?_)
              clear hK K
              try simp only [Act.put, List.setIfInBounds_toArray, List.set_cons_zero, List.set_cons_succ]
              refine wpAnyH_ready (rs := [5]) (by kernel_rfl) (by simp) (AllReadyH.cons (o := { dst := some 65, op := Op.call { callee := Callee.value (Operand.tmp 62), args := #[Operand.tmp 64], argTypes := #[3] }, type := 3, pos := "gates.go:72", after := #[{ on := 2, ground := Ground.data }, { on := 4, ground := Ground.data }], guard := none }) rfl (fun K hK => ?_) AllReadyH.nil)
              go_simp
              go_at_call 50
              refine (HCX.out).mono ?_
              rintro e wx ⟨rfl, hwx⟩
              obtain rfl := hwx.symm
              clear hwx
              refine hK.out _ _ HS0.out (fun _ => ?_)
              clear hK K
              try simp only [Act.put, List.setIfInBounds_toArray, List.set_cons_zero, List.set_cons_succ]
              refine wpAnyH_ready (rs := [9]) (by kernel_rfl) (by simp) (AllReadyH.cons (o := { dst := some 69, op := Op.call { callee := Callee.value (Operand.tmp 66), args := #[Operand.tmp 68], argTypes := #[3] }, type := 3, pos := "gates.go:72", after := #[{ on := 6, ground := Ground.data }, { on := 8, ground := Ground.data }, { on := 5, ground := Ground.chain }], guard := none }) rfl (fun K hK => ?_) AllReadyH.nil)
              go_simp
              go_at_call 50
              refine (HCY.out).mono ?_
              rintro e wx ⟨rfl, hwx⟩
              obtain rfl := hwx.symm
              clear hwx
              refine hK.out _ _ HS0.out (fun _ => ?_)
              clear hK K
              try simp only [Act.put, List.setIfInBounds_toArray, List.set_cons_zero, List.set_cons_succ]
              refine wpAnyH_take (i := 10) (oi := { dst := some 70, op := Op.build 69 #[(0, Operand.tmp 65), (1, Operand.tmp 69)], type := 69, pos := "gates.go:72", after := #[{ on := 5, ground := Ground.data }, { on := 9, ground := Ground.data }], guard := none }) (v := .agg #[.int .i64 mx, .int .i64 my]) rfl (by kernel_rfl) (by kernel_rfl) (by kernel_rfl) (fun _ _ _ h => h) (Or.inl ⟨by rfl, ?_⟩) HS0.out ?_
              · (intro w' hSw; go_simp)
              simp only [Act.put, List.setIfInBounds_toArray, List.set_cons_zero, List.set_cons_succ]
              refine wpAnyH_ready (rs := [11]) (by kernel_rfl) (by simp) (AllReadyH.cons (o := { dst := some 71, op := Op.buildSlice 28 1 #[(0, Operand.tmp 70)], type := 28, pos := "gates.go:72", after := #[{ on := 10, ground := Ground.data }], guard := none }) rfl (fun K hK => ?_) AllReadyH.nil)
              go_simp
              refine hK.out _ _ HS1.out (fun _ => ?_)
              clear hK K
              try simp only [Act.put, List.setIfInBounds_toArray, List.set_cons_zero, List.set_cons_succ]
              refine wpAnyH_ready (rs := [12]) (by kernel_rfl) (by simp) (AllReadyH.cons (o := { dst := some 72, op := Op.call { callee := Callee.builtin Builtin.append, args := #[Operand.tmp 61, Operand.tmp 71], argTypes := #[28, 28] }, type := 28, pos := "gates.go:72", after := #[{ on := 1, ground := Ground.data }, { on := 11, ground := Ground.data }, { on := 9, ground := Ground.chain }], guard := none }) rfl (fun K hK => ?_) AllReadyH.nil)
              refine step_app_by (by rfl) _ _ 28 28 (by rfl) _ _ (by rfl) (by rfl) _ _ HRUN.out ?_
              intro w8 hw8
              have HW8 := Lib.hid (HST.out w8 hw8)
              clear hw8
              refine hK.out _ _ HW8.out.2.1.cells (fun _ => ?_)
              clear hK K
              try simp only [Act.put, List.setIfInBounds_toArray, List.set_cons_zero, List.set_cons_succ]
              refine wpAnyH_take (i := 13) (oi := { dst := some 73, op := Op.fieldAddr 30 (Operand.tmp 7) 1, type := 0, pos := "gates.go:72", after := #[{ on := 0, ground := Ground.phase }, { on := 1, ground := Ground.phase }, { on := 2, ground := Ground.phase }, { on := 3, ground := Ground.phase }, { on := 4, ground := Ground.phase }, { on := 5, ground := Ground.phase }, { on := 6, ground := Ground.phase }, { on := 7, ground := Ground.phase }, { on := 8, ground := Ground.phase }, { on := 9, ground := Ground.phase }, { on := 10, ground := Ground.phase }, { on := 11, ground := Ground.phase }, { on := 12, ground := Ground.phase }], guard := none }) (v := .pointer (some ⟨kb, 1, none⟩)) rfl (by kernel_rfl) (by kernel_rfl) (by kernel_rfl) (fun _ _ _ h => h) (Or.inl ⟨by rfl, ?_⟩) HW8.out.2.1.cells ?_
              · (intro w' hSw; go_simp)
              simp only [Act.put, List.setIfInBounds_toArray, List.set_cons_zero, List.set_cons_succ]
              refine wpAnyH_ready (rs := [14]) (by kernel_rfl) (by simp) (AllReadyH.cons (o := { dst := none, op := Op.store 28 (Operand.tmp 73) (Operand.tmp 72), type := 0, pos := "gates.go:72", after := #[{ on := 13, ground := Ground.data }, { on := 12, ground := Ground.data }, { on := 12, ground := Ground.chain }, { on := 0, ground := Ground.phase }, { on := 1, ground := Ground.phase }, { on := 2, ground := Ground.phase }, { on := 3, ground := Ground.phase }, { on := 4, ground := Ground.phase }, { on := 5, ground := Ground.phase }, { on := 6, ground := Ground.phase }, { on := 7, ground := Ground.phase }, { on := 8, ground := Ground.phase }, { on := 9, ground := Ground.phase }, { on := 10, ground := Ground.phase }, { on := 11, ground := Ground.phase }, { on := 12, ground := Ground.phase }], guard := none }) rfl (fun K hK => ?_) AllReadyH.nil)
              have y1 := HW8.out.1.1
              have y2 := HW8.out.1.2
              go_simp
              clear y1 y2
              refine hK.out _ _ HW8.out.2.2.1.cells (fun _ => ?_)
              clear hK K
              try simp only [Act.put, List.setIfInBounds_toArray, List.set_cons_zero, List.set_cons_succ]
              refine wpAnyH_done (by kernel_rfl) ?_ _
              refine NoPanic.normal ?_
              have HFIN := HW8.out.2.2.2
              clear HW8
              go_wp2_with (fail)
              exact ⟨⟨k + 1, _, by omega, by go_num, HFIN⟩, by simp [intOf]; omega⟩
            · go_simp
              go_at_call 50
              refine (HCX.out).mono ?_
              rintro e wx ⟨rfl, hwx⟩
              obtain rfl := hwx.symm
              clear hwx
              refine hK.out _ _ HS0.out (fun _ => ?_)
              clear hK K
              try simp only [Act.put, List.setIfInBounds_toArray, List.set_cons_zero, List.set_cons_succ]
              refine wpAnyH_ready (rs := [1, 9]) (by kernel_rfl) (by simp) (AllReadyH.cons (o := { dst := some 61, op := Op.load 28 (Operand.tmp 60), type := 28, pos := "gates.go:72", after := #[{ on := 0, ground := Ground.data }], guard := none }) rfl (fun K hK => ?_) (AllReadyH.cons (o := { dst := some 69, op := Op.call { callee := Callee.value (Operand.tmp 66), args := #[Operand.tmp 68], argTypes := #[3] }, type := 3, pos := "gates.go:72", after := #[{ on := 6, ground := Ground.data }, { on := 8, ground := Ground.data }, { on := 5, ground := Ground.chain }], guard := none }) rfl (fun K hK => ?_) AllReadyH.nil))
              · have c0 := HV0.out
                go_simp
                clear c0
                refine hK.out _ _ HS0.out (fun _ => ?_)
                clear hK K
                try simp only [Act.put, List.setIfInBounds_toArray, List.set_cons_zero, List.set_cons_succ]
                refine wpAnyH_ready (rs := [9]) (by kernel_rfl) (by simp) (AllReadyH.cons (o := { dst := some 69, op := Op.call { callee := Callee.value (Operand.tmp 66), args := #[Operand.tmp 68], argTypes := #[3] }, type := 3, pos := "gates.go:72", after := #[{ on := 6, ground := Ground.data }, { on := 8, ground := Ground.data }, { on := 5, ground := Ground.chain }], guard := none }) rfl (fun K hK => ?_) AllReadyH.nil)
                go_simp
                go_at_call 50
                refine (HCY.out).mono ?_
                rintro e wx ⟨rfl, hwx⟩
                obtain rfl := hwx.symm
                clear hwx
                refine hK.out _ _ HS0.out (fun _ => ?_)
                clear hK K
                try simp only [Act.put, List.setIfInBounds_toArray, List.set_cons_zero, List.set_cons_succ]
                refine wpAnyH_take (i := 10) (oi := { dst := some 70, op := Op.build 69 #[(0, Operand.tmp 65), (1, Operand.tmp 69)], type := 69, pos := "gates.go:72", after := #[{ on := 5, ground := Ground.data }, { on := 9, ground := Ground.data }], guard := none }) (v := .agg #[.int .i64 mx, .int .i64 my]) rfl (by kernel_rfl) (by kernel_rfl) (by kernel_rfl) (fun _ _ _ h => h) (Or.inl ⟨by rfl, ?_⟩) HS0.out ?_
                · (intro w' hSw; go_simp)
                simp only [Act.put, List.setIfInBounds_toArray, List.set_cons_zero, List.set_cons_succ]
                refine wpAnyH_ready (rs := [11]) (by kernel_rfl) (by simp) (AllReadyH.cons (o := { dst := some 71, op := Op.buildSlice 28 1 #[(0, Operand.tmp 70)], type := 28, pos := "gates.go:72", after := #[{ on := 10, ground := Ground.data }], guard := none }) rfl (fun K hK => ?_) AllReadyH.nil)
                go_simp
                refine hK.out _ _ HS1.out (fun _ => ?_)
                clear hK K
                try simp only [Act.put, List.setIfInBounds_toArray, List.set_cons_zero, List.set_cons_succ]
                refine wpAnyH_ready (rs := [12]) (by kernel_rfl) (by simp) (AllReadyH.cons (o := { dst := some 72, op := Op.call { callee := Callee.builtin Builtin.append, args := #[Operand.tmp 61, Operand.tmp 71], argTypes := #[28, 28] }, type := 28, pos := "gates.go:72", after := #[{ on := 1, ground := Ground.data }, { on := 11, ground := Ground.data }, { on := 9, ground := Ground.chain }], guard := none }) rfl (fun K hK => ?_) AllReadyH.nil)
                refine step_app_by (by rfl) _ _ 28 28 (by rfl) _ _ (by rfl) (by rfl) _ _ HRUN.out ?_
                intro w8 hw8
                have HW8 := Lib.hid (HST.out w8 hw8)
                clear hw8
                refine hK.out _ _ HW8.out.2.1.cells (fun _ => ?_)
                clear hK K
                try simp only [Act.put, List.setIfInBounds_toArray, List.set_cons_zero, List.set_cons_succ]
                refine wpAnyH_take (i := 13) (oi := { dst := some 73, op := Op.fieldAddr 30 (Operand.tmp 7) 1, type := 0, pos := "gates.go:72", after := #[{ on := 0, ground := Ground.phase }, { on := 1, ground := Ground.phase }, { on := 2, ground := Ground.phase }, { on := 3, ground := Ground.phase }, { on := 4, ground := Ground.phase }, { on := 5, ground := Ground.phase }, { on := 6, ground := Ground.phase }, { on := 7, ground := Ground.phase }, { on := 8, ground := Ground.phase }, { on := 9, ground := Ground.phase }, { on := 10, ground := Ground.phase }, { on := 11, ground := Ground.phase }, { on := 12, ground := Ground.phase }], guard := none }) (v := .pointer (some ⟨kb, 1, none⟩)) rfl (by kernel_rfl) (by kernel_rfl) (by kernel_rfl) (fun _ _ _ h => h) (Or.inl ⟨by rfl, ?_⟩) HW8.out.2.1.cells ?_
                · (intro w' hSw; go_simp)
                simp only [Act.put, List.setIfInBounds_toArray, List.set_cons_zero, List.set_cons_succ]
                refine wpAnyH_ready (rs := [14]) (by kernel_rfl) (by simp) (AllReadyH.cons (o := { dst := none, op := Op.store 28 (Operand.tmp 73) (Operand.tmp 72), type := 0, pos := "gates.go:72", after := #[{ on := 13, ground := Ground.data }, { on := 12, ground := Ground.data }, { on := 12, ground := Ground.chain }, { on := 0, ground := Ground.phase }, { on := 1, ground := Ground.phase }, { on := 2, ground := Ground.phase }, { on := 3, ground := Ground.phase }, { on := 4, ground := Ground.phase }, { on := 5, ground := Ground.phase }, { on := 6, ground := Ground.phase }, { on := 7, ground := Ground.phase }, { on := 8, ground := Ground.phase }, { on := 9, ground := Ground.phase }, { on := 10, ground := Ground.phase }, { on := 11, ground := Ground.phase }, { on := 12, ground := Ground.phase }], guard := none }) rfl (fun K hK => ?_) AllReadyH.nil)
                have y1 := HW8.out.1.1
                have y2 := HW8.out.1.2
                go_simp
                clear y1 y2
                refine hK.out _ _ HW8.out.2.2.1.cells (fun _ => ?_)
                clear hK K
                try simp only [Act.put, List.setIfInBounds_toArray, List.set_cons_zero, List.set_cons_succ]
                refine wpAnyH_done (by kernel_rfl) ?_ _
                refine NoPanic.normal ?_
                have HFIN := HW8.out.2.2.2
                clear HW8
                go_wp2_with (fail)
                exact ⟨⟨k + 1, _, by omega, by go_num, HFIN⟩, by simp [intOf]; omega⟩
              · go_simp
                go_at_call 50
                refine (HCY.out).mono ?_
                rintro e wx ⟨rfl, hwx⟩
                obtain rfl := hwx.symm
                clear hwx
                refine hK.out _ _ HS0.out (fun _ => ?_)
                clear hK K
                try simp only [Act.put, List.setIfInBounds_toArray, List.set_cons_zero, List.set_cons_succ]
                refine wpAnyH_take (i := 10) (oi := { dst := some 70, op := Op.build 69 #[(0, Operand.tmp 65), (1, Operand.tmp 69)], type := 69, pos := "gates.go:72", after := #[{ on := 5, ground := Ground.data }, { on := 9, ground := Ground.data }], guard := none }) (v := .agg #[.int .i64 mx, .int .i64 my]) rfl (by kernel_rfl) (by kernel_rfl) (by kernel_rfl) (fun _ _ _ h => h) (Or.inl ⟨by rfl, ?_⟩) HS0.out ?_
                · (intro w' hSw; go_simp)
                simp only [Act.put, List.setIfInBounds_toArray, List.set_cons_zero, List.set_cons_succ]
                refine wpAnyH_ready (rs := [1, 11]) (by kernel_rfl) (by simp) (AllReadyH.cons (o := { dst := some 61, op := Op.load 28 (Operand.tmp 60), type := 28, pos := "gates.go:72", after := #[{ on := 0, ground := Ground.data }], guard := none }) rfl (fun K hK => ?_) (AllReadyH.cons (o := { dst := some 71, op := Op.buildSlice 28 1 #[(0, Operand.tmp 70)], type := 28, pos := "gates.go:72", after := #[{ on := 10, ground := Ground.data }], guard := none }) rfl (fun K hK => ?_) AllReadyH.nil))
                · have c0 := HV0.out
                  go_simp
                  clear c0
                  refine hK.out _ _ HS0.out (fun _ => ?_)
                  clear hK K
                  try simp only [Act.put, List.setIfInBounds_toArray, List.set_cons_zero, List.set_cons_succ]
                  refine wpAnyH_ready (rs := [11]) (by kernel_rfl) (by simp) (AllReadyH.cons (o := { dst := some 71, op := Op.buildSlice 28 1 #[(0, Operand.tmp 70)], type := 28, pos := "gates.go:72", after := #[{ on := 10, ground := Ground.data }], guard := none }) rfl (fun K hK => ?_) AllReadyH.nil)
                  go_simp
                  refine hK.out _ _ HS1.out (fun _ => ?_)
                  clear hK K
                  try simp only [Act.put, List.setIfInBounds_toArray, List.set_cons_zero, List.set_cons_succ]
                  refine wpAnyH_ready (rs := [12]) (by kernel_rfl) (by simp) (AllReadyH.cons (o := { dst := some 72, op := Op.call { callee := Callee.builtin Builtin.append, args := #[Operand.tmp 61, Operand.tmp 71], argTypes := #[28, 28] }, type := 28, pos := "gates.go:72", after := #[{ on := 1, ground := Ground.data }, { on := 11, ground := Ground.data }, { on := 9, ground := Ground.chain }], guard := none }) rfl (fun K hK => ?_) AllReadyH.nil)
                  refine step_app_by (by rfl) _ _ 28 28 (by rfl) _ _ (by rfl) (by rfl) _ _ HRUN.out ?_
                  intro w8 hw8
                  have HW8 := Lib.hid (HST.out w8 hw8)
                  clear hw8
                  refine hK.out _ _ HW8.out.2.1.cells (fun _ => ?_)
                  clear hK K
                  try simp only [Act.put, List.setIfInBounds_toArray, List.set_cons_zero, List.set_cons_succ]
                  refine wpAnyH_take (i := 13) (oi := { dst := some 73, op := Op.fieldAddr 30 (Operand.tmp 7) 1, type := 0, pos := "gates.go:72", after := #[{ on := 0, ground := Ground.phase }, { on := 1, ground := Ground.phase }, { on := 2, ground := Ground.phase }, { on := 3, ground := Ground.phase }, { on := 4, ground := Ground.phase }, { on := 5, ground := Ground.phase }, { on := 6, ground := Ground.phase }, { on := 7, ground := Ground.phase }, { on := 8, ground := Ground.phase }, { on := 9, ground := Ground.phase }, { on := 10, ground := Ground.phase }, { on := 11, ground := Ground.phase }, { on := 12, ground := Ground.phase }], guard := none }) (v := .pointer (some ⟨kb, 1, none⟩)) rfl (by kernel_rfl) (by kernel_rfl) (by kernel_rfl) (fun _ _ _ h => h) (Or.inl ⟨by rfl, ?_⟩) HW8.out.2.1.cells ?_
                  · (intro w' hSw; go_simp)
                  simp only [Act.put, List.setIfInBounds_toArray, List.set_cons_zero, List.set_cons_succ]
                  refine wpAnyH_ready (rs := [14]) (by kernel_rfl) (by simp) (AllReadyH.cons (o := { dst := none, op := Op.store 28 (Operand.tmp 73) (Operand.tmp 72), type := 0, pos := "gates.go:72", after := #[{ on := 13, ground := Ground.data }, { on := 12, ground := Ground.data }, { on := 12, ground := Ground.chain }, { on := 0, ground := Ground.phase }, { on := 1, ground := Ground.phase }, { on := 2, ground := Ground.phase }, { on := 3, ground := Ground.phase }, { on := 4, ground := Ground.phase }, { on := 5, ground := Ground.phase }, { on := 6, ground := Ground.phase }, { on := 7, ground := Ground.phase }, { on := 8, ground := Ground.phase }, { on := 9, ground := Ground.phase }, { on := 10, ground := Ground.phase }, { on := 11, ground := Ground.phase }, { on := 12, ground := Ground.phase }], guard := none }) rfl (fun K hK => ?_) AllReadyH.nil)
                  have y1 := HW8.out.1.1
                  have y2 := HW8.out.1.2
                  go_simp
                  clear y1 y2
                  refine hK.out _ _ HW8.out.2.2.1.cells (fun _ => ?_)
                  clear hK K
                  try simp only [Act.put, List.setIfInBounds_toArray, List.set_cons_zero, List.set_cons_succ]
                  refine wpAnyH_done (by kernel_rfl) ?_ _
                  refine NoPanic.normal ?_
                  have HFIN := HW8.out.2.2.2
                  clear HW8
                  go_wp2_with (fail)
                  exact ⟨⟨k + 1, _, by omega, by go_num, HFIN⟩, by simp [intOf]; omega⟩
                · go_simp
                  refine hK.out _ _ HS1.out (fun _ => ?_)
                  clear hK K
                  try simp only [Act.put, List.setIfInBounds_toArray, List.set_cons_zero, List.set_cons_succ]
                  refine wpAnyH_ready (rs := [1]) (by kernel_rfl) (by simp) (AllReadyH.cons (o := { dst := some 61, op := Op.load 28 (Operand.tmp 60), type := 28, pos := "gates.go:72", after := #[{ on := 0, ground := Ground.data }], guard := none }) rfl (fun K hK => ?_) AllReadyH.nil)
                  have c0 := HV1.out
                  go_simp
                  clear c0
                  refine hK.out _ _ HS1.out (fun _ => ?_)
                  clear hK K
                  try simp only [Act.put, List.setIfInBounds_toArray, List.set_cons_zero, List.set_cons_succ]
                  refine wpAnyH_ready (rs := [12]) (by kernel_rfl) (by simp) (AllReadyH.cons (o := { dst := some 72, op := Op.call { callee := Callee.builtin Builtin.append, args := #[Operand.tmp 61, Operand.tmp 71], argTypes := #[28, 28] }, type := 28, pos := "gates.go:72", after := #[{ on := 1, ground := Ground.data }, { on := 11, ground := Ground.data }, { on := 9, ground := Ground.chain }], guard := none }) rfl (fun K hK => ?_) AllReadyH.nil)
                  refine step_app_by (by rfl) _ _ 28 28 (by rfl) _ _ (by rfl) (by rfl) _ _ HRUN.out ?_
                  intro w8 hw8
                  have HW8 := Lib.hid (HST.out w8 hw8)
                  clear hw8
                  refine hK.out _ _ HW8.out.2.1.cells (fun _ => ?_)
                  clear hK K
                  try simp only [Act.put, List.setIfInBounds_toArray, List.set_cons_zero, List.set_cons_succ]
                  refine wpAnyH_take (i := 13) (oi := { dst := some 73, op := Op.fieldAddr 30 (Operand.tmp 7) 1, type := 0, pos := "gates.go:72", after := #[{ on := 0, ground := Ground.phase }, { on := 1, ground := Ground.phase }, { on := 2, ground := Ground.phase }, { on := 3, ground := Ground.phase }, { on := 4, ground := Ground.phase }, { on := 5, ground := Ground.phase }, { on := 6, ground := Ground.phase }, { on := 7, ground := Ground.phase }, { on := 8, ground := Ground.phase }, { on := 9, ground := Ground.phase }, { on := 10, ground := Ground.phase }, { on := 11, ground := Ground.phase }, { on := 12, ground := Ground.phase }], guard := none }) (v := .pointer (some ⟨kb, 1, none⟩)) rfl (by kernel_rfl) (by kernel_rfl) (by kernel_rfl) (fun _ _ _ h => h) (Or.inl ⟨by rfl, ?_⟩) HW8.out.2.1.cells ?_
                  · (intro w' hSw; go_simp)
                  simp only [Act.put, List.setIfInBounds_toArray, List.set_cons_zero, List.set_cons_succ]
                  refine wpAnyH_ready (rs := [14]) (by kernel_rfl) (by simp) (AllReadyH.cons (o := { dst := none, op := Op.store 28 (Operand.tmp 73) (Operand.tmp 72), type := 0, pos := "gates.go:72", after := #[{ on := 13, ground := Ground.data }, { on := 12, ground := Ground.data }, { on := 12, ground := Ground.chain }, { on := 0, ground := Ground.phase }, { on := 1, ground := Ground.phase }, { on := 2, ground := Ground.phase }, { on := 3, ground := Ground.phase }, { on := 4, ground := Ground.phase }, { on := 5, ground := Ground.phase }, { on := 6, ground := Ground.phase }, { on := 7, ground := Ground.phase }, { on := 8, ground := Ground.phase }, { on := 9, ground := Ground.phase }, { on := 10, ground := Ground.phase }, { on := 11, ground := Ground.phase }, { on := 12, ground := Ground.phase }], guard := none }) rfl (fun K hK => ?_) AllReadyH.nil)
                  have y1 := HW8.out.1.1
                  have y2 := HW8.out.1.2
                  go_simp
                  clear y1 y2
                  refine hK.out _ _ HW8.out.2.2.1.cells (fun _ => ?_)
                  clear hK K
                  try simp only [Act.put, List.setIfInBounds_toArray, List.set_cons_zero, List.set_cons_succ]
                  refine wpAnyH_done (by kernel_rfl) ?_ _
                  refine NoPanic.normal ?_
                  have HFIN := HW8.out.2.2.2
                  clear HW8
                  go_wp2_with (fail)
                  exact ⟨⟨k + 1, _, by omega, by go_num, HFIN⟩, by simp [intOf]; omega⟩
      · obtain rfl : k = b + gs.length := by omega
        rw [show b + gs.length - b = gs.length by omega] at hs
        obtain ⟨X, cap, hX, _, _⟩ := hs.out.own.form
        subst hX
        have HS := hs
        have HZ0 := Lib.hid (show ZOwn wr wr.heap.size (.slice none 0 0) ((ls.take 0).map (mvL f b)) from z_nil wr wr.heap.size)
        clear hs HS7
        go_wp2_with (fail)
        generalize wr = wo at *
        go_loopw [14, 77] (fun u jv wr => ∃ (k : Nat), k ≤ ls.length ∧ jv = .int .i64 (k : Int) ∧ Hid (ZOwn wr wo.heap.size u ((ls.take k).map (mvL f b))) ∧ Hid (Below wo.heap.size wo wr)) (fun _ jv _ => ls.length - (intOf jv).toNat)
        case atStart => exact ⟨0, Nat.zero_le _, rfl, HZ0, Lib.hid (Below.refl _ _)⟩
        case round =>
          obtain ⟨k, hk, rfl, hown, hbw⟩ := hrel
          have hev := HS.out.later hbw.out
          by_cases hlt : k < ls.length
          · obtain ⟨zb, zo, hA, hzb, hc0⟩ := (HZ.out.below hev.bel) (by omega)
            have hx := hc0 k hlt
            subst hA
            have hxl := HLI.out _ (List.getElem_mem hlt)
            have hxf := HLT.out _ (List.getElem_mem hlt)
            have HTK := Lib.hid (show (ls.take (k + 1)).map (mvL f b) = (ls.take k).map (mvL f b) ++ [mvL f b ls[k]] by rw [List.take_succ_eq_append_getElem hlt, List.map_append]; rfl)
            obtain ⟨x, HX⟩ : ∃ x, Hid (ls[k] = x) := ⟨_, Lib.hid rfl⟩
            rw [HX.out] at hx hxl hxf HTK
            unfold isLit at hxl
            have hxn : (x / 2).toNat < b + gs.length := by have := HBI.out; omega
            have HCX := Lib.hid (mv1_any wr nb sb (b + gs.length) (nmK f b (b + gs.length)) x hxl.1 hxn (by omega) (nmK_small f b _ _ (by omega)) hev.nbx hev.num)
            rw [nmK_mv hxn hxf] at HCX
            generalize mvL f b x = y at *
            have hba := (Below.refl wr.heap.size wr).alloc (Nat.le_refl _) (.cells #[.int .i64 y] 3)
            have hlen : ((ls.take k).map (mvL f b)).length = k := by rw [List.length_map, List.length_take]; omega
            have ho := hown.out.later hba
            have hsz := Nat.le_trans hbw.out.size hba.size
            obtain ⟨X', cap', w8, hrun, hown8, hgr8⟩ := z_append (w := wr.alloc (.cells #[.int .i64 y] 3)) wo.heap.size k u14 _ ho hlen.symm (some ⟨wr.heap.size, 0, none⟩) 1 1 [y] rfl (ZRow.one wr y) (by omega) hsz
            have HO8 := Lib.hid (show ZOwn w8 wo.heap.size (.slice X' (k + 1) cap') ((ls.take (k + 1)).map (mvL f b)) by rw [HTK.out]; exact hown8)
            have HB8 := Lib.hid ((hbw.out.trans (hba.mono hbw.out.size)).trans (grown_below hgr8 (own_lo ho) hsz))
            clear hown8 hgr8 hba hlen hown hc0 HTK ho hsz hxl hxf hxn hev
            go_wp2_with (fail)
            refine HCX.out.mono ?_
            rintro e wx ⟨rfl, hwx⟩
            obtain rfl := hwx.symm
            go_wp2_with (at_builtin; refine app_by rfl _ _ 48 48 rfl _ _ rfl rfl _ _ hrun ?_; intro w9 hw9; obtain rfl := hw9.out)
            exact ⟨⟨.slice X' (k + 1) cap', .int .i64 x, .int .i64 ((k : Int) + 1), ⟨k + 1, by omega, by go_num, by first | exact HO8 | (rw [← List.map_take]; exact HO8)⟩, rfl, rfl, rfl⟩, by simp [intOf]; omega⟩
          · obtain rfl : k = ls.length := by omega
            rw [List.take_length] at hown
            obtain ⟨X2, cap2, hu, _, _⟩ := hown.out.form
            rw [List.length_map] at hu
            subst hu
            obtain ⟨y0, y1⟩ := hev.rs.cells
            obtain ⟨k0, k1, _⟩ := hev.ccells
            have f0 : wr.frozen? ⟨rb, 0, none⟩ = false := hfrz hev.rs 0
            have f1 : wr.frozen? ⟨rb, 1, none⟩ = false := hfrz hev.rs 1
            have HCE := Lib.hid (cir_cells hev.rs (.int .i64 I) (.slice X (cnG f b gs gs.length).length cap))
            have HFB := Lib.hid (cir_below hev.bel HRL.out (.int .i64 I) (.slice X (cnG f b gs gs.length).length cap))
            have HGO := Lib.hid (cir_own hev.rs hev.own (.int .i64 I) (.slice X (cnG f b gs gs.length).length cap))
            have HZO := Lib.hid (cir_zown hev.rs hown.out (.int .i64 I) (.slice X (cnG f b gs gs.length).length cap))
            clear hev hown
            go_wp2_with (fail)
            clear y0 y1 f0 f1
            obtain ⟨v0, v1⟩ := HCE.out
            generalize (wr.setCell ⟨rb, 0, none⟩ (.int .i64 I)).setCell ⟨rb, 1, none⟩ (.slice X (cnG f b gs gs.length).length cap) = w5 at *
            obtain ⟨A9, c9, hX9, _, hrow9, _⟩ := HGO.out.form
            injection hX9 with hX9 _ _
            subst hX9
            have hz9 := HZO.out.row.2.2
            exact bodyPost_ret (v := .tuple #[.agg #[.int .i64 I, .slice X (cnG f b gs gs.length).length cap], .slice X2 ls.length cap2, .int .i64 0]) (by simp [results, Try.results26, go_sem, v0, v1]) rfl ⟨X, cap, X2, cap2, rfl, hrow9, hz9, HFB.out⟩
end Go.Proofs.Ytaccienlokoolaa
