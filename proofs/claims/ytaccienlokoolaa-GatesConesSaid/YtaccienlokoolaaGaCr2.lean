/- What is proved: Cone of the reference. -/
import Derived.Test.YtaccienlokoolaaGaCr1
set_option linter.unusedVariables false
set_option linter.unusedSimpArgs false
namespace Go.Proofs.Ytaccienlokoolaa
open Go.RowKit Go.Maps

theorem zcell {w : World} {B g n c : Nat} {l : List Int} (h : ZOwn w B (.slice (some ⟨g, 0, none⟩) n c) l) {i : Nat} (hi : i < l.length) : w.cell? ⟨g, i, none⟩ = some (.int .i64 l[i]) ∧ w.frozen? ⟨g, i, none⟩ = false := by
  obtain ⟨A, c', hX, _, hr⟩ := h.form
  obtain ⟨b, hA, _, _, _, hf, hc⟩ := hr (by omega)
  injection hX with hX _ _
  rw [hA] at hX
  injection hX with hX
  injection hX with hX
  subst hX
  exact ⟨hc i hi, hf i⟩
theorem zfirst {w : World} {B n c : Nat} {A : Option Addr} {l : List Int} (h : ZOwn w B (.slice A n c) l) (hi : 0 < l.length) : ∃ g, A = some ⟨g, 0, none⟩ ∧ B ≤ g ∧ g < w.heap.size := by
  obtain ⟨A', c', hX, _, hr⟩ := h.form
  obtain ⟨b, hA, _, h1, h2, _, _⟩ := hr hi
  injection hX with hX _ _
  exact ⟨b, hX.trans hA, h1, h2⟩
set_option maxRecDepth 100000 in
set_option maxHeartbeats 16000000 in
theorem r_cone_any (I : Int) (A : Option Addr) (c : Nat) (gs : List Gt) (AL : Option Addr) (cl : Nat) (ls : List Int) (w : World) (hr : GRow w A gs) (hok : ∀ x ∈ gs, GtOk x) (hn : gs.length ≤ 5000) (hz : ZRow w.heap.size w AL ls) (hl : ls.length ≤ 1000000) :
    Calls Try.prog 27 #[.agg #[.int .i64 I, .slice A gs.length c], .slice AL ls.length cl] w fun e w' => ∃ A' c' A2 c2, e = .returned (.tuple #[.agg #[.int .i64 (coI I gs ls), .slice A' (coG I gs ls).length c'], .slice A2 (coL I gs ls).length c2, .int .i64 (coE I gs ls)]) ∧ GRow w' A' (coG I gs ls) ∧ ZRow w'.heap.size w' A2 (coL I gs ls) ∧ Below w.heap.size w w' := by
  have hb1 := (Below.refl w.heap.size w).alloc (Nat.le_refl _) (.cells #[.int .i64 I, .slice A gs.length c] 30)
  have hb2 := (Below.refl (w.alloc (.cells #[.int .i64 I, .slice A gs.length c] 30)).heap.size _).alloc (Nat.le_refl _) (.cells #[.int .i64 0, .slice none 0 0] 30)
  have HB1 := Lib.hid (hb1.trans (hb2.mono hb1.size))
  have HBX := Lib.hid ((CBx.new w I A gs.length c).later hb2)
  have hse : (w.alloc (.cells #[.int .i64 I, .slice A gs.length c] 30)).heap.size = w.heap.size + 1 := by simp
  have HRX := Lib.hid (CBx.new (w.alloc (.cells #[.int .i64 I, .slice A gs.length c] 30)) 0 none 0 0)
  rw [hse] at HRX
  have HF := Lib.hid (r_all_any I A c gs AL cl ls _ (hr.later HB1.out) hok hn (hz.later HB1.out) hl)
  have HZ := Lib.hid hz
  have HR := Lib.hid hr
  clear hz hr hok hb1 hb2 hse
  obtain ⟨rb, HRB⟩ : ∃ rb, Hid (w.heap.size + 1 = rb) := ⟨_, Lib.hid rfl⟩
  have HRL := Lib.hid (show w.heap.size ≤ rb by have := HRB.out; omega)
  cases hv : fitB I gs ls with
  | false =>
    rw [hv] at HF
    obtain ⟨e1, e2, e3, e4⟩ := co_no hv
    rw [e1, e2, e3, e4]
    clear hv e1 e2 e3 e4
    go_enter Try.func27, Try.ntmps27
    go_upto_region 1 with fail
    generalize hgw : (w.alloc (.cells #[.int .i64 I, .slice A gs.length c] 30)).alloc (.cells #[.int .i64 0, .slice none 0 0] 30) = w1 at *
    clear hgw
    rw [HRB.out] at HRX ⊢
    obtain ⟨b0, b1⟩ := HBX.out.cells
    go_wp2_with (fail)
    refine HF.out.mono ?_
    rintro e w2 ⟨rfl, hb2⟩
    have HRX2 := Lib.hid (HRX.out.later hb2)
    have HB2 := Lib.hid (HB1.out.trans (hb2.mono HB1.out.size))
    obtain ⟨y0, y1⟩ := HRX2.out.cells
    have f0 : w2.frozen? ⟨rb, 0, none⟩ = false := hfrz HRX2.out 0
    have f1 : w2.frozen? ⟨rb, 1, none⟩ = false := hfrz HRX2.out 1
    have HCE := Lib.hid (cir_cells HRX2.out (.int .i64 0) (.slice none 0 0))
    have HFB := Lib.hid (cir_below HB2.out HRL.out (.int .i64 0) (.slice none 0 0))
    clear hb2 HRX HBX b0 b1
    go_wp2_with (fail)
    clear y0 y1 f0 f1
    obtain ⟨v0, v1⟩ := HCE.out
    generalize (w2.setCell ⟨rb, 0, none⟩ (.int .i64 0)).setCell ⟨rb, 1, none⟩ (.slice none 0 0) = w5 at *
    exact bodyPost_ret (v := .tuple #[.agg #[.int .i64 0, .slice none 0 0], .slice none 0 0, .int .i64 1]) (by simp [results, Try.results27, go_sem, v0, v1]) rfl ⟨none, 0, none, 0, rfl, GRow.nil _ _, ZRow.nil _ _ _, HFB.out⟩
  | true =>
    rw [hv] at HF
    obtain ⟨⟨hck, hbig⟩, hlits⟩ := fit_iff.1 hv
    have hi1 := hck.hi
    have hi0 := hck.lo
    obtain ⟨b, hb0⟩ : ∃ b : Nat, (b : Int) = 1 + I := ⟨(1 + I).toNat, by omega⟩
    have hbs : b ≤ 1025 := by omega
    obtain ⟨e1, e2, e3, e4⟩ := co_yes hv hb0
    rw [e1, e2, e3, e4, List.length_map]
    have HBI := Lib.hid hb0
    have HCK := Lib.hid hck
    have HLI := Lib.hid hlits
    have HC1 := Lib.hid (fun W => r_nodes_any I (by omega) A gs.length c (by omega) W)
    rw [show nds I gs.length = ((b + gs.length : Nat) : Int) by unfold nds; omega] at HC1
    have HCN := Lib.hid (fun (X : Option Addr) (cap k i : Nat) (hki : k = b + i) (hi : i ≤ gs.length) (W : World) => show Calls Try.prog 16 #[.agg #[.int .i64 I, .slice X (cnG (ldF b gs ls) b gs i).length cap]] W fun e w' => e = .returned (.int .i64 ((num (ldF b gs ls) b k : Nat) : Int)) ∧ Below W.heap.size W w' by
      have h := r_nodes_any I (by omega) X (cnG (ldF b gs ls) b gs i).length cap (by have := cntM_le (ldF b gs ls) b i; rw [cnG_len i hi]; omega) W
      rw [show nds I (cnG (ldF b gs ls) b gs i).length = ((num (ldF b gs ls) b k : Nat) : Int) by unfold nds; rw [cnG_len i hi, hki, num_high]; omega] at h
      exact h)
    have HSM := Lib.hid (show ∀ i, i ≤ gs.length → (cnG (ldF b gs ls) b gs i).length ≤ 5000 from fun i hi => by have := cntM_le (ldF b gs ls) b i; rw [cnG_len i hi]; omega)
    have HLD := Lib.hid (fun (W : World) (hb : Below w.heap.size w W) => needed_any I A c gs AL cl ls W b hb0 (HR.out.later hb) hck hn (HZ.out.later hb) hl hlits)
    have HDN := Lib.hid (show ∀ (i : Nat) (hi : i < gs.length), ldF b gs ls (b + i) = true → ldF b gs ls (gs[i].x / 2).toNat = true ∧ ldF b gs ls (gs[i].y / 2).toNat = true from fun i hi h => ldF_down hck hb0 ls i hi h)
    have HLT := Lib.hid (show ∀ x ∈ ls, ldF b gs ls (x / 2).toNat = true from fun x hx => ldF_lit ls hx)
    unfold cnA
    clear hv hck hbig hlits e1 e2 e3 e4 hb0
    generalize ldF b gs ls = f at *
    go_enter Try.func27, Try.ntmps27
    go_upto_region 1 with fail
    generalize hgw : (w.alloc (.cells #[.int .i64 I, .slice A gs.length c] 30)).alloc (.cells #[.int .i64 0, .slice none 0 0] 30) = w1 at *
    clear hgw
    rw [HRB.out] at HRX ⊢
    obtain ⟨b0, b1⟩ := HBX.out.cells
    go_wp2_with (fail)
    refine HF.out.mono ?_
    rintro e w2 ⟨rfl, hb2⟩
    have HB2 := Lib.hid (HB1.out.trans (hb2.mono HB1.out.size))
    have HX2 := Lib.hid (HBX.out.later hb2)
    have HR2 := Lib.hid (HRX.out.later hb2)
    clear hb2 b0 b1 HBX HRX HB1 HF
    obtain ⟨b0, b1⟩ := HX2.out.cells
    go_wp2_with (fail)
    refine (HLD.out _ HB2.out).mono ?_
    rintro e w3 ⟨lb, rfl, hlb, harr, hb⟩
    have HX3 := Lib.hid (HX2.out.later hb)
    have HR3 := Lib.hid (HR2.out.later hb)
    have HB3 := Lib.hid (HB2.out.trans (hb.mono HB2.out.size))
    have HA3 := Lib.hid harr
    have HRU := Lib.hid (show rb < w3.heap.size from hlt (HR2.out.later hb))
    clear hb harr hlb HX2 HR2 HB2 b0 b1
    obtain ⟨b0, b1⟩ := HX3.out.cells
    go_upto_region 6 with fail
    have ha1 := (Below.refl w3.heap.size w3).alloc (Nat.le_refl _) (.cells #[.int .i64 I, .slice none 0 0] 30)
    have ha2 := (Below.refl (w3.alloc (.cells #[.int .i64 I, .slice none 0 0] 30)).heap.size _).alloc (Nat.le_refl _) (.cells #[] 3)
    have hse : (w3.alloc (.cells #[.int .i64 I, .slice none 0 0] 30)).heap.size = w3.heap.size + 1 := by simp
    have hnw := heap_alloc_new (w3.alloc (.cells #[.int .i64 I, .slice none 0 0] 30)) (.cells #[] 3)
    rw [hse] at hnw
    have HS6 := Lib.hid (show CrS w w.heap.size w.heap.size rb w3.heap.size lb (b + gs.length) I A gs.length c f (.slice none 0 0) (cnG f b gs (0 - b)) (.slice (some ⟨w3.heap.size + 1, 0, none⟩) 0 0) (mlK f b 0) ((w3.alloc (.cells #[.int .i64 I, .slice none 0 0] 30)).alloc (.cells #[] 3)) from
      ⟨(HX3.out.later ha1).later ha2, (HR3.out.later ha1).later ha2, (CBx.new w3 I none 0 0).later ha2, (HA3.out.later ha1).later ha2, by rw [Nat.zero_sub]; exact GOwn.nil _ _, ⟨rfl, .inr ⟨w3.heap.size + 1, 0, #[], rfl, by have := HB3.out.size; omega, hnw, Nat.le_refl _, by decide, rfl, rfl⟩⟩, (HB3.out.trans (ha1.mono HB3.out.size)).trans (ha2.mono (HB3.out.trans (ha1.mono HB3.out.size)).size), by have := hlt HX3.out; omega, by have := HRU.out; omega, ⟨HB3.out.size, Nat.le_refl _, HRL.out⟩, Nat.le_trans HB3.out.size (Nat.le_trans ha1.size ha2.size)⟩)
    clear ha1 ha2 hse hnw b0 b1 HX3 HR3 HB3 HA3 HRU
    generalize hgw : (w3.alloc (.cells #[.int .i64 I, .slice none 0 0] 30)).alloc (.cells #[] 3) = w6 at *
    clear hgw
    generalize w3.heap.size + 1 = eb at *
    generalize w3.heap.size = kb at *
    go_wp2_with (fail)
    go_loopw [9, 10] (fun u jv wr => ∃ (k : Nat) (v : Value), k ≤ b + gs.length ∧ jv = .int .i64 (k : Int) ∧ Hid (CrS w w.heap.size w.heap.size rb kb lb (b + gs.length) I A gs.length c f v (cnG f b gs (k - b)) u (mlK f b k) wr)) (fun _ jv _ => b + gs.length - (intOf jv).toNat)
    case atStart => exact ⟨0, _, Nat.zero_le _, rfl, HS6⟩
    case round =>
      obtain ⟨k, v, hk, rfl, hs⟩ := hrel
      obtain ⟨b0, b1⟩ := hs.out.ck.cells
      by_cases hlt : k < b + gs.length
      · have hkz : (k : Int) < (b : Int) + (gs.length : Int) := by omega
        go_wp2_with (fail)
        refine (HC1.out _).mono ?_
        rintro e w8 ⟨rfl, hb⟩
        have HS8 := Lib.hid (hs.out.later hb)
        clear hb hs b0 b1
        have hba := (Below.refl w8.heap.size w8).alloc (Nat.le_refl _) (.cells #[.int .i64 (k : Int)] 3)
        have hs9 := HS8.out.later hba
        obtain ⟨X', cap', w9, hrun, hown9, hgr9⟩ := z_append (w := w8.alloc (.cells #[.int .i64 (k : Int)] 3)) w.heap.size k u9 _ hs9.mvs (mlK_len f b k).symm (some ⟨w8.heap.size, 0, none⟩) 1 1 [(k : Int)] rfl (ZRow.one w8 _) (by omega) hs9.up
        have HS9 := Lib.hid (hs9.push hgr9 hown9)
        obtain ⟨g0, hg0, hg1, hg2⟩ := zfirst hown9 (by simp)
        subst hg0
        clear hba hs9 hown9 hgr9 HS8 hg1 hg2
        have q1 := HS9.out.lds.cell hlt
        obtain ⟨b0, b1⟩ := HS9.out.ck.cells
        by_cases hkI : (k : Int) ≤ I
        · have hkb : k < b := by have := HBI.out; omega
          have HE := HS9
          rw [mlK_no (.inl hkb), show cnG f b gs (k - b) = cnG f b gs (k + 1 - b) by rw [show k - b = 0 by omega, show k + 1 - b = 0 by omega]] at HE
          clear HS9 hkb
          go_wp2_with (at_builtin; refine app_by rfl _ _ 48 48 rfl _ _ rfl rfl _ _ hrun ?_; intro w9 hw9; obtain rfl := hw9.out)
          first | exact ⟨⟨k + 1, v, by omega, by go_num, HE⟩, by simp [intOf]; omega⟩ | exact ⟨⟨_, _, ⟨k + 1, v, by omega, by go_num, HE⟩, rfl, rfl⟩, by simp [intOf]; omega⟩ | (trace_state; exact False.elim ?_)
        · have hkb : ¬ k < b := by have := HBI.out; omega
          obtain ⟨i, hki⟩ : ∃ i, k = b + i := ⟨k - b, by omega⟩
          have hil : i < gs.length := by omega
          have HKI := Lib.hid hki
          have HI0 := Lib.hid (show k - b = i by omega)
          have HI1 := Lib.hid (show k + 1 - b = i + 1 by omega)
          rw [HI0.out] at HS9
          cases hf : f k with
          | false =>
            rw [hf] at q1
            have HE := HS9
            rw [mlK_no (.inr hf), ← cnG_no (gs := gs) (show f (b + i) = false by rw [← hki]; exact hf), ← HI1.out] at HE
            clear hf HS9 hki hkb
            go_wp2_with (at_builtin; refine app_by rfl _ _ 48 48 rfl _ _ rfl rfl _ _ hrun ?_; intro w9 hw9; obtain rfl := hw9.out)
            first | exact ⟨⟨k + 1, v, by omega, by go_num, HE⟩, by simp [intOf]; omega⟩ | exact ⟨⟨_, _, ⟨k + 1, v, by omega, by go_num, HE⟩, rfl, rfl⟩, by simp [intOf]; omega⟩ | (trace_state; exact False.elim ?_)
          | true =>
            rw [hf] at q1
            obtain ⟨X, cap, hX, _, _⟩ := HS9.out.own.form
            subst hX
            have HFT := Lib.hid (show f (b + i) = true by rw [← hki]; exact hf)
            have HMK := Lib.hid (mlK_yes (b := b) hf)
            have HCT := Lib.hid (fun W => HCN.out X cap k i hki (by omega) W)
            have hbi := HBI.out
            have hw1 : IntKind.i64.wrap ((k : Int) - 1) = (k : Int) - 1 := IntWalk.i64_in _ (by omega)
            have hw2 : IntKind.i64.wrap ((k : Int) - 1 - I) = (i : Int) := by rw [IntWalk.i64_in _ (by omega)]; omega
            have hsm := HSM.out i (by omega)
            have HNN := Lib.hid (show num f b k ≤ k from num_le f b k)
            obtain ⟨ab, off, hA, hab, hc0⟩ := (HR.out.later HS9.out.bel).at hil
            subst hA
            have hcg := HCK.out.ok i hil
            have hdn := HDN.out i hil HFT.out
            have HYS := Lib.hid (cnG_yes hil HFT.out)
            obtain ⟨m1, m2, hG⟩ : ∃ m1 m2 : Nat, gs[i] = ⟨(m1 : Int), (m2 : Int)⟩ := ⟨gs[i].x.toNat, gs[i].y.toNat, by
              have h1 : ((gs[i].x.toNat : Nat) : Int) = gs[i].x := by omega
              have h2 : ((gs[i].y.toNat : Nat) : Int) = gs[i].y := by omega
              rw [h1, h2]⟩
            rw [hG] at hc0 hcg hdn HYS
            simp only at hcg hdn
            have hm1 : m1 / 2 < k + 1 := by omega
            have hm2 : m2 / 2 < k + 1 := by omega
            have ht1 : ((m1 : Int) / 2).toNat = m1 / 2 := by omega
            have ht2 : ((m2 : Int) / 2).toNat = m2 / 2 := by omega
            have HMX := Lib.hid (mlK_mv (b := b) hdn.1)
            have HMY := Lib.hid (mlK_mv (b := b) hdn.2)
            rw [ht1] at HMX
            rw [ht2] at HMY
            obtain ⟨d0, d1⟩ := (show w9.cell? ⟨ab, off + i * 2, none⟩ = some (.int .i64 (m1 : Int)) ∧ w9.cell? ⟨ab, off + i * 2 + 1, none⟩ = some (.int .i64 (m2 : Int)) from hc0)
            clear hf hki hbi hcg hdn hc0 hkb ht1 ht2 hG
            go_upto_region 12 with (at_builtin; refine app_by rfl _ _ 48 48 rfl _ _ rfl rfl _ _ hrun ?_; intro w9 hw9; obtain rfl := hw9.out)
            have hba := (Below.refl w9.heap.size w9).alloc (Nat.le_refl _) (.cells #[.int .i64 (m1 : Int), .int .i64 (m2 : Int)] 69)
            have HGB := Lib.hid (show GBox (w9.alloc (.cells #[.int .i64 (m1 : Int), .int .i64 (m2 : Int)] 69)) w9.heap.size ⟨(m1 : Int), (m2 : Int)⟩ from GBox.new w9 ⟨(m1 : Int), (m2 : Int)⟩)
            have HS10 := Lib.hid (HS9.out.later hba)
            have HNO := Lib.hid (show (Value.slice X (cnG f b gs i).length cap).ownBlock ≠ some w9.heap.size from fun e => by have := (own_block' HS9.out.own e).2.1; omega)
            clear hba d0 d1 HS9 b0 b1 q1
            generalize hgw : w9.alloc (.cells #[.int .i64 (m1 : Int), .int .i64 (m2 : Int)] 69) = w10 at *
            clear hgw
            generalize w9.heap.size = gb at *
            obtain ⟨y0, y1, _⟩ := HS10.out.ccells
            go_wp2_with (fail)
            refine (HCT.out _).mono ?_
            rintro e w11 ⟨rfl, hb⟩
            have HS11 := Lib.hid (HS10.out.later hb)
            have HGB11 := Lib.hid (HGB.out.later hb)
            clear hb HS10 HGB y0 y1
            have hlen : (mlK f b k ++ [(k : Int)]).length = k + 1 := by simp [mlK]
            obtain ⟨z5, z6⟩ := zcell HS11.out.mvs (show k < (mlK f b k ++ [(k : Int)]).length by omega)
            have hput := HS11.out.put hlen.symm k (num f b k : Int)
            rw [HMK.out] at hput
            have HS12 := Lib.hid hput
            have HGB12 := Lib.hid (show GBox (w11.setCell ⟨g0, k, none⟩ (.int .i64 (num f b k : Int))) gb ⟨(m1 : Int), (m2 : Int)⟩ from by
              obtain ⟨_, _, co, hs⟩ := own_block' HS11.out.mvs (b := g0) rfl
              have hgb : w11.heap[gb]? = some (.cells #[.int .i64 (m1 : Int), .int .i64 (m2 : Int)] 69 (0, 0)) := HGB11.out
              exact (hfar (p := ⟨g0, k, none⟩) (ty_ne hgb hs (by decide)) _).trans hgb)
            clear hput HS11 HGB11
            go_upto_region 13 with fail
            clear z5 z6 hlen
            generalize hgw : w11.setCell ⟨g0, k, none⟩ (.int .i64 (num f b k : Int)) = w12 at *
            clear hgw
            have HS13 := Lib.hid (HS12.out.later (show Below w12.heap.size w12 w12.drew from (Below.refl _ _).drew))
            have HGB13 := Lib.hid (show GBox w12.drew gb ⟨(m1 : Int), (m2 : Int)⟩ from HGB12.out)
            clear HS12 HGB12
            have hr1 := nmR_small f b (m1 / 2)
            have hr2 := nmR_small f b (m2 / 2)
            have HSP := Lib.hid (fun (w' : World) (hp : GBox w' gb ⟨(m1 : Int), (m2 : Int)⟩ ∧ ZOwn w' w.heap.size (.slice (some ⟨g0, 0, none⟩) (k + 1) cap') (mlK f b (k + 1))) => show (w'.cell? ⟨gb, 0, none⟩ = some (.int .i64 (m1 : Int)) ∧ w'.cell? ⟨gb, 1, none⟩ = some (.int .i64 (m2 : Int))) ∧ w'.cell? ⟨g0, m1 / 2, none⟩ = some (.int .i64 (nmR f b (m1 / 2))) ∧ w'.cell? ⟨g0, m2 / 2, none⟩ = some (.int .i64 (nmR f b (m2 / 2))) from by
              have l1 : m1 / 2 < (mlK f b (k + 1)).length := by rw [mlK_len]; exact hm1
              have l2 : m2 / 2 < (mlK f b (k + 1)).length := by rw [mlK_len]; exact hm2
              have c1 := (zcell hp.2 l1).1
              have c2 := (zcell hp.2 l2).1
              rw [mlK_at] at c1 c2
              exact ⟨hp.1.cells, c1, c2⟩)
            have hap := cr_app HS13.out hsm ⟨2 * nmR f b (m1 / 2) + (m1 : Int) % 2, 2 * nmR f b (m2 / 2) + (m2 : Int) % 2⟩ (P := fun w' => GBox w' gb ⟨(m1 : Int), (m2 : Int)⟩ ∧ ZOwn w' w.heap.size (.slice (some ⟨g0, 0, none⟩) (k + 1) cap') (mlK f b (k + 1))) (fun w' hkp => by
              have hgb : w12.drew.heap[gb]? = some (.cells #[.int .i64 (m1 : Int), .int .i64 (m2 : Int)] 69 (0, 0)) := HGB13.out
              refine ⟨(hkp gb (Go.Proofs.Ytaccienlokoolaa.hlt hgb) HNO.out (ty_ne hgb HS13.out.cn (by decide))).trans hgb, own_stays HS13.out.mvs fun bk e => ?_⟩
              obtain ⟨_, hl9, co, hoo⟩ := own_block' HS13.out.mvs e
              exact hkp bk hl9 (fun e2 => by
                obtain ⟨_, _, co2, hoo2⟩ := own_block' HS13.out.own e2
                exact ty_ne hoo hoo2 (by decide) rfl) (ty_ne hoo HS13.out.cn (by decide)))
            obtain ⟨X5, cap5, w14, hrun5, hst5⟩ := hap
            rw [HMX.out, HMY.out, ← HYS.out, ← HI1.out] at hst5
            dsimp only at hrun5
            have HRUN := Lib.hid hrun5
            have HST := Lib.hid hst5
            have HV0 := Lib.hid HS13.out.ccells.2.1
            have HS0 := Lib.hid (HSP.out _ ⟨HGB13.out, HS13.out.mvs⟩)
            have hbb := (Below.refl w12.drew.heap.size w12.drew).alloc (Nat.le_refl _) (.cells #[.int .i64 (2 * nmR f b (m1 / 2) + (m1 : Int) % 2), .int .i64 (2 * nmR f b (m2 / 2) + (m2 : Int) % 2)] 69)
            have HV1 := Lib.hid (HS13.out.later hbb).ccells.2.1
            have HS1 := Lib.hid (HSP.out _ ⟨HGB13.out.later hbb, (HS13.out.later hbb).mvs⟩)
            have hn1 : 0 ≤ nmR f b (m1 / 2) ∧ nmR f b (m1 / 2) ≤ 1000000 := by omega
            have hn2 : 0 ≤ nmR f b (m2 / 2) ∧ nmR f b (m2 / 2) ≤ 1000000 := by omega
            clear hrun5 hst5 hbb HMX HMY HYS HFT HS13 HGB13 HMK hr1 hr2 hw1 hw2 hrun
            generalize nmR f b (m1 / 2) = r1 at *
            generalize nmR f b (m2 / 2) = r2 at *
            have v1 : IntKind.i64.wrap (2 * r1) = 2 * r1 := IntWalk.i64_in _ (by omega)
            have v2 : IntKind.i64.wrap (2 * r2) = 2 * r2 := IntWalk.i64_in _ (by omega)
            have v3 : IntKind.i64.wrap (2 * r1 + (m1 : Int) % 2) = 2 * r1 + (m1 : Int) % 2 := IntWalk.i64_in _ (by omega)
            have v4 : IntKind.i64.wrap (2 * r2 + (m2 : Int) % 2) = 2 * r2 + (m2 : Int) % 2 := IntWalk.i64_in _ (by omega)
            refine wp_region_noPanic ?_
            refine wp_region_held_drew (S := fun w' => (w'.cell? ⟨gb, 0, none⟩ = some (.int .i64 (m1 : Int)) ∧ w'.cell? ⟨gb, 1, none⟩ = some (.int .i64 (m2 : Int))) ∧ w'.cell? ⟨g0, m1 / 2, none⟩ = some (.int .i64 r1) ∧ w'.cell? ⟨g0, m2 / 2, none⟩ = some (.int .i64 r2)) (by kernel_rfl) HS0.out (fun _ => ?_)
            generalize w12.drew = w13 at *
            refine wpAnyH_take (i := 0) (oi := { dst := some 61, op := Op.fieldAddr 30 (Operand.tmp 8) 1, type := 0, pos := "ref.go:217", after := #[], guard := none }) (v := .pointer (some ⟨kb, 1, none⟩)) rfl (by kernel_rfl) (by kernel_rfl) (by kernel_rfl) (fun _ _ _ h => h) (Or.inl ⟨by rfl, ?_⟩) HS0.out ?_
            · (intro w' hSw; go_simp)
            simp only [Act.put, List.setIfInBounds_toArray, List.set_cons_zero, List.set_cons_succ]
            refine wpAnyH_take (i := 2) (oi := { dst := some 63, op := Op.move (Operand.tmp 9), type := 48, pos := "ref.go:217", after := #[], guard := none }) (v := .slice (some ⟨g0, 0, none⟩) (k + 1) cap') rfl (by kernel_rfl) (by kernel_rfl) (by kernel_rfl) (fun _ _ _ h => h) (Or.inl ⟨by rfl, ?_⟩) HS0.out ?_
            · (intro w' hSw; go_simp)
            simp only [Act.put, List.setIfInBounds_toArray, List.set_cons_zero, List.set_cons_succ]
            refine wpAnyH_take (i := 3) (oi := { dst := some 64, op := Op.indexAddr 69 (Operand.tmp 11) (Operand.const (Value.int IntKind.i64 0)), type := 0, pos := "ref.go:217", after := #[], guard := none }) (v := .pointer (some ⟨gb, 0, none⟩)) rfl (by kernel_rfl) (by kernel_rfl) (by kernel_rfl) (fun _ _ _ h => h) (Or.inl ⟨by rfl, ?_⟩) HS0.out ?_
            · (intro w' hSw; go_simp)
            simp only [Act.put, List.setIfInBounds_toArray, List.set_cons_zero, List.set_cons_succ]
            refine wpAnyH_take (i := 4) (oi := { dst := some 65, op := Op.load 3 (Operand.tmp 64), type := 3, pos := "ref.go:217", after := #[{ on := 3, ground := Ground.data }], guard := none }) (v := .int .i64 (m1 : Int)) rfl (by kernel_rfl) (by kernel_rfl) (by kernel_rfl) (fun _ _ _ h => h) (Or.inl ⟨by rfl, ?_⟩) HS0.out ?_
            · (intro w' hSw; obtain ⟨⟨z0, z1⟩, z2, z3⟩ := hSw; go_simp)
            simp only [Act.put, List.setIfInBounds_toArray, List.set_cons_zero, List.set_cons_succ]
            refine wpAnyH_take (i := 5) (oi := { dst := some 66, op := Op.binOp BinOp.quo 3 (Operand.tmp 65) (Operand.const (Value.int IntKind.i64 2)) 3, type := 3, pos := "ref.go:217", after := #[{ on := 4, ground := Ground.data }], guard := none }) (v := .int .i64 ((m1 : Int) / 2)) rfl (by kernel_rfl) (by kernel_rfl) (by kernel_rfl) (fun _ _ _ h => h) (Or.inl ⟨by rfl, ?_⟩) HS0.out ?_
            · (intro w' hSw; have hq6 : IntKind.i64.wrap ((m1 : Int) / 2) = (m1 : Int) / 2 := IntWalk.i64_in _ (by omega); go_simp)
            simp only [Act.put, List.setIfInBounds_toArray, List.set_cons_zero, List.set_cons_succ]
            refine wpAnyH_take (i := 6) (oi := { dst := some 67, op := Op.indexAddr 48 (Operand.tmp 63) (Operand.tmp 66), type := 0, pos := "ref.go:217", after := #[{ on := 2, ground := Ground.data }, { on := 5, ground := Ground.data }], guard := none }) (v := .pointer (some ⟨g0, m1 / 2, none⟩)) rfl (by kernel_rfl) (by kernel_rfl) (by kernel_rfl) (fun _ _ _ h => h) (Or.inl ⟨by rfl, ?_⟩) HS0.out ?_
            · (intro w' hSw; have hq8 : ((m1 : Int) / 2).toNat = m1 / 2 := (by omega); have hq7 : 0 ≤ (m1 : Int) / 2 ∧ (m1 : Int) / 2 < (k : Int) + 1 := (by omega); go_simp)
            simp only [Act.put, List.setIfInBounds_toArray, List.set_cons_zero, List.set_cons_succ]
            refine wpAnyH_take (i := 7) (oi := { dst := some 68, op := Op.load 3 (Operand.tmp 67), type := 3, pos := "ref.go:217", after := #[{ on := 6, ground := Ground.data }], guard := none }) (v := .int .i64 r1) rfl (by kernel_rfl) (by kernel_rfl) (by kernel_rfl) (fun _ _ _ h => h) (Or.inl ⟨by rfl, ?_⟩) HS0.out ?_
            · (intro w' hSw; obtain ⟨⟨z0, z1⟩, z2, z3⟩ := hSw; go_simp)
            simp only [Act.put, List.setIfInBounds_toArray, List.set_cons_zero, List.set_cons_succ]
            refine wpAnyH_take (i := 8) (oi := { dst := some 69, op := Op.binOp BinOp.mul 3 (Operand.const (Value.int IntKind.i64 2)) (Operand.tmp 68) 3, type := 3, pos := "ref.go:217", after := #[{ on := 7, ground := Ground.data }], guard := none }) (v := .int .i64 (2 * r1)) rfl (by kernel_rfl) (by kernel_rfl) (by kernel_rfl) (fun _ _ _ h => h) (Or.inl ⟨by rfl, ?_⟩) HS0.out ?_
            · (intro w' hSw; go_simp)
            simp only [Act.put, List.setIfInBounds_toArray, List.set_cons_zero, List.set_cons_succ]
            refine wpAnyH_take (i := 9) (oi := { dst := some 70, op := Op.indexAddr 69 (Operand.tmp 11) (Operand.const (Value.int IntKind.i64 0)), type := 0, pos := "ref.go:217", after := #[], guard := none }) (v := .pointer (some ⟨gb, 0, none⟩)) rfl (by kernel_rfl) (by kernel_rfl) (by kernel_rfl) (fun _ _ _ h => h) (Or.inl ⟨by rfl, ?_⟩) HS0.out ?_
            · (intro w' hSw; go_simp)
            simp only [Act.put, List.setIfInBounds_toArray, List.set_cons_zero, List.set_cons_succ]
            refine wpAnyH_take (i := 10) (oi := { dst := some 71, op := Op.load 3 (Operand.tmp 70), type := 3, pos := "ref.go:217", after := #[{ on := 9, ground := Ground.data }], guard := none }) (v := .int .i64 (m1 : Int)) rfl (by kernel_rfl) (by kernel_rfl) (by kernel_rfl) (fun _ _ _ h => h) (Or.inl ⟨by rfl, ?_⟩) HS0.out ?_
            · (intro w' hSw; obtain ⟨⟨z0, z1⟩, z2, z3⟩ := hSw; go_simp)
            simp only [Act.put, List.setIfInBounds_toArray, List.set_cons_zero, List.set_cons_succ]
            refine wpAnyH_take (i := 11) (oi := { dst := some 72, op := Op.binOp BinOp.rem 3 (Operand.tmp 71) (Operand.const (Value.int IntKind.i64 2)) 3, type := 3, pos := "ref.go:217", after := #[{ on := 10, ground := Ground.data }], guard := none }) (v := .int .i64 ((m1 : Int) % 2)) rfl (by kernel_rfl) (by kernel_rfl) (by kernel_rfl) (fun _ _ _ h => h) (Or.inl ⟨by rfl, ?_⟩) HS0.out ?_
            · (intro w' hSw; have hq9 : (m1 : Int).tmod 2 = (m1 : Int) % 2 := Int.tmod_eq_emod_of_nonneg (by omega); go_simp)
            simp only [Act.put, List.setIfInBounds_toArray, List.set_cons_zero, List.set_cons_succ]
            refine wpAnyH_take (i := 12) (oi := { dst := some 73, op := Op.binOp BinOp.add 3 (Operand.tmp 69) (Operand.tmp 72) 3, type := 3, pos := "ref.go:217", after := #[{ on := 8, ground := Ground.data }, { on := 11, ground := Ground.data }], guard := none }) (v := .int .i64 (2 * r1 + (m1 : Int) % 2)) rfl (by kernel_rfl) (by kernel_rfl) (by kernel_rfl) (fun _ _ _ h => h) (Or.inl ⟨by rfl, ?_⟩) HS0.out ?_
            · (intro w' hSw; go_simp)
            simp only [Act.put, List.setIfInBounds_toArray, List.set_cons_zero, List.set_cons_succ]
            refine wpAnyH_take (i := 13) (oi := { dst := some 74, op := Op.move (Operand.tmp 9), type := 48, pos := "ref.go:217", after := #[], guard := none }) (v := .slice (some ⟨g0, 0, none⟩) (k + 1) cap') rfl (by kernel_rfl) (by kernel_rfl) (by kernel_rfl) (fun _ _ _ h => h) (Or.inl ⟨by rfl, ?_⟩) HS0.out ?_
            · (intro w' hSw; go_simp)
            simp only [Act.put, List.setIfInBounds_toArray, List.set_cons_zero, List.set_cons_succ]
            refine wpAnyH_take (i := 14) (oi := { dst := some 75, op := Op.indexAddr 69 (Operand.tmp 11) (Operand.const (Value.int IntKind.i64 1)), type := 0, pos := "ref.go:217", after := #[], guard := none }) (v := .pointer (some ⟨gb, 1, none⟩)) rfl (by kernel_rfl) (by kernel_rfl) (by kernel_rfl) (fun _ _ _ h => h) (Or.inl ⟨by rfl, ?_⟩) HS0.out ?_
            · (intro w' hSw; go_simp)
            simp only [Act.put, List.setIfInBounds_toArray, List.set_cons_zero, List.set_cons_succ]
            refine wpAnyH_take (i := 15) (oi := { dst := some 76, op := Op.load 3 (Operand.tmp 75), type := 3, pos := "ref.go:217", after := #[{ on := 14, ground := Ground.data }], guard := none }) (v := .int .i64 (m2 : Int)) rfl (by kernel_rfl) (by kernel_rfl) (by kernel_rfl) (fun _ _ _ h => h) (Or.inl ⟨by rfl, ?_⟩) HS0.out ?_
            · (intro w' hSw; obtain ⟨⟨z0, z1⟩, z2, z3⟩ := hSw; go_simp)
            simp only [Act.put, List.setIfInBounds_toArray, List.set_cons_zero, List.set_cons_succ]
            refine wpAnyH_take (i := 16) (oi := { dst := some 77, op := Op.binOp BinOp.quo 3 (Operand.tmp 76) (Operand.const (Value.int IntKind.i64 2)) 3, type := 3, pos := "ref.go:217", after := #[{ on := 15, ground := Ground.data }], guard := none }) (v := .int .i64 ((m2 : Int) / 2)) rfl (by kernel_rfl) (by kernel_rfl) (by kernel_rfl) (fun _ _ _ h => h) (Or.inl ⟨by rfl, ?_⟩) HS0.out ?_
            · (intro w' hSw; have hq6 : IntKind.i64.wrap ((m2 : Int) / 2) = (m2 : Int) / 2 := IntWalk.i64_in _ (by omega); go_simp)
            simp only [Act.put, List.setIfInBounds_toArray, List.set_cons_zero, List.set_cons_succ]
            refine wpAnyH_take (i := 17) (oi := { dst := some 78, op := Op.indexAddr 48 (Operand.tmp 74) (Operand.tmp 77), type := 0, pos := "ref.go:217", after := #[{ on := 13, ground := Ground.data }, { on := 16, ground := Ground.data }], guard := none }) (v := .pointer (some ⟨g0, m2 / 2, none⟩)) rfl (by kernel_rfl) (by kernel_rfl) (by kernel_rfl) (fun _ _ _ h => h) (Or.inl ⟨by rfl, ?_⟩) HS0.out ?_
            · (intro w' hSw; have hq8 : ((m2 : Int) / 2).toNat = m2 / 2 := (by omega); have hq7 : 0 ≤ (m2 : Int) / 2 ∧ (m2 : Int) / 2 < (k : Int) + 1 := (by omega); go_simp)
            simp only [Act.put, List.setIfInBounds_toArray, List.set_cons_zero, List.set_cons_succ]
            refine wpAnyH_take (i := 18) (oi := { dst := some 79, op := Op.load 3 (Operand.tmp 78), type := 3, pos := "ref.go:217", after := #[{ on := 17, ground := Ground.data }], guard := none }) (v := .int .i64 r2) rfl (by kernel_rfl) (by kernel_rfl) (by kernel_rfl) (fun _ _ _ h => h) (Or.inl ⟨by rfl, ?_⟩) HS0.out ?_
            · (intro w' hSw; obtain ⟨⟨z0, z1⟩, z2, z3⟩ := hSw; go_simp)
            simp only [Act.put, List.setIfInBounds_toArray, List.set_cons_zero, List.set_cons_succ]
            refine wpAnyH_take (i := 19) (oi := { dst := some 80, op := Op.binOp BinOp.mul 3 (Operand.const (Value.int IntKind.i64 2)) (Operand.tmp 79) 3, type := 3, pos := "ref.go:217", after := #[{ on := 18, ground := Ground.data }], guard := none }) (v := .int .i64 (2 * r2)) rfl (by kernel_rfl) (by kernel_rfl) (by kernel_rfl) (fun _ _ _ h => h) (Or.inl ⟨by rfl, ?_⟩) HS0.out ?_
            · (intro w' hSw; go_simp)
            simp only [Act.put, List.setIfInBounds_toArray, List.set_cons_zero, List.set_cons_succ]
            refine wpAnyH_take (i := 20) (oi := { dst := some 81, op := Op.indexAddr 69 (Operand.tmp 11) (Operand.const (Value.int IntKind.i64 1)), type := 0, pos := "ref.go:217", after := #[], guard := none }) (v := .pointer (some ⟨gb, 1, none⟩)) rfl (by kernel_rfl) (by kernel_rfl) (by kernel_rfl) (fun _ _ _ h => h) (Or.inl ⟨by rfl, ?_⟩) HS0.out ?_
            · (intro w' hSw; go_simp)
            simp only [Act.put, List.setIfInBounds_toArray, List.set_cons_zero, List.set_cons_succ]
            refine wpAnyH_take (i := 21) (oi := { dst := some 82, op := Op.load 3 (Operand.tmp 81), type := 3, pos := "ref.go:217", after := #[{ on := 20, ground := Ground.data }], guard := none }) (v := .int .i64 (m2 : Int)) rfl (by kernel_rfl) (by kernel_rfl) (by kernel_rfl) (fun _ _ _ h => h) (Or.inl ⟨by rfl, ?_⟩) HS0.out ?_
            · (intro w' hSw; obtain ⟨⟨z0, z1⟩, z2, z3⟩ := hSw; go_simp)
            simp only [Act.put, List.setIfInBounds_toArray, List.set_cons_zero, List.set_cons_succ]
            refine wpAnyH_take (i := 22) (oi := { dst := some 83, op := Op.binOp BinOp.rem 3 (Operand.tmp 82) (Operand.const (Value.int IntKind.i64 2)) 3, type := 3, pos := "ref.go:217", after := #[{ on := 21, ground := Ground.data }], guard := none }) (v := .int .i64 ((m2 : Int) % 2)) rfl (by kernel_rfl) (by kernel_rfl) (by kernel_rfl) (fun _ _ _ h => h) (Or.inl ⟨by rfl, ?_⟩) HS0.out ?_
            · (intro w' hSw; have hq9 : (m2 : Int).tmod 2 = (m2 : Int) % 2 := Int.tmod_eq_emod_of_nonneg (by omega); go_simp)
            simp only [Act.put, List.setIfInBounds_toArray, List.set_cons_zero, List.set_cons_succ]
            refine wpAnyH_take (i := 23) (oi := { dst := some 84, op := Op.binOp BinOp.add 3 (Operand.tmp 80) (Operand.tmp 83) 3, type := 3, pos := "ref.go:217", after := #[{ on := 19, ground := Ground.data }, { on := 22, ground := Ground.data }], guard := none }) (v := .int .i64 (2 * r2 + (m2 : Int) % 2)) rfl (by kernel_rfl) (by kernel_rfl) (by kernel_rfl) (fun _ _ _ h => h) (Or.inl ⟨by rfl, ?_⟩) HS0.out ?_
            · (intro w' hSw; go_simp)
            simp only [Act.put, List.setIfInBounds_toArray, List.set_cons_zero, List.set_cons_succ]
            refine wpAnyH_take (i := 24) (oi := { dst := some 85, op := Op.build 69 #[(0, Operand.tmp 73), (1, Operand.tmp 84)], type := 69, pos := "ref.go:217", after := #[{ on := 12, ground := Ground.data }, { on := 23, ground := Ground.data }], guard := none }) (v := .agg #[.int .i64 (2 * r1 + (m1 : Int) % 2), .int .i64 (2 * r2 + (m2 : Int) % 2)]) rfl (by kernel_rfl) (by kernel_rfl) (by kernel_rfl) (fun _ _ _ h => h) (Or.inl ⟨by rfl, ?_⟩) HS0.out ?_
            · (intro w' hSw; go_simp)
            simp only [Act.put, List.setIfInBounds_toArray, List.set_cons_zero, List.set_cons_succ]
            refine wpAnyH_ready (rs := [1, 25]) (by kernel_rfl) (by simp) (AllReadyH.cons (o := { dst := some 62, op := Op.load 28 (Operand.tmp 61), type := 28, pos := "ref.go:217", after := #[{ on := 0, ground := Ground.data }], guard := none }) rfl (fun K hK => ?_) (AllReadyH.cons (o := { dst := some 86, op := Op.buildSlice 28 1 #[(0, Operand.tmp 85)], type := 28, pos := "ref.go:217", after := #[{ on := 24, ground := Ground.data }], guard := none }) rfl (fun K hK => ?_) AllReadyH.nil))
            · have c0 := HV0.out
              go_simp
              clear c0
              refine hK.out _ _ HS0.out (fun _ => ?_)
              clear hK K
              try simp only [Act.put, List.setIfInBounds_toArray, List.set_cons_zero, List.set_cons_succ]
              refine wpAnyH_ready (rs := [25]) (by kernel_rfl) (by simp) (AllReadyH.cons (o := { dst := some 86, op := Op.buildSlice 28 1 #[(0, Operand.tmp 85)], type := 28, pos := "ref.go:217", after := #[{ on := 24, ground := Ground.data }], guard := none }) rfl (fun K hK => ?_) AllReadyH.nil)
              go_simp
              refine hK.out _ _ HS1.out (fun _ => ?_)
              clear hK K
              try simp only [Act.put, List.setIfInBounds_toArray, List.set_cons_zero, List.set_cons_succ]
              refine wpAnyH_ready (rs := [26]) (by kernel_rfl) (by simp) (AllReadyH.cons (o := { dst := some 87, op := Op.call { callee := Callee.builtin Builtin.append, args := #[Operand.tmp 62, Operand.tmp 86], argTypes := #[28, 28] }, type := 28, pos := "ref.go:217", after := #[{ on := 1, ground := Ground.data }, { on := 25, ground := Ground.data }], guard := none }) rfl (fun K hK => ?_) AllReadyH.nil)
              refine step_app_by (by rfl) _ _ 28 28 (by rfl) _ _ (by rfl) (by rfl) _ _ HRUN.out ?_
              intro w14 hw14
              have HW := Lib.hid (HST.out w14 hw14)
              clear hw14
              refine hK.out _ _ (HSP.out _ HW.out.2.1) (fun _ => ?_)
              clear hK K
              try simp only [Act.put, List.setIfInBounds_toArray, List.set_cons_zero, List.set_cons_succ]
              refine wpAnyH_take (i := 27) (oi := { dst := some 88, op := Op.fieldAddr 30 (Operand.tmp 8) 1, type := 0, pos := "ref.go:217", after := #[{ on := 0, ground := Ground.phase }, { on := 1, ground := Ground.phase }, { on := 2, ground := Ground.phase }, { on := 3, ground := Ground.phase }, { on := 4, ground := Ground.phase }, { on := 5, ground := Ground.phase }, { on := 6, ground := Ground.phase }, { on := 7, ground := Ground.phase }, { on := 8, ground := Ground.phase }, { on := 9, ground := Ground.phase }, { on := 10, ground := Ground.phase }, { on := 11, ground := Ground.phase }, { on := 12, ground := Ground.phase }, { on := 13, ground := Ground.phase }, { on := 14, ground := Ground.phase }, { on := 15, ground := Ground.phase }, { on := 16, ground := Ground.phase }, { on := 17, ground := Ground.phase }, { on := 18, ground := Ground.phase }, { on := 19, ground := Ground.phase }, { on := 20, ground := Ground.phase }, { on := 21, ground := Ground.phase }, { on := 22, ground := Ground.phase }, { on := 23, ground := Ground.phase }, { on := 24, ground := Ground.phase }, { on := 25, ground := Ground.phase }, { on := 26, ground := Ground.phase }], guard := none }) (v := .pointer (some ⟨kb, 1, none⟩)) rfl (by kernel_rfl) (by kernel_rfl) (by kernel_rfl) (fun _ _ _ h => h) (Or.inl ⟨by rfl, ?_⟩) (HSP.out _ HW.out.2.1) ?_
              · (intro w' hSw; go_simp)
              simp only [Act.put, List.setIfInBounds_toArray, List.set_cons_zero, List.set_cons_succ]
              refine wpAnyH_ready (rs := [28]) (by kernel_rfl) (by simp) (AllReadyH.cons (o := { dst := none, op := Op.store 28 (Operand.tmp 88) (Operand.tmp 87), type := 0, pos := "ref.go:217", after := #[{ on := 27, ground := Ground.data }, { on := 26, ground := Ground.data }, { on := 26, ground := Ground.chain }, { on := 0, ground := Ground.phase }, { on := 1, ground := Ground.phase }, { on := 2, ground := Ground.phase }, { on := 3, ground := Ground.phase }, { on := 4, ground := Ground.phase }, { on := 5, ground := Ground.phase }, { on := 6, ground := Ground.phase }, { on := 7, ground := Ground.phase }, { on := 8, ground := Ground.phase }, { on := 9, ground := Ground.phase }, { on := 10, ground := Ground.phase }, { on := 11, ground := Ground.phase }, { on := 12, ground := Ground.phase }, { on := 13, ground := Ground.phase }, { on := 14, ground := Ground.phase }, { on := 15, ground := Ground.phase }, { on := 16, ground := Ground.phase }, { on := 17, ground := Ground.phase }, { on := 18, ground := Ground.phase }, { on := 19, ground := Ground.phase }, { on := 20, ground := Ground.phase }, { on := 21, ground := Ground.phase }, { on := 22, ground := Ground.phase }, { on := 23, ground := Ground.phase }, { on := 24, ground := Ground.phase }, { on := 25, ground := Ground.phase }, { on := 26, ground := Ground.phase }], guard := none }) rfl (fun K hK => ?_) AllReadyH.nil)
              have y1 := HW.out.1.1
              have y2 := HW.out.1.2
              go_simp
              clear y1 y2
              refine hK.out _ _ (HSP.out _ HW.out.2.2.1) (fun _ => ?_)
              clear hK K
              try simp only [Act.put, List.setIfInBounds_toArray, List.set_cons_zero, List.set_cons_succ]
              refine wpAnyH_done (by kernel_rfl) ?_ _
              refine NoPanic.normal ?_
              have HE := HW.out.2.2.2
              clear HW
              go_wp2_with (fail)
              first | exact ⟨⟨k + 1, _, by omega, by go_num, HE⟩, by simp [intOf]; omega⟩ | exact ⟨⟨_, _, ⟨k + 1, _, by omega, by go_num, HE⟩, rfl, rfl⟩, by simp [intOf]; omega⟩ | (trace_state; exact False.elim ?_)
            · go_simp
              refine hK.out _ _ HS1.out (fun _ => ?_)
              clear hK K
              try simp only [Act.put, List.setIfInBounds_toArray, List.set_cons_zero, List.set_cons_succ]
              refine wpAnyH_ready (rs := [1]) (by kernel_rfl) (by simp) (AllReadyH.cons (o := { dst := some 62, op := Op.load 28 (Operand.tmp 61), type := 28, pos := "ref.go:217", after := #[{ on := 0, ground := Ground.data }], guard := none }) rfl (fun K hK => ?_) AllReadyH.nil)
              have c0 := HV1.out
              go_simp
              clear c0
              refine hK.out _ _ HS1.out (fun _ => ?_)
              clear hK K
              try simp only [Act.put, List.setIfInBounds_toArray, List.set_cons_zero, List.set_cons_succ]
              refine wpAnyH_ready (rs := [26]) (by kernel_rfl) (by simp) (AllReadyH.cons (o := { dst := some 87, op := Op.call { callee := Callee.builtin Builtin.append, args := #[Operand.tmp 62, Operand.tmp 86], argTypes := #[28, 28] }, type := 28, pos := "ref.go:217", after := #[{ on := 1, ground := Ground.data }, { on := 25, ground := Ground.data }], guard := none }) rfl (fun K hK => ?_) AllReadyH.nil)
              refine step_app_by (by rfl) _ _ 28 28 (by rfl) _ _ (by rfl) (by rfl) _ _ HRUN.out ?_
              intro w14 hw14
              have HW := Lib.hid (HST.out w14 hw14)
              clear hw14
              refine hK.out _ _ (HSP.out _ HW.out.2.1) (fun _ => ?_)
              clear hK K
              try simp only [Act.put, List.setIfInBounds_toArray, List.set_cons_zero, List.set_cons_succ]
              refine wpAnyH_take (i := 27) (oi := { dst := some 88, op := Op.fieldAddr 30 (Operand.tmp 8) 1, type := 0, pos := "ref.go:217", after := #[{ on := 0, ground := Ground.phase }, { on := 1, ground := Ground.phase }, { on := 2, ground := Ground.phase }, { on := 3, ground := Ground.phase }, { on := 4, ground := Ground.phase }, { on := 5, ground := Ground.phase }, { on := 6, ground := Ground.phase }, { on := 7, ground := Ground.phase }, { on := 8, ground := Ground.phase }, { on := 9, ground := Ground.phase }, { on := 10, ground := Ground.phase }, { on := 11, ground := Ground.phase }, { on := 12, ground := Ground.phase }, { on := 13, ground := Ground.phase }, { on := 14, ground := Ground.phase }, { on := 15, ground := Ground.phase }, { on := 16, ground := Ground.phase }, { on := 17, ground := Ground.phase }, { on := 18, ground := Ground.phase }, { on := 19, ground := Ground.phase }, { on := 20, ground := Ground.phase }, { on := 21, ground := Ground.phase }, { on := 22, ground := Ground.phase }, { on := 23, ground := Ground.phase }, { on := 24, ground := Ground.phase }, { on := 25, ground := Ground.phase }, { on := 26, ground := Ground.phase }], guard := none }) (v := .pointer (some ⟨kb, 1, none⟩)) rfl (by kernel_rfl) (by kernel_rfl) (by kernel_rfl) (fun _ _ _ h => h) (Or.inl ⟨by rfl, ?_⟩) (HSP.out _ HW.out.2.1) ?_
              · (intro w' hSw; go_simp)
              simp only [Act.put, List.setIfInBounds_toArray, List.set_cons_zero, List.set_cons_succ]
              refine wpAnyH_ready (rs := [28]) (by kernel_rfl) (by simp) (AllReadyH.cons (o := { dst := none, op := Op.store 28 (Operand.tmp 88) (Operand.tmp 87), type := 0, pos := "ref.go:217", after := #[{ on := 27, ground := Ground.data }, { on := 26, ground := Ground.data }, { on := 26, ground := Ground.chain }, { on := 0, ground := Ground.phase }, { on := 1, ground := Ground.phase }, { on := 2, ground := Ground.phase }, { on := 3, ground := Ground.phase }, { on := 4, ground := Ground.phase }, { on := 5, ground := Ground.phase }, { on := 6, ground := Ground.phase }, { on := 7, ground := Ground.phase }, { on := 8, ground := Ground.phase }, { on := 9, ground := Ground.phase }, { on := 10, ground := Ground.phase }, { on := 11, ground := Ground.phase }, { on := 12, ground := Ground.phase }, { on := 13, ground := Ground.phase }, { on := 14, ground := Ground.phase }, { on := 15, ground := Ground.phase }, { on := 16, ground := Ground.phase }, { on := 17, ground := Ground.phase }, { on := 18, ground := Ground.phase }, { on := 19, ground := Ground.phase }, { on := 20, ground := Ground.phase }, { on := 21, ground := Ground.phase }, { on := 22, ground := Ground.phase }, { on := 23, ground := Ground.phase }, { on := 24, ground := Ground.phase }, { on := 25, ground := Ground.phase }, { on := 26, ground := Ground.phase }], guard := none }) rfl (fun K hK => ?_) AllReadyH.nil)
              have y1 := HW.out.1.1
              have y2 := HW.out.1.2
              go_simp
              clear y1 y2
              refine hK.out _ _ (HSP.out _ HW.out.2.2.1) (fun _ => ?_)
              clear hK K
              try simp only [Act.put, List.setIfInBounds_toArray, List.set_cons_zero, List.set_cons_succ]
              refine wpAnyH_done (by kernel_rfl) ?_ _
              refine NoPanic.normal ?_
              have HE := HW.out.2.2.2
              clear HW
              go_wp2_with (fail)
              first | exact ⟨⟨k + 1, _, by omega, by go_num, HE⟩, by simp [intOf]; omega⟩ | exact ⟨⟨_, _, ⟨k + 1, _, by omega, by go_num, HE⟩, rfl, rfl⟩, by simp [intOf]; omega⟩ | (trace_state; exact False.elim ?_)
      · obtain rfl : k = b + gs.length := by omega
        go_wp2_with (fail)
        refine (HC1.out _).mono ?_
        rintro e w8 ⟨rfl, hb⟩
        rw [show b + gs.length - b = gs.length by omega] at hs
        have HS := Lib.hid (hs.out.later hb)
        clear hs hb HS6 b0 b1
        obtain ⟨X, cap, hX, _, _⟩ := HS.out.own.form
        subst hX
        obtain ⟨Xm, cm, hXm, _, _⟩ := HS.out.mvs.form
        rw [mlK_len] at hXm
        subst hXm
        have HE0 := Lib.hid (show ZOwn (w8.alloc (.cells #[] 3)) w8.heap.size (.slice (some ⟨w8.heap.size, 0, none⟩) 0 0) ((ls.take 0).map (mvL f b)) from ⟨rfl, .inr ⟨w8.heap.size, 0, #[], rfl, Nat.le_refl _, heap_alloc_new w8 _, Nat.le_refl _, by decide, rfl, rfl⟩⟩)
        have HBA := Lib.hid ((Below.refl w8.heap.size w8).alloc (Nat.le_refl _) (.cells #[] 3))
        generalize w8 = wp at *
        go_wp2_with (fail)
        go_loopw [12, 13] (fun u jv wr => ∃ (k : Nat), k ≤ ls.length ∧ jv = .int .i64 (k : Int) ∧ Hid (ZOwn wr wp.heap.size u ((ls.take k).map (mvL f b))) ∧ Hid (Below wp.heap.size wp wr)) (fun _ jv _ => ls.length - (intOf jv).toNat)
        case atStart => exact ⟨0, Nat.zero_le _, rfl, HE0, HBA⟩
        case round =>
          obtain ⟨k, hk, rfl, hown, hbw⟩ := hrel
          by_cases hlt : k < ls.length
          · obtain ⟨zb, zo, hA, hzb, hc0⟩ := (HZ.out.below (HS.out.bel.trans (hbw.out.mono HS.out.bel.size))) (by omega)
            have hx := hc0 k hlt
            subst hA
            have hxl := HLI.out _ (List.getElem_mem hlt)
            have hxf := HLT.out _ (List.getElem_mem hlt)
            have HTK := Lib.hid (show (ls.take (k + 1)).map (mvL f b) = (ls.take k).map (mvL f b) ++ [mvL f b ls[k]] by rw [List.take_succ_eq_append_getElem hlt, List.map_append]; rfl)
            unfold isLit at hxl
            obtain ⟨m, hm⟩ : ∃ m : Nat, ls[k] = (m : Int) := ⟨ls[k].toNat, by omega⟩
            rw [hm] at hx hxl hxf HTK
            have ht : ((m : Int) / 2).toNat = m / 2 := by omega
            have hml : m / 2 < b + gs.length := by have := HBI.out; omega
            have HMX := mlK_mv (b := b) hxf
            rw [ht] at HMX
            rw [← HMX] at HTK
            obtain ⟨g0, hg0, _, hg2⟩ := zfirst HS.out.mvs (by rw [mlK_len]; omega)
            subst hg0
            have r0 := (hbw.out.cell (p := ⟨g0, m / 2, none⟩) hg2).trans (zcell HS.out.mvs (i := m / 2) (by rw [mlK_len]; exact hml)).1
            rw [mlK_at] at r0
            have hn1 := nmR_small f b (m / 2)
            have hn2 : 0 ≤ nmR f b (m / 2) ∧ nmR f b (m / 2) ≤ 1000000 := by omega
            clear hc0 hm hxl hxf ht HMX hn1
            generalize nmR f b (m / 2) = r1 at *
            have v1 : IntKind.i64.wrap (2 * r1) = 2 * r1 := IntWalk.i64_in _ (by omega)
            have v3 : IntKind.i64.wrap (2 * r1 + (m : Int) % 2) = 2 * r1 + (m : Int) % 2 := IntWalk.i64_in _ (by omega)
            go_upto_region 18 with fail
            have hlen : ((ls.take k).map (mvL f b)).length = k := by rw [List.length_map, List.length_take]; omega
            have hbb := (Below.refl wr.drew.heap.size wr.drew).alloc (Nat.le_refl _) (.cells #[.int .i64 (2 * r1 + (m : Int) % 2)] 3)
            have hd : Below wr.heap.size wr wr.drew := (Below.refl _ _).drew
            have ho := (hown.out.later hd).later hbb
            have hsz : wp.heap.size ≤ (wr.drew.alloc (.cells #[.int .i64 (2 * r1 + (m : Int) % 2)] 3)).heap.size := Nat.le_trans hbw.out.size hbb.size
            have HB1 := Lib.hid ((hbw.out.trans (hd.mono hbw.out.size)).trans (hbb.mono hbw.out.size))
            have HS0 := Lib.hid (show wr.drew.cell? ⟨zb, zo + k, none⟩ = some (.int .i64 (m : Int)) ∧ wr.drew.cell? ⟨g0, m / 2, none⟩ = some (.int .i64 r1) from ⟨hx, r0⟩)
            have HLP := Lib.hid (show zb < wp.heap.size from Nat.lt_of_lt_of_le hzb HS.out.bel.size)
            obtain ⟨X', cap', w8, hrun, hown8, hgr8⟩ := z_append (w := wr.drew.alloc (.cells #[.int .i64 (2 * r1 + (m : Int) % 2)] 3)) wp.heap.size k u12 _ ho hlen.symm (some ⟨wr.drew.heap.size, 0, none⟩) 1 1 [2 * r1 + (m : Int) % 2] rfl (ZRow.one wr.drew _) (by omega) hsz
            have hg8 := grown_below hgr8 (own_lo ho) hsz
            have HRUN := Lib.hid hrun
            have HS1 := Lib.hid (show (wr.drew.alloc (.cells #[.int .i64 (2 * r1 + (m : Int) % 2)] 3)).cell? ⟨zb, zo + k, none⟩ = some (.int .i64 (m : Int)) ∧ (wr.drew.alloc (.cells #[.int .i64 (2 * r1 + (m : Int) % 2)] 3)).cell? ⟨g0, m / 2, none⟩ = some (.int .i64 r1) from ⟨(hbb.cell (p := ⟨zb, _, none⟩) (Nat.lt_of_lt_of_le HLP.out hbw.out.size)).trans hx, (hbb.cell (p := ⟨g0, _, none⟩) (Nat.lt_of_lt_of_le hg2 hbw.out.size)).trans r0⟩)
            have HST := Lib.hid (fun (w9 : World) (h9 : Hid (w9 = w8)) => show (w9.cell? ⟨zb, zo + k, none⟩ = some (.int .i64 (m : Int)) ∧ w9.cell? ⟨g0, m / 2, none⟩ = some (.int .i64 r1)) ∧ Hid (ZOwn w9 wp.heap.size (.slice X' (k + 1) cap') ((ls.take (k + 1)).map (mvL f b))) ∧ Hid (Below wp.heap.size wp w9) from by
              obtain rfl := h9.out
              exact ⟨⟨(hg8.cell (p := ⟨zb, _, none⟩) HLP.out).trans HS1.out.1, (hg8.cell (p := ⟨g0, _, none⟩) hg2).trans HS1.out.2⟩, Lib.hid (by rw [HTK.out]; exact hown8), Lib.hid (HB1.out.trans hg8)⟩)
            clear hown8 hgr8 hbb hlen hown ho hsz hrun hg8 hx r0 hd HTK hg2
            refine wp_region_noPanic ?_
            refine wp_region_held_drew (S := fun w' => w'.cell? ⟨zb, zo + k, none⟩ = some (.int .i64 (m : Int)) ∧ w'.cell? ⟨g0, m / 2, none⟩ = some (.int .i64 r1)) (by kernel_rfl) HS0.out (fun _ => ?_)
            refine wpAnyH_take (i := 0) (oi := { dst := some 96, op := Op.move (Operand.tmp 12), type := 48, pos := "ref.go:221", after := #[], guard := none }) (v := u12) rfl (by kernel_rfl) (by kernel_rfl) (by kernel_rfl) (fun _ _ _ h => h) (Or.inl ⟨by rfl, ?_⟩) HS0.out ?_
            · (intro w' hSw; go_simp)
            simp only [Act.put, List.setIfInBounds_toArray, List.set_cons_zero, List.set_cons_succ]
            refine wpAnyH_take (i := 1) (oi := { dst := some 97, op := Op.move (Operand.tmp 9), type := 48, pos := "ref.go:221", after := #[], guard := none }) (v := .slice (some ⟨g0, 0, none⟩) (b + gs.length) cm) rfl (by kernel_rfl) (by kernel_rfl) (by kernel_rfl) (fun _ _ _ h => h) (Or.inl ⟨by rfl, ?_⟩) HS0.out ?_
            · (intro w' hSw; go_simp)
            simp only [Act.put, List.setIfInBounds_toArray, List.set_cons_zero, List.set_cons_succ]
            refine wpAnyH_take (i := 2) (oi := { dst := some 98, op := Op.move (Operand.tmp 1), type := 48, pos := "ref.go:221", after := #[], guard := none }) (v := .slice (some ⟨zb, zo, none⟩) ls.length cl) rfl (by kernel_rfl) (by kernel_rfl) (by kernel_rfl) (fun _ _ _ h => h) (Or.inl ⟨by rfl, ?_⟩) HS0.out ?_
            · (intro w' hSw; go_simp)
            simp only [Act.put, List.setIfInBounds_toArray, List.set_cons_zero, List.set_cons_succ]
            refine wpAnyH_take (i := 3) (oi := { dst := some 99, op := Op.move (Operand.tmp 13), type := 3, pos := "ref.go:221", after := #[], guard := none }) (v := .int .i64 (k : Int)) rfl (by kernel_rfl) (by kernel_rfl) (by kernel_rfl) (fun _ _ _ h => h) (Or.inl ⟨by rfl, ?_⟩) HS0.out ?_
            · (intro w' hSw; go_simp)
            simp only [Act.put, List.setIfInBounds_toArray, List.set_cons_zero, List.set_cons_succ]
            refine wpAnyH_take (i := 4) (oi := { dst := some 100, op := Op.indexAddr 48 (Operand.tmp 98) (Operand.tmp 99), type := 0, pos := "ref.go:221", after := #[{ on := 2, ground := Ground.data }, { on := 3, ground := Ground.data }], guard := none }) (v := .pointer (some ⟨zb, zo + k, none⟩)) rfl (by kernel_rfl) (by kernel_rfl) (by kernel_rfl) (fun _ _ _ h => h) (Or.inl ⟨by rfl, ?_⟩) HS0.out ?_
            · (intro w' hSw; go_simp)
            simp only [Act.put, List.setIfInBounds_toArray, List.set_cons_zero, List.set_cons_succ]
            refine wpAnyH_take (i := 5) (oi := { dst := some 101, op := Op.load 3 (Operand.tmp 100), type := 3, pos := "ref.go:221", after := #[{ on := 4, ground := Ground.data }], guard := none }) (v := .int .i64 (m : Int)) rfl (by kernel_rfl) (by kernel_rfl) (by kernel_rfl) (fun _ _ _ h => h) (Or.inl ⟨by rfl, ?_⟩) HS0.out ?_
            · (intro w' hSw; obtain ⟨z0, z1⟩ := hSw; go_simp)
            simp only [Act.put, List.setIfInBounds_toArray, List.set_cons_zero, List.set_cons_succ]
            refine wpAnyH_take (i := 6) (oi := { dst := some 102, op := Op.binOp BinOp.quo 3 (Operand.tmp 101) (Operand.const (Value.int IntKind.i64 2)) 3, type := 3, pos := "ref.go:221", after := #[{ on := 5, ground := Ground.data }], guard := none }) (v := .int .i64 ((m : Int) / 2)) rfl (by kernel_rfl) (by kernel_rfl) (by kernel_rfl) (fun _ _ _ h => h) (Or.inl ⟨by rfl, ?_⟩) HS0.out ?_
            · (intro w' hSw; have hq6 : IntKind.i64.wrap ((m : Int) / 2) = (m : Int) / 2 := IntWalk.i64_in _ (by omega); go_simp)
            simp only [Act.put, List.setIfInBounds_toArray, List.set_cons_zero, List.set_cons_succ]
            refine wpAnyH_take (i := 7) (oi := { dst := some 103, op := Op.indexAddr 48 (Operand.tmp 97) (Operand.tmp 102), type := 0, pos := "ref.go:221", after := #[{ on := 1, ground := Ground.data }, { on := 6, ground := Ground.data }], guard := none }) (v := .pointer (some ⟨g0, m / 2, none⟩)) rfl (by kernel_rfl) (by kernel_rfl) (by kernel_rfl) (fun _ _ _ h => h) (Or.inl ⟨by rfl, ?_⟩) HS0.out ?_
            · (intro w' hSw; have hq8 : ((m : Int) / 2).toNat = m / 2 := (by omega); have hq7 : 0 ≤ (m : Int) / 2 ∧ (m : Int) / 2 < (b : Int) + (gs.length : Int) := (by omega); go_simp)
            simp only [Act.put, List.setIfInBounds_toArray, List.set_cons_zero, List.set_cons_succ]
            refine wpAnyH_take (i := 8) (oi := { dst := some 104, op := Op.load 3 (Operand.tmp 103), type := 3, pos := "ref.go:221", after := #[{ on := 7, ground := Ground.data }], guard := none }) (v := .int .i64 r1) rfl (by kernel_rfl) (by kernel_rfl) (by kernel_rfl) (fun _ _ _ h => h) (Or.inl ⟨by rfl, ?_⟩) HS0.out ?_
            · (intro w' hSw; obtain ⟨z0, z1⟩ := hSw; go_simp)
            simp only [Act.put, List.setIfInBounds_toArray, List.set_cons_zero, List.set_cons_succ]
            refine wpAnyH_take (i := 9) (oi := { dst := some 105, op := Op.binOp BinOp.mul 3 (Operand.const (Value.int IntKind.i64 2)) (Operand.tmp 104) 3, type := 3, pos := "ref.go:221", after := #[{ on := 8, ground := Ground.data }], guard := none }) (v := .int .i64 (2 * r1)) rfl (by kernel_rfl) (by kernel_rfl) (by kernel_rfl) (fun _ _ _ h => h) (Or.inl ⟨by rfl, ?_⟩) HS0.out ?_
            · (intro w' hSw; go_simp)
            simp only [Act.put, List.setIfInBounds_toArray, List.set_cons_zero, List.set_cons_succ]
            refine wpAnyH_take (i := 10) (oi := { dst := some 106, op := Op.move (Operand.tmp 1), type := 48, pos := "ref.go:221", after := #[], guard := none }) (v := .slice (some ⟨zb, zo, none⟩) ls.length cl) rfl (by kernel_rfl) (by kernel_rfl) (by kernel_rfl) (fun _ _ _ h => h) (Or.inl ⟨by rfl, ?_⟩) HS0.out ?_
            · (intro w' hSw; go_simp)
            simp only [Act.put, List.setIfInBounds_toArray, List.set_cons_zero, List.set_cons_succ]
            refine wpAnyH_take (i := 11) (oi := { dst := some 107, op := Op.move (Operand.tmp 13), type := 3, pos := "ref.go:221", after := #[], guard := none }) (v := .int .i64 (k : Int)) rfl (by kernel_rfl) (by kernel_rfl) (by kernel_rfl) (fun _ _ _ h => h) (Or.inl ⟨by rfl, ?_⟩) HS0.out ?_
            · (intro w' hSw; go_simp)
            simp only [Act.put, List.setIfInBounds_toArray, List.set_cons_zero, List.set_cons_succ]
            refine wpAnyH_take (i := 12) (oi := { dst := some 108, op := Op.indexAddr 48 (Operand.tmp 106) (Operand.tmp 107), type := 0, pos := "ref.go:221", after := #[{ on := 10, ground := Ground.data }, { on := 11, ground := Ground.data }], guard := none }) (v := .pointer (some ⟨zb, zo + k, none⟩)) rfl (by kernel_rfl) (by kernel_rfl) (by kernel_rfl) (fun _ _ _ h => h) (Or.inl ⟨by rfl, ?_⟩) HS0.out ?_
            · (intro w' hSw; go_simp)
            simp only [Act.put, List.setIfInBounds_toArray, List.set_cons_zero, List.set_cons_succ]
            refine wpAnyH_take (i := 13) (oi := { dst := some 109, op := Op.load 3 (Operand.tmp 108), type := 3, pos := "ref.go:221", after := #[{ on := 12, ground := Ground.data }], guard := none }) (v := .int .i64 (m : Int)) rfl (by kernel_rfl) (by kernel_rfl) (by kernel_rfl) (fun _ _ _ h => h) (Or.inl ⟨by rfl, ?_⟩) HS0.out ?_
            · (intro w' hSw; obtain ⟨z0, z1⟩ := hSw; go_simp)
            simp only [Act.put, List.setIfInBounds_toArray, List.set_cons_zero, List.set_cons_succ]
            refine wpAnyH_take (i := 14) (oi := { dst := some 110, op := Op.binOp BinOp.rem 3 (Operand.tmp 109) (Operand.const (Value.int IntKind.i64 2)) 3, type := 3, pos := "ref.go:221", after := #[{ on := 13, ground := Ground.data }], guard := none }) (v := .int .i64 ((m : Int) % 2)) rfl (by kernel_rfl) (by kernel_rfl) (by kernel_rfl) (fun _ _ _ h => h) (Or.inl ⟨by rfl, ?_⟩) HS0.out ?_
            · (intro w' hSw; have hq9 : (m : Int).tmod 2 = (m : Int) % 2 := Int.tmod_eq_emod_of_nonneg (by omega); go_simp)
            simp only [Act.put, List.setIfInBounds_toArray, List.set_cons_zero, List.set_cons_succ]
            refine wpAnyH_take (i := 15) (oi := { dst := some 111, op := Op.binOp BinOp.add 3 (Operand.tmp 105) (Operand.tmp 110) 3, type := 3, pos := "ref.go:221", after := #[{ on := 9, ground := Ground.data }, { on := 14, ground := Ground.data }], guard := none }) (v := .int .i64 (2 * r1 + (m : Int) % 2)) rfl (by kernel_rfl) (by kernel_rfl) (by kernel_rfl) (fun _ _ _ h => h) (Or.inl ⟨by rfl, ?_⟩) HS0.out ?_
            · (intro w' hSw; go_simp)
            simp only [Act.put, List.setIfInBounds_toArray, List.set_cons_zero, List.set_cons_succ]
            refine wpAnyH_ready (rs := [16]) (by kernel_rfl) (by simp) (AllReadyH.cons (o := { dst := some 112, op := Op.buildSlice 48 1 #[(0, Operand.tmp 111)], type := 48, pos := "ref.go:221", after := #[{ on := 15, ground := Ground.data }], guard := none }) rfl (fun K hK => ?_) AllReadyH.nil)
            go_simp
            refine hK.out _ _ HS1.out (fun _ => ?_)
            clear hK K
            try simp only [Act.put, List.setIfInBounds_toArray, List.set_cons_zero, List.set_cons_succ]
            refine wpAnyH_ready (rs := [17]) (by kernel_rfl) (by simp) (AllReadyH.cons (o := { dst := some 113, op := Op.call { callee := Callee.builtin Builtin.append, args := #[Operand.tmp 96, Operand.tmp 112], argTypes := #[48, 48] }, type := 48, pos := "ref.go:221", after := #[{ on := 0, ground := Ground.data }, { on := 16, ground := Ground.data }], guard := none }) rfl (fun K hK => ?_) AllReadyH.nil)
            refine step_app_by (by rfl) _ _ 48 48 (by rfl) _ _ (by rfl) (by rfl) _ _ HRUN.out ?_
            intro w9 hw9
            have HW9 := Lib.hid (HST.out w9 hw9)
            clear hw9
            refine hK.out _ _ HW9.out.1 (fun _ => ?_)
            clear hK K
            try simp only [Act.put, List.setIfInBounds_toArray, List.set_cons_zero, List.set_cons_succ]
            refine wpAnyH_take (i := 18) (oi := { dst := some 12, op := Op.assign (Operand.tmp 113), type := 48, pos := "ref.go:221", after := #[{ on := 17, ground := Ground.data }, { on := 17, ground := Ground.chain }, { on := 0, ground := Ground.phase }, { on := 1, ground := Ground.phase }, { on := 2, ground := Ground.phase }, { on := 3, ground := Ground.phase }, { on := 4, ground := Ground.phase }, { on := 5, ground := Ground.phase }, { on := 6, ground := Ground.phase }, { on := 7, ground := Ground.phase }, { on := 8, ground := Ground.phase }, { on := 9, ground := Ground.phase }, { on := 10, ground := Ground.phase }, { on := 11, ground := Ground.phase }, { on := 12, ground := Ground.phase }, { on := 13, ground := Ground.phase }, { on := 14, ground := Ground.phase }, { on := 15, ground := Ground.phase }, { on := 16, ground := Ground.phase }, { on := 17, ground := Ground.phase }], guard := none }) (v := .slice X' (k + 1) cap') rfl (by kernel_rfl) (by kernel_rfl) (by kernel_rfl) (fun _ _ _ h => h) (Or.inl ⟨by rfl, ?_⟩) HW9.out.1 ?_
            · (intro w' hSw; go_simp)
            simp only [Act.put, List.setIfInBounds_toArray, List.set_cons_zero, List.set_cons_succ]
            refine wpAnyH_done (by kernel_rfl) ?_ _
            refine NoPanic.normal ?_
            have HO9 := HW9.out.2.1
            have HB9 := HW9.out.2.2
            clear HW9
            go_wp2_with (fail)
            first | exact ⟨⟨k + 1, by omega, by go_num, HO9, HB9⟩, by simp [intOf]; omega⟩ | exact ⟨⟨k + 1, by omega, by go_num, HO9⟩, by simp [intOf]; omega⟩ | exact ⟨⟨.slice X' (k + 1) cap', .int .i64 ((k : Int) + 1), ⟨k + 1, by omega, by go_num, by first | exact HO9 | (rw [← List.map_take]; exact HO9)⟩, rfl, rfl⟩, by simp [intOf]; omega⟩
          · obtain rfl : k = ls.length := by omega
            have hev := HS.out.later hbw.out
            rw [List.take_length] at hown
            obtain ⟨X2, cap2, hu, _, _⟩ := hown.out.form
            rw [List.length_map] at hu
            subst hu
            obtain ⟨y0, y1⟩ := hev.rs.cells
            obtain ⟨k0, k1, _⟩ := hev.ccells
            have f0 : wr.frozen? ⟨rb, 0, none⟩ = false := hfrz hev.rs 0
            have f1 : wr.frozen? ⟨rb, 1, none⟩ = false := hfrz hev.rs 1
            have HCE := Lib.hid (cir_cells hev.rs (.int .i64 I) (.slice X (cnG f b gs gs.length).length cap))
            have HFB := Lib.hid (cir_below hev.bel HRL.out (.int .i64 I) (.slice X (cnG f b gs gs.length).length cap))
            have HGO := Lib.hid (cir_own hev.rs hev.own (.int .i64 I) (.slice X (cnG f b gs gs.length).length cap))
            have HZO := Lib.hid (cir_zown hev.rs hown.out (.int .i64 I) (.slice X (cnG f b gs gs.length).length cap))
            clear hev hown
            go_wp2_with (fail)
            clear y0 y1 f0 f1
            obtain ⟨v0, v1⟩ := HCE.out
            generalize (wr.setCell ⟨rb, 0, none⟩ (.int .i64 I)).setCell ⟨rb, 1, none⟩ (.slice X (cnG f b gs gs.length).length cap) = w5 at *
            obtain ⟨A9, c9, hX9, _, hrow9, _⟩ := HGO.out.form
            injection hX9 with hX9 _ _
            subst hX9
            have hz9 := HZO.out.row.2.2
            exact bodyPost_ret (v := .tuple #[.agg #[.int .i64 I, .slice X (cnG f b gs gs.length).length cap], .slice X2 ls.length cap2, .int .i64 0]) (by simp [results, Try.results27, go_sem, v0, v1]) rfl ⟨X, cap, X2, cap2, rfl, hrow9, hz9, HFB.out⟩
end Go.Proofs.Ytaccienlokoolaa
