/- What is proved: the reference's Eval. -/
import Derived.Test.YtaccienlokoolaaGaEv2
set_option linter.unusedVariables false
namespace Go.Proofs.Ytaccienlokoolaa
open Go.RowKit Go.Maps

theorem litV_nat {ns : List Bool} {m : Nat} {q : Bool} (hl : m / 2 < ns.length) (hq : ns[m / 2] = q) : litV ns (m : Int) = (!(q == ((m : Int) % 2 == 1))) := by
  have h := litV_at (ns := ns) (x := (m : Int)) (k := m / 2) (by omega) hl
  rw [h, hq]
  rfl
set_option maxRecDepth 100000 in
set_option maxHeartbeats 8000000 in
theorem r_eval_any (I : Int) (A : Option Addr) (c : Nat) (gs : List Gt) (AI : Option Addr) (ci : Nat) (inp : List Bool) (AL : Option Addr) (cl : Nat) (ls : List Int) (w : World) (hr : GRow w A gs) (hok : ∀ x ∈ gs, GtOk x) (hn : gs.length ≤ 5000) (hi : BRow w AI inp) (hil : inp.length ≤ 9223372036854775807) (hz : ZRow w.heap.size w AL ls) (hl : ls.length ≤ 1000000) :
    Calls Try.prog 22 #[.agg #[.int .i64 I, .slice A gs.length c], .slice AI inp.length ci, .slice AL ls.length cl] w fun e w' => ∃ A' c', e = .returned (.tuple #[.slice A' (evL I gs inp ls).length c', .int .i64 (evE I gs inp ls)]) ∧ BRow w' A' (evL I gs inp ls) ∧ Below w.heap.size w w' := by
  have HB1 := Lib.hid ((Below.refl w.heap.size w).alloc (Nat.le_refl _) (.cells #[.int .i64 I, .slice A gs.length c] 30))
  have HBX := Lib.hid (CBx.new w I A gs.length c)
  have HF := Lib.hid (r_all_any I A c gs AL cl ls _ (hr.later HB1.out) hok hn (hz.later HB1.out) hl)
  have HZ := Lib.hid hz
  have HR := Lib.hid hr
  have HI := Lib.hid hi
  have HOK := Lib.hid hok
  clear hz hr hok hi
  cases hv : fitB I gs ls with
  | false =>
    rw [hv] at HF
    obtain ⟨e1, e2⟩ := ev_no (I := I) (gs := gs) (inp := inp) (ls := ls) (by rw [hv]; simp)
    rw [e1, e2]
    clear hv e1 e2
    go_enter Try.func22, Try.ntmps22
    go_upto_region 1 with fail
    generalize w.alloc (.cells #[.int .i64 I, .slice A gs.length c] 30) = w1 at *
    obtain ⟨b0, b1⟩ := HBX.out.cells
    go_wp2_with (fail)
    refine HF.out.mono ?_
    rintro e w2 ⟨rfl, hb2⟩
    go_wp2_with (fail)
    go_ret2
    exact ⟨none, 0, rfl, BRow.nil _ _, HB1.out.trans (hb2.mono HB1.out.size)⟩
  | true =>
    rw [hv] at HF
    by_cases hlen : (inp.length : Int) = I
    · obtain ⟨e1, e2⟩ := ev_yes hv hlen
      rw [e1, e2]
      obtain ⟨⟨hck, hbig⟩, hlits⟩ := fit_iff.1 hv
      have HCK := Lib.hid hck
      have HLI := Lib.hid hlits
      have HEQ := Lib.hid hlen
      have hi24 := hck.hi
      have hi25 : inp.length ≤ 1024 := by omega
      have q0 : ((inp.length : Int) == I) = true := by simpa using hlen
      have q1 : ((inp.length : Int) != I) = false := by simpa using hlen
      clear hv e1 e2 hck hlits hlen hbig
      rw [List.length_map]
      go_enter Try.func22, Try.ntmps22
      go_upto_region 1 with fail
      generalize hgw : w.alloc (.cells #[.int .i64 I, .slice A gs.length c] 30) = w1 at *
      clear hgw
      obtain ⟨b0, b1⟩ := HBX.out.cells
      go_wp2_with (fail)
      refine HF.out.mono ?_
      rintro e w2 ⟨rfl, hb2⟩
      have HB2 := Lib.hid (HB1.out.trans (hb2.mono HB1.out.size))
      have HX2 := Lib.hid (HBX.out.later hb2)
      clear hb2 b0 b1 HBX HB1 HF
      obtain ⟨b0, b1⟩ := HX2.out.cells
      go_upto_region 4 with fail
      have hba := (Below.refl w2.heap.size w2).alloc (Nat.le_refl _) (.cells #[.bool false] 4)
      have HO0 : Hid (BOwn (w2.alloc (.cells #[.bool false] 4)) w2.heap.size (.slice (some ⟨w2.heap.size, 0, none⟩) 1 1) (false :: inp.take 0)) := Lib.hid ⟨rfl, .inr ⟨w2.heap.size, 1, #[.bool false], rfl, Nat.le_refl _, heap_alloc_new w2 _, Nat.le_refl _, by decide, rfl, rfl⟩⟩
      have HBA := Lib.hid hba
      clear hba b0 b1
      generalize w2.alloc (.cells #[.bool false] 4) = w3 at *
      go_wp2_with (fail)
      go_loopw [8, 9] (fun u jv wr => ∃ (k : Nat), k ≤ inp.length ∧ jv = .int .i64 (k : Int) ∧ Hid (BOwn wr w2.heap.size u (false :: inp.take k)) ∧ Hid (Below w2.heap.size w2 wr)) (fun _ jv _ => inp.length - (intOf jv).toNat)
      case atStart => exact ⟨0, Nat.zero_le _, rfl, HO0, HBA⟩
      case round =>
        obtain ⟨k, hk, rfl, hown, hbw⟩ := hrel
        by_cases hlt : k < inp.length
        · obtain ⟨b, off, hA, hb, hc0⟩ := (HI.out.later (HB2.out.trans (hbw.out.mono HB2.out.size))) (by omega)
          have hx := hc0 k hlt
          subst hA
          have HTK := Lib.hid (show false :: inp.take (k + 1) = (false :: inp.take k) ++ [inp[k]] by rw [List.take_succ_eq_append_getElem hlt]; rfl)
          obtain ⟨x, HX⟩ : ∃ x, Hid (inp[k] = x) := ⟨_, Lib.hid rfl⟩
          rw [HX.out] at hx HTK
          have hba := (Below.refl wr.heap.size wr).alloc (Nat.le_refl _) (.cells #[.bool x] 4)
          have hlen : (false :: inp.take k).length = k + 1 := by rw [List.length_cons, List.length_take]; omega
          have ho := hown.out.later hba
          have hsz := Nat.le_trans hbw.out.size hba.size
          obtain ⟨X', cap', w8, hrun, hown8, hgr8⟩ := b_append (w := wr.alloc (.cells #[.bool x] 4)) w2.heap.size (k + 1) u8 _ ho hlen.symm (some ⟨wr.heap.size, 0, none⟩) 1 1 [x] rfl (BRow.one wr x) (by omega) hsz
          have HO8 := Lib.hid (show BOwn w8 w2.heap.size (.slice X' (k + 1 + 1) cap') (false :: inp.take (k + 1)) by rw [HTK.out]; exact hown8)
          have HB8 := Lib.hid ((hbw.out.trans (hba.mono hbw.out.size)).trans (grown_below hgr8 (own_lo ho) hsz))
          clear hown8 hgr8 hba hlen hown hc0 HTK ho hsz
          go_wp2_with (at_builtin; refine app_by rfl _ _ 47 47 rfl _ _ rfl rfl _ _ hrun ?_; intro w9 hw9; obtain rfl := hw9.out)
          first | exact ⟨⟨k + 1, by omega, by go_num, HO8, HB8⟩, by simp [intOf]; omega⟩ | exact ⟨⟨k + 1, by omega, by go_num, HO8⟩, by simp [intOf]; omega⟩
        · obtain rfl : k = inp.length := by omega
          rw [List.take_length] at hown
          have HOWN := Lib.hid (show BOwn wr w2.heap.size u8 (nv inp (gs.take 0)) from hown.out)
          have HBW := hbw
          go_wp2_with (fail)
          clear hown hbw
          go_loopw [8, 10] (fun u jv wr => ∃ (k : Nat), k ≤ gs.length ∧ jv = .int .i64 (k : Int) ∧ Hid (BOwn wr w2.heap.size u (nv inp (gs.take k))) ∧ Hid (Below w2.heap.size w2 wr)) (fun _ jv _ => gs.length - (intOf jv).toNat)
          case atStart => exact ⟨0, Nat.zero_le _, rfl, HOWN, HBW⟩
          case round =>
            obtain ⟨k, hk, rfl, hown, hbw⟩ := hrel
            have HBQ := Lib.hid (HB2.out.trans (hbw.out.mono HB2.out.size))
            obtain ⟨b0, b1⟩ := (HX2.out.later hbw.out).cells
            by_cases hlt : k < gs.length
            · obtain ⟨b, off, hA, hb, hc0⟩ := (HR.out.later HBQ.out).at hlt
              have hcg := HCK.out.ok k hlt
              have hnl := nv_len inp (gs.take k)
              rw [List.length_take] at hnl
              have heq := HEQ.out
              have HTK := Lib.hid (show gs.take (k + 1) = gs.take k ++ [gs[k]] from List.take_succ_eq_append_getElem hlt)
              subst hA
              obtain ⟨g, HG⟩ : ∃ g, Hid (gs[k] = g) := ⟨_, Lib.hid rfl⟩
              rw [HG.out] at hc0 hcg HTK
              obtain ⟨d0, d1⟩ := hc0
              have hns : (nv inp (gs.take k)).length ≤ 1000000 := by omega
              have HNS := Lib.hid (show nv inp (gs.take (k + 1)) = nv inp (gs.take k) ++ [litV (nv inp (gs.take k)) g.x && litV (nv inp (gs.take k)) g.y] by rw [HTK.out, nv_snoc])
              obtain ⟨mx, hmx⟩ : ∃ m : Nat, g.x = (m : Int) := ⟨g.x.toNat, by omega⟩
              obtain ⟨my, hmy⟩ : ∃ m : Nat, g.y = (m : Int) := ⟨g.y.toNat, by omega⟩
              have hlx : mx / 2 < (nv inp (gs.take k)).length := by omega
              have hly : my / 2 < (nv inp (gs.take k)).length := by omega
              rw [hmx] at d0 HNS
              rw [hmy] at d1 HNS
              clear hcg hnl heq hmx hmy
              generalize nv inp (gs.take k) = ns at *
              go_upto_region 11 with fail
              go_quiet (fail)
              have hdr := drewN_below wr nq
              have HO5 := Lib.hid (hown.out.later hdr)
              have HB5 := Lib.hid (hbw.out.trans (hdr.mono hbw.out.size))
              clear hdr d0 d1 b0 b1 hown hbw
              generalize hgw : wr.drewN nq = w5 at *
              clear hgw
              have HAP := Lib.hid (fun (b : Bool) => show ∃ X' cap' w8, (Builtin.append_ #[47, 47] 47 #[u8, .slice (some ⟨w5.heap.size, 0, none⟩) 1 1]).run Try.prog (w5.alloc (.cells #[.bool b] 4)) = .ok (.slice X' (ns.length + 1) cap') w8 ∧ BOwn w8 w2.heap.size (.slice X' (ns.length + 1) cap') (ns ++ [b]) ∧ Below w2.heap.size w2 w8 from by
                have hbb := (Below.refl w5.heap.size w5).alloc (Nat.le_refl _) (.cells #[.bool b] 4)
                have ho := HO5.out.later hbb
                have hsz := Nat.le_trans HB5.out.size hbb.size
                obtain ⟨X', cap', w8, g1, g2, g3⟩ := b_append (w := w5.alloc (.cells #[.bool b] 4)) w2.heap.size ns.length u8 ns ho rfl (some ⟨w5.heap.size, 0, none⟩) 1 1 [b] rfl (BRow.one w5 b) (by omega) hsz
                exact ⟨X', cap', w8, g1, g2, (HB5.out.trans (hbb.mono HB5.out.size)).trans (grown_below g3 (own_lo ho) hsz)⟩)
              obtain ⟨A8, c8, rfl, hlc, hrow⟩ := HO5.out.form
              obtain ⟨vb, vo, rfl, _, hcc⟩ := hrow (by omega)
              have r0 := hcc _ hlx
              have r1 := hcc _ hly
              obtain ⟨qx, HQX⟩ : ∃ q, Hid (ns[mx / 2] = q) := ⟨_, Lib.hid rfl⟩
              obtain ⟨qy, HQY⟩ : ∃ q, Hid (ns[my / 2] = q) := ⟨_, Lib.hid rfl⟩
              rw [HQX.out] at r0
              rw [HQY.out] at r1
              have HVX := Lib.hid (litV_nat hlx HQX.out)
              have HVY := Lib.hid (litV_nat hly HQY.out)
              clear hcc hrow hlc
              cases hb1 : (!(qx == ((mx : Int) % 2 == 1))) with
              | false =>
                have HNV := Lib.hid (show nv inp (gs.take (k + 1)) = ns ++ [false] by rw [HNS.out, HVX.out, hb1, Bool.false_and])
                obtain ⟨X', cap', w8, hrun, ho8, hb8⟩ := HAP.out false
                have HO8 := Lib.hid ho8
                have HB8 := Lib.hid hb8
                rw [← HNV.out] at HO8
                clear HAP ho8 hb8 r1 hly HVX HVY HQX HQY HNS
                go_wp2_with (at_builtin; refine app_by rfl _ _ 47 47 rfl _ _ rfl rfl _ _ hrun ?_; intro w9 hw9; obtain rfl := hw9.out)
                first | exact ⟨⟨k + 1, by omega, by go_num, HO8, HB8⟩, by simp [intOf]; omega⟩ | exact ⟨⟨k + 1, by omega, by go_num, HO8⟩, by simp [intOf]; omega⟩
              | true =>
                have HNV := Lib.hid (show nv inp (gs.take (k + 1)) = ns ++ [(!(qy == ((my : Int) % 2 == 1)))] by rw [HNS.out, HVX.out, hb1, Bool.true_and, HVY.out])
                obtain ⟨X', cap', w8, hrun, ho8, hb8⟩ := HAP.out (!(qy == ((my : Int) % 2 == 1)))
                have HO8 := Lib.hid ho8
                have HB8 := Lib.hid hb8
                rw [← HNV.out] at HO8
                clear HAP ho8 hb8 HVX HVY HQX HQY HNS
                go_wp2_with (at_builtin; refine app_by rfl _ _ 47 47 rfl _ _ rfl rfl _ _ hrun ?_; intro w9 hw9; obtain rfl := hw9.out)
                first | exact ⟨⟨k + 1, by omega, by go_num, HO8, HB8⟩, by simp [intOf]; omega⟩ | exact ⟨⟨k + 1, by omega, by go_num, HO8⟩, by simp [intOf]; omega⟩
            · obtain rfl : k = gs.length := by omega
              rw [List.take_length] at hown
              generalize hnvx : nv inp gs = ns at *
              have HNX := Lib.hid hnvx
              have HNS := Lib.hid (show ns.length ≤ 1000000 ∧ ∀ x ∈ ls, 0 ≤ x ∧ (x / 2).toNat < ns.length from by
                have h1 := nv_len inp gs
                have h2 := HEQ.out
                rw [hnvx] at h1
                refine ⟨by omega, fun x hx => ?_⟩
                have h3 := HLI.out x hx
                unfold isLit at h3
                omega)
              clear hnvx
              go_upto_region 14 with fail
              have HE0 := Lib.hid (show BOwn (wr.alloc (.cells #[] 4)) wr.heap.size (.slice (some ⟨wr.heap.size, 0, none⟩) 0 0) ((ls.take 0).map (litV ns)) from ⟨rfl, .inr ⟨wr.heap.size, 0, #[], rfl, Nat.le_refl _, heap_alloc_new wr _, Nat.le_refl _, by decide, rfl, rfl⟩⟩)
              have HBA := Lib.hid ((Below.refl wr.heap.size wr).alloc (Nat.le_refl _) (.cells #[] 4))
              have HOW := hown
              have HBP := HBQ
              clear hown hbw b0 b1 HBQ
              obtain ⟨A8, c8, rfl, _, HROW⟩ := HOW.out.form
              generalize wr.alloc (.cells #[] 4) = wz at *
              generalize wr = wp at *
              go_wp2_with (fail)
              go_loopw [13, 14] (fun u jv wr => ∃ (k : Nat), k ≤ ls.length ∧ jv = .int .i64 (k : Int) ∧ Hid (BOwn wr wp.heap.size u ((ls.take k).map (litV ns))) ∧ Hid (Below wp.heap.size wp wr)) (fun _ jv _ => ls.length - (intOf jv).toNat)
              case atStart => exact ⟨0, Nat.zero_le _, rfl, HE0, HBA⟩
              case round =>
                obtain ⟨k, hk, rfl, hown, hbw⟩ := hrel
                by_cases hlt : k < ls.length
                · obtain ⟨lb, lo, hA, hb, hc0⟩ := (HZ.out.below (HBP.out.trans (hbw.out.mono HBP.out.size))) (by omega)
                  have hx := hc0 k hlt
                  subst hA
                  have hxl := HNS.out.2 _ (List.getElem_mem hlt)
                  have HTK := Lib.hid (show (ls.take (k + 1)).map (litV ns) = (ls.take k).map (litV ns) ++ [litV ns ls[k]] by rw [List.take_succ_eq_append_getElem hlt, List.map_append]; rfl)
                  obtain ⟨m, hm⟩ : ∃ m : Nat, ls[k] = (m : Int) := ⟨ls[k].toNat, by omega⟩
                  rw [hm] at hx hxl HTK
                  have hml : m / 2 < ns.length := by omega
                  obtain ⟨vb, vo, rfl, hvb, hcc⟩ := HROW (by omega)
                  have r0 := (hbw.out.cell (p := ⟨vb, vo + m / 2, none⟩) hvb).trans (hcc _ hml)
                  obtain ⟨q, HQ⟩ : ∃ q, Hid (ns[m / 2] = q) := ⟨_, Lib.hid rfl⟩
                  rw [HQ.out] at r0
                  have hn8 := HNS.out.1
                  have HTL := Lib.hid (show (ls.take (k + 1)).map (litV ns) = (ls.take k).map (litV ns) ++ [(!(q == ((m : Int) % 2 == 1)))] by rw [HTK.out, litV_nat hml HQ.out])
                  clear hc0 hcc hm hxl HTK HQ
                  go_upto_region 17 with fail
                  have hlen : ((ls.take k).map (litV ns)).length = k := by rw [List.length_map, List.length_take]; omega
                  have hbb := (Below.refl wr.drew.heap.size wr.drew).alloc (Nat.le_refl _) (.cells #[.bool (!(q == ((m : Int) % 2 == 1)))] 4)
                  have hd : Below wr.heap.size wr wr.drew := (Below.refl _ _).drew
                  have ho := (hown.out.later hd).later hbb
                  have hsz : wp.heap.size ≤ (wr.drew.alloc (.cells #[.bool (!(q == ((m : Int) % 2 == 1)))] 4)).heap.size := Nat.le_trans hbw.out.size hbb.size
                  have HB1 := Lib.hid ((hbw.out.trans (hd.mono hbw.out.size)).trans (hbb.mono hbw.out.size))
                  have HS0 := Lib.hid (show wr.drew.cell? ⟨lb, lo + k, none⟩ = some (.int .i64 (m : Int)) ∧ wr.drew.cell? ⟨vb, vo + m / 2, none⟩ = some (.bool q) from ⟨hx, r0⟩)
                  have HLV := Lib.hid (show lb < w.heap.size from hb)
                  obtain ⟨X', cap', w8, hrun, hown8, hgr8⟩ := b_append (w := wr.drew.alloc (.cells #[.bool (!(q == ((m : Int) % 2 == 1)))] 4)) wp.heap.size k u13 _ ho hlen.symm (some ⟨wr.drew.heap.size, 0, none⟩) 1 1 [(!(q == ((m : Int) % 2 == 1)))] rfl (BRow.one wr.drew _) (by omega) hsz
                  have hg8 := grown_below hgr8 (own_lo ho) hsz
                  have HRUN := Lib.hid hrun
                  have HLP := Lib.hid (show lb < wp.heap.size from Nat.lt_of_lt_of_le hb HBP.out.size)
                  have HS1 := Lib.hid (show (wr.drew.alloc (.cells #[.bool (!(q == ((m : Int) % 2 == 1)))] 4)).cell? ⟨lb, lo + k, none⟩ = some (.int .i64 (m : Int)) ∧ (wr.drew.alloc (.cells #[.bool (!(q == ((m : Int) % 2 == 1)))] 4)).cell? ⟨vb, vo + m / 2, none⟩ = some (.bool q) from ⟨(hbb.cell (p := ⟨lb, _, none⟩) (Nat.lt_of_lt_of_le HLP.out hbw.out.size)).trans hx, (hbb.cell (p := ⟨vb, _, none⟩) (Nat.lt_of_lt_of_le hvb hbw.out.size)).trans r0⟩)
                  have HST := Lib.hid (fun (w9 : World) (h9 : Hid (w9 = w8)) => show (w9.cell? ⟨lb, lo + k, none⟩ = some (.int .i64 (m : Int)) ∧ w9.cell? ⟨vb, vo + m / 2, none⟩ = some (.bool q)) ∧ Hid (BOwn w9 wp.heap.size (.slice X' (k + 1) cap') ((ls.take (k + 1)).map (litV ns))) ∧ Hid (Below wp.heap.size wp w9) from by
                    obtain rfl := h9.out
                    exact ⟨⟨(hg8.cell (p := ⟨lb, _, none⟩) HLP.out).trans HS1.out.1, (hg8.cell (p := ⟨vb, _, none⟩) hvb).trans HS1.out.2⟩, Lib.hid (by rw [HTL.out]; exact hown8), Lib.hid (HB1.out.trans hg8)⟩)
                  clear hown8 hgr8 hbb hlen hown ho hsz hrun hg8 hx r0 hd HTL
                  refine wp_region_noPanic ?_
                  refine wp_region_held_drew (S := fun w' => w'.cell? ⟨lb, lo + k, none⟩ = some (.int .i64 (m : Int)) ∧ w'.cell? ⟨vb, vo + m / 2, none⟩ = some (.bool q)) (by kernel_rfl) HS0.out (fun _ => ?_)
                  refine wpAnyH_take (i := 0) (oi := { dst := some 89, op := Op.move (Operand.tmp 13), type := 47, pos := "ref.go:167", after := #[], guard := none }) (v := u13) rfl (by kernel_rfl) (by kernel_rfl) (by kernel_rfl) (fun _ _ _ h => h) (Or.inl ⟨by rfl, ?_⟩) HS0.out ?_
                  · (intro w' hSw; go_simp)
                  simp only [Act.put, List.setIfInBounds_toArray, List.set_cons_zero, List.set_cons_succ]
                  refine wpAnyH_take (i := 1) (oi := { dst := some 90, op := Op.move (Operand.tmp 8), type := 47, pos := "ref.go:167", after := #[], guard := none }) (v := .slice (some ⟨vb, vo, none⟩) ns.length c8) rfl (by kernel_rfl) (by kernel_rfl) (by kernel_rfl) (fun _ _ _ h => h) (Or.inl ⟨by rfl, ?_⟩) HS0.out ?_
                  · (intro w' hSw; go_simp)
                  simp only [Act.put, List.setIfInBounds_toArray, List.set_cons_zero, List.set_cons_succ]
                  refine wpAnyH_take (i := 2) (oi := { dst := some 91, op := Op.move (Operand.tmp 2), type := 48, pos := "ref.go:167", after := #[], guard := none }) (v := .slice (some ⟨lb, lo, none⟩) ls.length cl) rfl (by kernel_rfl) (by kernel_rfl) (by kernel_rfl) (fun _ _ _ h => h) (Or.inl ⟨by rfl, ?_⟩) HS0.out ?_
                  · (intro w' hSw; go_simp)
                  simp only [Act.put, List.setIfInBounds_toArray, List.set_cons_zero, List.set_cons_succ]
                  refine wpAnyH_take (i := 3) (oi := { dst := some 92, op := Op.move (Operand.tmp 14), type := 3, pos := "ref.go:167", after := #[], guard := none }) (v := .int .i64 (k : Int)) rfl (by kernel_rfl) (by kernel_rfl) (by kernel_rfl) (fun _ _ _ h => h) (Or.inl ⟨by rfl, ?_⟩) HS0.out ?_
                  · (intro w' hSw; go_simp)
                  simp only [Act.put, List.setIfInBounds_toArray, List.set_cons_zero, List.set_cons_succ]
                  refine wpAnyH_take (i := 4) (oi := { dst := some 93, op := Op.indexAddr 48 (Operand.tmp 91) (Operand.tmp 92), type := 0, pos := "ref.go:167", after := #[{ on := 2, ground := Ground.data }, { on := 3, ground := Ground.data }], guard := none }) (v := .pointer (some ⟨lb, lo + k, none⟩)) rfl (by kernel_rfl) (by kernel_rfl) (by kernel_rfl) (fun _ _ _ h => h) (Or.inl ⟨by rfl, ?_⟩) HS0.out ?_
                  · (intro w' hSw; go_simp)
                  simp only [Act.put, List.setIfInBounds_toArray, List.set_cons_zero, List.set_cons_succ]
                  refine wpAnyH_take (i := 5) (oi := { dst := some 94, op := Op.load 3 (Operand.tmp 93), type := 3, pos := "ref.go:167", after := #[{ on := 4, ground := Ground.data }], guard := none }) (v := .int .i64 (m : Int)) rfl (by kernel_rfl) (by kernel_rfl) (by kernel_rfl) (fun _ _ _ h => h) (Or.inl ⟨by rfl, ?_⟩) HS0.out ?_
                  · (intro w' hSw; have z0 := hSw.1; go_simp)
                  simp only [Act.put, List.setIfInBounds_toArray, List.set_cons_zero, List.set_cons_succ]
                  refine wpAnyH_take (i := 6) (oi := { dst := some 95, op := Op.binOp BinOp.quo 3 (Operand.tmp 94) (Operand.const (Value.int IntKind.i64 2)) 3, type := 3, pos := "ref.go:167", after := #[{ on := 5, ground := Ground.data }], guard := none }) (v := .int .i64 ((m : Int) / 2)) rfl (by kernel_rfl) (by kernel_rfl) (by kernel_rfl) (fun _ _ _ h => h) (Or.inl ⟨by rfl, ?_⟩) HS0.out ?_
                  · (intro w' hSw; have hq6 : IntKind.i64.wrap ((m : Int) / 2) = (m : Int) / 2 := IntWalk.i64_in _ (by omega); go_simp)
                  simp only [Act.put, List.setIfInBounds_toArray, List.set_cons_zero, List.set_cons_succ]
                  refine wpAnyH_take (i := 7) (oi := { dst := some 96, op := Op.indexAddr 47 (Operand.tmp 90) (Operand.tmp 95), type := 0, pos := "ref.go:167", after := #[{ on := 1, ground := Ground.data }, { on := 6, ground := Ground.data }], guard := none }) (v := .pointer (some ⟨vb, vo + m / 2, none⟩)) rfl (by kernel_rfl) (by kernel_rfl) (by kernel_rfl) (fun _ _ _ h => h) (Or.inl ⟨by rfl, ?_⟩) HS0.out ?_
                  · (intro w' hSw; have hq7 : 0 ≤ (m : Int) / 2 ∧ (m : Int) / 2 < (ns.length : Int) := (by omega); have hq8 : ((m : Int) / 2).toNat = m / 2 := (by omega); rw [← hq8]; go_simp)
                  simp only [Act.put, List.setIfInBounds_toArray, List.set_cons_zero, List.set_cons_succ]
                  refine wpAnyH_take (i := 8) (oi := { dst := some 97, op := Op.load 4 (Operand.tmp 96), type := 4, pos := "ref.go:167", after := #[{ on := 7, ground := Ground.data }], guard := none }) (v := .bool q) rfl (by kernel_rfl) (by kernel_rfl) (by kernel_rfl) (fun _ _ _ h => h) (Or.inl ⟨by rfl, ?_⟩) HS0.out ?_
                  · (intro w' hSw; have z1 := hSw.2; go_simp)
                  simp only [Act.put, List.setIfInBounds_toArray, List.set_cons_zero, List.set_cons_succ]
                  refine wpAnyH_take (i := 9) (oi := { dst := some 98, op := Op.move (Operand.tmp 2), type := 48, pos := "ref.go:167", after := #[], guard := none }) (v := .slice (some ⟨lb, lo, none⟩) ls.length cl) rfl (by kernel_rfl) (by kernel_rfl) (by kernel_rfl) (fun _ _ _ h => h) (Or.inl ⟨by rfl, ?_⟩) HS0.out ?_
                  · (intro w' hSw; go_simp)
                  simp only [Act.put, List.setIfInBounds_toArray, List.set_cons_zero, List.set_cons_succ]
                  refine wpAnyH_take (i := 10) (oi := { dst := some 99, op := Op.move (Operand.tmp 14), type := 3, pos := "ref.go:167", after := #[], guard := none }) (v := .int .i64 (k : Int)) rfl (by kernel_rfl) (by kernel_rfl) (by kernel_rfl) (fun _ _ _ h => h) (Or.inl ⟨by rfl, ?_⟩) HS0.out ?_
                  · (intro w' hSw; go_simp)
                  simp only [Act.put, List.setIfInBounds_toArray, List.set_cons_zero, List.set_cons_succ]
                  refine wpAnyH_take (i := 11) (oi := { dst := some 100, op := Op.indexAddr 48 (Operand.tmp 98) (Operand.tmp 99), type := 0, pos := "ref.go:167", after := #[{ on := 9, ground := Ground.data }, { on := 10, ground := Ground.data }], guard := none }) (v := .pointer (some ⟨lb, lo + k, none⟩)) rfl (by kernel_rfl) (by kernel_rfl) (by kernel_rfl) (fun _ _ _ h => h) (Or.inl ⟨by rfl, ?_⟩) HS0.out ?_
                  · (intro w' hSw; go_simp)
                  simp only [Act.put, List.setIfInBounds_toArray, List.set_cons_zero, List.set_cons_succ]
                  refine wpAnyH_take (i := 12) (oi := { dst := some 101, op := Op.load 3 (Operand.tmp 100), type := 3, pos := "ref.go:167", after := #[{ on := 11, ground := Ground.data }], guard := none }) (v := .int .i64 (m : Int)) rfl (by kernel_rfl) (by kernel_rfl) (by kernel_rfl) (fun _ _ _ h => h) (Or.inl ⟨by rfl, ?_⟩) HS0.out ?_
                  · (intro w' hSw; have z0 := hSw.1; go_simp)
                  simp only [Act.put, List.setIfInBounds_toArray, List.set_cons_zero, List.set_cons_succ]
                  refine wpAnyH_take (i := 13) (oi := { dst := some 102, op := Op.binOp BinOp.rem 3 (Operand.tmp 101) (Operand.const (Value.int IntKind.i64 2)) 3, type := 3, pos := "ref.go:167", after := #[{ on := 12, ground := Ground.data }], guard := none }) (v := .int .i64 ((m : Int) % 2)) rfl (by kernel_rfl) (by kernel_rfl) (by kernel_rfl) (fun _ _ _ h => h) (Or.inl ⟨by rfl, ?_⟩) HS0.out ?_
                  · (intro w' hSw; have hq9 : (m : Int).tmod 2 = (m : Int) % 2 := Int.tmod_eq_emod_of_nonneg (by omega); go_simp)
                  simp only [Act.put, List.setIfInBounds_toArray, List.set_cons_zero, List.set_cons_succ]
                  refine wpAnyH_take (i := 14) (oi := { dst := some 103, op := Op.binOp BinOp.eql 3 (Operand.tmp 102) (Operand.const (Value.int IntKind.i64 1)) 3, type := 4, pos := "ref.go:167", after := #[{ on := 13, ground := Ground.data }], guard := none }) (v := .bool ((m : Int) % 2 == 1)) rfl (by kernel_rfl) (by kernel_rfl) (by kernel_rfl) (fun _ _ _ h => h) (Or.inl ⟨by rfl, ?_⟩) HS0.out ?_
                  · (intro w' hSw; go_simp)
                  simp only [Act.put, List.setIfInBounds_toArray, List.set_cons_zero, List.set_cons_succ]
                  refine wpAnyH_take (i := 15) (oi := { dst := some 104, op := Op.binOp BinOp.neq 4 (Operand.tmp 97) (Operand.tmp 103) 4, type := 4, pos := "ref.go:167", after := #[{ on := 8, ground := Ground.data }, { on := 14, ground := Ground.data }], guard := none }) (v := .bool (!(q == ((m : Int) % 2 == 1)))) rfl (by kernel_rfl) (by kernel_rfl) (by kernel_rfl) (fun _ _ _ h => h) (Or.inl ⟨by rfl, ?_⟩) HS0.out ?_
                  · (intro w' hSw; go_simp)
                  simp only [Act.put, List.setIfInBounds_toArray, List.set_cons_zero, List.set_cons_succ]
                  refine wpAnyH_ready (rs := [16]) (by kernel_rfl) (by simp) (AllReadyH.cons (o := { dst := some 105, op := Op.buildSlice 47 1 #[(0, Operand.tmp 104)], type := 47, pos := "ref.go:167", after := #[{ on := 15, ground := Ground.data }], guard := none }) rfl (fun K hK => ?_) AllReadyH.nil)
                  go_simp
                  refine hK.out _ _ HS1.out (fun _ => ?_)
                  clear hK K
                  try simp only [Act.put, List.setIfInBounds_toArray, List.set_cons_zero, List.set_cons_succ]
                  refine wpAnyH_ready (rs := [17]) (by kernel_rfl) (by simp) (AllReadyH.cons (o := { dst := some 106, op := Op.call { callee := Callee.builtin Builtin.append, args := #[Operand.tmp 89, Operand.tmp 105], argTypes := #[47, 47] }, type := 47, pos := "ref.go:167", after := #[{ on := 0, ground := Ground.data }, { on := 16, ground := Ground.data }], guard := none }) rfl (fun K hK => ?_) AllReadyH.nil)
                  refine step_app_by (by rfl) _ _ 47 47 (by rfl) _ _ (by rfl) (by rfl) _ _ HRUN.out ?_
                  intro w9 hw9
                  have HW9 := Lib.hid (HST.out w9 hw9)
                  clear hw9
                  refine hK.out _ _ HW9.out.1 (fun _ => ?_)
                  clear hK K
                  try simp only [Act.put, List.setIfInBounds_toArray, List.set_cons_zero, List.set_cons_succ]
                  refine wpAnyH_take (i := 18) (oi := { dst := some 13, op := Op.assign (Operand.tmp 106), type := 47, pos := "ref.go:167", after := #[{ on := 17, ground := Ground.data }, { on := 17, ground := Ground.chain }, { on := 0, ground := Ground.phase }, { on := 1, ground := Ground.phase }, { on := 2, ground := Ground.phase }, { on := 3, ground := Ground.phase }, { on := 4, ground := Ground.phase }, { on := 5, ground := Ground.phase }, { on := 6, ground := Ground.phase }, { on := 7, ground := Ground.phase }, { on := 8, ground := Ground.phase }, { on := 9, ground := Ground.phase }, { on := 10, ground := Ground.phase }, { on := 11, ground := Ground.phase }, { on := 12, ground := Ground.phase }, { on := 13, ground := Ground.phase }, { on := 14, ground := Ground.phase }, { on := 15, ground := Ground.phase }, { on := 16, ground := Ground.phase }, { on := 17, ground := Ground.phase }], guard := none }) (v := .slice X' (k + 1) cap') rfl (by kernel_rfl) (by kernel_rfl) (by kernel_rfl) (fun _ _ _ h => h) (Or.inl ⟨by rfl, ?_⟩) HW9.out.1 ?_
                  · (intro w' hSw; go_simp)
                  simp only [Act.put, List.setIfInBounds_toArray, List.set_cons_zero, List.set_cons_succ]
                  refine wpAnyH_done (by kernel_rfl) ?_ _
                  refine NoPanic.normal ?_
                  have HO9 := HW9.out.2.1
                  have HB9 := HW9.out.2.2
                  clear HW9
                  go_wp2_with (fail)
                  first | exact ⟨⟨k + 1, by omega, by go_num, HO9, HB9⟩, by simp [intOf]; omega⟩ | exact ⟨⟨k + 1, by omega, by go_num, HO9⟩, by simp [intOf]; omega⟩
                · obtain rfl : k = ls.length := by omega
                  have hev := HBP.out.trans (hbw.out.mono HBP.out.size)
                  rw [List.take_length] at hown
                  obtain ⟨X', cap', hu, _, hrow⟩ := hown.out.form
                  rw [List.length_map] at hu
                  subst hu
                  have HROW2 := Lib.hid hrow
                  have HBE := Lib.hid hev
                  clear hrow hev hown HROW
                  go_wp2_with (fail)
                  go_ret2
                  exact ⟨X', cap', rfl, by rw [HNX.out]; exact HROW2.out, HBE.out⟩
    · obtain ⟨e1, e2⟩ := ev_no (I := I) (gs := gs) (inp := inp) (ls := ls) (fun h => hlen h.2)
      rw [e1, e2]
      have q0 : ((inp.length : Int) == I) = false := by rw [beq_eq_false_iff_ne]; exact hlen
      clear hv e1 e2 hlen
      go_enter Try.func22, Try.ntmps22
      go_upto_region 1 with fail
      generalize w.alloc (.cells #[.int .i64 I, .slice A gs.length c] 30) = w1 at *
      obtain ⟨b0, b1⟩ := HBX.out.cells
      go_wp2_with (fail)
      refine HF.out.mono ?_
      rintro e w2 ⟨rfl, hb2⟩
      obtain ⟨b0, b1⟩ := (HBX.out.later hb2).cells
      go_wp2_with (fail)
      go_ret2
      exact ⟨none, 0, rfl, BRow.nil _ _, HB1.out.trans (hb2.mono HB1.out.size)⟩
end Go.Proofs.Ytaccienlokoolaa
