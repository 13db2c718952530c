/- What is proved: the reference's Loops gives the natural loops. -/
import Derived.Test.YtbdpdbeekbbehaaDoRefL
set_option linter.unusedVariables false
namespace Go.Proofs.Ytbdpdbeekbbehaa
open Go.RowKit Go.Shelf

/-- what the reference's Loops gives -/
def RloRes (dm lp : Nat → Nat → Bool) (l : List PtV) (w : World) (e : Ending) (W : World) : Prop :=
  ∃ v bs, e = .returned v ∧ LpRow W w.heap.size v bs (fun h => (List.range l.length).filter (lp h)) ∧ bs.map (·.head) = lpHeads dm l l.length ∧ Below w.heap.size w W
set_option maxRecDepth 100000 in
set_option maxHeartbeats 4000000 in
theorem rloops_some (A : Option Addr) (c : Nat) (l : List PtV) (w : World) (hl : FlOk l) (hp : PRow w.heap.size w A l) (dm : Nat → Nat → Bool) (hdm : ∀ h u, dm h u = true ↔ Dom (edg l) 0 h u) (lp : Nat → Nat → Bool) (hlp : ∀ h c, lp h c = true ↔ LpP (edg l) h c) :
    Calls Try.prog 25 #[.agg #[.slice A l.length c]] w (RloRes dm lp l w) := by
  have hln := hl.n
  have h2n := hl.two
  have HS := Lib.hid (show FlSm l from ⟨hl.n, hl.few⟩)
  have HL := Lib.hid hl
  have HPP := Lib.hid hp
  have HLP := Lib.hid (rl_lp hdm hlp)
  have HHD := Lib.hid (fun h => rl_heads (l := l) (dm := dm) h)
  have HDC := Lib.hid (fun W (hW : Below w.heap.size w W) (h b : Nat) (hb : b < l.length) => rdominates_any A c l (h : Int) (b : Int) W ⟨hl.n, hl.few⟩ ((hp.below hW).mono hW.size) (dm h b) ((hdm h b).trans (domS_at hl.ok hb).symm))
  have HRC := Lib.hid (fun W (hW : Below w.heap.size w W) (fr : Nat) (wo : Int) (hf : fr < l.length) => reach_any A c l fr wo W hl ((hp.below hW).mono hW.size) hf)
  have ha1 := (Below.refl w.heap.size w).alloc (Nat.le_refl _) (.cells #[.slice A l.length c] 24)
  have HFB := Lib.hid (show FBx (w.alloc (.cells #[.slice A l.length c] 24)) w.heap.size A c l from heap_alloc_new w _)
  have hs1 : (w.alloc (.cells #[.slice A l.length c] 24)).heap.size = w.heap.size + 1 := by simp
  have ha2 := (Below.refl _ _).alloc (Nat.le_refl (w.alloc (.cells #[.slice A l.length c] 24)).heap.size) (.cells #[] 36)
  have HF1 := Lib.hid (show FBx _ w.heap.size A c l from HFB.out.later ha2)
  have HB1 := Lib.hid (ha1.trans (ha2.mono ha1.size))
  have hrow := heap_alloc_new (w.alloc (.cells #[.slice A l.length c] 24)) (.cells #[] 36)
  rw [hs1] at hrow
  obtain ⟨FF, HFF⟩ : ∃ FF, Hid ((fun h => (List.range l.length).filter (lp h)) = FF) := ⟨_, Lib.hid rfl⟩
  have HO1 := Lib.hid (show LpRow ((w.alloc (.cells #[.slice A l.length c] 24)).alloc (.cells #[] 36)) w.heap.size (.slice (some ⟨w.heap.size + 1, 0, none⟩) 0 0) [] FF from ⟨⟨rfl, .inr ⟨w.heap.size + 1, 0, _, rfl, by omega, hrow, Nat.le_refl _, by decide, rfl, rfl⟩⟩, fun t h => by simp at h⟩)
  have hmk := do_make_bl l.length (by omega)
  have HMK := Lib.hid hmk
  have c0 := HF1.out.cell
  clear hl hp hdm hlp ha1 ha2 hs1 hrow HFB hmk
  go_enter Try.func25, Try.ntmps25
  go_wp2_with (fail)
  generalize ((w.alloc (.cells #[.slice A l.length c] 24)).alloc (.cells #[] 36)) = w1 at *
  refine (rvalid_any A c l w1 HS.out ((HPP.out.below HB1.out).mono HB1.out.size)).mono ?_
  rintro e w2 ⟨rfl, hb⟩
  rw [HL.out.ok]
  have HB2 := Lib.hid (HB1.out.trans (hb.mono HB1.out.size))
  have HF2 := Lib.hid (HF1.out.later hb)
  have HO2 := Lib.hid (HO1.out.later hb)
  clear c0 hb
  have c0 := HF2.out.cell
  go_wp2_with (fail)
  refine (HRC.out w2 HB2.out 0 (-1) (by omega)).mono ?_
  rintro e w3 ⟨ob, fr, rfl, hoa, hfr, hob, hb⟩
  have HB3 := Lib.hid (HB2.out.trans (hb.mono HB2.out.size))
  have HF3 := Lib.hid (HF2.out.later hb)
  have HO3 := Lib.hid (HO2.out.later hb)
  have HS3 := Lib.hid (show BSet w3 ob l.length (fun v => Rea (edg l) 0 v) from ⟨fr, hoa, fun v hv => by
    have h := hfr v hv
    rw [ne_minus] at h
    exact h⟩)
  clear c0 hb hoa hfr hob
  go_wp2_with (fail)
  go_loopw [3, 5] (fun v i wr => ∃ (h : Nat) (bs : List LpV), i = .int .i64 (h : Int) ∧ h ≤ l.length ∧ Hid (bs.map (·.head) = lpHeads dm l h) ∧ Hid (LpRow wr w.heap.size v bs FF) ∧ Hid (BSet wr ob l.length (fun v => Rea (edg l) 0 v)) ∧ Hid (FBx wr w.heap.size A c l) ∧ Hid (Below w.heap.size w wr)) (fun _ i _ => l.length - (intOf i).toNat)
  case atStart => exact ⟨0, [], rfl, Nat.zero_le _, Lib.hid rfl, HO3, HS3, HF3, HB3⟩
  case round =>
    obtain ⟨h, bs, rfl, hh, hhd, hrow, hrs, hfb, hbw⟩ := hrel
    generalize wr = wo at *
    have c0 := hfb.out.cell
    by_cases hhl : h < l.length
    · have hal := (Below.refl wo.heap.size wo).alloc (Nat.le_refl _) (.cells (hdr (fun _ => .bool false) l.length) 4)
      have hmk := HMK.out wo
      have HI0 := Lib.hid (show BSet (wo.alloc (.cells (hdr (fun _ => .bool false) l.length) 4)) wo.heap.size l.length (RLin (edg l) dm h 0) from ⟨_, BArr.new wo l.length, fun c _ => ⟨fun e => (by cases e), fun e => absurd e rlin_zero⟩⟩)
      have HB0 := Lib.hid hal
      have c1 := (hfb.out.later hal).cell
      clear hal
      go_upto_region 10 with (fail)
      clear hmk c0 c1
      generalize (wo.alloc (.cells (hdr (fun _ => .bool false) l.length) 4)) = wi at *
      obtain ⟨ib, hib⟩ : ∃ ib, ib = wo.heap.size := ⟨_, rfl⟩
      rw [← hib]
      rw [← hib] at HI0
      have HIB := Lib.hid hib
      clear hib
      go_wp2_with (fail)
      go_loopw [7, 8] (fun x i wr => ∃ (b : Nat) (fd : Bool), x = .bool fd ∧ i = .int .i64 (b : Int) ∧ b ≤ l.length ∧ Hid (fd = true ↔ RLfd (edg l) dm h b) ∧ Hid (BSet wr ib l.length (RLin (edg l) dm h b)) ∧ Hid (Below wo.heap.size wo wr)) (fun _ i _ => l.length - (intOf i).toNat)
      case atStart => exact ⟨0, false, rfl, rfl, Nat.zero_le _, Lib.hid ⟨fun e => (by cases e), fun e => absurd e rlfd_zero⟩, HI0, HB0⟩
      case round =>
        obtain ⟨b, fd, rfl, rfl, hb, hfd, hin, hbi⟩ := hrel
        generalize wr = wb at *
        have HFB := Lib.hid (hfb.out.later hbi.out)
        have HBW := Lib.hid (hbw.out.trans (hbi.out.mono hbw.out.size))
        have c0 := HFB.out.cell
        by_cases hbl : b < l.length
        · obtain ⟨h1, h2⟩ := edg_zl HL.out.ok hbl
          obtain ⟨pb, off, rfl, hpb, e1, e2, e3, hz, hc⟩ := HPP.out.at hbl
          have hz0 := (HPP.out.2 _ (List.getElem_mem hbl)).1
          rw [h1] at hz0 hc e3
          rw [zl_len] at e3 hc
          have HZ := Lib.hid (NRow.of hz0)
          have HE2 := Lib.hid h2
          have hdg := HL.out.edg b
          have HPB := Lib.hid hpb
          have HE3 := Lib.hid (show ∀ W, Below w.heap.size w W → W.cell? ⟨pb, off + b * 3 + 2, none⟩ = some (.slice l[b].A (edg l b).length l[b].c) from fun W hW => (hW.cell (p := ⟨pb, off + b * 3 + 2, none⟩) hpb).trans e3)
          have HBL := Lib.hid hbl
          generalize l[b].A = A2 at *
          generalize l[b].c = c2 at *
          clear h1 h2 hz hz0 e1 e2 e3 hc hpb
          obtain ⟨n2, HEN⟩ : ∃ n, Hid ((edg l b).length = n) := ⟨_, Lib.hid rfl⟩
          have HFD0 := Lib.hid (hfd.out.trans rlfdj_zero.symm)
          have HIN0 := Lib.hid (hin.out.ext (fun c _ => (rlinj_zero (E := edg l) (dm := dm) (h := h) (b := b) (c := c)).symm))
          rw [HEN.out] at hdg HE3
          go_wp2_with (fail)
          clear c0
          go_loopw [7, 9] (fun x i wr => ∃ (k : Nat) (fd : Bool), x = .bool fd ∧ i = .int .i64 (k : Int) ∧ k ≤ n2 ∧ Hid (fd = true ↔ RLfdJ (edg l) dm h b k) ∧ Hid (BSet wr ib l.length (RLinJ (edg l) dm h b k)) ∧ Hid (Below wo.heap.size wo wr)) (fun _ i _ => n2 - (intOf i).toNat)
          case atStart => exact ⟨0, fd, rfl, rfl, Nat.zero_le _, HFD0, HIN0, hbi⟩
          case round =>
            obtain ⟨k, fk, rfl, rfl, hk, hfk, hik, hbk⟩ := hrel
            generalize wr = wk at *
            have HFK := Lib.hid (hfb.out.later hbk.out)
            have HWK := Lib.hid (hbw.out.trans (hbk.out.mono hbw.out.size))
            have c0 := HFK.out.cell
            have e3 := HE3.out wk HWK.out
            by_cases hkl : k < n2
            · have hkE : k < (edg l b).length := by rw [HEN.out]; exact hkl
              obtain ⟨eb, eo, rfl, heb, hec⟩ := (HZ.out.below HWK.out) (by omega)
              have r0 := hec k hkE
              obtain ⟨s, HS1⟩ : ∃ s, Hid ((edg l b)[k] = s) := ⟨_, Lib.hid rfl⟩
              rw [HS1.out] at r0
              have HKE := Lib.hid hkE
              clear hec
              have HJ1 := Lib.hid (show k + 1 ≤ n2 ∧ n2 - (k + 1) < n2 - k by omega)
              by_cases hsh : s = h
              · cases hdq : dm h b with
                | false =>
                  have HSK := Lib.hid (fun c => rl_skip (E := edg l) (dm := dm) (h := h) (c := c) HKE.out (.inr hdq))
                  have HFN := Lib.hid (hfk.out.trans (HSK.out 0).2.symm)
                  have HIN := Lib.hid (hik.out.ext (fun c _ => (HSK.out c).1.symm))
                  have HD := Lib.hid (HDC.out wk HWK.out h b HBL.out)
                  rw [hdq] at HD
                  subst hsh
                  clear hdq
                  go_wp2_with (fail)
                  refine HD.out.mono ?_
                  rintro e w5 ⟨rfl, hb5⟩
                  have HIN5 := Lib.hid (HIN.out.later hb5)
                  have HB5 := Lib.hid (hbk.out.trans (hb5.mono hbk.out.size))
                  clear hb5 c0 e3 r0
                  go_wp2_with (fail)
                  exact ⟨⟨k + 1, fk, by first | rfl | trivial, by go_num, HJ1.out.1, HFN, HIN5, HB5⟩, by have := HJ1.out.2; simp only [intOf, Int.toNat_natCast]; first | exact this | (simp; omega)⟩
                | true =>
                  have HTK := Lib.hid (fun c => rl_take (E := edg l) (dm := dm) (h := h) (c := c) HKE.out (HS1.out.trans hsh) hdq)
                  have HD := Lib.hid (HDC.out wk HWK.out h b HBL.out)
                  rw [hdq] at HD
                  subst hsh
                  clear hdq
                  go_wp2_with (fail)
                  refine HD.out.mono ?_
                  rintro e w5 ⟨rfl, hb5⟩
                  have HIN5 := Lib.hid (hik.out.later hb5)
                  have HB5 := Lib.hid (hbk.out.trans (hb5.mono hbk.out.size))
                  clear hb5 c0 e3 r0
                  go_wp2_with (fail)
                  go_loopw [10] (fun i wr => ∃ u : Nat, i = .int .i64 (u : Int) ∧ u ≤ l.length ∧ Hid (BSet wr ib l.length (fun c => (c < u ∧ RLP (edg l) s b c) ∨ RLinJ (edg l) dm s b k c)) ∧ Hid (Below wo.heap.size wo wr)) (fun i _ => l.length - (intOf i).toNat)
                  case atStart => exact ⟨0, rfl, Nat.zero_le _, Lib.hid (HIN5.out.ext (fun c _ => by simp)), HB5⟩
                  case round =>
                    obtain ⟨u, rfl, hu, hiu, hbu⟩ := hrel
                    have HFU := Lib.hid (hfb.out.later hbu.out)
                    have HWU := Lib.hid (hbw.out.trans (hbu.out.mono hbw.out.size))
                    have c0 := HFU.out.cell
                    by_cases hul : u < l.length
                    · obtain ⟨rx, hrx, hrx2⟩ := (hrs.out.later hbu.out).cell hul
                      have HRX := Lib.hid hrx2
                      clear hrx2
                      have HJ2 := Lib.hid (show u + 1 ≤ l.length ∧ l.length - (u + 1) < l.length - u by omega)
                      have NO := Lib.hid (show ¬ RLP (edg l) s b u → ∀ c, ((c < u ∧ RLP (edg l) s b c) ∨ RLinJ (edg l) dm s b k c) ↔ ((c < u + 1 ∧ RLP (edg l) s b c) ∨ RLinJ (edg l) dm s b k c) from fun hn c => by
                        constructor
                        · rintro (⟨g1, g2⟩ | g)
                          · exact .inl ⟨by omega, g2⟩
                          · exact .inr g
                        · rintro (⟨g1, g2⟩ | g)
                          · by_cases e : c = u
                            · subst e; exact absurd g2 hn
                            · exact .inl ⟨by omega, g2⟩
                          · exact .inr g)
                      have YES := Lib.hid (show RLP (edg l) s b u → ∀ c, (c = u ∨ (c < u ∧ RLP (edg l) s b c) ∨ RLinJ (edg l) dm s b k c) ↔ ((c < u + 1 ∧ RLP (edg l) s b c) ∨ RLinJ (edg l) dm s b k c) from fun hn c => by
                        constructor
                        · rintro (e | ⟨g1, g2⟩ | g)
                          · subst e; exact .inl ⟨by omega, hn⟩
                          · exact .inl ⟨by omega, g2⟩
                          · exact .inr g
                        · rintro (⟨g1, g2⟩ | g)
                          · by_cases e : c = u
                            · exact .inl e
                            · exact .inr (.inl ⟨by omega, g2⟩)
                          · exact .inr (.inr g))
                      cases rx with
                      | false =>
                        have HIN := Lib.hid (hiu.out.ext (fun c _ => NO.out (fun g => by have := HRX.out.2 g.1; cases this) c))
                        go_wp2_with (fail)
                        exact ⟨⟨u + 1, by go_num, HJ2.out.1, HIN, hbu⟩, by have := HJ2.out.2; simp only [intOf, Int.toNat_natCast]; first | exact this | (simp; omega)⟩
                      | true =>
                        have HREA := Lib.hid (show Rea (edg l) 0 u from HRX.out.1 rfl)
                        have HC := Lib.hid (HRC.out wr HWU.out u (s : Int) hul)
                        have HUL := Lib.hid hul
                        go_wp2_with (fail)
                        refine HC.out.mono ?_
                        rintro e w6 ⟨ob2, f2, rfl, hoa2, hf2, hob2, hb6⟩
                        have HIN6 := Lib.hid (hiu.out.later hb6)
                        have HB6 := Lib.hid (hbu.out.trans (hb6.mono hbu.out.size))
                        have hf3 := hf2 b HBL.out
                        rw [ne_int] at hf3
                        have k2 := hoa2.cell HBL.out
                        obtain ⟨y2, HY2⟩ : ∃ y, Hid (f2 b = y) := ⟨_, Lib.hid rfl⟩
                        rw [HY2.out] at k2 hf3
                        have HF3 := Lib.hid hf3
                        clear hb6 hoa2 hf2 hob2 hrx c0 hf3
                        cases y2 with
                        | false =>
                          have HIN := Lib.hid (HIN6.out.ext (fun c _ => NO.out (fun g => by have := HF3.out.2 g.2; cases this) c))
                          go_wp2_with (fail)
                          exact ⟨⟨u + 1, by go_num, HJ2.out.1, HIN, HB6⟩, by have := HJ2.out.2; simp only [intOf, Int.toNat_natCast]; first | exact this | (simp; omega)⟩
                        | true =>
                          have HIN := Lib.hid ((HIN6.out.set HUL.out).ext (fun c _ => YES.out ⟨HREA.out, HF3.out.1 rfl⟩ c))
                          have hfz := HIN6.out.frz u
                          have HB7 := Lib.hid (show Below wo.heap.size wo (w6.setCell ⟨ib, u, none⟩ (.bool true)) from HB6.out.setCell (by have := HIB.out; simp; omega) _)
                          obtain ⟨y8, hy8, _⟩ := HIN6.out.cell HUL.out
                          go_wp2_with (fail)
                          exact ⟨⟨u + 1, by go_num, HJ2.out.1, HIN, HB7⟩, by have := HJ2.out.2; simp only [intOf, Int.toNat_natCast]; first | exact this | (simp; omega)⟩
                    · obtain rfl : u = l.length := by omega
                      have HIN := Lib.hid (hiu.out.ext (P' := RLinJ (edg l) dm s b (k + 1)) (fun c hc => by
                        rw [(HTK.out c).1]
                        constructor
                        · rintro (⟨_, g⟩ | g)
                          · exact .inr g
                          · exact .inl g
                        · rintro (g | g)
                          · exact .inr g
                          · exact .inl ⟨hc, g⟩))
                      have HFN := Lib.hid (show true = true ↔ RLfdJ (edg l) dm s b (k + 1) from ⟨fun _ => (HTK.out 0).2, fun _ => rfl⟩)
                      go_wp2_with (fail)
                      exact ⟨⟨k + 1, true, by first | rfl | trivial, by go_num, HJ1.out.1, HFN, HIN, hbu⟩, by have := HJ1.out.2; simp only [intOf, Int.toNat_natCast]; first | exact this | (simp; omega)⟩
              · have HSK := Lib.hid (fun c => rl_skip (E := edg l) (dm := dm) (h := h) (c := c) HKE.out (.inl (by rw [HS1.out]; exact hsh)))
                have HFN := Lib.hid (hfk.out.trans (HSK.out 0).2.symm)
                have HIN := Lib.hid (hik.out.ext (fun c _ => (HSK.out c).1.symm))
                have hsi : ¬ (s : Int) = (h : Int) := by omega
                have hsb : ((s : Int) != (h : Int)) = true := by simp; omega
                clear hsh
                go_wp2_with (fail)
                exact ⟨⟨k + 1, fk, by first | rfl | trivial, by go_num, HJ1.out.1, HFN, HIN, hbk⟩, by have := HJ1.out.2; simp only [intOf, Int.toNat_natCast]; first | exact this | (simp; omega)⟩
            · obtain rfl : k = n2 := by omega
              rw [← HEN.out] at hfk hik
              have HFN := Lib.hid (hfk.out.trans rlfdj_all)
              have HIN := Lib.hid (hik.out.ext (fun c _ => rlinj_all))
              go_wp2_with (fail)
              exact ⟨⟨b + 1, fk, by first | rfl | trivial, by go_num, by omega, HFN, HIN, hbk⟩, by simp [intOf]; omega⟩
        · obtain rfl : b = l.length := by omega
          have HRW := Lib.hid (hrow.out.later hbi.out)
          have HRS := Lib.hid (hrs.out.later hbi.out)
          cases fd with
          | false =>
            have HHN := Lib.hid (hhd.out.trans ((HHD.out h).2 (fun g => by have := hfd.out.2 g; cases this)).symm)
            go_wp2_with (fail)
            exact ⟨⟨h + 1, bs, by go_num, by omega, HHN, HRW, HRS, HFB, HBW⟩, by simp [intOf]; omega⟩
          | true =>
            have HHN := Lib.hid (show lpHeads dm l (h + 1) = lpHeads dm l h ++ [h] from (HHD.out h).1 (hfd.out.1 rfl))
            go_upto_region 25 with (fail)
            have hal := (Below.refl wb.heap.size wb).alloc (Nat.le_refl _) (.cells #[.int .i64 (h : Int), .slice none 0 0] 36)
            have HLB := Lib.hid (heap_alloc_new wb (.cells #[.int .i64 (h : Int), .slice none 0 0] 36))
            have HIL := Lib.hid (hin.out.later hal)
            have HBL := Lib.hid (hbi.out.trans (hal.mono hbi.out.size))
            have HLO := Lib.hid (show wo.heap.size ≤ wb.heap.size ∧ ib < wb.heap.size from ⟨hbi.out.size, hin.out.lt⟩)
            have HLZ := Lib.hid (show (wb.alloc (.cells #[.int .i64 (h : Int), .slice none 0 0] 36)).heap.size = wb.heap.size + 1 by simp)
            clear hal c0
            generalize (wb.alloc (.cells #[.int .i64 (h : Int), .slice none 0 0] 36)) = wl at *
            obtain ⟨lb, hlb⟩ : ∃ lb, lb = wb.heap.size := ⟨_, rfl⟩
            rw [← hlb] at HLB HLO HLZ
            rw [← hlb]
            clear hlb
            have HLP2 := Lib.hid (fun c => HLP.out h c)
            go_wp2_with (fail)
            go_loopw [12] (fun i wr => ∃ (u : Nat) (sl : Value), i = .int .i64 (u : Int) ∧ u ≤ l.length ∧ Hid (wr.heap[lb]? = some (.cells #[.int .i64 (h : Int), sl] 36 (0, 0))) ∧ Hid (ZOwn wr (lb + 1) sl (zl ((List.range u).filter (lp h)))) ∧ Hid (BSet wr ib l.length (RLin (edg l) dm h l.length)) ∧ Hid (Below wo.heap.size wo wr)) (fun i _ => l.length - (intOf i).toNat)
            case atStart => exact ⟨0, .slice none 0 0, rfl, Nat.zero_le _, HLB, Lib.hid (World.ownsRow_nil _ _ _ _), HIL, HBL⟩
            case round =>
              obtain ⟨u, sl, rfl, hu, hbx, hsl, hiu, hbu⟩ := hrel
              have HFU := Lib.hid (hfb.out.later hbu.out)
              have c0 := HFU.out.cell
              obtain ⟨X, cX, hvX, _, _⟩ := hsl.out.form
              subst hvX
              have hfl := List.length_filter_le (lp h) (List.range u)
              rw [List.length_range] at hfl
              have NEXT := Lib.hid (show lp h u = true → ∀ (W : World) (v : Value), W.ownsRow (lb + 1) 3 1 v (((List.range u).filter (lp h)).length + 1) (zcells (zl ((List.range u).filter (lp h))) ++ [.int .i64 (u : Int)]) → ZOwn W (lb + 1) v (zl ((List.range (u + 1)).filter (lp h))) from fun g W v hw => by
                rw [List.range_succ, List.filter_append, zl_append]
                unfold ZOwn
                rw [zcells_append, List.length_append, zl_len]
                simp only [List.filter_cons, g, if_true, List.filter_nil]
                exact hw)
              have SAME := Lib.hid (show lp h u = false → (List.range (u + 1)).filter (lp h) = (List.range u).filter (lp h) from fun g => by
                rw [List.range_succ, List.filter_append]
                simp [g])
              obtain ⟨xs, HXS⟩ : ∃ xs, Hid ((List.range u).filter (lp h) = xs) := ⟨_, Lib.hid rfl⟩
              have HSL := hsl
              rw [HXS.out] at HSL hfl NEXT SAME
              rw [HXS.out, zl_len] at hbx
              rw [zl_len] at HSL
              have HOW := Lib.hid (show wr.ownsRow (lb + 1) 3 1 (.slice X xs.length cX) xs.length (zcells (zl xs)) from by have h := HSL.out; unfold ZOwn at h; rw [zl_len] at h; exact h)
              have k1 : wr.cell? ⟨lb, 1, none⟩ = some (.slice X xs.length cX) := Lib.cell_of_heap hbx.out 1
              by_cases hul : u < l.length
              · obtain ⟨rx, hrx, hrx2⟩ := hiu.out.cell hul
                have HRX := Lib.hid hrx2
                clear hrx2
                have HJ3 := Lib.hid (show u + 1 ≤ l.length ∧ l.length - (u + 1) < l.length - u by omega)
                have hcap1 : xs.length + 1 ≤ maxLen := by unfold maxLen; omega
                have hcap2 : (xs.length + 1) * 8 ≤ 140737488355328 := by omega
                have HHI := Lib.hid (show lb + 1 ≤ (wr.alloc (.cells #[.int .i64 (u : Int)] 3)).heap.size by have := hlt hbx.out; simp; omega)
                obtain ⟨i0, hi0, hz0, hz1, hz2⟩ := info_parts infoInt
                cases rx with
                | true =>
                  have HADD := Lib.hid ((HLP2.out u).1 (.inl (HRX.out.1 rfl)))
                  go_wp2_with (at_builtin; refine wpList_append_lies _ rfl _ _ 29 rfl (lb + 1) 3 i0 _ 1 8 Try.underlying29 hi0 hz0 hz1 hz2 rfl (by decide) (.slice X xs.length cX) xs.length (zcells (zl xs)) rfl (HOW.out.alloc _) ⟨wr.heap.size, 0, none⟩ 1 1 [.int .i64 (u : Int)] rfl rfl (World.news_of_block (cs := #[.int .i64 (u : Int)]) (heap_alloc_new wr _)) (by simp [Value.oneCell']) (by decide) hcap1 hcap2 HHI.out (wr.heap.size + 1) (by simp) ?_; intro g cap w4 hown hgr hsel hgl; have hb4 : w4.heap[lb]? = some (.cells #[.int .i64 (h : Int), .slice X xs.length cX] 36 (0, 0)) := (hgr.block lb (by simp; have := hlt hbx.out; omega) (fun e => by have := (own_block' HOW.out e.symm).1; omega)).trans ((heap_alloc_old _ _ (hlt hbx.out)).trans hbx.out); have hfz := hfrz hb4 1; have hcz : w4.cell? ⟨lb, 1, none⟩ = some (.slice X xs.length cX) := Lib.cell_of_heap hb4 1; have HB4 := Lib.hid hb4; have HOWN := Lib.hid hown; have HGR := Lib.hid hgr; clear hown hgr hsel hgl hb4)
                  exact ⟨⟨u + 1, _, by go_num, HJ3.out.1, Lib.hid (by have h := hset (i := 1) HB4.out (.slice (some ⟨g, 0, none⟩) (xs.length + 1) cap); exact h), Lib.hid (NEXT.out HADD.out _ _ (own_stays HOWN.out fun b e => hfar (by have := (own_block' HOWN.out e).1; simp; omega) _)), Lib.hid ((hiu.out.eq ((HGR.out.block ib (by simp; have := hiu.out.lt; omega) (fun e => by have h1 := (own_block' HOW.out e.symm).1; have := HLO.out.2; omega)).trans (heap_alloc_old _ _ hiu.out.lt))).other (by have := HLO.out.2; simp; omega) _), Lib.hid ((((hbu.out.alloc hbu.out.size _).grown HGR.out (by simp; have := hbu.out.size; omega) (fun b e => by have := (own_block' HOW.out e).1; have := HLO.out.1; omega))).setCell (by have := HLO.out.1; simp; omega) _)⟩, by have := HJ3.out.2; simp only [intOf, Int.toNat_natCast]; first | exact this | (simp; omega)⟩
                | false =>
                  by_cases huh : u = h
                  · have HADD := Lib.hid ((HLP2.out u).1 (.inr huh))
                    have hub : ((u : Int) == (h : Int)) = true := by simp; omega
                    clear huh
                    go_wp2_with (at_builtin; refine wpList_append_lies _ rfl _ _ 29 rfl (lb + 1) 3 i0 _ 1 8 Try.underlying29 hi0 hz0 hz1 hz2 rfl (by decide) (.slice X xs.length cX) xs.length (zcells (zl xs)) rfl (HOW.out.alloc _) ⟨wr.heap.size, 0, none⟩ 1 1 [.int .i64 (u : Int)] rfl rfl (World.news_of_block (cs := #[.int .i64 (u : Int)]) (heap_alloc_new wr _)) (by simp [Value.oneCell']) (by decide) hcap1 hcap2 HHI.out (wr.heap.size + 1) (by simp) ?_; intro g cap w4 hown hgr hsel hgl; have hb4 : w4.heap[lb]? = some (.cells #[.int .i64 (h : Int), .slice X xs.length cX] 36 (0, 0)) := (hgr.block lb (by simp; have := hlt hbx.out; omega) (fun e => by have := (own_block' HOW.out e.symm).1; omega)).trans ((heap_alloc_old _ _ (hlt hbx.out)).trans hbx.out); have hfz := hfrz hb4 1; have hcz : w4.cell? ⟨lb, 1, none⟩ = some (.slice X xs.length cX) := Lib.cell_of_heap hb4 1; have HB4 := Lib.hid hb4; have HOWN := Lib.hid hown; have HGR := Lib.hid hgr; clear hown hgr hsel hgl hb4)
                    exact ⟨⟨u + 1, _, by go_num, HJ3.out.1, Lib.hid (by have h := hset (i := 1) HB4.out (.slice (some ⟨g, 0, none⟩) (xs.length + 1) cap); exact h), Lib.hid (NEXT.out HADD.out _ _ (own_stays HOWN.out fun b e => hfar (by have := (own_block' HOWN.out e).1; simp; omega) _)), Lib.hid ((hiu.out.eq ((HGR.out.block ib (by simp; have := hiu.out.lt; omega) (fun e => by have h1 := (own_block' HOW.out e.symm).1; have := HLO.out.2; omega)).trans (heap_alloc_old _ _ hiu.out.lt))).other (by have := HLO.out.2; simp; omega) _), Lib.hid ((((hbu.out.alloc hbu.out.size _).grown HGR.out (by simp; have := hbu.out.size; omega) (fun b e => by have := (own_block' HOW.out e).1; have := HLO.out.1; omega))).setCell (by have := HLO.out.1; simp; omega) _)⟩, by have := HJ3.out.2; simp only [intOf, Int.toNat_natCast]; first | exact this | (simp; omega)⟩
                  · have HN := SAME.out (by
                      cases hq : lp h u with
                      | false => rfl
                      | true =>
                        rcases (HLP2.out u).2 hq with g | g
                        · have := HRX.out.2 g; cases this
                        · exact absurd g huh)
                    have HN2 := Lib.hid (show ZOwn wr (lb + 1) (.slice X xs.length cX) (zl ((List.range (u + 1)).filter (lp h))) from by rw [HN]; exact HSL.out)
                    have hui : ¬ (u : Int) = (h : Int) := by omega
                    have hub : ((u : Int) == (h : Int)) = false := beq_eq_false_iff_ne.2 hui
                    clear huh HN
                    go_wp2_with (fail)
                    exact ⟨⟨u + 1, _, by go_num, HJ3.out.1, hbx, HN2, hiu, hbu⟩, by have := HJ3.out.2; simp only [intOf, Int.toNat_natCast]; first | exact this | (simp; omega)⟩
              · obtain rfl : u = l.length := by omega
                have k0 : wr.cell? ⟨lb, 0, none⟩ = some (.int .i64 (h : Int)) := Lib.cell_of_heap hbx.out 0
                have HRW2 := Lib.hid (hrow.out.later hbu.out)
                have HRS2 := Lib.hid (hrs.out.later hbu.out)
                have HWU := Lib.hid (hbw.out.trans (hbu.out.mono hbw.out.size))
                have hM := HWU.out.size
                have HX2 := Lib.hid (show FF h = xs from by rw [← HFF.out]; exact HXS.out)
                have HT := Lib.hid (show ZOwn wr w.heap.size (.slice X (FF h).length cX) (zl (FF h)) from by
                  rw [HX2.out]
                  exact own_down HSL.out (by have := HLO.out.1; have := hbw.out.size; omega))
                have hbn : bs.length ≤ 30 := by
                  have h9 := congrArg List.length hhd.out
                  rw [List.length_map] at h9
                  have h2 := List.length_filter_le (fun h => !(tlL (edg l) dm l.length h).isEmpty) (List.range h)
                  unfold lpHeads at h9
                  rw [List.length_range] at h2
                  omega
                obtain ⟨i0, hi0, hz0, hz1, hz2⟩ := info_parts infoLoop
                go_wp2_with (at_builtin; refine wpList_append_own_at _ rfl _ _ 32 rfl w.heap.size 36 i0 _ 2 32 Try.underlying32 hi0 hz0 hz1 hz2 rfl (by decide) u3 bs.length (lpcells FF bs) rfl (HRW2.out.row.alloc _) ⟨wr.heap.size, 0, none⟩ 1 1 [.int .i64 (h : Int), .slice X xs.length cX] rfl rfl (World.news_of_block (cs := #[.int .i64 (h : Int), .slice X xs.length cX]) (heap_alloc_new wr _)) (by simp [Value.oneCell']) (by unfold maxLen; omega) (by omega) (by simp; omega) ?_; intro v' wf hown hgr _ _; rw [← HX2.out] at hown; have HRN := Lib.hid (HRW2.out.more (t := ⟨h, X, cX⟩) HT.out hgr hown); have HGR := Lib.hid hgr; clear hown hgr)
                have hui : ∀ g, Value.ownBlock _ = some g → ∃ cs, wr.heap[g]? = some (.cells cs 36 (0, 0)) := fun g e => (own_block' HRW2.out.row e).2.2
                have HF5 := Lib.hid (show FBx wf w.heap.size A c l from by
                  refine ((HGR.out.block w.heap.size (by simp; have := HFU.out.lt; omega) (fun e => ?_)).trans (heap_alloc_old _ _ HFU.out.lt)).trans HFU.out
                  obtain ⟨cs, hcs⟩ := hui _ e.symm
                  have h := HFU.out
                  unfold FBx Bx at h
                  rw [hcs] at h
                  cases h)
                have HS5 := Lib.hid (HRS2.out.eq ((HGR.out.block ob (by simp; have := HRS2.out.lt; omega) (fun e => by
                  obtain ⟨cs, hcs⟩ := hui _ e.symm
                  obtain ⟨f9, ⟨cs9, h9, _⟩, _⟩ := HRS2.out
                  rw [hcs] at h9
                  cases h9)).trans (heap_alloc_old _ _ HRS2.out.lt)))
                have HB5 := Lib.hid ((HWU.out.alloc hM _).grown HGR.out (by simp; omega) (fun g e => (own_block' HRW2.out.row e).1))
                have HH5 := Lib.hid (show (bs ++ [(⟨h, X, cX⟩ : LpV)]).map (·.head) = lpHeads dm l (h + 1) from by rw [List.map_append, hhd.out, HHN.out]; rfl)
                exact ⟨⟨h + 1, bs ++ [⟨h, X, cX⟩], by go_num, by omega, HH5, HRN, HS5, HF5, HB5⟩, by simp [intOf]; omega⟩
    · obtain rfl : h = l.length := by omega
      have HFIN := Lib.hid (show RloRes dm lp l w (.returned u3) wo from ⟨u3, bs, rfl, by rw [HFF.out]; exact hrow.out, hhd.out, hbw.out⟩)
      go_wp2_with (fail)
      go_ret
      exact HFIN.out
end Go.Proofs.Ytbdpdbeekbbehaa
