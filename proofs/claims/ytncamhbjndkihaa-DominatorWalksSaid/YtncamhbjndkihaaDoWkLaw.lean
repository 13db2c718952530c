/- What is proved: the law DominatorWalks: all dominators of a walk's last point stand on it. -/
import Derived.Test.YtncamhbjndkihaaDoWk
import Derived.BigQuiet
import Derived.Deep.QuietTactic
set_option linter.unusedVariables false
namespace Go.Proofs.Ytncamhbjndkihaa
open Go.RowKit Go.Shelf

theorem zrow_drop {n : Nat} {w : World} {g : Nat} {q : List Nat} (h : ZRow n w (some ⟨g, 0, none⟩) (zl q)) {s : Nat} (hs : s < q.length) : ZRow n w (some ⟨g, s, none⟩) (zl (q.drop s)) := fun _ => by
  obtain ⟨b, o, e, hb, hc⟩ := h (by rw [zl_len]; omega)
  cases e
  refine ⟨g, s, rfl, hb, fun i hi => ?_⟩
  rw [zl_len, List.length_drop] at hi
  have h2 := hc (s + i) (by rw [zl_len]; omega)
  rw [Nat.zero_add] at h2
  rw [h2]
  simp [zl]
set_option maxRecDepth 100000 in
set_option maxHeartbeats 4000000 in
theorem law_walks (A : Option Addr) (c : Nat) (l : List PtV) (B : Option Addr) (d : Nat) (zs : List Int) (w : World) (hf : FlArg w A c l) (hu : U8Arg w B zs) :
    Calls Try.prog 8 #[.agg #[.slice A l.length c], .slice B zs.length d] w fun e W => e = .returned (.bool true) ∧ Below w.heap.size w W := by
  have HF := Lib.hid hf
  have HU := Lib.hid hu
  have HB1 := Lib.hid ((Below.refl w.heap.size w).alloc (Nat.le_refl _) (.cells #[.slice A l.length c] 24))
  have HFB := Lib.hid (show FBx (w.alloc (.cells #[.slice A l.length c] 24)) w.heap.size A c l from heap_alloc_new w _)
  clear hf hu
  go_enter Try.func8, Try.ntmps8
  go_wp2_with (fail)
  generalize (w.alloc (.cells #[.slice A l.length c] 24)) = w1 at *
  refine (awake_any w1).mono ?_
  rintro e w2 ⟨rfl, hb⟩
  have HB2 := Lib.hid (HB1.out.trans (hb.mono HB1.out.size))
  have HF2 := Lib.hid (HFB.out.later hb)
  have c0 := HF2.out.cell
  clear hb
  go_wp2_with (fail)
  refine (small_any A c l 30 w2 ⟨(HF.out.row.below HB2.out).mono HB2.out.size, HF.out.len, HF.out.few⟩).mono ?_
  rintro e w3 ⟨rfl, hb⟩
  have HB3 := Lib.hid (HB2.out.trans (hb.mono HB2.out.size))
  have HF3 := Lib.hid (HF2.out.later hb)
  clear hb c0
  cases hsm : smB 30 l with
  | false =>
    clear hsm
    go_wp2_with (fail)
    go_ret
    exact ⟨rfl, HB3.out⟩
  | true =>
    have HS := Lib.hid (smB_sm hsm (by omega))
    have c0 := HF3.out.cell
    clear hsm
    go_wp2_with (fail)
    refine (valid_any A c l w3 HS.out ((HF.out.row.below HB3.out).mono HB3.out.size)).mono ?_
    rintro e w4 ⟨rfl, hb⟩
    have HB4 := Lib.hid (HB3.out.trans (hb.mono HB3.out.size))
    have HF4 := Lib.hid (HF3.out.later hb)
    clear hb c0
    cases hv : validP l with
    | false =>
      clear hv
      go_wp2_with (fail)
      go_ret
      exact ⟨rfl, HB4.out⟩
    | true =>
      have HOK := Lib.hid (HS.out.ok hv)
      have hln := HOK.out.n
      have h2n := HOK.out.two
      clear hv
      by_cases h60 : zs.length ≤ 60
      · have h60i : ¬ (60 : Int) < (zs.length : Int) := by omega
        have hd60 : decide ((60 : Int) < (zs.length : Int)) = false := decide_eq_false h60i
        have HP4 := Lib.hid (show PRow w4.heap.size w4 A l from (HF.out.row.below HB4.out).mono HB4.out.size)
        have HC0 := Lib.hid (show ∀ W, Below w4.heap.size w4 W → W.cell? ⟨w.heap.size, 0, none⟩ = some (.slice A l.length c) from fun W hW => (HF4.out.later hW).cell)
        obtain ⟨dB, hdB⟩ : ∃ dB : Nat → Nat → Bool, ∀ a b, dB a b = true ↔ DomS (edg l) 0 l (a : Int) (b : Int) := by
          classical exact ⟨fun a b => decide (DomS (edg l) 0 l (a : Int) (b : Int)), fun a b => by simp⟩
        obtain ⟨pB, hpB⟩ : ∃ pB : Nat → Nat → Bool, ∀ a b, pB a b = true ↔ DomS (bke l) 1 l (a : Int) (b : Int) := by
          classical exact ⟨fun a b => decide (DomS (bke l) 1 l (a : Int) (b : Int)), fun a b => by simp⟩
        have HDB := Lib.hid hdB
        have HPB := Lib.hid hpB
        have HD1 := Lib.hid (fun W (a b : Nat) (hW : Below w4.heap.size w4 W) => dominates_any A c l a b W HS.out ((HP4.out.below hW).mono hW.size) (dB a b) (hdB a b))
        have HD2 := Lib.hid (fun W (a b : Nat) (hW : Below w4.heap.size w4 W) => postdominates_any A c l a b W HS.out ((HP4.out.below hW).mono hW.size) (pB a b) (hpB a b))
        have hal := (Below.refl w4.heap.size w4).alloc (Nat.le_refl _) (.cells #[.int .i64 0] 3)
        have HA5 := Lib.hid hal
        have HO5 := Lib.hid (show ZOwn (w4.alloc (.cells #[.int .i64 0] 3)) w4.heap.size (.slice (some ⟨w4.heap.size, 0, none⟩) 1 1) (zl [0]) from ⟨rfl, .inr ⟨w4.heap.size, 1, _, rfl, Nat.le_refl _, heap_alloc_new w4 _, by decide, by decide, rfl, rfl⟩⟩)
        clear hdB hpB hal
        go_wp2_with (fail)
        generalize (w4.alloc (.cells #[.int .i64 0] 3)) = w5 at *
        go_loopw [5, 31] (fun v i wr => ∃ (k : Nat) (q : List Nat), i = .int .i64 (k : Int) ∧ k ≤ zs.length ∧ q.length ≤ k + 1 ∧ Hid (ZOwn wr w4.heap.size v (zl q)) ∧ Hid (Wk (edg l) l.length q) ∧ Hid (Below w4.heap.size w4 wr)) (fun _ i _ => zs.length - (intOf i).toNat)
        case atStart => exact ⟨0, [0], rfl, Nat.zero_le _, Nat.le_refl _, HO5, Lib.hid (Wk.one (by omega)), HA5⟩
        case round =>
          obtain ⟨k, q, rfl, hk, hqk, how, hwk, hbw⟩ := hrel
          have hq0 := hwk.out.pos
          obtain ⟨X, cX, rfl, hcX, hXf⟩ := how.out.form
          rw [zl_len] at hcX
          rw [zl_len]
          rw [zl_len] at how
          obtain ⟨m, hm⟩ : ∃ m, q.length = m + 1 := ⟨q.length - 1, by omega⟩
          have HQM := Lib.hid hm
          obtain ⟨g, rfl, hvg, hgB, hgl, hgf, hgc⟩ := hXf (by rw [zl_len]; exact hq0)
          have HGC := Lib.hid hgc
          have HGL := Lib.hid hgl
          clear hXf hvg hgf hgc hgl
          have hml : m < q.length := by omega
          have rr0 := HGC.out m (by rw [zl_len]; exact hml)
          obtain ⟨x, hx⟩ : ∃ x, x = q[m]'hml := ⟨_, rfl⟩
          have r0 : wr.cell? ⟨g, m, none⟩ = some (.int .i64 (x : Int)) := by rw [rr0, hx]; simp [zl]
          clear rr0
          have HX := Lib.hid hx
          have hxn : x < l.length := hx ▸ hwk.out.lt _ (List.getElem_mem hml)
          clear hx hm
          by_cases hlt' : k < zs.length
          · obtain ⟨bb, bo, rfl, hbb, hbc⟩ := HU.out.2.1 (by omega)
            have u0 := (HB4.out.trans (hbw.out.mono HB4.out.size)).cell (p := ⟨bb, bo + k, none⟩) hbb |>.trans (hbc k hlt')
            have hzb := HU.out.2.2 _ (List.getElem_mem hlt')
            obtain ⟨z, hz⟩ : ∃ z : Nat, zs[k] = (z : Int) := ⟨zs[k].toNat, by omega⟩
            rw [hz] at u0 hzb
            have hz255 : z ≤ 255 := by omega
            clear hz hbc hzb
            go_upto_region 9 with (fail)
            have c0 := HC0.out wr hbw.out
            have HPW := Lib.hid ((HP4.out.below hbw.out).mono hbw.out.size)
            obtain ⟨e1, e2⟩ := edg_zl HOK.out.ok hxn
            obtain ⟨pb, po, rfl, hpb, e3, e4, e5, hzr, hc⟩ := HPW.out.at hxn
            rw [e1] at hzr hc e5
            rw [zl_len] at e5 hc
            have HZ := Lib.hid (NRow.of hzr)
            have HE2 := Lib.hid e2
            have HDG := Lib.hid (HOK.out.edg x)
            generalize l[x].A = A2 at *
            generalize l[x].c = c2 at *
            clear e1 e2 e3 e4 hzr
            have hw1 : IntKind.i64.wrap ((q.length : Int) - 1) = (m : Int) := by
              have := HQM.out
              rw [show (q.length : Int) - 1 = (m : Int) from by omega]
              exact IntWalk.i64_in _ (by omega)
            go_quiet (fail)
            have HB6 := Lib.hid (hbw.out.trans ((below_drewN (Below.refl wr.heap.size wr) nq).mono hbw.out.size))
            have HO6 := Lib.hid (show ZOwn (wr.drewN nq) w4.heap.size (.slice (some ⟨g, 0, none⟩) q.length cX) (zl q) from how.out.later (below_drewN (Below.refl wr.heap.size wr) nq))
            have HZ6 := Lib.hid (HZ.out.below (below_drewN (Below.refl wr.heap.size wr) nq))
            generalize wr.drewN nq = w6 at *
            clear hw1 c0 r0 u0 e5
            obtain ⟨ee, hee⟩ : ∃ ee, ee = (edg l x).length := ⟨_, rfl⟩
            have HEE := Lib.hid hee
            by_cases hE : ee = 0
            · have hE1 : ((edg l x).length : Int) = 0 := by omega
              rw [← hee]
              subst hE
              clear hE1 hee
              -- A
              generalize (Value.int .i64 ((x : Nat) : Int)) = vx
              generalize po + x * 3 = px
              have HLA := Lib.hid (show q[q.length - 1]'hwk.out.last = x from by
                rw [HX.out]
                congr 1
                have := HQM.out
                omega)
              clear HX
              by_cases hx1 : x = 1
              · subst hx1
                have HZR := Lib.hid (HO6.out.row.2.2)
                have HGC2 := Lib.hid (show ∀ (s : Nat) (h : s < q.length), w6.cell? ⟨g, s, none⟩ = some (.int .i64 ((q[s] : Nat) : Int)) from fun s h => by
                  obtain ⟨g', o', e, _, k⟩ := HZR.out (by rw [zl_len]; omega)
                  cases e
                  have k2 := k s (by rw [zl_len]; exact h)
                  rw [Nat.zero_add] at k2
                  rw [k2]
                  simp [zl])
                have HGL2 := Lib.hid (show g < w6.heap.size from by
                  obtain ⟨g', o', e, k, _⟩ := HZR.out (by rw [zl_len]; omega)
                  cases e
                  exact k)
                have r2 : w6.cell? ⟨g, q.length - 1, none⟩ = some (.int .i64 1) := by
                  rw [HGC2.out (q.length - 1) (by omega), HLA.out]
                  rfl
                have c0 := HC0.out w6 HB6.out
                go_wp2_with (fail)
                clear r2 c0
                go_loopw [70] (fun i wr => ∃ a : Nat, i = .int .i64 (a : Int) ∧ a ≤ l.length ∧ Hid (Below w6.heap.size w6 wr)) (fun i _ => l.length - (intOf i).toNat)
                case atStart => exact ⟨0, rfl, Nat.zero_le _, Lib.hid (Below.refl _ _)⟩
                case round =>
                  obtain ⟨a, rfl, ha, hbr⟩ := hrel
                  have HBR := Lib.hid (HB6.out.trans (hbr.out.mono HB6.out.size))
                  have c0 := HC0.out _ HBR.out
                  by_cases hal : a < l.length
                  · go_wp2_with (fail)
                    refine (HD1.out _ a 1 HBR.out).mono ?_
                    rintro e wa ⟨rfl, h⟩
                    have HA1 := Lib.hid (hbr.out.trans (h.mono hbr.out.size))
                    clear h c0
                    cases hda : dB a 1 with
                    | true =>
                      have HMQ := Lib.hid (show a ∈ q from hwk.out.dom (by rw [HLA.out]; exact (domS_at HOK.out.ok hxn).1 ((HDB.out a 1).1 hda)))
                      clear hda
                      go_wp2_with (fail)
                      refine (contains_any wa (some ⟨g, 0, none⟩) q.length cX (zl q) (a : Int) (zl_len _).symm ((HZR.out.below HA1.out).mono HA1.out.size) (by rw [zl_len]; omega) (by rw [zl_len]; omega) (List.mem_map.2 ⟨a, HMQ.out, rfl⟩)).mono ?_
                      rintro e wb ⟨rfl, rfl⟩
                      have HCUR := HA1
                      go_wp2_with (fail)
                      go_loopw [87] (fun i wr => ∃ s : Nat, i = .int .i64 (s : Int) ∧ s ≤ q.length ∧ Hid (Below w6.heap.size w6 wr)) (fun i _ => q.length - (intOf i).toNat)
                      case atStart => exact ⟨0, rfl, Nat.zero_le _, HCUR⟩
                      case round =>
                        obtain ⟨s, rfl, hs, hbs⟩ := hrel
                        by_cases hsl : s < q.length
                        · have HBS := Lib.hid (HB6.out.trans (hbs.out.mono HB6.out.size))
                          have r3 := (hbs.out.cell (p := ⟨g, s, none⟩) HGL2.out).trans (HGC2.out s hsl)
                          obtain ⟨b, hb0⟩ : ∃ b, b = q[s] := ⟨_, rfl⟩
                          have HBX := Lib.hid hb0
                          rw [← hb0] at r3
                          have hbn : b < l.length := hb0 ▸ hwk.out.lt _ (List.getElem_mem hsl)
                          have c0 := HC0.out _ HBS.out
                          clear hb0
                          go_wp2_with (fail)
                          refine (HD2.out _ a b HBS.out).mono ?_
                          rintro e wp1 ⟨rfl, h⟩
                          have HP1 := Lib.hid (hbs.out.trans (h.mono hbs.out.size))
                          clear h c0 r3
                          cases hpb : pB a b with
                          | true =>
                            have HMD := Lib.hid (show a ∈ q.drop s from hwk.out.post HOK.out.bmem hsl HLA.out (by
                              have h := (domS_at HOK.out.ok hbn).1 ((HPB.out a b).1 hpb)
                              rw [HBX.out] at h
                              exact h))
                            have hcs : ¬ cX = s := by omega
                            have hcs2 : s ≤ cX := by omega
                            clear hpb
                            go_wp2_with (fail)
                            refine (contains_any wp1 (some ⟨g, s, none⟩) (q.length - s) (cX - s) (zl (q.drop s)) (a : Int) (by rw [zl_len, List.length_drop]) (zrow_drop ((HZR.out.below HP1.out).mono HP1.out.size) hsl) (by rw [zl_len, List.length_drop]; omega) (by rw [zl_len, List.length_drop]; omega) (List.mem_map.2 ⟨a, HMD.out, rfl⟩)).mono ?_
                            rintro e wp2 ⟨rfl, rfl⟩
                            go_wp2_with (fail)
                            exact ⟨⟨s + 1, by go_num, by omega, HP1⟩, by simp [intOf]; omega⟩
                          | false =>
                            clear hpb
                            go_wp2_with (fail)
                            exact ⟨⟨s + 1, by go_num, by omega, HP1⟩, by simp [intOf]; omega⟩
                        · obtain rfl : s = q.length := by omega
                          go_wp2_with (fail)
                          exact ⟨⟨a + 1, by go_num, by omega, hbs⟩, by simp [intOf]; omega⟩
                    | false =>
                      clear hda
                      have HCUR := HA1
                      go_wp2_with (fail)
                      go_loopw [87] (fun i wr => ∃ s : Nat, i = .int .i64 (s : Int) ∧ s ≤ q.length ∧ Hid (Below w6.heap.size w6 wr)) (fun i _ => q.length - (intOf i).toNat)
                      case atStart => exact ⟨0, rfl, Nat.zero_le _, HCUR⟩
                      case round =>
                        obtain ⟨s, rfl, hs, hbs⟩ := hrel
                        by_cases hsl : s < q.length
                        · have HBS := Lib.hid (HB6.out.trans (hbs.out.mono HB6.out.size))
                          have r3 := (hbs.out.cell (p := ⟨g, s, none⟩) HGL2.out).trans (HGC2.out s hsl)
                          obtain ⟨b, hb0⟩ : ∃ b, b = q[s] := ⟨_, rfl⟩
                          have HBX := Lib.hid hb0
                          rw [← hb0] at r3
                          have hbn : b < l.length := hb0 ▸ hwk.out.lt _ (List.getElem_mem hsl)
                          have c0 := HC0.out _ HBS.out
                          clear hb0
                          go_wp2_with (fail)
                          refine (HD2.out _ a b HBS.out).mono ?_
                          rintro e wp1 ⟨rfl, h⟩
                          have HP1 := Lib.hid (hbs.out.trans (h.mono hbs.out.size))
                          clear h c0 r3
                          cases hpb : pB a b with
                          | true =>
                            have HMD := Lib.hid (show a ∈ q.drop s from hwk.out.post HOK.out.bmem hsl HLA.out (by
                              have h := (domS_at HOK.out.ok hbn).1 ((HPB.out a b).1 hpb)
                              rw [HBX.out] at h
                              exact h))
                            have hcs : ¬ cX = s := by omega
                            have hcs2 : s ≤ cX := by omega
                            clear hpb
                            go_wp2_with (fail)
                            refine (contains_any wp1 (some ⟨g, s, none⟩) (q.length - s) (cX - s) (zl (q.drop s)) (a : Int) (by rw [zl_len, List.length_drop]) (zrow_drop ((HZR.out.below HP1.out).mono HP1.out.size) hsl) (by rw [zl_len, List.length_drop]; omega) (by rw [zl_len, List.length_drop]; omega) (List.mem_map.2 ⟨a, HMD.out, rfl⟩)).mono ?_
                            rintro e wp2 ⟨rfl, rfl⟩
                            go_wp2_with (fail)
                            exact ⟨⟨s + 1, by go_num, by omega, HP1⟩, by simp [intOf]; omega⟩
                          | false =>
                            clear hpb
                            go_wp2_with (fail)
                            exact ⟨⟨s + 1, by go_num, by omega, HP1⟩, by simp [intOf]; omega⟩
                        · obtain rfl : s = q.length := by omega
                          go_wp2_with (fail)
                          exact ⟨⟨a + 1, by go_num, by omega, hbs⟩, by simp [intOf]; omega⟩
                  · obtain rfl : a = l.length := by omega
                    go_wp2_with (fail)
                    refine (HD1.out _ 1 1 HBR.out).mono ?_
                    rintro e wa ⟨rfl, h⟩
                    have HA1 := Lib.hid (HB4.out.trans ((HBR.out.trans (h.mono HBR.out.size)).mono HB4.out.size))
                    have HTT := Lib.hid (show dB 1 1 = true from (HDB.out _ _).2 ((domS_at HOK.out.ok hxn).2 ⟨by have h := hwk.out.rea; rw [HLA.out] at h; exact h, fun g => g.last rfl⟩))
                    clear h c0
                    go_wp2_with (fail)
                    go_ret
                    rw [HTT.out]
                    exact ⟨rfl, HA1.out⟩
              · have hx1i : ¬ (x : Int) = 1 := by omega
                have HZR := Lib.hid (HO6.out.row.2.2)
                have HGC2 := Lib.hid (show ∀ (s : Nat) (h : s < q.length), w6.cell? ⟨g, s, none⟩ = some (.int .i64 ((q[s] : Nat) : Int)) from fun s h => by
                  obtain ⟨g', o', e, _, k⟩ := HZR.out (by rw [zl_len]; omega)
                  cases e
                  have k2 := k s (by rw [zl_len]; exact h)
                  rw [Nat.zero_add] at k2
                  rw [k2]
                  simp [zl])
                have HGL2 := Lib.hid (show g < w6.heap.size from by
                  obtain ⟨g', o', e, k, _⟩ := HZR.out (by rw [zl_len]; omega)
                  cases e
                  exact k)
                have r2 : w6.cell? ⟨g, q.length - 1, none⟩ = some (.int .i64 (x : Int)) := by
                  rw [HGC2.out (q.length - 1) (by omega), HLA.out]

                have c0 := HC0.out w6 HB6.out
                go_wp2_with (fail)
                clear r2 c0
                go_loopw [70] (fun i wr => ∃ a : Nat, i = .int .i64 (a : Int) ∧ a ≤ l.length ∧ Hid (Below w6.heap.size w6 wr)) (fun i _ => l.length - (intOf i).toNat)
                case atStart => exact ⟨0, rfl, Nat.zero_le _, Lib.hid (Below.refl _ _)⟩
                case round =>
                  obtain ⟨a, rfl, ha, hbr⟩ := hrel
                  have HBR := Lib.hid (HB6.out.trans (hbr.out.mono HB6.out.size))
                  have c0 := HC0.out _ HBR.out
                  by_cases hal : a < l.length
                  · go_wp2_with (fail)
                    refine (HD1.out _ a x HBR.out).mono ?_
                    rintro e wa ⟨rfl, h⟩
                    have HA1 := Lib.hid (hbr.out.trans (h.mono hbr.out.size))
                    clear h c0
                    cases hda : dB a x with
                    | true =>
                      have HMQ := Lib.hid (show a ∈ q from hwk.out.dom (by rw [HLA.out]; exact (domS_at HOK.out.ok hxn).1 ((HDB.out a x).1 hda)))
                      clear hda
                      go_wp2_with (fail)
                      refine (contains_any wa (some ⟨g, 0, none⟩) q.length cX (zl q) (a : Int) (zl_len _).symm ((HZR.out.below HA1.out).mono HA1.out.size) (by rw [zl_len]; omega) (by rw [zl_len]; omega) (List.mem_map.2 ⟨a, HMQ.out, rfl⟩)).mono ?_
                      rintro e wb ⟨rfl, rfl⟩
                      go_wp2_with (fail)
                      exact ⟨⟨a + 1, by go_num, by omega, HA1⟩, by simp [intOf]; omega⟩
                    | false =>
                      clear hda
                      go_wp2_with (fail)
                      exact ⟨⟨a + 1, by go_num, by omega, HA1⟩, by simp [intOf]; omega⟩
                  · obtain rfl : a = l.length := by omega
                    go_wp2_with (fail)
                    refine (HD1.out _ x x HBR.out).mono ?_
                    rintro e wa ⟨rfl, h⟩
                    have HA1 := Lib.hid (HB4.out.trans ((HBR.out.trans (h.mono HBR.out.size)).mono HB4.out.size))
                    have HTT := Lib.hid (show dB x x = true from (HDB.out _ _).2 ((domS_at HOK.out.ok hxn).2 ⟨by have h := hwk.out.rea; rw [HLA.out] at h; exact h, fun g => g.last rfl⟩))
                    clear h c0
                    go_wp2_with (fail)
                    go_ret
                    rw [HTT.out]
                    exact ⟨rfl, HA1.out⟩
              -- A END
            · have he0 : ¬ (ee : Int) = 0 := by omega
              obtain ⟨tt, htt⟩ : ∃ tt, tt = z % ee := ⟨_, rfl⟩
              have htl : tt < ee := htt ▸ Nat.mod_lt _ (by omega)
              have hrm : (z : Int).tmod (ee : Int) = (tt : Int) := by rw [htt]; exact (Int.ofNat_tmod z ee).symm
              obtain ⟨eb, eo, rfl, heb, hec⟩ := HZ6.out (by omega)
              have hte : tt < (edg l x).length := by omega
              have r1 := hec tt hte
              obtain ⟨y, hy⟩ : ∃ y, y = (edg l x)[tt] := ⟨_, rfl⟩
              have HYE := Lib.hid (show y ∈ edg l x ∧ y < l.length from by rw [hy]; exact ⟨List.getElem_mem hte, (HE2.out _ (List.getElem_mem hte)).2⟩)
              rw [← hy] at r1
              rw [← hee]
              obtain ⟨i0, hi0, hz0, hz1, hz2⟩ := info_parts infoInt
              have hM := HB6.out.size
              clear hee htt hec hy hte
              go_wp2_with (at_builtin; refine wpList_append_own_at _ rfl _ _ 29 rfl w4.heap.size 3 i0 _ 1 8 Try.underlying29 hi0 hz0 hz1 hz2 rfl (by decide) _ q.length (zcells (zl q)) rfl (by have h := HO6.out; unfold ZOwn at h; rw [zl_len] at h; exact h.alloc _) ⟨w6.heap.size, 0, none⟩ 1 1 [.int .i64 (y : Int)] rfl rfl (cell_one_new _ _ _) (by simp [Value.oneCell']) (by unfold maxLen; omega) (by omega) (by simp; omega) ?_; intro v' w7 hown hgr _ _)
              have HOW7 := Lib.hid (show ZOwn w7 w4.heap.size v' (zl (q ++ [y])) from by
                unfold ZOwn
                rw [zl_len, zl_append, zcells_append, List.length_append]
                exact hown)
              have HWK7 := Lib.hid (hwk.out.more (y := y) (by
                have e : q[q.length - 1]'hwk.out.last = x := by
                  rw [HX.out]
                  congr 1
                  have := HQM.out
                  omega
                rw [e]
                exact HYE.out.1) HYE.out.2)
              have HB7 := Lib.hid ((HB6.out.alloc hM _).grown hgr (by simp; omega) (fun b e => by cases e; exact hgB))
              exact ⟨⟨k + 1, q ++ [y], by go_num, by omega, by simp; omega, HOW7, HWK7, HB7⟩, by simp [intOf]; omega⟩
          · obtain rfl : k = zs.length := by omega
            -- B
            generalize wr = wo at *
            have HLA := Lib.hid (show q[q.length - 1]'hwk.out.last = x from by
              rw [HX.out]
              congr 1
              have := HQM.out
              omega)
            clear HX
            by_cases hx1 : x = 1
            · subst hx1
              have HZR := Lib.hid (how.out.row.2.2)
              have HGC2 := Lib.hid (show ∀ (s : Nat) (h : s < q.length), wo.cell? ⟨g, s, none⟩ = some (.int .i64 ((q[s] : Nat) : Int)) from fun s h => by
                obtain ⟨g', o', e, _, k⟩ := HZR.out (by rw [zl_len]; omega)
                cases e
                have k2 := k s (by rw [zl_len]; exact h)
                rw [Nat.zero_add] at k2
                rw [k2]
                simp [zl])
              have HGL2 := Lib.hid (show g < wo.heap.size from by
                obtain ⟨g', o', e, k, _⟩ := HZR.out (by rw [zl_len]; omega)
                cases e
                exact k)
              have r2 : wo.cell? ⟨g, q.length - 1, none⟩ = some (.int .i64 1) := by
                rw [HGC2.out (q.length - 1) (by omega), HLA.out]
                rfl
              have c0 := HC0.out wo hbw.out
              go_wp2_with (fail)
              clear r2 c0
              go_loopw [70] (fun i wr => ∃ a : Nat, i = .int .i64 (a : Int) ∧ a ≤ l.length ∧ Hid (Below wo.heap.size wo wr)) (fun i _ => l.length - (intOf i).toNat)
              case atStart => exact ⟨0, rfl, Nat.zero_le _, Lib.hid (Below.refl _ _)⟩
              case round =>
                obtain ⟨a, rfl, ha, hbr⟩ := hrel
                have HBR := Lib.hid (hbw.out.trans (hbr.out.mono hbw.out.size))
                have c0 := HC0.out _ HBR.out
                by_cases hal : a < l.length
                · go_wp2_with (fail)
                  refine (HD1.out _ a 1 HBR.out).mono ?_
                  rintro e wa ⟨rfl, h⟩
                  have HA1 := Lib.hid (hbr.out.trans (h.mono hbr.out.size))
                  clear h c0
                  cases hda : dB a 1 with
                  | true =>
                    have HMQ := Lib.hid (show a ∈ q from hwk.out.dom (by rw [HLA.out]; exact (domS_at HOK.out.ok hxn).1 ((HDB.out a 1).1 hda)))
                    clear hda
                    go_wp2_with (fail)
                    refine (contains_any wa (some ⟨g, 0, none⟩) q.length cX (zl q) (a : Int) (zl_len _).symm ((HZR.out.below HA1.out).mono HA1.out.size) (by rw [zl_len]; omega) (by rw [zl_len]; omega) (List.mem_map.2 ⟨a, HMQ.out, rfl⟩)).mono ?_
                    rintro e wb ⟨rfl, rfl⟩
                    have HCUR := HA1
                    go_wp2_with (fail)
                    go_loopw [87] (fun i wr => ∃ s : Nat, i = .int .i64 (s : Int) ∧ s ≤ q.length ∧ Hid (Below wo.heap.size wo wr)) (fun i _ => q.length - (intOf i).toNat)
                    case atStart => exact ⟨0, rfl, Nat.zero_le _, HCUR⟩
                    case round =>
                      obtain ⟨s, rfl, hs, hbs⟩ := hrel
                      by_cases hsl : s < q.length
                      · have HBS := Lib.hid (hbw.out.trans (hbs.out.mono hbw.out.size))
                        have r3 := (hbs.out.cell (p := ⟨g, s, none⟩) HGL2.out).trans (HGC2.out s hsl)
                        obtain ⟨b, hb0⟩ : ∃ b, b = q[s] := ⟨_, rfl⟩
                        have HBX := Lib.hid hb0
                        rw [← hb0] at r3
                        have hbn : b < l.length := hb0 ▸ hwk.out.lt _ (List.getElem_mem hsl)
                        have c0 := HC0.out _ HBS.out
                        clear hb0
                        go_wp2_with (fail)
                        refine (HD2.out _ a b HBS.out).mono ?_
                        rintro e wp1 ⟨rfl, h⟩
                        have HP1 := Lib.hid (hbs.out.trans (h.mono hbs.out.size))
                        clear h c0 r3
                        cases hpb : pB a b with
                        | true =>
                          have HMD := Lib.hid (show a ∈ q.drop s from hwk.out.post HOK.out.bmem hsl HLA.out (by
                            have h := (domS_at HOK.out.ok hbn).1 ((HPB.out a b).1 hpb)
                            rw [HBX.out] at h
                            exact h))
                          have hcs : ¬ cX = s := by omega
                          have hcs2 : s ≤ cX := by omega
                          clear hpb
                          go_wp2_with (fail)
                          refine (contains_any wp1 (some ⟨g, s, none⟩) (q.length - s) (cX - s) (zl (q.drop s)) (a : Int) (by rw [zl_len, List.length_drop]) (zrow_drop ((HZR.out.below HP1.out).mono HP1.out.size) hsl) (by rw [zl_len, List.length_drop]; omega) (by rw [zl_len, List.length_drop]; omega) (List.mem_map.2 ⟨a, HMD.out, rfl⟩)).mono ?_
                          rintro e wp2 ⟨rfl, rfl⟩
                          go_wp2_with (fail)
                          exact ⟨⟨s + 1, by go_num, by omega, HP1⟩, by simp [intOf]; omega⟩
                        | false =>
                          clear hpb
                          go_wp2_with (fail)
                          exact ⟨⟨s + 1, by go_num, by omega, HP1⟩, by simp [intOf]; omega⟩
                      · obtain rfl : s = q.length := by omega
                        go_wp2_with (fail)
                        exact ⟨⟨a + 1, by go_num, by omega, hbs⟩, by simp [intOf]; omega⟩
                  | false =>
                    clear hda
                    have HCUR := HA1
                    go_wp2_with (fail)
                    go_loopw [87] (fun i wr => ∃ s : Nat, i = .int .i64 (s : Int) ∧ s ≤ q.length ∧ Hid (Below wo.heap.size wo wr)) (fun i _ => q.length - (intOf i).toNat)
                    case atStart => exact ⟨0, rfl, Nat.zero_le _, HCUR⟩
                    case round =>
                      obtain ⟨s, rfl, hs, hbs⟩ := hrel
                      by_cases hsl : s < q.length
                      · have HBS := Lib.hid (hbw.out.trans (hbs.out.mono hbw.out.size))
                        have r3 := (hbs.out.cell (p := ⟨g, s, none⟩) HGL2.out).trans (HGC2.out s hsl)
                        obtain ⟨b, hb0⟩ : ∃ b, b = q[s] := ⟨_, rfl⟩
                        have HBX := Lib.hid hb0
                        rw [← hb0] at r3
                        have hbn : b < l.length := hb0 ▸ hwk.out.lt _ (List.getElem_mem hsl)
                        have c0 := HC0.out _ HBS.out
                        clear hb0
                        go_wp2_with (fail)
                        refine (HD2.out _ a b HBS.out).mono ?_
                        rintro e wp1 ⟨rfl, h⟩
                        have HP1 := Lib.hid (hbs.out.trans (h.mono hbs.out.size))
                        clear h c0 r3
                        cases hpb : pB a b with
                        | true =>
                          have HMD := Lib.hid (show a ∈ q.drop s from hwk.out.post HOK.out.bmem hsl HLA.out (by
                            have h := (domS_at HOK.out.ok hbn).1 ((HPB.out a b).1 hpb)
                            rw [HBX.out] at h
                            exact h))
                          have hcs : ¬ cX = s := by omega
                          have hcs2 : s ≤ cX := by omega
                          clear hpb
                          go_wp2_with (fail)
                          refine (contains_any wp1 (some ⟨g, s, none⟩) (q.length - s) (cX - s) (zl (q.drop s)) (a : Int) (by rw [zl_len, List.length_drop]) (zrow_drop ((HZR.out.below HP1.out).mono HP1.out.size) hsl) (by rw [zl_len, List.length_drop]; omega) (by rw [zl_len, List.length_drop]; omega) (List.mem_map.2 ⟨a, HMD.out, rfl⟩)).mono ?_
                          rintro e wp2 ⟨rfl, rfl⟩
                          go_wp2_with (fail)
                          exact ⟨⟨s + 1, by go_num, by omega, HP1⟩, by simp [intOf]; omega⟩
                        | false =>
                          clear hpb
                          go_wp2_with (fail)
                          exact ⟨⟨s + 1, by go_num, by omega, HP1⟩, by simp [intOf]; omega⟩
                      · obtain rfl : s = q.length := by omega
                        go_wp2_with (fail)
                        exact ⟨⟨a + 1, by go_num, by omega, hbs⟩, by simp [intOf]; omega⟩
                · obtain rfl : a = l.length := by omega
                  go_wp2_with (fail)
                  refine (HD1.out _ 1 1 HBR.out).mono ?_
                  rintro e wa ⟨rfl, h⟩
                  have HA1 := Lib.hid (HB4.out.trans ((HBR.out.trans (h.mono HBR.out.size)).mono HB4.out.size))
                  have HTT := Lib.hid (show dB 1 1 = true from (HDB.out _ _).2 ((domS_at HOK.out.ok hxn).2 ⟨by have h := hwk.out.rea; rw [HLA.out] at h; exact h, fun g => g.last rfl⟩))
                  clear h c0
                  go_wp2_with (fail)
                  go_ret
                  rw [HTT.out]
                  exact ⟨rfl, HA1.out⟩
            · have hx1i : ¬ (x : Int) = 1 := by omega
              have HZR := Lib.hid (how.out.row.2.2)
              have HGC2 := Lib.hid (show ∀ (s : Nat) (h : s < q.length), wo.cell? ⟨g, s, none⟩ = some (.int .i64 ((q[s] : Nat) : Int)) from fun s h => by
                obtain ⟨g', o', e, _, k⟩ := HZR.out (by rw [zl_len]; omega)
                cases e
                have k2 := k s (by rw [zl_len]; exact h)
                rw [Nat.zero_add] at k2
                rw [k2]
                simp [zl])
              have HGL2 := Lib.hid (show g < wo.heap.size from by
                obtain ⟨g', o', e, k, _⟩ := HZR.out (by rw [zl_len]; omega)
                cases e
                exact k)
              have r2 : wo.cell? ⟨g, q.length - 1, none⟩ = some (.int .i64 (x : Int)) := by
                rw [HGC2.out (q.length - 1) (by omega), HLA.out]

              have c0 := HC0.out wo hbw.out
              go_wp2_with (fail)
              clear r2 c0
              go_loopw [70] (fun i wr => ∃ a : Nat, i = .int .i64 (a : Int) ∧ a ≤ l.length ∧ Hid (Below wo.heap.size wo wr)) (fun i _ => l.length - (intOf i).toNat)
              case atStart => exact ⟨0, rfl, Nat.zero_le _, Lib.hid (Below.refl _ _)⟩
              case round =>
                obtain ⟨a, rfl, ha, hbr⟩ := hrel
                have HBR := Lib.hid (hbw.out.trans (hbr.out.mono hbw.out.size))
                have c0 := HC0.out _ HBR.out
                by_cases hal : a < l.length
                · go_wp2_with (fail)
                  refine (HD1.out _ a x HBR.out).mono ?_
                  rintro e wa ⟨rfl, h⟩
                  have HA1 := Lib.hid (hbr.out.trans (h.mono hbr.out.size))
                  clear h c0
                  cases hda : dB a x with
                  | true =>
                    have HMQ := Lib.hid (show a ∈ q from hwk.out.dom (by rw [HLA.out]; exact (domS_at HOK.out.ok hxn).1 ((HDB.out a x).1 hda)))
                    clear hda
                    go_wp2_with (fail)
                    refine (contains_any wa (some ⟨g, 0, none⟩) q.length cX (zl q) (a : Int) (zl_len _).symm ((HZR.out.below HA1.out).mono HA1.out.size) (by rw [zl_len]; omega) (by rw [zl_len]; omega) (List.mem_map.2 ⟨a, HMQ.out, rfl⟩)).mono ?_
                    rintro e wb ⟨rfl, rfl⟩
                    go_wp2_with (fail)
                    exact ⟨⟨a + 1, by go_num, by omega, HA1⟩, by simp [intOf]; omega⟩
                  | false =>
                    clear hda
                    go_wp2_with (fail)
                    exact ⟨⟨a + 1, by go_num, by omega, HA1⟩, by simp [intOf]; omega⟩
                · obtain rfl : a = l.length := by omega
                  go_wp2_with (fail)
                  refine (HD1.out _ x x HBR.out).mono ?_
                  rintro e wa ⟨rfl, h⟩
                  have HA1 := Lib.hid (HB4.out.trans ((HBR.out.trans (h.mono HBR.out.size)).mono HB4.out.size))
                  have HTT := Lib.hid (show dB x x = true from (HDB.out _ _).2 ((domS_at HOK.out.ok hxn).2 ⟨by have h := hwk.out.rea; rw [HLA.out] at h; exact h, fun g => g.last rfl⟩))
                  clear h c0
                  go_wp2_with (fail)
                  go_ret
                  rw [HTT.out]
                  exact ⟨rfl, HA1.out⟩
            -- B END
      · have h60i : (60 : Int) < (zs.length : Int) := by omega
        clear h60
        go_wp2_with (fail)
        go_ret
        exact ⟨rfl, HB4.out⟩
end Go.Proofs.Ytncamhbjndkihaa
