/- What is proved: the law BitvecSupport, over the example's contract. -/
import Derived.Test.YtlnpgcdgpahdmaaDoorBvBuild
import Derived.Test.YtlnpgcdgpahdmaaDoorBvOpen
import Derived.Test.YtlnpgcdgpahdmaaDoorBvSup
import Derived.Test.YtlnpgcdgpahdmaaDoorBvCln
import Derived.Test.YtlnpgcdgpahdmaaDoorBvWrLaw
set_option linter.unusedVariables false
namespace Go.Proofs.YtlnpgcdgpahdmaaDoor
open Go.RowKit Go.Maps

set_option maxRecDepth 100000 in
set_option maxHeartbeats 4000000 in
theorem support_big (W : Int) (A : Option Addr) (c n : Nat) (VI VO : Value) (w : World) (ht : TabS w) (h : 40 < n) (hn : n ≤ 9223372036854775807) : Calls Tryd.prog 9 #[.int .i64 W, .slice A n c, VI, VO] w (VYes w) := by
  have HA := Lib.hid (awake_any w ht)
  have d : decide (40 < (n : Int)) = true := by simp; omega
  clear ht h hn
  go_enter Tryd.func9, Tryd.ntmps9
  go_wp2_with (fail)
  refine HA.out.mono ?_
  rintro e w1 ⟨rfl, hb1⟩
  have HB1 := Lib.hid hb1
  clear hb1
  go_wp2_with (fail)
  go_ret
  exact ⟨rfl, HB1.out⟩
set_option maxRecDepth 100000 in
set_option maxHeartbeats 4000000 in
theorem support_out (W : Int) (A : Option Addr) (c n : Nat) (VI VO : Value) (w : World) (ht : TabS w) (hn : n ≤ 40) (h : W < 2 ∨ 8 < W) : Calls Tryd.prog 9 #[.int .i64 W, .slice A n c, VI, VO] w (VYes w) := by
  have HA := Lib.hid (awake_any w ht)
  have d : decide (40 < (n : Int)) = false := by simp; omega
  have HIW := Lib.hid (fun w => r_isWidth_any W w)
  rw [wok_no h] at HIW
  clear ht h hn
  go_enter Tryd.func9, Tryd.ntmps9
  go_wp2_with (fail)
  refine HA.out.mono ?_
  rintro e w1 ⟨rfl, hb1⟩
  have HB1 := Lib.hid hb1
  clear hb1
  go_wp2_with (fail)
  refine (HIW.out _).mono ?_
  rintro e wx ⟨rfl, hx⟩
  obtain rfl := hx.symm
  go_wp2_with (fail)
  go_ret
  exact ⟨rfl, HB1.out⟩
theorem srt_01 : ∀ o, o < 18 → srt o = 0 ∨ srt o = 1 := by decide +kernel
theorem pad_end (m : List Int) (n q : Nat) (h : m.length + q ≤ max m.length (n + 1)) (h2 : ¬ m.length + q ≤ n) : q = n + 1 - m.length := by omega
def slnV : Value → Nat
  | .slice _ n _ => n
  | _ => 0
set_option maxRecDepth 100000 in
set_option maxHeartbeats 8000000 in
theorem support_in (W : Int) (A Ai Ao : Option Addr) (c ci co : Nat) (ns : List Tm) (inp oth : List Int) (w : World) (ht : TabS w) (hr : TRow w A ns) (hok : ∀ x ∈ ns, TmOk x) (hn : ns.length ≤ 40) (h : ¬ (W < 2 ∨ 8 < W)) (hzi : ZRow w.heap.size w Ai inp) (hzo : ZRow w.heap.size w Ao oth) (ho : oth.length * 8 ≤ 140737488351232) :
    Calls Tryd.prog 9 #[.int .i64 W, .slice A ns.length c, .slice Ai inp.length ci, .slice Ao oth.length co] w (VYes w) := by
  have HA := Lib.hid (awake_any w ht)
  have d : decide (40 < (ns.length : Int)) = false := by simp; omega
  have HIW := Lib.hid (fun w => r_isWidth_any W w)
  rw [wok_yes h] at HIW
  have HT := Lib.hid ht
  have HWW := Lib.hid h
  have HZI := Lib.hid hzi
  have HZO := Lib.hid hzo
  have HO := Lib.hid ho
  have HW64 := Lib.hid (show IntKind.i64.wrap W = W from w64 (by omega))
  have hlen := (bld_ok W ns ns.length (Nat.le_refl _)).2
  rw [List.take_length] at hlen
  have HBU := Lib.hid (fun w1 (hb : Below w.heap.size w w1) => build_any W A c ns w1 (ht.later hb) h (hr.later hb) hok (by omega))
  clear ht h hr hok hzi hzo ho
  generalize bldL W ns = T at *
  go_enter Tryd.func9, Tryd.ntmps9
  go_wp2_with (fail)
  refine HA.out.mono ?_
  rintro e w1 ⟨rfl, hb1⟩
  have HB1 := Lib.hid hb1
  clear hb1
  go_wp2_with (fail)
  refine (HIW.out _).mono ?_
  rintro e wx ⟨rfl, hx⟩
  obtain rfl := hx.symm
  go_wp2_with (fail)
  refine (HBU.out _ HB1.out).mono ?_
  rintro e w2 ⟨tb, mb, rv, rfl, htb, hb2⟩
  have HB2 := Lib.hid (HB1.out.trans (hb2.mono HB1.out.size))
  have HTB := Lib.hid htb
  have HL := Lib.hid (len_any htb)
  clear hb2 htb
  go_wp2_with (fail)
  refine HL.out.mono ?_
  rintro e wx ⟨rfl, hx⟩
  obtain rfl := hx.symm
  have HBR := Lib.hid (Below.refl w2.heap.size w2)
  go_wp2_with (fail)
  go_loopw [36] (fun jv wr => ∃ (k : Nat), k ≤ T.length ∧ jv = .int .i64 (k : Int) ∧ Hid (Below w2.heap.size w2 wr)) (fun jv _ => T.length - (intOf jv).toNat)
  case atStart => exact ⟨0, Nat.zero_le _, rfl, HBR⟩
  case round =>
    obtain ⟨k, hk, rfl, hbw⟩ := hrel
    have HTW := Lib.hid (HTB.out.later hbw.out)
    have HB3 := Lib.hid (HB2.out.trans (hbw.out.mono HB2.out.size))
    by_cases hlt : k < T.length
    · have HEV := Lib.hid (eval_any (k : Int) Ai ci inp HTW.out (HT.out.later HB3.out) HWW.out (HZI.out.later HB3.out))
      have hfew := HTB.out.few
      generalize hev : evP W T (k : Int) inp = pr at HEV
      obtain ⟨v, er⟩ := pr
      dsimp only at HEV
      by_cases her : er = 0
      · subst her
        have HSE := Lib.hid (sup_ev HTB.out.tb hlt hev oth)
        have HSL := Lib.hid (sup_lt HTB.out.tb hlt hev)
        have HSR := Lib.hid (sup_rng HWW.out HTB.out.tb hlt hev)
        have HN24 := Lib.hid (inpN_lt T (k : Int))
        have HNL := Lib.hid (inpN_len T (k : Int))
        have hnb := nodeB_in hlt
        have HSV := Lib.hid (show sortV T (k : Int) = srt T[k].o by unfold sortV; rw [if_pos hnb.1, hnb.2])
        have HNB := Lib.hid hnb.1
        have HS01 := Lib.hid (srt_01 T[k].o (o_lt (HTB.out.tb.node hlt).1 (HTB.out.tb.node hlt).2.1).1)
        clear hnb hev
        generalize srt T[k].o = s at *
        go_wp2_with (fail)
        refine HEV.out.mono ?_
        rintro e w3 ⟨rfl, hb3⟩
        have HW3 := Lib.hid (hbw.out.trans (hb3.mono hbw.out.size))
        have HIN := Lib.hid (inputs_any (k : Int) (HTB.out.later HW3.out) (HT.out.later (HB2.out.trans (HW3.out.mono HB2.out.size))))
        clear hb3
        generalize hN : inpN T (k : Int) = N at *
        clear hN
        go_wp2_with (fail)
        refine HIN.out.mono ?_
        rintro e w4 ⟨NA, nc, rfl, hzn, hb4⟩
        have HW4 := Lib.hid (HW3.out.trans (hb4.mono HW3.out.size))
        have HCL := Lib.hid (clone_any Ao co oth w4 (by have := HO.out; omega) (HZO.out.later (HB2.out.trans (HW4.out.mono HB2.out.size))))
        have HZN := Lib.hid (show ∀ (j : Nat) (hj : j < N.length), ∃ nbk, NA = some ⟨nbk, 0, none⟩ ∧ nbk < w4.heap.size ∧ w4.cell? ⟨nbk, j, none⟩ = some (.int .i64 ((N[j] : Nat) : Int)) from fun j hj => by
          obtain ⟨A', c', e', _, hform⟩ := hzn.form
          rw [zl_len] at e'
          cases e'
          obtain ⟨b, hA, _, _, hlt2, _, hc⟩ := hform (by rw [zl_len]; omega)
          exact ⟨b, hA, hlt2, by rw [hc j (by rw [zl_len]; exact hj), zl_get]⟩)
        clear hb4 hzn
        go_wp2_with (fail)
        refine HCL.out.mono ?_
        rintro e w5 ⟨v5, rfl, hz5, hb5⟩
        obtain ⟨cb, HCB⟩ : ∃ cb, Hid (cb = w4.heap.size) := ⟨_, Lib.hid rfl⟩
        have HZ5 := Lib.hid (show ZOwn w5 cb v5 (mixL inp oth (N.take 0)) by rw [HCB.out]; exact hz5)
        have HC5 := Lib.hid (show Below cb w4 w5 by rw [HCB.out]; exact hb5)
        clear hz5 hb5 HCL HIN HEV
        have hNL := HNL.out
        go_wp2_with (fail)
        go_loopw [14, 55] (fun mv jv wr2 => ∃ (j : Nat), j ≤ N.length ∧ jv = .int .i64 (j : Int) ∧ Hid (ZOwn wr2 cb mv (mixL inp oth (N.take j))) ∧ Hid (Below cb w4 wr2)) (fun _ jv _ => N.length - (intOf jv).toNat)
        case atStart => exact ⟨0, Nat.zero_le _, rfl, HZ5, HC5⟩
        case round => as_aux_lemma =>
          obtain ⟨j, hj, rfl, hzm, hbm⟩ := hrel
          have HBM := Lib.hid (show Below w4.heap.size w4 wr by rw [← HCB.out]; exact hbm.out)
          have HWM := Lib.hid (HW4.out.trans (HBM.out.mono HW4.out.size))
          have HWW0 := Lib.hid (HB2.out.trans (HWM.out.mono HB2.out.size))
          have HZM := Lib.hid hzm.out
          have HCM := Lib.hid hbm.out
          obtain ⟨Am, cm, hmv, _, _⟩ := hzm.out.form
          clear hbm hzm
          by_cases hlt2 : j < N.length
          · obtain ⟨nbk, hA, hnb, hnc⟩ := HZN.out j hlt2
            have q1 := (HBM.out.cell (p := ⟨nbk, j, none⟩) hnb).trans hnc
            have hin := HSL.out _ (List.getElem_mem hlt2)
            have hn24 := HN24.out _ (List.getElem_mem hlt2)
            have HMX := Lib.hid (mix_snoc inp oth N j hlt2)
            have hml := mix_len inp oth N HN24.out j (by omega)
            have ho := HO.out
            generalize N[j] = n at *
            generalize mixL inp oth (N.take j) = m at *
            subst hmv
            subst hA
            have d62 : decide ((inp.length : Int) ≤ (n : Int)) = false := by simp; omega
            clear hnc
            go_wp2_with (fail)
            go_loopw [14] (fun v wr3 => ∃ (q : Nat), Hid (m.length + q ≤ max m.length (n + 1)) ∧ Hid (ZOwn wr3 cb v (m ++ List.replicate q 6144)) ∧ Hid (Below cb w4 wr3)) (fun v _ => n + 1 - slnV v)
            case atStart => exact ⟨0, Lib.hid (by omega), Lib.hid (by simpa using HZM.out), HCM⟩
            case round =>
              obtain ⟨q, hq, hzq, hbq⟩ := hrel
              have HBQ := Lib.hid (show Below w4.heap.size w4 wr by rw [← HCB.out]; exact hbq.out)
              have HCS := Lib.hid (show cb ≤ wr.heap.size by rw [HCB.out]; exact HBQ.out.size)
              obtain ⟨Aq, cq, hv, _, hform⟩ := hzq.out.form
              have hlq : (m ++ List.replicate q (6144 : Int)).length = m.length + q := by simp
              rw [hlq] at hv
              subst hv
              have hq1 := hq.out
              by_cases hle : m.length + q ≤ n
              · have dl : decide (((m.length + q : Nat) : Int) ≤ (n : Int)) = true := by simp; omega
                have dl2 : decide ((m.length : Int) + (q : Int) ≤ (n : Int)) = true := by simp; omega
                obtain ⟨i0, hi0, hz0, hz1, hz2⟩ := info_parts infoInt
                have HOK := Lib.hid (show ∀ b, Value.ownBlock (.slice Aq (m.length + q) cq) = some b → cb ≤ b from fun b e => (own_block' hzq.out e).1)
                have HOA := Lib.hid (show (wr.alloc (.cells #[.int .i64 6144] 3)).ownsRow cb 3 1 (.slice Aq (m.length + q) cq) (m.length + q) (zcells (m ++ List.replicate q 6144)) by have := hzq.out; unfold ZOwn at this; rw [hlq] at this; exact World.ownsRow.alloc this _)
                have HNB2 := Lib.hid (show ∀ (j : Nat) (u : Value), ([.int .i64 6144] : List Value)[j]? = some u → (wr.alloc (.cells #[.int .i64 6144] 3)).cell? ((⟨wr.heap.size, 0, none⟩ : Addr).add j) = some u from World.news_of_block (cs := #[.int .i64 6144]) (heap_alloc_new wr _))
                clear hform
                go_wp2_with (at_builtin; refine wpList_append_own _ rfl _ _ 45 rfl cb 3 i0 _ 1 8 Tryd.underlying45 hi0 hz0 hz1 hz2 rfl (by decide) _ _ _ rfl HOA.out ⟨wr.heap.size, 0, none⟩ 1 1 [.int .i64 6144] rfl rfl HNB2.out ?c2 ?c3 ?c4 ?c5 ?_)
                case c2 => intro u hu; simp at hu; subst hu; rfl
                case c3 => unfold maxLen; omega
                case c4 => omega
                case c5 => have := HCS.out; simp; omega
                intro v' w7 hown' hgrow _
                have hl7 : (m ++ List.replicate (q + 1) (6144 : Int)).length = m.length + q + 1 := by simp; omega
                have HZ7 := Lib.hid (show ZOwn w7 cb v' (m ++ List.replicate (q + 1) 6144) by
                  unfold ZOwn
                  rw [hl7, List.replicate_succ', ← List.append_assoc, zcells_append]
                  exact hown')
                have HB7 := Lib.hid (hbq.out.trans (((Below.refl wr.heap.size wr).alloc (Nat.le_refl _) (.cells #[.int .i64 6144] 3)).mono HCS.out) |>.grown hgrow (by have := HCS.out; simp; omega) (fun b e => HOK.out b e))
                obtain ⟨A7, c7, hv7, _, _⟩ := HZ7.out.form
                rw [hl7] at hv7
                clear hown' hgrow
                subst hv7
                go_wp2_with (fail)
                go_simp
                exact ⟨⟨q + 1, Lib.hid (by omega), HZ7⟩, by simp [slnV]; omega⟩
              · have hqe := pad_end m n q hq1 hle
                have dl : decide (((m.length + q : Nat) : Int) ≤ (n : Int)) = false := by simp; omega
                have dl2 : decide ((m.length : Int) + (q : Int) ≤ (n : Int)) = false := by simp; omega
                have HBW := Lib.hid (HB2.out.trans ((HW4.out.trans (HBQ.out.mono HW4.out.size)).mono HB2.out.size))
                obtain ⟨ib, io, hAi, _, hic⟩ := (HZI.out.later HBW.out) (by omega)
                have qi := hic n hin
                obtain ⟨g, hg, _, hgB, _, hgf, hgc⟩ := hform (by rw [hlq]; omega)
                have gf := hgf n
                have gc := hgc n (by rw [hlq]; omega)
                have HZ8 := Lib.hid (show ZOwn (wr.setCell ⟨g, n, none⟩ (.int .i64 inp[n])) cb (.slice (some ⟨g, 0, none⟩) (m.length + q) cq) (mixL inp oth (N.take (j + 1))) by
                  have h1 := hzq.out
                  rw [hg] at h1
                  have h2 := ZOwn.put hlq.symm h1 (i := n) inp[n]
                  rw [HMX.out]
                  unfold mixS
                  rw [← hqe, show inp.getD n 0 = inp[n] by simp [List.getD_eq_getElem?_getD, hin]]
                  exact h2)
                have HB8 := Lib.hid (hbq.out.setCell (p := ⟨g, n, none⟩) hgB (.int .i64 inp[n]))
                subst hg
                subst hAi
                generalize inp[n] = xv at *
                generalize (m ++ List.replicate q (6144 : Int))[n]'(by rw [hlq]; omega) = yv at *
                have hnl : ¬ m.length + q ≤ n := hle
                have hnl2 : ¬ inp.length ≤ n := by omega
                clear hic hgc hgf hform
                go_wp2_with (fail)
                exact ⟨⟨j + 1, by omega, by go_num, HZ8, HB8⟩, by simp [intOf]; omega⟩
          · obtain rfl : j = N.length := by omega
            rw [List.take_length] at HZM hmv
            generalize mixL inp oth N = M at *
            subst hmv
            have HTM := Lib.hid (HTB.out.later HWM.out)
            have HE2 := Lib.hid (eval_any (k : Int) Am cm M HTM.out (HT.out.later HWW0.out) HWW.out (ZOwn.row HZM.out).2.2)
            rw [HSE.out] at HE2
            go_wp2_with (fail)
            refine HE2.out.mono ?_
            rintro e w6 ⟨rfl, hb6⟩
            have HW6 := Lib.hid (HWM.out.trans (hb6.mono HWM.out.size))
            have HSO := Lib.hid (sort_any (k : Int) (HTB.out.later HW6.out) (HT.out.later (HB2.out.trans (HW6.out.mono HB2.out.size))))
            rw [HSV.out, HNB.out] at HSO
            clear hb6
            go_wp2_with (fail)
            refine HSO.out.mono ?_
            rintro e w7 ⟨rfl, hb7⟩
            have HW7 := Lib.hid (HW6.out.trans (hb7.mono HW6.out.size))
            have HWR := Lib.hid (fun w => wrap_any W v HW64.out w)
            clear hb7
            rcases HS01.out with hs | hs
            · subst hs
              have hr := HSR.out
              unfold rng at hr
              rw [if_pos rfl] at hr
              rw [hr] at HWR
              clear hr
              go_wp2_with (fail)
              refine (HWR.out _).mono ?_
              rintro e wx ⟨rfl, hx⟩
              obtain rfl := hx.symm
              go_wp2_with (fail)
              exact ⟨⟨k + 1, by omega, by go_num, HW7⟩, by simp [intOf]; omega⟩
            · subst hs
              have hr := HSR.out
              unfold rng at hr
              rw [if_neg (by decide)] at hr
              rcases hr with hr | hr
              · subst hr
                go_wp2_with (fail)
                exact ⟨⟨k + 1, by omega, by go_num, HW7⟩, by simp [intOf]; omega⟩
              · subst hr
                go_wp2_with (fail)
                exact ⟨⟨k + 1, by omega, by go_num, HW7⟩, by simp [intOf]; omega⟩
      · have her0 : (er == 0) = false := by simpa using her
        clear hev
        go_wp2_with (fail)
        refine HEV.out.mono ?_
        rintro e w3 ⟨rfl, hb3⟩
        have HW3 := Lib.hid (hbw.out.trans (hb3.mono hbw.out.size))
        clear hb3
        go_wp2_with (fail)
        exact ⟨⟨k + 1, by omega, by go_num, HW3⟩, by simp [intOf]; omega⟩
    · obtain rfl : k = T.length := by omega
      go_wp2_with (fail)
      go_ret
      exact ⟨rfl, HB3.out⟩
theorem law_support (W : Int) (A Ai Ao : Option Addr) (c ci co : Nat) (ns : List Tm) (inp oth : List Int) (w : World) (ht : TabS w) (ha : TOpn w A ns) (hi : ZRow w.heap.size w Ai inp) (hz : ZRow w.heap.size w Ao oth) (ho : oth.length * 8 ≤ 140737488351232) :
    Calls Tryd.prog 9 #[.int .i64 W, .slice A ns.length c, .slice Ai inp.length ci, .slice Ao oth.length co] w fun e w' => e = .returned (.bool true) ∧ Below w.heap.size w w' := by
  by_cases hn : ns.length ≤ 40
  · by_cases h : W < 2 ∨ 8 < W
    · exact support_out W A c _ _ _ w ht hn h
    · exact support_in W A Ai Ao c ci co ns inp oth w ht ha.2.1 ha.2.2 hn h hi hz ho
  · exact support_big W A c _ _ _ w ht (by omega) ha.1
end Go.Proofs.YtlnpgcdgpahdmaaDoor
