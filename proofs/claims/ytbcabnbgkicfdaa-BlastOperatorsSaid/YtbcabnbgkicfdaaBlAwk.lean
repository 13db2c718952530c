/- What is proved: the example that each law of blast checks first; what the value of a word's bits is. -/
import Derived.Test.YtbcabnbgkicfdaaBlEqI
set_option linter.unusedVariables false
namespace Go.Proofs.Ytbcabnbgkicfdaa
open Go.RowKit Go.Maps

theorem lastB_cases (l : List Bool) (h : 0 < l.length) : unB l = unB (l.take (l.length - 1)) + pw (l.length - 1) * b2n (lastB l) := by
  have := unB_take l (i := l.length - 1) (by omega)
  rw [show l.length - 1 + 1 = l.length by omega, List.take_length] at this
  rw [this]
  unfold lastB
  rw [List.getElem?_eq_getElem (by omega)]
  rfl
/-- a word's bits, read with a sign -/
theorem con_val {W : Int} {l : List Bool} {a q : Int} (h : ¬ (W < 2 ∨ 8 < W)) (hl : (l.length : Int) = W) (e : unB l + pw l.length * q = a) : valN 0 l = wrpP W a := by
  have h0 : 0 < l.length := by omega
  have hp : pw l.length = 2 * hf W := by
    have := (hf_pow h).2
    rw [← this, ← hl]
    rfl
  have hq : pw (l.length - 1) = hf W := by
    have := pw_pred h0
    omega
  have hc := lastB_cases l h0
  have hlo := unB_lo (l.take (l.length - 1))
  rw [List.length_take, Nat.min_eq_left (by omega)] at hlo
  rw [hq] at hc hlo
  have hv : valN 0 l = unB l - (if lastB l = true then pw l.length else 0) := if_pos ⟨rfl, h0, by omega⟩
  rw [hp] at e hv
  have hfp := hf_pos h
  symm
  unfold wrpP
  cases hb : lastB l with
  | true =>
    rw [hb] at hv hc
    simp [b2n] at hc
    rw [if_pos rfl] at hv
    refine cut_same (hf W) a (valN 0 l) (- q - 1) hfp (by omega) (by omega) ?_
    rw [hv, ← e]
    generalize hf W = g
    grind
  | false =>
    rw [hb] at hv hc
    simp [b2n] at hc
    rw [if_neg (by simp)] at hv
    refine cut_same (hf W) a (valN 0 l) (- q) hfp (by omega) (by omega) ?_
    rw [hv, ← e]
    generalize hf W = g
    grind
/-- what Eval gives for literals of a builder's circuit -/
theorem ev_lits {I : Int} {gs : List Gt} {ls : List Int} {inp : List Bool} (hck : CkOk I gs) (hf : gs.length ≤ 5000) (hl : Lts I gs ls) (hI : (inp.length : Int) = I) : evL I gs inp ls = ls.map (litV (nv inp gs)) ∧ evE I gs inp ls = 0 :=
  ev_yes (fit_iff.2 ⟨⟨hck, by have := hck.hi; omega⟩, hl⟩) hI
theorem aw_words : wdsL 3 [1, 0] = [[2], [4, 6, 8]] ∧ wdsN 3 [1, 0] = 4 ∧ wdsE 3 [1, 0] = 0 := by decide +kernel
theorem aw_bits : bitsL 3 [1, 0] [1, -3] = [true, true, false, true] ∧ bitsE 3 [1, 0] [1, -3] = 0 := by decide +kernel
theorem aw_con : conL 3 (-3) = [1, 0, 1] := by decide +kernel
theorem aw_val {gs : List Gt} {z : List Int} (hz : z.length = 3) (h : Hol 6 gs (AddH [2, 4, 6] [8, 10, 12] z)) : valN 0 (z.map (litV (nv [true, false, true, true, false, false] gs))) = -2 := by
  obtain ⟨⟨q, _, _, e⟩, _⟩ := h gs [true, false, true, true, false, false] (fun _ => True) (List.prefix_refl _) rfl
  have k := fun (i : Nat) (hi : i < 6) => litV_inp (inp := [true, false, true, true, false, false]) gs (i := i) hi
  have k0 := k 0 (by omega)
  have k1 := k 1 (by omega)
  have k2 := k 2 (by omega)
  have k3 := k 3 (by omega)
  have k4 := k 4 (by omega)
  have k5 := k 5 (by omega)
  simp at k0 k1 k2 k3 k4 k5
  rw [un_unB] at e
  have e2 := con_val (W := 3) (l := z.map (litV (nv [true, false, true, true, false, false] gs))) (a := 6) (q := q) (by omega) (by simp [hz]) (by
    rw [List.length_map, hz, show ([2, 4, 6] : List Int).length = 3 from rfl] at *
    rw [e]
    simp [un, k0, k1, k2, k3, k4, k5, b2n])
  rw [e2]
  decide +kernel
theorem row_of (w : World) (cs : Array Value) (l : List Int) (h : cs = (zcells l).toArray) : WRow (w.alloc (.cells cs 3)).heap.size (w.alloc (.cells cs 3)) (some ⟨w.heap.size, 0, none⟩) l := by
  have := ZBlk.wrow (w := w.alloc (.cells cs 3)) (b := w.heap.size) (l := l) (by unfold ZBlk; rw [heap_alloc_new, h]) 0
  rwa [List.drop_zero] at this
theorem brow_of (w : World) (cs : Array Value) (l : List Bool) (h : cs = (bcells l).toArray) : BRow (w.alloc (.cells cs 4)) (some ⟨w.heap.size, 0, none⟩) l := fun _ => by
  refine ⟨w.heap.size, 0, rfl, by simp, fun i hi => ?_⟩
  rw [Nat.zero_add, Lib.cell_of_heap (heap_alloc_new w _) i, h]
  have := bcells_get l i hi
  simpa using this
theorem WRow.toz {n : Nat} {w : World} {A : Option Addr} {l : List Int} (h : WRow n w A l) : ZRow w.heap.size w A l := h.here.zrow
set_option maxRecDepth 100000 in
set_option maxHeartbeats 8000000 in
theorem bawake_any (w : World) : Calls Try.prog 20 #[] w fun e w' => e = .returned (.bool true) ∧ Below w.heap.size w w' := by
  have hb0 := (Below.refl w.heap.size w).alloc (Nat.le_refl _) (.cells #[.int .i64 1, .int .i64 0] 3)
  have HW := words_any 3 (some ⟨w.heap.size, 0, none⟩) 2 [1, 0] (w.alloc (.cells #[.int .i64 1, .int .i64 0] 3)) (row_of w _ [1, 0] rfl).toz (by simp)
  rw [aw_words.1, aw_words.2.1, aw_words.2.2] at HW
  have HW := Lib.hid HW
  have HB0 := Lib.hid hb0
  clear hb0
  go_enter Try.func20, Try.ntmps20
  go_wp2_with (fail)
  refine HW.out.mono ?_
  rintro e w1 ⟨WA, wc, rfl, _, hrow, hb1⟩
  have HROW := Lib.hid hrow
  have HB1 := Lib.hid (HB0.out.trans (hb1.mono HB0.out.size))
  have hba := (Below.refl w1.heap.size w1).alloc (Nat.le_refl _) (.cells #[.int .i64 1, .int .i64 0] 3)
  have hbb := (Below.refl (w1.alloc (.cells #[.int .i64 1, .int .i64 0] 3)).heap.size _).alloc (Nat.le_refl _) (.cells #[.int .i64 1, .int .i64 (-3)] 3)
  have hbc := hba.trans (hbb.mono hba.size)
  have HBB := bits_any 3 (some ⟨w1.heap.size, 0, none⟩) 2 [1, 0] (some ⟨(w1.alloc (.cells #[.int .i64 1, .int .i64 0] 3)).heap.size, 0, none⟩) 2 [1, -3] _ ((row_of w1 _ [1, 0] rfl).later hbb).toz (row_of (w1.alloc (.cells #[.int .i64 1, .int .i64 0] 3)) _ [1, -3] rfl).toz (by simp) (by simp) (fun x hx => by simp at hx; omega)
  rw [aw_bits.1, aw_bits.2, show (w1.alloc (.cells #[.int .i64 1, .int .i64 0] 3)).heap.size = w1.heap.size + 1 by simp] at HBB
  have HBB := Lib.hid HBB
  have HB2 := Lib.hid (HB1.out.trans (hbc.mono HB1.out.size))
  have HROW2 := Lib.hid (HROW.out.later hbc)
  clear hrow hb1 hba hbb hbc HW HB0 HROW
  go_wp2_with (fail)
  refine HBB.out.mono ?_
  rintro e w2 ⟨VA, vc, rfl, hv, hb⟩
  have HV := Lib.hid hv
  have HB3 := Lib.hid (HB2.out.trans (hb.mono HB2.out.size))
  have HROW3 := Lib.hid (HROW2.out.later hb)
  have HN := Lib.hid (new_any 6 (by decide) w2)
  clear hv hb HBB HB2 HROW2
  go_wp2_with (fail)
  refine HN.out.mono ?_
  rintro e w3 ⟨bb, mb, rfl, ht, hb⟩
  have hba := (Below.refl w3.heap.size w3).alloc (Nat.le_refl _) (.cells #[.int .i64 2, .int .i64 4, .int .i64 6] 3)
  have hbb := (Below.refl (w3.alloc (.cells #[.int .i64 2, .int .i64 4, .int .i64 6] 3)).heap.size _).alloc (Nat.le_refl _) (.cells #[.int .i64 8, .int .i64 10, .int .i64 12] 3)
  have hbc := hba.trans (hbb.mono hba.size)
  have HADD := Add_yes (some ⟨w3.heap.size, 0, none⟩) 3 [2, 4, 6] (some ⟨(w3.alloc (.cells #[.int .i64 2, .int .i64 4, .int .i64 6] 3)).heap.size, 0, none⟩) 3 [8, 10, 12] (ht.later hbc) ((row_of w3 _ [2, 4, 6] rfl).later hbb).here (row_of (w3.alloc (.cells #[.int .i64 2, .int .i64 4, .int .i64 6] 3)) _ [8, 10, 12] rfl) (fun x hx => by unfold isLit; simp at hx ⊢; omega) (fun x hx => by unfold isLit; simp at hx ⊢; omega) (by simp) (by simp) rfl (by simp)
  rw [show (w3.alloc (.cells #[.int .i64 2, .int .i64 4, .int .i64 6] 3)).heap.size = w3.heap.size + 1 by simp] at HADD
  have HADD := Lib.hid HADD
  have HBW := Lib.hid (hb.trans (hbc.mono hb.size))
  have HT5 := Lib.hid (ht.later hbc)
  clear ht hb hba hbb hbc HN
  go_wp2_with (fail)
  refine HADD.out.mono ?_
  rintro e w4 ⟨ZA, zc, z, rv4, gs4, rfl, hac, hzl, hh⟩
  have hzl3 : z.length = 3 := hzl
  have HZL := Lib.hid hzl3
  have HBW4 := Lib.hid (hac.st.res.below HT5.out (Nat.le_refl _) HBW.out)
  have HZ := Lib.hid hac.own.wrow.2.2
  have HT4 := Lib.hid hac.st.tab
  have HL := Lib.hid hac.lts
  have HVAL := Lib.hid (aw_val hzl3 hh)
  have HC := Lib.hid (circuit_any hac.st.tab)
  clear hac hzl hzl3 hh HADD HBW HT5
  go_wp2_with (fail)
  refine HC.out.mono ?_
  rintro e w5 ⟨X, cap, rfl, ho, hb⟩
  have hba := (Below.refl w5.heap.size w5).alloc (Nat.le_refl _) (.cells #[.bool true, .bool false, .bool true, .bool true, .bool false, .bool false] 4)
  obtain ⟨A9, c9, hX9, _, hrow9, _⟩ := (ho.later hba).form
  injection hX9 with hX9 _ hc9
  subst hX9
  subst hc9
  have hzr := ((HZ.out.later hb).later hba).toz
  have HEV := eval_any 6 X cap gs4 (some ⟨w5.heap.size, 0, none⟩) 6 [true, false, true, true, false, false] ZA zc z (w5.alloc (.cells #[.bool true, .bool false, .bool true, .bool true, .bool false, .bool false] 4)) hrow9 HT4.out.gt HT4.out.few (brow_of w5 _ _ rfl) (by simp) hzr (by rw [HZL.out]; omega)
  obtain ⟨ev1, ev2⟩ := ev_lits (inp := [true, false, true, true, false, false]) HT4.out.ck HT4.out.few HL.out rfl
  rw [ev1, ev2, List.length_map, HZL.out] at HEV
  have HEV := Lib.hid HEV
  have HBW5 := Lib.hid ((HBW4.out.trans (hb.mono HBW4.out.size)).trans (hba.mono (Nat.le_trans HBW4.out.size hb.size)))
  clear ho hb hba hrow9 hzr ev1 ev2 HC HBW4 HZ HT4 HL
  go_wp2_with (fail)
  refine HEV.out.mono ?_
  rintro e w6 ⟨OA, oc, rfl, hor, hb⟩
  have HBW6 := Lib.hid (HBW5.out.trans (hb.mono HBW5.out.size))
  have HLS := Lib.hid (HROW3.out.later HBW6.out)
  have HV6 := Lib.hid (HV.out.later HBW6.out)
  have HOR := Lib.hid hor
  have HML : Hid ((z.map (litV (nv [true, false, true, true, false, false] gs4))).length = 3) := Lib.hid (by rw [List.length_map]; exact HZL.out)
  generalize z.map (litV (nv [true, false, true, true, false, false] gs4)) = out at *
  obtain ⟨wb, wo, hWA, hwb, h3⟩ := HLS.out (by simp)
  obtain ⟨X0, d0, q0, _, r0⟩ := h3 0 (by simp)
  obtain ⟨X1, d1, q1, _, r1⟩ := h3 1 (by simp)
  subst hWA
  simp only [List.getElem_cons_zero, List.getElem_cons_succ, List.length_cons, List.length_nil, Nat.zero_add, Nat.add_zero] at q0 q1 r0 r1
  have HR0 := Lib.hid r0
  have HR1 := Lib.hid r1
  have HQ1 := Lib.hid q1
  have hba := (Below.refl w6.heap.size w6).alloc (Nat.le_refl _) (.cells #[.int .i64 2] 3)
  have HE0 := Lib.hid (equalI_any X0 d0 (some ⟨w6.heap.size, 0, none⟩) 1 [2] (w6.alloc (.cells #[.int .i64 2] 3)) (r0.later hba).toz (row_of w6 _ [2] rfl).toz (by simp))
  have HBA := Lib.hid hba
  clear hb hor h3 r0 r1 q1 hba HEV HBW5
  go_wp2_with (fail)
  refine HE0.out.mono ?_
  rintro e w7 ⟨rfl, hb⟩
  have HB7 := Lib.hid (HBA.out.trans (hb.mono HBA.out.size))
  have q1 := (HB7.out.cell (p := ⟨wb, wo + 1, none⟩) hwb).trans HQ1.out
  have hba := (Below.refl w7.heap.size w7).alloc (Nat.le_refl _) (.cells #[.int .i64 4, .int .i64 6, .int .i64 8] 3)
  have HE1 := Lib.hid (equalI_any X1 d1 (some ⟨w7.heap.size, 0, none⟩) 3 [4, 6, 8] (w7.alloc (.cells #[.int .i64 4, .int .i64 6, .int .i64 8] 3)) ((HR1.out.later HB7.out).later hba).toz (row_of w7 _ [4, 6, 8] rfl).toz (by simp))
  have HBA7 := Lib.hid (HB7.out.trans (hba.mono HB7.out.size))
  clear hb hba HE0
  go_wp2_with (fail)
  refine HE1.out.mono ?_
  rintro e w8 ⟨rfl, hb⟩
  have HB8 := Lib.hid (HBA7.out.trans (hb.mono HBA7.out.size))
  have hba := (Below.refl w8.heap.size w8).alloc (Nat.le_refl _) (.cells #[.bool true, .bool true, .bool false, .bool true] 4)
  have HEB := equalB_any VA vc [true, true, false, true] (some ⟨w8.heap.size, 0, none⟩) 4 [true, true, false, true] (w8.alloc (.cells #[.bool true, .bool true, .bool false, .bool true] 4)) ((HV6.out.later HB8.out).later hba) (brow_of w8 _ _ rfl) (by simp)
  have HEB := Lib.hid HEB
  have HBA8 := Lib.hid (HB8.out.trans (hba.mono HB8.out.size))
  clear hb hba HE1 q0 q1
  go_wp2_with (fail)
  refine HEB.out.mono ?_
  rintro e w9 ⟨rfl, hb⟩
  have HB9 := Lib.hid (HBA8.out.trans (hb.mono HBA8.out.size))
  have HCO := constant_any 3 (-3) (by omega) w9
  rw [aw_con] at HCO
  have HCO := Lib.hid HCO
  clear hb HEB
  go_wp2_with (fail)
  refine HCO.out.mono ?_
  rintro e w10 ⟨CA, cc, rfl, ho, hb⟩
  have HB10 := Lib.hid (HB9.out.trans (hb.mono HB9.out.size))
  have hba := (Below.refl w10.heap.size w10).alloc (Nat.le_refl _) (.cells #[.int .i64 1, .int .i64 0, .int .i64 1] 3)
  have HE2 := Lib.hid (equalI_any CA cc (some ⟨w10.heap.size, 0, none⟩) 3 [1, 0, 1] (w10.alloc (.cells #[.int .i64 1, .int .i64 0, .int .i64 1] 3)) ((ho.wrow.2.2).later hba).toz (row_of w10 _ [1, 0, 1] rfl).toz (by simp))
  have HBA10 := Lib.hid (HB10.out.trans (hba.mono HB10.out.size))
  clear ho hb hba HCO
  go_wp2_with (fail)
  refine HE2.out.mono ?_
  rintro e w11 ⟨rfl, hb⟩
  have HB11 := Lib.hid (HBA10.out.trans (hb.mono HBA10.out.size))
  have HVA := value_any 0 OA oc out w11 (HOR.out.later HB11.out) (by rw [HML.out]; omega)
  rw [HML.out, HVAL.out] at HVA
  have HVA := Lib.hid HVA
  clear hb HE2
  go_wp2_with (fail)
  refine HVA.out.mono ?_
  rintro e wx ⟨rfl, hwx⟩
  obtain rfl := hwx.symm
  go_wp2_with (fail)
  go_ret
  exact ⟨rfl, HB3.out.trans ((HBW6.out.trans (HB11.out.mono HBW6.out.size)).mono HB3.out.size)⟩
end Go.Proofs.Ytbcabnbgkicfdaa
