/- What is proved: Eval of bitvec's tables. -/
import Derived.Test.YtjgkcicgjnjepaaDoorBvVal2
set_option linter.unusedVariables false
namespace Go.Proofs.YtjgkcicgjnjepaaDoor
open Go.RowKit Go.Maps

/-- one node evaluated -/
def evN (W : Int) (l : List Tm) (inp : List Int) (o : Option (Nat → Int)) (k : Nat) : Option (Nat → Int) :=
  match o with
  | none => none
  | some f => match l[k]? with
    | none => some f
    | some x => if fitB W x inp = true then some (setF f k (valP W x f inp)) else none
def evK (W : Int) (l : List Tm) (inp : List Int) (ks : List Nat) : Option (Nat → Int) := ks.foldl (evN W l inp) (some fun _ => 0)
theorem evK_snoc (W : Int) (l : List Tm) (inp : List Int) (ks : List Nat) (k : Nat) : evK W l inp (ks ++ [k]) = evN W l inp (evK W l inp ks) k := by
  unfold evK
  rw [List.foldl_append]
  rfl
theorem evN_none (W : Int) (l : List Tm) (inp : List Int) : ∀ ks : List Nat, ks.foldl (evN W l inp) none = none := by
  intro ks
  induction ks with
  | nil => rfl
  | cons k ks ih => exact ih
theorem evK_none {W : Int} {l : List Tm} {inp : List Int} {ks ms : List Nat} (h : evK W l inp ks = none) : evK W l inp (ks ++ ms) = none := by
  unfold evK at *
  rw [List.foldl_append, h, evN_none]
theorem evS_evK (W : Int) (l : List Tm) (m : Nat → Bool) (inp : List Int) : ∀ k, evS W l m inp k = evK W l inp ((List.range k).filter m) := by
  intro k
  induction k with
  | zero => rfl
  | succ k ih =>
    rw [List.range_succ, List.filter_append]
    simp only [evS, ih]
    cases hm : m k with
    | false =>
      rw [List.filter_cons_of_neg (by simp [hm]), List.filter_nil, List.append_nil]
      cases evK W l inp (List.filter m (List.range k)) <;> simp
    | true =>
      rw [List.filter_cons_of_pos (by simp [hm]), List.filter_nil, evK_snoc]
      cases evK W l inp (List.filter m (List.range k)) with
      | none => rfl
      | some f =>
        simp only [evN, if_true]
        cases l[k]? <;> rfl
theorem evK_rng {W : Int} {l : List Tm} {inp : List Int} (hW : ¬ (W < 2 ∨ 8 < W)) (ht : TbOk W l) (ks : List Nat) : ∀ n, n ≤ ks.length → (∀ k ∈ ks, k < l.length) → ∀ f, evK W l inp (ks.take n) = some f → ∀ j (h : j < l.length), rng W (srt l[j].o) (f j) := by
  intro n
  induction n with
  | zero => intro _ _ f hf j h; simp [evK] at hf; subst hf; exact rng_zero hW _
  | succ n ih =>
    intro hn hks f hf j h
    rw [List.take_succ_eq_append_getElem (by omega), evK_snoc] at hf
    cases hp : evK W l inp (ks.take n) with
    | none => rw [hp] at hf; cases hf
    | some g =>
      have hg := ih (by omega) hks g hp
      have hk := hks _ (List.getElem_mem (show n < ks.length by omega))
      rw [hp] at hf
      simp only [evN, List.getElem?_eq_getElem hk] at hf
      generalize ks[n] = k at *
      split at hf
      · rename_i hfit
        cases hf
        unfold setF
        split
        · rename_i e
          subst e
          refine val_rng hW (ht.ok j h) (fun i hi => ?_) hfit
          rw [List.getElem_take]
          exact hg i _
        · exact hg j h
      · cases hf
theorem prt_mem {W : Int} {l : List Tm} (h : TbOk W l) {i : Nat} (hi : i < l.length) : ∀ k ∈ prt l i, k ≤ i := by
  intro k hk
  have := (List.mem_filter.1 hk).1
  simp at this
  omega
theorem prt_pos (l : List Tm) (i : Nat) : 0 < (prt l i).length := List.length_pos_of_mem (List.mem_filter.2 ⟨by simp, mrk_self l i⟩)
theorem fit_inp {W : Int} {x : Tm} {inp : List Int} (h : fitB W x inp = true) (hx : x.op = 0 ∨ x.op = 1) : x.v.toNat < inp.length := by
  unfold fitB at h
  rcases hx with e | e
  · rw [if_pos e] at h
    simp only [Bool.and_eq_true, decide_eq_true_eq] at h
    exact h.1
  · rw [if_neg (by omega), if_pos e] at h
    simp only [Bool.and_eq_true, decide_eq_true_eq] at h
    exact h.1
theorem val_nn {W : Int} {x : Tm} (h : valOk W x = true) (hx : x.op = 0 ∨ x.op = 1) : 0 ≤ x.v ∧ x.v < 24 := by
  unfold valOk at h
  rw [if_pos hx] at h
  simpa using h
section
variable {w : World} {n₀ tb mb : Nat} {rv : Value} {W : Int} {l : List Tm}
set_option maxRecDepth 100000 in
set_option maxHeartbeats 2000000 in
theorem eval_in (i : Nat) (A : Option Addr) (c : Nat) (inp : List Int) (h : Tab w n₀ tb mb rv W l) (ht : TabS w) (hW : ¬ (W < 2 ∨ 8 < W)) (hz : ZRow w.heap.size w A inp) (hi : i < l.length) : Calls Tryd.prog 9 #[.pointer (some ⟨tb, 0, none⟩), .int .i64 (i : Int), .slice A inp.length c] w fun e w' => e = .returned (.tuple #[.int .i64 (evP W l (i : Int) inp).1, .int .i64 (evP W l (i : Int) inp).2]) ∧ Below w.heap.size w w' := by
  have HP := Lib.hid (parts_any (i : Int) h ht)
  rw [show prtZ l (i : Int) = prt l i by unfold prtZ; rw [if_pos (by omega), Int.toNat_natCast]] at HP
  have HEV := Lib.hid (show evP W l (i : Int) inp = (match evK W l inp (prt l i) with | none => (0, 2) | some f => (f i, 0)) by
    unfold evP
    rw [if_pos (by omega), Int.toNat_natCast, evS_evK]
    rfl)
  have HH := Lib.hid h
  have HZ := Lib.hid hz
  have HTB := Lib.hid h.tb
  have hfew := h.few
  have hpp := prt_pos l i
  have hpl : (prt l i).length ≤ i + 1 := by unfold prt; have := List.length_filter_le (mrk l i) (List.range (i + 1)); simpa using this
  have HPM := Lib.hid (prt_mem h.tb hi)
  have HRG := Lib.hid (fun n hn f hf => evK_rng (inp := inp) hW h.tb (prt l i) n hn (fun k hk => by have := prt_mem h.tb hi k hk; omega) f hf)
  have hw1 : IntKind.i64.wrap ((i : Int) + 1) = (i : Int) + 1 := w64 (by omega)
  have hmk := do_make_in (i + 1) (by omega)
  rw [show (((i + 1 : Nat) : Int)) = (i : Int) + 1 by omega] at hmk
  have HWW := Lib.hid (show IntKind.i64.wrap W = W from w64 (by omega))
  obtain ⟨P, HPP⟩ : ∃ P, Hid (prt l i = P) := ⟨_, Lib.hid rfl⟩
  rw [HPP.out] at HP HEV HPM HRG hpp hpl
  have hne : ((P.length : Int) == 0) = false := by rw [beq_eq_false_iff_ne]; omega
  have hP0 : ¬ P = [] := fun e => by rw [e] at hpp; simp at hpp
  clear h ht hz hW
  go_enter Tryd.func9, Tryd.ntmps9
  go_wp2_with (fail)
  refine HP.out.mono ?_
  rintro e w1 ⟨PA, pc, rfl, hzo, hb⟩
  have HB1 := Lib.hid hb
  have HZO := Lib.hid hzo
  obtain ⟨A', c', e', _, hform⟩ := hzo.form
  rw [zl_len] at e'
  cases e'
  obtain ⟨pb, hpa, _, hpB, hplt, _, hpc⟩ := hform (by rw [zl_len]; exact hpp)
  subst hpa
  have HPC := Lib.hid (show ∀ j (hj : j < P.length), w1.cell? ⟨pb, j, none⟩ = some (.int .i64 ((P[j] : Nat) : Int)) from fun j hj => by rw [hpc j (by rw [zl_len]; exact hj), zl_get])
  have HPL := Lib.hid hplt
  clear hb hzo hform hpc hplt hpB HP HZO
  go_wp2_with (fail)
  have HI0 := Lib.hid (IArr.new w1 (i + 1))
  have HW2 := Lib.hid ((Below.refl w1.heap.size w1).alloc (Nat.le_refl _) (.cells (hdr (fun _ => .int .i64 0) (i + 1)) 3))
  clear hmk hne hw1
  generalize w1.alloc (.cells (hdr (fun _ => .int .i64 0) (i + 1)) 3) = w2 at *
  have HSZ := Lib.hid HB1.out.size
  obtain ⟨vb, HVB⟩ : ∃ vb, Hid (vb = w1.heap.size) := ⟨_, Lib.hid rfl⟩
  rw [← HVB.out]
  have HI0 := Lib.hid (show IArr w2 vb (i + 1) (fun _ => 0) by rw [HVB.out]; exact HI0.out)
  have HB2 := Lib.hid (HB1.out.trans (HW2.out.mono HSZ.out))
  have HBV := Lib.hid (show Below vb w1 w2 by rw [HVB.out]; exact HW2.out)
  have HVL := Lib.hid (show w.heap.size ≤ vb by rw [HVB.out]; exact HSZ.out)
  have HPV := Lib.hid (show pb < vb by rw [HVB.out]; exact HPL.out)
  go_loopw [24] (fun jv wr => ∃ (j : Nat) (f : Nat → Int), j ≤ P.length ∧ jv = .int .i64 (j : Int) ∧ Hid (evK W l inp (P.take j) = some f) ∧ Hid (IArr wr vb (i + 1) f) ∧ Hid (Below vb w1 wr)) (fun jv _ => P.length - (intOf jv).toNat)
  case atStart => exact ⟨0, _, Nat.zero_le _, rfl, Lib.hid rfl, HI0, HBV⟩
  case round =>
    obtain ⟨j, f, hj, rfl, hf, hia, hbw⟩ := hrel
    have HBW := Lib.hid (HB1.out.trans (hbw.out.mono HVL.out))
    by_cases hlt : j < P.length
    · have q1 := (hbw.out.cell (p := ⟨pb, j, none⟩) HPV.out).trans (HPC.out j hlt)
      have hkm := HPM.out _ (List.getElem_mem hlt)
      have HTK := Lib.hid (show evK W l inp (P.take (j + 1)) = evN W l inp (some f) P[j] by rw [List.take_succ_eq_append_getElem hlt, evK_snoc, hf.out])
      have HALL := Lib.hid (show evK W l inp (P.take (j + 1)) = none → evK W l inp P = none from fun hn => by rw [← List.take_append_drop (j + 1) P]; exact evK_none hn)
      have HSM := Lib.hid (HRG.out j (by omega) f hf.out)
      generalize P[j] = k at *
      have hkl : k < l.length := by omega
      have HTR := Lib.hid (HH.out.later HBW.out)
      obtain ⟨A2, c2, hrv, _, hrow, hown⟩ := HTR.out.form
      have c1 : wr.cell? ⟨tb, 1, none⟩ = some (.slice A2 l.length c2) := by rw [← hrv]; exact Lib.cell_of_heap HTR.out.box 1
      obtain ⟨b0, off, hA, _, hc0⟩ := hrow.at hkl
      have HND := Lib.hid (HTB.out.node hkl)
      have HLK := Lib.hid (show l[k]? = some l[k] from List.getElem?_eq_getElem hkl)
      have dk : decide ((k : Int) < 0) = false := by simp
      have nk : ¬ l.length ≤ k := by omega
      have nk2 : ¬ i + 1 ≤ k := by omega
      clear hown hrow hrv
      subst hA
      obtain ⟨d0, d1, d2, d3, d4⟩ := hc0
      generalize l[k] = x at *
      go_upto_region 9 with fail
      have HBX := Lib.hid (TBox.new wr x)
      have HW5 := Lib.hid ((Below.refl wr.heap.size wr).alloc (Nat.le_refl _) (.cells #[.int .i64 x.op, .int .i64 x.v, .int .i64 x.a, .int .i64 x.b, .int .i64 x.c] 46))
      clear c1 d0 d1 d2 d3 d4 q1
      generalize wr.alloc (.cells #[.int .i64 x.op, .int .i64 x.v, .int .i64 x.a, .int .i64 x.b, .int .i64 x.c] 46) = w5 at *
      have HIA5 := Lib.hid (hia.out.later HW5.out)
      have hvr : vb < wr.heap.size := hia.out.lt
      have HB5 := Lib.hid (hbw.out.trans (HW5.out.mono (Nat.le_of_lt hvr)))
      have HF := Lib.hid (fits_any x A c inp (HTR.out.later HW5.out) HWW.out ((HZ.out.later HBW.out).later HW5.out) (fun h => (val_nn HND.out.2.2.1 h).1))
      obtain ⟨x0, x1, x2, x3, x4⟩ := HBX.out.cells
      cases hfit : fitB W x inp with
      | false => as_aux_lemma =>
          rw [hfit] at HF
          have HN := Lib.hid (show evP W l (i : Int) inp = (0, 2) by
            rw [HEV.out, HALL.out (by rw [HTK.out]; simp [evN, HLK.out, hfit])])
          clear hfit
          go_wp2_with (fail)
          refine HF.out.mono ?_
          rintro e w6 ⟨rfl, hb6⟩
          have HB6 := Lib.hid ((HBW.out.trans (HW5.out.mono (by have := HVL.out; omega))).trans (hb6.mono (by have := HVL.out; have := HW5.out.size; omega)))
          clear hb6
          go_wp2_with (fail)
          go_ret2
          exact ⟨by rw [HN.out]; rfl, HB6.out⟩
      | true => as_aux_lemma =>
          rw [hfit] at HF
          have HNX := Lib.hid (show evK W l inp (P.take (j + 1)) = some (setF f k (valP W x f inp)) by rw [HTK.out]; simp [evN, HLK.out, hfit])
          have HFI := Lib.hid (fun h => fit_inp hfit h)
          clear hfit
          go_wp2_with (fail)
          refine HF.out.mono ?_
          rintro e w6 ⟨rfl, hb6⟩
          have hz5 := HW5.out.size
          have HB6 := Lib.hid (HB5.out.trans (hb6.mono (by omega)))
          have HIA6 := Lib.hid (HIA5.out.later hb6)
          have HBX6 := Lib.hid (HBX.out.later hb6)
          have HBW6 := Lib.hid (HB1.out.trans (HB6.out.mono HVL.out))
          have HVA := Lib.hid (show VArg w6 W x f (i + 1) vb A inp from ⟨⟨HND.out.1, HND.out.2.1⟩, ⟨HND.out.2.2.2.1.1, by have := HND.out.2.2.2.1; omega⟩, ⟨HND.out.2.2.2.2.1.1, by have := HND.out.2.2.2.2.1; omega⟩, ⟨HND.out.2.2.2.2.2.1, by have := HND.out.2.2.2.2.2; omega⟩, HIA6.out, fun q hq => rng_bound (HSM.out q (by omega)), HZ.out.later HBW6.out, fun h => ⟨(val_nn HND.out.2.2.1 h).1, HFI.out h⟩⟩)
          have HVV := Lib.hid (value_any x f (i + 1) vb (i + 1) c A inp (HH.out.later HBW6.out) HWW.out HVA.out)
          clear x0 x1 x2 x3 x4 hb6 hz5
          obtain ⟨x0, x1, x2, x3, x4⟩ := HBX6.out.cells
          go_wp2_with (fail)
          refine HVV.out.mono ?_
          rintro e w7 ⟨rfl, hb7⟩
          have hv6 : vb < w6.heap.size := HIA6.out.lt
          have HB7 := Lib.hid (HB6.out.trans (hb7.mono (Nat.le_of_lt hv6)))
          have HIA7 := Lib.hid (HIA6.out.later hb7)
          have z0 := HIA7.out.cell (show k < i + 1 by omega)
          have z1 := HIA7.out.frz k
          have HIA8 := Lib.hid (HIA7.out.set (show k < i + 1 by omega) (valP W x f inp))
          have HB8 := Lib.hid (HB7.out.setCell (p := ⟨vb, k, none⟩) (Nat.le_refl _) (.int .i64 (valP W x f inp)))
          clear hb7
          generalize valP W x f inp = y at *
          go_wp2_with (fail)
          exact ⟨⟨j + 1, _, by omega, by go_num, HNX, HIA8, HB8⟩, by simp [intOf]; omega⟩
    · obtain rfl : j = P.length := by omega
      have z0 := hia.out.cell (show i < i + 1 by omega)
      have HN := Lib.hid (show evP W l (i : Int) inp = (f i, 0) by
        rw [HEV.out]
        have := hf.out
        rw [List.take_length] at this
        rw [this])
      have di : decide ((i : Int) < 0) = false := by simp
      go_wp2_with (fail)
      go_ret2
      exact ⟨by rw [HN.out]; rfl, HBW.out⟩
end
end Go.Proofs.YtjgkcicgjnjepaaDoor
