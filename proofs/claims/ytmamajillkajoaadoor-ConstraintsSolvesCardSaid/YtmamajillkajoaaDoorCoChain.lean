/- What is proved: the first of the shortest chains of a class. -/
import Derived.Test.YtmamajillkajoaaDoorCoFrom
import Derived.Test.YtmamajillkajoaaDoorCoCommon
set_option linter.unusedVariables false
namespace Go.Proofs.YtmamajillkajoaaDoor
open Go.RowKit Go.Shelf

theorem chn_snoc (l : List Con) (n m : Nat) : ∀ (a b : List Nat), chn l n (a ++ [m]) b = match frm l n m (chn l n a b).length with | some c => c | none => chn l n a b
  | [], b => rfl
  | x :: a, b => by
    rw [List.cons_append]
    simp only [chn]
    exact chn_snoc l n m a _
theorem chn_take (l : List Con) (n : Nat) (ms b : List Nat) (j : Nat) (h : j < ms.length) : chn l n (ms.take (j + 1)) b = match frm l n ms[j] (chn l n (ms.take j) b).length with | some c => c | none => chn l n (ms.take j) b := by
  rw [List.take_succ_eq_append_getElem h, chn_snoc]

structure ChRes (g : Gp) (s : Int) (t : Nat) (w w' : World) : Prop where
  gd : ∃ Q' X' cX' vs', GD g (s + (t : Int)) Q' X' cX' vs' w' ∧ ∀ v, v < g.n → Q' v ≤ s + (t : Int)
  fr : FrZ g (fun _ => False) w w'
  below : Below g.N w w'

set_option maxRecDepth 100000 in
set_option maxHeartbeats 8000000 in
theorem chain_any (g : Gp) (ho : GpOk g) (w : World) (s : Int) (Q : Nat → Int) (Y : Option Addr) (cY : Nat) (vs : List Vis) (hg : GD g s Q Y cY vs w) (Xc : Option Addr) (cc : Nat) (cl : List Nat) (hcl : ISl g w Xc cl) (hlt : ∀ v ∈ cl, v < g.n) (hlen : cl.length ≤ 1000000)
    (hs : 0 ≤ s ∧ s + ((mks g.l cl).length : Int) < 1000000000) (hQ : ∀ v, v < g.n → Q v ≤ s) :
    Calls Tryd.prog 20 #[.pointer (some ⟨g.gb, 0, none⟩), .slice Xc cl.length cc] w fun e w' => ∃ X c, e = .returned (.slice X (chain g.l g.n cl).length c) ∧ ISl g w' X (chain g.l g.n cl) ∧ (chain g.l g.n cl).length ≤ c ∧ ChRes g s (mks g.l cl).length w w' := by
  have HG := Lib.hid hg
  have HO := Lib.hid ho
  have HCL := Lib.hid hcl
  have HLT := Lib.hid hlt
  have HQ := Lib.hid hQ
  have HMK := Lib.hid (fun W s' Q' Y' cY' vs' (h : GD g s' Q' Y' cY' vs' W) (h2 : ISl g W Xc cl) => marksOf_any g ho W s' Q' Y' cY' vs' h Xc cc cl h2 hlt hlen)
  have HMM := Lib.hid (fun m (h : m ∈ mks g.l cl) => mks_lt h)
  obtain ⟨ms, HMS⟩ : ∃ ms, Hid (mks g.l cl = ms) := ⟨_, Lib.hid rfl⟩
  have HCE := Lib.hid (show chain g.l g.n cl = chn g.l g.n ms [] by rw [← HMS.out]; rfl)
  rw [HMS.out] at hs HMM
  rw [HMS.out, HCE.out]
  have hgs := hg.size
  have hob := ho.b
  clear hg ho hcl hlt hQ
  go_enter Tryd.func20, Tryd.ntmps20
  go_wp2_with (fail)
  refine (HMK.out _ _ _ _ _ _ HG.out HCL.out).mono ?_
  rintro e w1 ⟨X1, c1, rfl, ho1, hb1⟩
  rw [HMS.out] at ho1
  rw [HMS.out]
  have HI1 := Lib.hid (ISl.of_own HO.out ho1 hgs rfl)
  have HB1 := Lib.hid hb1
  have HG1 := Lib.hid (HG.out.below HO.out hb1)
  clear ho1 hb1
  go_wp2_with (fail)
  go_loopw [5, 14] (fun v i wr => ∃ (j : Nat) (X : Option Addr) (c : Nat) (best : List Nat) (Q' : Nat → Int) (Y' : Option Addr) (cY' : Nat) (vs' : List Vis), j ≤ ms.length ∧ i = .int .i64 (j : Int) ∧ v = .slice X best.length c ∧ best.length ≤ 1000002 ∧ best.length ≤ c ∧ Hid (best = chn g.l g.n (ms.take j) []) ∧ Hid (ISl g wr X best) ∧ Hid (GD g (s + (j : Int)) Q' Y' cY' vs' wr) ∧ Hid (∀ v, v < g.n → Q' v ≤ s + (j : Int)) ∧ Hid (FrZ g (fun _ => False) w1 wr) ∧ Hid (Below g.N w1 wr)) (fun _ i _ => ms.length - (intOf i).toNat)
  case atStart => exact ⟨0, none, 0, [], Q, Y, cY, vs, Nat.zero_le _, rfl, rfl, by simp, by simp, Lib.hid rfl, Lib.hid (fun h => by simp at h), Lib.hid (by simpa using HG1.out), Lib.hid (by simpa using HQ.out), Lib.hid (FrZ.refl _ _ _), Lib.hid (Below.refl _ _)⟩
  case round =>
    obtain ⟨j, X, c, best, Q', Y', cY', vs', hj, rfl, rfl, hbl, hbc, hbe, hib, hgd, hq', hfr, hbr⟩ := hrel
    by_cases hjt : j < ms.length
    · obtain ⟨mb', rfl, hmb, hmc⟩ := (HI1.out.fr hfr.out (fun _ h => h.elim)).cells (by omega)
      have r0 := hmc j hjt
      clear hmc
      have HCT := Lib.hid (chn_take g.l g.n ms [] j hjt)
      have hml : ms[j] < g.l.length := HMM.out _ (List.getElem_mem hjt)
      obtain ⟨m, HM⟩ : ∃ m, Hid (ms[j] = m) := ⟨_, Lib.hid rfl⟩
      rw [HM.out] at r0 hml HCT
      have hva : vertAt g.l m < g.n := by
        have := (pos_cases (HO.out.pos _ (List.getElem_mem hml))).1
        unfold vertAt
        rw [List.getElem?_eq_getElem hml]
        simp only
        omega
      have HFA := Lib.hid (from_any g HO.out m best.length hml hva (by omega) _ Q' Y' cY' vs' wr ⟨by omega, by omega⟩ hq'.out hgd.out)
      clear hva
      go_wp2_with (fail)
      refine HFA.out.mono ?_
      rintro e w2 ⟨hfm, hf2, hb2, Q2, Y2, cY2, vs2, hg2, hq2⟩
      have HG2 := Lib.hid (show GD g (s + ((j + 1 : Nat) : Int)) Q2 Y2 cY2 vs2 w2 by rw [show s + ((j + 1 : Nat) : Int) = s + (j : Int) + 1 by omega]; exact hg2)
      have HQ2 := Lib.hid (show ∀ v, v < g.n → Q2 v ≤ s + ((j + 1 : Nat) : Int) by intro v hv; have := hq2 v hv; omega)
      have HF2 := Lib.hid (hfr.out.trans hf2)
      have HB2 := Lib.hid (hbr.out.trans hb2)
      have HIB := Lib.hid (hib.out.fr hf2 (fun _ h => h.elim))
      rw [← hbe.out] at HCT
      clear hf2 hb2 hg2 hq2 r0
      cases hfc : frm g.l g.n m best.length with
      | none =>
        rw [hfc] at hfm HCT
        have hfm' : e = .returned (.tuple #[.slice none 0 0, .bool false]) := hfm
        subst hfm'
        have HCN := Lib.hid (show best = chn g.l g.n (ms.take (j + 1)) [] from HCT.out.symm)
        clear hfm hfc
        go_wp2_with (fail)
        exact ⟨⟨j + 1, X, c, best, Q2, Y2, cY2, vs2, by omega, by go_num, rfl, by omega, hbc, HCN, HIB, HG2, HQ2, HF2, HB2⟩, by simp [intOf]; omega⟩
      | some k =>
        rw [hfc] at hfm HCT
        obtain ⟨Xk, ck, rfl, hik, hkl, hkc⟩ := hfm
        have HCN := Lib.hid (show k = chn g.l g.n (ms.take (j + 1)) [] from HCT.out.symm)
        have HIK := Lib.hid hik
        clear hfc hik
        go_wp2_with (fail)
        exact ⟨⟨j + 1, Xk, ck, k, Q2, Y2, cY2, vs2, by omega, by go_num, rfl, by omega, hkc, HCN, HIK, HG2, HQ2, HF2, HB2⟩, by simp [intOf]; omega⟩
    · obtain rfl : j = ms.length := by omega
      have hbf := hbe.out
      rw [List.take_length] at hbf
      have HBF := Lib.hid hbf
      clear hbf
      go_wp2_with (fail)
      go_ret
      refine ⟨X, c, by rw [← HBF.out]; rfl, by rw [← HBF.out]; exact hib.out, by rw [← HBF.out]; exact hbc, ⟨⟨_, _, _, _, hgd.out, hq'.out⟩, (FrZ.below HB1.out).trans hfr.out, (HB1.out.mono (by omega)).trans hbr.out⟩⟩
end Go.Proofs.YtmamajillkajoaaDoor
