/- What is proved: the law ConstraintsSolves, over what an argument gives; the table of powers of ten as the row lays it. -/
import Derived.Test.YtmamajillkajoaaDoorCoTyp
import Derived.Test.YtmamajillkajoaaDoorCoOut
import Derived.Test.YtmamajillkajoaaDoorCoRSol
import Derived.Test.YtmamajillkajoaaDoorCoExpl
import Derived.Test.YtmamajillkajoaaDoorCoAwake
import Derived.Deep.Slices
import Derived.Deep.Fields
import Derived.ChangeSame
import Derived.Lib.SmallJoins
import Derived.Test.YtmamajillkajoaaDoorRows
import Derived.Lib.LaidTab
import Derived.LaidSub
import Derived.MakeChecks
set_option linter.unusedVariables false
namespace Go.Proofs.YtmamajillkajoaaDoor
open Go.RowKit

theorem BI.st_le {l : List Con} {s i : Nat} {vs : List Vis} (h : BI l s i vs) : ∀ (j : Nat) (x : Vis), vs[j]? = some x → x.st ≤ j := by
  intro j
  induction j using Nat.strongRecOn with
  | ind j ih =>
    intro x hx
    rcases Nat.eq_zero_or_pos j with h0 | h0
    · subst h0
      obtain ⟨x0, f1, f2, f3, _⟩ := h.first
      rw [hx] at f1
      obtain rfl : x = x0 := by simpa using f1
      omega
    · obtain ⟨p, e, y, _, k2, k3, _, _, _, k7⟩ := h.par j x hx h0
      have := ih p k2 y k3
      omega
theorem frm_len {l : List Con} {n m lim : Nat} {c : List Nat} (hp : ∀ x ∈ l, posB n x = true) (hv : vertAt l m < n) (h : frm l n m lim = some c) : c.length ≤ n + 2 := by
  obtain ⟨r, hr⟩ : ∃ r, srch l n (vertAt l m) (stp l m lim) = r := ⟨_, rfl⟩
  have hE := srch_end (p := stp l m lim) hp hv
  have hV : VP n (srch l n (vertAt l m) (stp l m lim)) := VP.bfs (p := stp l m lim) hp (f := n + 1) (i := 0) (VP.one hv (-1) (-1) 0)
  rw [hr] at hE hV
  have hrn : r.length ≤ n := by
    have := nodup_len hV.2 (fun u hu => by
      obtain ⟨x, hx, rfl⟩ := List.mem_map.1 hu
      exact hV.1 x hx)
    rwa [List.length_map] at this
  rcases hE with ⟨i, hb, hi, hno⟩ | ⟨i, vs, x, hb, hrv, hx, hpx, hno⟩
  · rw [frm_none hr hno] at h; cases h
  · have hil : i < vs.length := (List.getElem?_eq_some_iff.1 hx).1
    have hlen : r.length = i + 1 := by rw [hrv, List.length_take]; omega
    have hri : r[i]? = some x := by rw [hrv, List.getElem?_take, if_pos (by omega)]; exact hx
    have hlast : r.getLast? = some x := by rw [List.getLast?_eq_getElem?, hlen]; exact hri
    have hst := hb.st_le i x hx
    have hf := frm_eq hr
    rw [hlast] at hf
    dsimp only at hf
    cases hlm : lmB lim x with
    | true => rw [hlm, if_pos rfl, h] at hf; cases hf
    | false =>
      rw [hlm, if_neg (by decide)] at hf
      cases hh : hit l m x.v with
      | none => rw [hh, h] at hf; cases hf
      | some q =>
        rw [hh, h] at hf
        dsimp only at hf
        have hw := way_len (r := r) (by rw [hrv]; exact hb.wp _) r.length (r.length - 1) x (by omega) (by rw [hlen]; exact hri)
        have := Option.some.inj hf
        rw [this]
        simp [hw]
        omega
theorem chain_len {l : List Con} {n r : Nat} (hp : ∀ x ∈ l, posB n x = true) (hr : r < n) : (chain l n (cls l n r)).length ≤ n + 2 := by
  have hok := (cls_ok hp hr).1
  rcases chn_form l n (mks l (cls l n r)) [] with h | ⟨pre, m, post, c, h1, h2, h3⟩
  · unfold chain
    rw [h]
    simp
  · have hm : m ∈ mks l (cls l n r) := by rw [h1]; simp
    obtain ⟨u, g1, g2⟩ := mks_iff.1 hm
    have := frm_len hp (by rw [vert_eq g2]; exact hok u g1) h2
    unfold chain
    rw [h3]
    exact this
theorem slvC_len {l : List Con} {n : Nat} (hp : ∀ x ∈ l, posB n x = true) {ch : List Nat} (h : ch ∈ slvC l n) : ch.length ≤ n + 2 := by
  obtain ⟨r, m, q, es, hr, hch, _⟩ := slvC_ok hp h
  rw [hch]
  exact chain_len hp hr
end Go.Proofs.YtmamajillkajoaaDoor
set_option linter.unusedVariables false
namespace Go.Proofs.YtmamajillkajoaaDoor
open Go.RowKit Go.Shelf

def fewB (n : Int) (l : List Con) : Bool := decide (l.length ≤ 80) && (decide (n ≤ 60) || decide (4096 < n))
set_option maxRecDepth 100000 in
theorem few_f (n : Int) (A : Option Addr) (c : Nat) (l : List Con) (v : Bool) (hv : fewB n l = v) (w : World) : Calls Tryd.prog 4 #[.int .i64 n, .slice A l.length c] w fun e w' => e = .returned (.bool v) ∧ Below w.heap.size w w' := by
  have HB := Lib.hid (Below.refl w.heap.size w)
  have HV := Lib.hid hv
  clear hv
  by_cases h1 : (l.length : Int) ≤ 80 <;> by_cases h2 : n ≤ 60 <;> by_cases h3 : 4096 < n
  all_goals
    go_enter Tryd.func4, Tryd.ntmps4
    go_wp2_with (fail)
    go_ret
    refine ⟨?_, HB.out⟩
    rw [← HV.out]
    unfold fewB
    first | omega | (congr 2; simp; omega)
end Go.Proofs.YtmamajillkajoaaDoor
set_option linter.unusedVariables false
namespace Go.Proofs.YtmamajillkajoaaDoor
open Go.RowKit Go.Shelf

set_option maxRecDepth 100000 in
set_option maxHeartbeats 1000000 in
theorem stepsEq_any (A B : Option Addr) (c d : Nat) (l : List StpV) (w : World) (ha : SRow w A l) (hb : SRow w B l) (hl : l.length ≤ 1000000000) :
    Calls Tryd.prog 10 #[.slice A l.length c, .slice B l.length d] w fun e w' => e = .returned (.bool true) ∧ Below w.heap.size w w' := by
  have H1 := Lib.hid ha
  have H2 := Lib.hid hb
  clear ha hb
  have hne : ((l.length : Int) != (l.length : Int)) = false := by simp
  go_enter Tryd.func10, Tryd.ntmps10
  go_wp2_with (fail)
  go_loopw [5] (fun i wr => ∃ k : Nat, k ≤ l.length ∧ i = .int .i64 (k : Int) ∧ Hid (Below w.heap.size w wr)) (fun i _ => l.length - (intOf i).toNat)
  case atStart => exact ⟨0, Nat.zero_le _, rfl, Lib.hid (Below.refl _ _)⟩
  case round =>
    obtain ⟨k, hk, rfl, hbw⟩ := hrel
    by_cases hlt : k < l.length
    · obtain ⟨b1, o1, rfl, hz1, hc1⟩ := (H1.out.later hbw.out) (by omega)
      obtain ⟨b2, o2, rfl, hz2, hc2⟩ := (H2.out.later hbw.out) (by omega)
      obtain ⟨p0, p1, p2, p3⟩ := hc1 k hlt
      obtain ⟨q0, q1, q2, q3⟩ := hc2 k hlt
      clear hc1 hc2
      generalize l[k] = x at *
      have e1 : (x.kind == x.kind) = true := by simp
      have e2 : (x.lo == x.lo) = true := by simp
      have e3 : (x.hi == x.hi) = true := by simp
      have e4 : (x.tx.toList == x.tx.toList) = true := by simp
      go_wp2_with (fail)
      go_quiet (fail)
      go_wp2_with (fail)
      exact ⟨⟨k + 1, by omega, by go_num, Lib.hid (hbw.out.trans ((drewN_below wr nq).mono hbw.out.size))⟩, by simp [intOf]; omega⟩
    · go_wp2_with (fail)
      go_ret
      exact ⟨rfl, hbw.out⟩
set_option maxRecDepth 100000 in
set_option maxHeartbeats 1000000 in
theorem rsolve_err (n : Int) (A : Option Addr) (c : Nat) (l : List Con) (w : World) (hl : l.length ≤ 1000000) (hr : CRow w.heap.size w A l) (r : Int) (hE : errV n l = r) (h12 : (r != 0) = true) :
    Calls Tryd.prog 7 #[.int .i64 n, .slice A l.length c] w (SvRes w ([], [], r)) := by
  have hval := co_valid_any n A c l w hr hl
  rw [hE] at hval
  have HVAL := Lib.hid hval
  have HG := Lib.hid (show ∀ w' : World, Below w.heap.size w w' → SvRes w ([], [], r) (.returned (.tuple #[.slice none 0 0, .slice none 0 0, .int .i64 r])) w' from fun w' h => ⟨none, none, 0, 0, rfl, fun h => by simp at h, fun h => by simp at h, h⟩)
  clear hr hval hE
  go_enter Tryd.func7, Tryd.ntmps7
  go_wp2_with (fail)
  refine HVAL.out.mono ?_
  rintro e w1 ⟨rfl, hb1⟩
  have HB1 := Lib.hid hb1
  clear hb1
  go_wp2_with (fail)
  go_ret3
  exact HG.out _ HB1.out
theorem rsolve_res (n : Int) (A : Option Addr) (c : Nat) (l : List Con) (w : World) (hl : l.length ≤ 1000000) (hr : CRow w.heap.size w A l) : Calls Tryd.prog 7 #[.int .i64 n, .slice A l.length c] w (SvRes w (svOut n l)) := by
  unfold svOut
  by_cases h0 : n < 0 ∨ 4096 < n
  · rw [if_pos h0]
    exact rsolve_err n A c l w hl hr 2 (by unfold errV; rw [if_pos h0]) rfl
  · rw [if_neg h0]
    obtain ⟨m, rfl⟩ : ∃ m : Nat, n = (m : Int) := ⟨n.toNat, by omega⟩
    rw [Int.toNat_natCast]
    cases ha : l.all (posB m) with
    | false =>
      rw [if_neg (by decide)]
      exact rsolve_err m A c l w hl hr 1 (by unfold errV; rw [if_neg h0, Int.toNat_natCast, ha]; rfl) rfl
    | true =>
      rw [if_pos rfl]
      refine (rsolve_ok m (by omega) A c l w hl hr ha).mono ?_
      rintro e w' ⟨tb, Y, d, rfl, h1, h2, h3⟩
      exact ⟨some ⟨tb, 0, none⟩, Y, m, d, by simp, h1.row _ (by simp) (fun i hi => by simp), h2, h3⟩
theorem chains_short (n : Int) (hn : n ≤ 60 ∨ 4096 < n) (l : List Con) : (svOut n l).2.1.length ≤ 1000000000 ∧ (∀ x ∈ (svOut n l).2.1, x.length ≤ 1000000000) ∧ (svOut n l).1.length ≤ 1000000000 := by
  have h12 := svOut_len n l
  refine ⟨by have := h12.2; omega, fun x hx => ?_, by have := h12.1; omega⟩
  unfold svOut at hx
  split at hx
  · simp at hx
  · rename_i h0
    split at hx
    · rename_i ha
      have hp := List.all_eq_true.1 ha
      have := slvC_len hp hx
      omega
    · simp at hx
set_option maxRecDepth 100000 in
set_option maxHeartbeats 4000000 in
theorem law_solves (n : Int) (A C : Option Addr) (c d : Nat) (l : List Con) (ch : List Int) (w : World) (hr : CRow w.heap.size w A l) (hok : ∀ x ∈ l, ConOk x) (hc : CZRow w.heap.size w C ch) (hch : ch.length ≤ 9223372036854775807) (htab : ∀ W, Below w.heap.size w W → Tab10 W) :
    Calls Tryd.prog 3 #[.int .i64 n, .slice A l.length c, .slice C ch.length d] w fun e w' => e = .returned (.bool true) ∧ Below w.heap.size w w' := by
  have HAW := Lib.hid (fun W => awake_any W)
  obtain ⟨v, HV⟩ : ∃ v, Hid (fewB n l = v) := ⟨_, Lib.hid rfl⟩
  have HF := Lib.hid (few_f n A c l v HV.out w)
  by_cases hf : v = true ∧ ch.length ≤ 40
  · obtain ⟨rfl, h40⟩ := hf
    have hfew := HV.out
    unfold fewB at hfew
    simp only [Bool.and_eq_true, Bool.or_eq_true, decide_eq_true_eq] at hfew
    have HS := Lib.hid (fun (W : World) (hb : Below w.heap.size w W) => solve_res n hfew.2 A c l W hfew.1 (hr.later hb) hok)
    have HRS := Lib.hid (fun (W : World) (hb : Below w.heap.size w W) => rsolve_res n A c l W (by omega) (hr.later hb))
    have hlen : ∀ x ∈ l, x.mark.len ≤ 9223372036854775807 := fun x hx => by
      have h := (hok x hx).tl
      unfold I64o at h
      simp [Lit.wf, IntKind.min, IntKind.max, IntKind.bits, IntKind.signed] at h
      omega
    have hz : ∀ W, Below w.heap.size w W → CZRow W.heap.size W C ch := fun W hb h0 => by
      obtain ⟨b, off, h1, h2, h3⟩ := hc h0
      exact ⟨b, off, h1, by have := hb.size; omega, fun i hi => (hb.cell (p := ⟨b, off + i, none⟩) h2).trans (h3 i hi)⟩
    have HX := Lib.hid (fun (W : World) (hb : Below w.heap.size w W) => explain_any A C c d l ch W (by omega) (by omega) (hr.later hb) (hz W hb) hlen (fun W' hb' => htab W' (hb.trans (hb'.mono hb.size))))
    have HRX := Lib.hid (fun (W : World) (hb : Below w.heap.size w W) => r_explain_any A C c d l ch W (by omega) (by omega) (hr.later hb) (hz W hb) hlen)
    obtain ⟨hs1, hs2, hs3⟩ := chains_short n hfew.2 l
    have hel : (exps l ch).length ≤ 1000000000 := by
      have := stps_len l ch
      unfold exps
      split
      · omega
      · simp
    obtain ⟨o, HO⟩ : ∃ o, Hid (svOut n l = o) := ⟨_, Lib.hid rfl⟩
    rw [HO.out] at HS HRS hs1 hs2 hs3
    obtain ⟨o1, o2, o3⟩ := o
    have HS1 := Lib.hid hs1
    have HS2 := Lib.hid hs2
    have HS3 := Lib.hid hs3
    have HEL := Lib.hid hel
    have he3 : (o3 == o3) = true := by simp
    have h40' : (ch.length : Int) ≤ 40 := by omega
    clear hr hok hc htab hfew hlen hz hs1 hs2 hs3 hel HV h40 hch
    go_enter Tryd.func3, Tryd.ntmps3
    go_wp2_with (fail)
    refine HF.out.mono ?_
    rintro e w1 ⟨rfl, hb1⟩
    have HB1 := Lib.hid hb1
    clear hb1
    go_wp2_with (fail)
    refine (HS.out w1 HB1.out).mono ?_
    rintro e w2 ⟨TA, XA, ct, cx, rfl, ht2, hx2, hb2⟩
    have HB2 := Lib.hid (HB1.out.trans (hb2.mono HB1.out.size))
    have HT2 := Lib.hid ht2
    have HX2 := Lib.hid hx2
    clear hb2 ht2 hx2
    dsimp only
    go_wp2_with (fail)
    refine (HRS.out w2 HB2.out).mono ?_
    rintro e w3 ⟨TB, XB, dt, dx, rfl, ht3, hx3, hb3⟩
    have HB3 := Lib.hid (HB2.out.trans (hb3.mono HB2.out.size))
    have HT3 := Lib.hid (HT2.out.later hb3)
    have HX3 := Lib.hid (lrow_later HX2.out hb3)
    have HRT := Lib.hid ht3
    have HRX3 := Lib.hid hx3
    clear hb3 ht3 hx3
    dsimp only
    go_wp2_with (fail)
    refine (typesEq_any TA TB ct dt o1 w3 HT3.out HRT.out HS3.out).mono ?_
    rintro e w4 ⟨rfl, n4, hw4⟩
    have hb4 : Below w3.heap.size w3 w4 := by rw [hw4]; exact drewN_below w3 n4
    have HB4 := Lib.hid (HB3.out.trans (hb4.mono HB3.out.size))
    have HX4 := Lib.hid (lrow_later HX3.out hb4)
    have HRX4 := Lib.hid (lrow_later HRX3.out hb4)
    clear hb4 hw4
    go_wp2_with (fail)
    refine (listsEq_any XA XB cx dx o2 w4 HX4.out HRX4.out HS1.out HS2.out).mono ?_
    rintro e w5 ⟨rfl, hb5⟩
    have HB5 := Lib.hid (HB4.out.trans (hb5.mono HB4.out.size))
    clear hb5
    go_wp2_with (fail)
    refine (HX.out w5 HB5.out).mono ?_
    rintro e w6 ⟨E1, c1, rfl, hs6, hb6⟩
    have HB6 := Lib.hid (HB5.out.trans (hb6.mono HB5.out.size))
    have HS6 := Lib.hid hs6
    clear hb6 hs6
    go_wp2_with (fail)
    refine (HRX.out w6 HB6.out).mono ?_
    rintro e w7 ⟨E2, c2, rfl, hs7, hb7⟩
    have HB7 := Lib.hid (HB6.out.trans (hb7.mono HB6.out.size))
    have HS7 := Lib.hid hs7
    have HS67 := Lib.hid (HS6.out.later hb7)
    clear hb7 hs7
    go_wp2_with (fail)
    refine (stepsEq_any E1 E2 c1 c2 _ w7 HS67.out HS7.out HEL.out).mono ?_
    rintro e w8 ⟨rfl, hb8⟩
    have HB8 := Lib.hid (HB7.out.trans (hb8.mono HB7.out.size))
    clear hb8
    go_wp2_with (fail)
    refine (HAW.out w8).mono ?_
    rintro e w9 ⟨rfl, hb9⟩
    have HB9 := Lib.hid (HB8.out.trans (hb9.mono HB8.out.size))
    clear hb9
    go_wp2_with (fail)
    go_ret
    exact ⟨rfl, HB9.out⟩
  · cases v with
    | false =>
      clear hr hok hc htab hf
      go_enter Tryd.func3, Tryd.ntmps3
      go_wp2_with (fail)
      refine HF.out.mono ?_
      rintro e w1 ⟨rfl, hb1⟩
      have HB1 := Lib.hid hb1
      clear hb1
      go_wp2_with (fail)
      refine (HAW.out w1).mono ?_
      rintro e w2 ⟨rfl, hb2⟩
      have HB2 := Lib.hid (HB1.out.trans (hb2.mono HB1.out.size))
      clear hb2
      go_wp2_with (fail)
      go_ret
      exact ⟨rfl, HB2.out⟩
    | true =>
      have h40 : ¬ (ch.length : Int) ≤ 40 := fun h => hf ⟨rfl, by omega⟩
      clear hr hok hc htab hf
      go_enter Tryd.func3, Tryd.ntmps3
      go_wp2_with (fail)
      refine HF.out.mono ?_
      rintro e w1 ⟨rfl, hb1⟩
      have HB1 := Lib.hid hb1
      clear hb1
      go_wp2_with (fail)
      refine (HAW.out w1).mono ?_
      rintro e w2 ⟨rfl, hb2⟩
      have HB2 := Lib.hid (HB1.out.trans (hb2.mono HB1.out.size))
      clear hb2
      go_wp2_with (fail)
      go_ret
      exact ⟨rfl, HB2.out⟩
end Go.Proofs.YtmamajillkajoaaDoor
set_option linter.unusedVariables false
set_option maxRecDepth 100000
namespace Go.Proofs.YtmamajillkajoaaDoor
open Go.RowKit Go.ChangeShapes Go.WideShapes Go.Deep Go.Joins

theorem coTyFields : ∃ f0 f1 f2 : Field, Tryd.prog.underlying 39 = some (.struct #[f0, f1, f2]) ∧ f0.type = 3 ∧ f1.type = 3 ∧ f2.type = 9 ∧ oneCellFields Tryd.prog #[f0, f1, f2] = true :=
  ⟨_, _, _, Tryd.underlying39, rfl, rfl, rfl, by kernel_rfl⟩
theorem conFields : ∃ f0 f1 f2 f3 f4 f5 : Field, Tryd.prog.underlying 41 = some (.struct #[f0, f1, f2, f3, f4, f5]) ∧ (f0.type = 3 ∧ f1.type = 3 ∧ f2.type = 3 ∧ f3.type = 39 ∧ f4.type = 3 ∧ f5.type = 3) ∧ f0.offset = 0 ∧ f1.offset = 1 ∧ f2.offset = 2 ∧ f3.offset = 3 ∧ f4.offset = 6 ∧ f5.offset = 7 :=
  ⟨_, _, _, _, _, _, Tryd.underlying41, ⟨rfl, rfl, rfl, rfl, rfl, rfl⟩, rfl, rfl, rfl, rfl, rfl, rfl⟩
theorem conCells : Tryd.prog.cellsOf 41 = 8 := by kernel_rfl

section
variable {H : Type} {enc : TypeId × Value → H} {w : World} {base : Nat} {spare : Nat → Bool} {held : Bool}
theorem co_cells_at {b : Nat} {a : Addr} {n : Nat} {cs : List Value} (h : w.cells? b a n = some cs) (j : Nat) (hj : j < n) : cs.length = n ∧ w.cell? (a.add j) = cs[j]? := by
  obtain ⟨_, hcl, hat⟩ := World.cells?_some h
  exact ⟨hcl, hat j hj⟩
/-- three cells that read as a type -/
theorem co_ty_of {fuel : Nat} {cs : List Value} {x : DataW H × List MemPlace} (h : DataW.trod enc Tryd.prog w base spare held fuel 39 cs = some x) : ∃ t : TyV, cs = [.int .i64 t.kind, .int .i64 t.len, .string t.nm] ∧ I64o t.kind ∧ I64o t.len ∧ t.nm.size ≤ maxLen := by
  obtain ⟨f0, f1, f2, hs, t0, t1, t2, hone⟩ := coTyFields
  obtain ⟨y0, y1, y2, n, _, hl, g0, g1, g2⟩ := trod_struct3 hs h
  rw [coTyCells] at hl
  obtain ⟨o0, k0⟩ := hone_of hone 0 f0 rfl
  obtain ⟨o1, k1⟩ := hone_of hone 1 f1 rfl
  obtain ⟨o2, k2⟩ := hone_of hone 2 f2 rfl
  match cs, hl with
  | [c0, c1, c2], _ =>
    rw [o0, k0, t0] at g0
    rw [o1, k1, t1] at g1
    rw [o2, k2, t2] at g2
    obtain ⟨n0, e0, _, w0⟩ := DataW.trod_int Tryd.underlying3 g0
    obtain ⟨n1, e1, _, w1⟩ := DataW.trod_int Tryd.underlying3 g1
    obtain ⟨n2, e2, _, w2⟩ := DataW.trod_string Tryd.underlying9 g2
    simp at e0 e1 e2
    exact ⟨⟨n0, n1, n2⟩, by rw [e0, e1, e2], w0, w1, w2⟩
/-- eight cells that read as a constraint -/
theorem con_of {fuel : Nat} {cs : List Value} {x : DataW H × List MemPlace} (h : DataW.trod enc Tryd.prog w base spare held fuel 41 cs = some x) : ∃ v : Con, cs = [.int .i64 v.kind, .int .i64 v.a, .int .i64 v.b, .int .i64 v.mark.kind, .int .i64 v.mark.len, .string v.mark.nm, .int .i64 v.lo, .int .i64 v.hi] ∧ ConOk v := by
  obtain ⟨f0, f1, f2, f3, f4, f5, hs, ⟨t0, t1, t2, t3, t4, t5⟩, o0, o1, o2, o3, o4, o5⟩ := conFields
  obtain ⟨xs, n, _, _, hl, hlen, hf⟩ := DataW.trod_struct hs h
  rw [conCells] at hl
  match cs, hl with
  | [c0, c1, c2, c3, c4, c5, c6, c7], _ =>
    match xs, hlen with
    | [y0, y1, y2, y3, y4, y5], _ =>
      have g0 := hf 0 f0 rfl
      have g1 := hf 1 f1 rfl
      have g2 := hf 2 f2 rfl
      have g3 := hf 3 f3 rfl
      have g4 := hf 4 f4 rfl
      have g5 := hf 5 f5 rfl
      rw [o0, t0, coOne] at g0
      rw [o1, t1, coOne] at g1
      rw [o2, t2, coOne] at g2
      rw [o3, t3, coTyCells] at g3
      rw [o4, t4, coOne] at g4
      rw [o5, t5, coOne] at g5
      obtain ⟨n0, e0, _, w0⟩ := DataW.trod_int Tryd.underlying3 g0
      obtain ⟨n1, e1, _, w1⟩ := DataW.trod_int Tryd.underlying3 g1
      obtain ⟨n2, e2, _, w2⟩ := DataW.trod_int Tryd.underlying3 g2
      obtain ⟨t, ht, w3⟩ := co_ty_of g3
      obtain ⟨n4, e4, _, _⟩ := DataW.trod_int Tryd.underlying3 g4
      obtain ⟨n5, e5, _, _⟩ := DataW.trod_int Tryd.underlying3 g5
      simp at e0 e1 e2 ht e4 e5
      obtain ⟨h1, h2, h3⟩ := ht
      exact ⟨⟨n0, n1, n2, t, n4, n5⟩, by rw [e0, e1, e2, h1, h2, h3, e4, e5], ⟨w0, w1, w2, w3.1, w3.2.1, w3.2.2⟩⟩
end

theorem open_cons {H : Type} {enc : TypeId × Value → H} {w : World} {base : Nat} {v : Value} {d : DataW H} {p : List MemPlace}
    (hv : Value.okWide Tryd.prog w .any base 22 v) (h : DataW.Trod enc Tryd.prog w 0 (fun _ => true) true 22 v d p) :
    ∃ (A : Option Addr) (c : Nat) (l : List Con), v = .slice A l.length c ∧ l.length ≤ c ∧ (CRow w.heap.size w A l ∧ ∀ x ∈ l, ConOk x) := by
  obtain ⟨a, len, cap, rfl⟩ := okWide_slice Tryd.underlying22 hv
  obtain ⟨fuel, hf⟩ := h
  rcases open_slice Tryd.underlying22 hf with ⟨hcs, _⟩ | ⟨a, len, cap, m, n, D, Pl, hcs, _, hl, hm, hmm, _, hi⟩
  · simp [Value.cells] at hcs
    obtain ⟨rfl, rfl, rfl⟩ := hcs
    exact ⟨none, 0, [], rfl, by simp, fun h => absurd h (by simp), by simp⟩
  · simp [Value.cells] at hcs
    obtain ⟨rfl, rfl, rfl⟩ := hcs
    have hle : len ≤ m := by rw [hmm]; split <;> omega
    have hcell : ∀ i, i < len → ∃ r : Con, ConOk r ∧ ∀ (j : Nat) (u : Value), ([.int .i64 r.kind, .int .i64 r.a, .int .i64 r.b, .int .i64 r.mark.kind, .int .i64 r.mark.len, .string r.mark.nm, .int .i64 r.lo, .int .i64 r.hi] : List Value)[j]? = some u → w.cell? (a.add (i * 8 + j)) = some u := by
      intro i hil
      obtain ⟨cs', hc, ht⟩ := hi i (by omega)
      obtain ⟨r, rfl, hok⟩ := con_of ht
      rw [conCells] at hc
      refine ⟨r, hok, fun j u hu => ?_⟩
      have hj : j < 8 := (List.getElem?_eq_some_iff.1 hu).1
      have c0 := (co_cells_at hc j hj).2
      rw [Go.Deep.add_add] at c0
      rw [c0, hu]
    let F : Nat → Con := fun i => if h : i < len then Classical.choose (hcell i h) else ⟨0, 0, 0, ⟨0, 0, ⟨#[]⟩⟩, 0, 0⟩
    have hF : ∀ i, i < len → ConOk (F i) ∧ ∀ (j : Nat) (u : Value), ([.int .i64 (F i).kind, .int .i64 (F i).a, .int .i64 (F i).b, .int .i64 (F i).mark.kind, .int .i64 (F i).mark.len, .string (F i).mark.nm, .int .i64 (F i).lo, .int .i64 (F i).hi] : List Value)[j]? = some u → w.cell? (a.add (i * 8 + j)) = some u := by
      intro i hil
      have h := Classical.choose_spec (hcell i hil)
      have e : F i = Classical.choose (hcell i hil) := dif_pos hil
      rw [e]
      exact h
    have hln : ((List.range len).map F).length = len := by simp
    refine ⟨some a, cap, (List.range len).map F, by rw [hln], by rw [hln]; omega, fun h0 => ?_, fun x hx => by
      obtain ⟨i, hi, rfl⟩ := List.mem_map.1 hx
      exact (hF i (List.mem_range.1 hi)).1⟩
    rw [hln] at h0
    obtain ⟨b, off, spot⟩ := a
    have hspot : spot = none := by simpa [Addr.add] using World.cell?_spot ((hF 0 h0).2 0 _ rfl)
    subst hspot
    have hb : b < w.heap.size := World.block_lt_of_cell? w _ (by simpa [Addr.add] using ((hF 0 h0).2 0 _ rfl))
    refine ⟨b, off, rfl, hb, fun i hil => ?_⟩
    have hil' : i < len := by rw [hln] at hil; exact hil
    have h := (hF i hil').2
    have h0' := h 0 _ rfl
    have h1 := h 1 _ rfl
    have h2 := h 2 _ rfl
    have h3 := h 3 _ rfl
    have h4 := h 4 _ rfl
    have h5 := h 5 _ rfl
    have h6 := h 6 _ rfl
    have h7 := h 7 _ rfl
    rw [Go.WideShapes.add_plain] at h0' h1 h2 h3 h4 h5 h6 h7
    simp only [List.getElem_map, List.getElem_range]
    exact ⟨h0', h1, h2, h3, h4, h5, h6, h7⟩
end Go.Proofs.YtmamajillkajoaaDoor
set_option linter.unusedVariables false
namespace Go.Proofs.YtmamajillkajoaaDoor
open Go.RowKit Go.Shelf

theorem tab_of {W : World} (hL : laidMetH Tryd.prog Rows.constraintsSolvesRow.laid W) : Tab10 W := by
  have h1 := hL.filter (fun x => x.1 == "internal/strconv.uint64pow10")
  rw [show (Rows.constraintsSolvesRow.laid.filter fun x => x.1 == "internal/strconv.uint64pow10") = [("internal/strconv.uint64pow10", Lib.tabData .u64 Lib.pow10Tab)] from by kernel_rfl] at h1
  rw [MakeChecks.laidMetH_plain _ _ _ (by kernel_rfl)] at h1
  exact Lib.tabIs_of_head (g := 0) (t := 118) (e := 105) (n := 20) (by kernel_rfl) (by kernel_rfl) Tryd.underlying118 Tryd.underlying105 (by kernel_rfl) (by kernel_rfl) h1
theorem law_solves_arg (n : Int) (A : Option Addr) (c : Nat) (l : List Con) (C : Option Addr) (d : Nat) (ch : List Int) (W : World) (hc : l.length ≤ c) (h : CRow W.heap.size W A l ∧ ∀ x ∈ l, ConOk x) (hz : CZArg W C d ch) (hL : laidMetH Tryd.prog Rows.constraintsSolvesRow.laid W) :
    Calls Tryd.prog 3 #[.int .i64 n, .slice A l.length c, .slice C ch.length d] W fun e w' => e = .returned (.bool true) ∧ Below W.heap.size W w' :=
  law_solves n A C c d l ch W h.1 h.2 hz.2.2.1 hz.2.1 (Lib.tabBelow_of_tabIs (tab_of hL))
end Go.Proofs.YtmamajillkajoaaDoor
