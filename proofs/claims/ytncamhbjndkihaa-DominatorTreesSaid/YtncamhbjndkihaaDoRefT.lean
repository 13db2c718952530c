/- What is proved: the reference's Dominators, Postdominators, and Ints at equal lists. -/
import Derived.Test.YtncamhbjndkihaaDoRefI
import Derived.BigQuiet
import Derived.Deep.QuietTactic
set_option linter.unusedVariables false
namespace Go.Proofs.Ytncamhbjndkihaa
open Go.RowKit Go.Shelf

set_option maxRecDepth 100000 in
set_option maxHeartbeats 2000000 in
theorem ints_same (w : World) (X Y : Option Addr) (c d : Nat) (xs : List Int) (hx : ZRow w.heap.size w X xs) (hy : ZRow w.heap.size w Y xs) (hn : xs.length ≤ 1000000) :
    Calls Try.prog 15 #[.slice X xs.length c, .slice Y xs.length d] w fun e W => e = .returned (.bool true) ∧ Below w.heap.size w W := by
  have HX := Lib.hid hx
  have HY := Lib.hid hy
  clear hx hy
  go_enter Try.func15, Try.ntmps15
  go_wp2_with (fail)
  go_loopw [5] (fun i wr => ∃ k : Nat, i = .int .i64 (k : Int) ∧ k ≤ xs.length ∧ Hid (Below w.heap.size w wr)) (fun i _ => xs.length - (intOf i).toNat)
  case atStart => exact ⟨0, rfl, Nat.zero_le _, Lib.hid (Below.refl _ _)⟩
  case round =>
    obtain ⟨k, rfl, hk, hbw⟩ := hrel
    by_cases hlt' : k < xs.length
    · obtain ⟨b1, o1, rfl, g1, t1⟩ := HX.out (by omega)
      obtain ⟨b2, o2, rfl, g2, t2⟩ := HY.out (by omega)
      have r1 := (hbw.out.cell (p := ⟨b1, o1 + k, none⟩) g1).trans (t1 k hlt')
      have r2 := (hbw.out.cell (p := ⟨b2, o2 + k, none⟩) g2).trans (t2 k hlt')
      clear t1 t2
      go_upto_region 6 with (fail)
      go_quiet (fail)
      go_wp2_with (fail)
      exact ⟨⟨k + 1, by go_num, by omega, Lib.hid (below_drewN hbw.out _)⟩, by simp [intOf]; omega⟩
    · obtain rfl : k = xs.length := by omega
      go_wp2_with (fail)
      go_ret
      exact ⟨rfl, hbw.out⟩
theorem imm_none (A : Option Addr) (c : Nat) (l : List PtV) (post : Bool) (w : World) (hs : FlSm l) (hp : PRow w.heap.size w A l) (hv : validP l = false) :
    Calls Try.prog 47 #[.agg #[.slice A l.length c], .bool post] w fun e W => ∃ g, e = .returned (.slice (some ⟨g, 0, none⟩) 0 0) ∧ Below w.heap.size w W := by
  have HS := Lib.hid hs
  have HPP := Lib.hid hp
  have ha1 := (Below.refl w.heap.size w).alloc (Nat.le_refl _) (.cells #[.slice A l.length c] 24)
  have HFB := Lib.hid (show FBx (w.alloc (.cells #[.slice A l.length c] 24)) w.heap.size A c l from heap_alloc_new w _)
  have ha2 := (Below.refl _ _).alloc (Nat.le_refl (w.alloc (.cells #[.slice A l.length c] 24)).heap.size) (.cells #[] 3)
  have HF1 := Lib.hid (show FBx _ w.heap.size A c l from HFB.out.later ha2)
  have HB1 := Lib.hid (ha1.trans (ha2.mono ha1.size))
  have c0 := HF1.out.cell
  clear hs hp ha1 ha2 HFB
  go_enter Try.func47, Try.ntmps47
  go_wp2_with (fail)
  generalize ((w.alloc (.cells #[.slice A l.length c] 24)).alloc (.cells #[] 3)) = w1 at *
  refine (rvalid_any A c l w1 HS.out ((HPP.out.below HB1.out).mono HB1.out.size)).mono ?_
  rintro e w2 ⟨rfl, hb⟩
  rw [hv]
  have HB2 := Lib.hid (HB1.out.trans (hb.mono HB1.out.size))
  clear c0 hb hv
  go_wp2_with (fail)
  go_ret
  exact ⟨_, rfl, HB2.out⟩
/-- what the two give -/
def ImRes2 (l : List PtV) (ov : Nat → Int) (w : World) (e : Ending) (W : World) : Prop :=
  ∃ X c', e = .returned (.slice X (if validP l then l.length else 0) c') ∧ (validP l = true → ZRow W.heap.size W X ((List.range l.length).map ov)) ∧ Below w.heap.size w W
theorem immT_any (A : Option Addr) (c : Nat) (l : List PtV) (post : Bool) (w : World) (hs : FlSm l) (hp : PRow w.heap.size w A l) (ov : Nat → Int)
    (hD : validP l = true → DTree (if post then bke l else edg l) (if post then 1 else 0) ov) (hV : validP l = true → VR l.length ov) :
    Calls Try.prog 47 #[.agg #[.slice A l.length c], .bool post] w (ImRes2 l ov w) := by
  cases hv : validP l with
  | false =>
    refine (imm_none A c l post w hs hp hv).mono ?_
    rintro e W ⟨g, rfl, hb⟩
    exact ⟨some ⟨g, 0, none⟩, 0, (by rw [hv]; rfl), (fun h => absurd (hv.symm.trans h) (by decide)), hb⟩
  | true =>
    have hl := hs.ok hv
    obtain ⟨dB, hdB⟩ : ∃ dB : Nat → Nat → Bool, ∀ a b, dB a b = true ↔ DomS (edg l) 0 l (a : Int) (b : Int) := by
      classical exact ⟨fun a b => decide (DomS (edg l) 0 l (a : Int) (b : Int)), fun a b => by simp⟩
    obtain ⟨pB, hpB⟩ : ∃ pB : Nat → Nat → Bool, ∀ a b, pB a b = true ↔ DomS (bke l) 1 l (a : Int) (b : Int) := by
      classical exact ⟨fun a b => decide (DomS (bke l) 1 l (a : Int) (b : Int)), fun a b => by simp⟩
    refine (imm_any A c l post w hl hp dB pB hdB hpB (hD hv) (hV hv) (fun a b hb => ?_) (fun y b hb hd => ?_)).mono ?_
    · cases post with
      | true => exact (hpB a b).trans (domS_at hv hb)
      | false => exact (hdB a b).trans (domS_at hv hb)
    · by_cases hy : y < l.length
      · exact hy
      · cases post with
        | true =>
          have h1 := rch_rev hl.bmem hd.1
          exact absurd (rch_rev (fun q x => (hl.bmem x q).symm) (rch_big hl hb (by omega) h1)) hd.2
        | false =>
          have h2 : 0 < l.length := by have := hl.two; omega
          exact absurd (rch_big hl (a := 0) h2 (by omega) hd.1) hd.2
    · rintro e W ⟨v, rfl, ho, hb⟩
      obtain ⟨X, c', hvv, _, _⟩ := ho.form
      rw [hvv] at ho ⊢
      refine ⟨X, c', by rw [hv]; simp, fun _ => ho.row.2.2, hb⟩
theorem rdominators_any (A : Option Addr) (c : Nat) (l : List PtV) (w : World) (hs : FlSm l) (hp : PRow w.heap.size w A l) (ov : Nat → Int)
    (hD : validP l = true → DTree (edg l) 0 ov) (hV : validP l = true → VR l.length ov) :
    Calls Try.prog 17 #[.agg #[.slice A l.length c]] w (ImRes2 l ov w) := by
  have HP := Lib.hid hp
  have HB1 := Lib.hid ((Below.refl w.heap.size w).alloc (Nat.le_refl _) (.cells #[.slice A l.length c] 24))
  have HFB := Lib.hid (show FBx (w.alloc (.cells #[.slice A l.length c] 24)) w.heap.size A c l from heap_alloc_new w _)
  have c0 := HFB.out.cell
  have HC := Lib.hid (fun W hP => immT_any A c l false W hs hP ov hD hV)
  clear hp hs hD hV
  go_enter Try.func17, Try.ntmps17
  go_wp2_with (fail)
  generalize (w.alloc (.cells #[.slice A l.length c] 24)) = w1 at *
  refine (HC.out w1 ((HP.out.below HB1.out).mono HB1.out.size)).mono ?_
  rintro e w2 ⟨X, c', rfl, hr, hb2⟩
  have HH := Lib.hid (show ImRes2 l ov w (.returned (.slice X (if validP l then l.length else 0) c')) w2 from ⟨X, c', rfl, hr, HB1.out.trans (hb2.mono HB1.out.size)⟩)
  clear c0 hr hb2
  generalize (if validP l then l.length else 0) = n at *
  go_wp2_with (fail)
  go_ret
  exact HH.out
theorem rpostdominators_any (A : Option Addr) (c : Nat) (l : List PtV) (w : World) (hs : FlSm l) (hp : PRow w.heap.size w A l) (ov : Nat → Int)
    (hD : validP l = true → DTree (bke l) 1 ov) (hV : validP l = true → VR l.length ov) :
    Calls Try.prog 19 #[.agg #[.slice A l.length c]] w (ImRes2 l ov w) := by
  have HP := Lib.hid hp
  have HB1 := Lib.hid ((Below.refl w.heap.size w).alloc (Nat.le_refl _) (.cells #[.slice A l.length c] 24))
  have HFB := Lib.hid (show FBx (w.alloc (.cells #[.slice A l.length c] 24)) w.heap.size A c l from heap_alloc_new w _)
  have c0 := HFB.out.cell
  have HC := Lib.hid (fun W hP => immT_any A c l true W hs hP ov hD hV)
  clear hp hs hD hV
  go_enter Try.func19, Try.ntmps19
  go_wp2_with (fail)
  generalize (w.alloc (.cells #[.slice A l.length c] 24)) = w1 at *
  refine (HC.out w1 ((HP.out.below HB1.out).mono HB1.out.size)).mono ?_
  rintro e w2 ⟨X, c', rfl, hr, hb2⟩
  have HH := Lib.hid (show ImRes2 l ov w (.returned (.slice X (if validP l then l.length else 0) c')) w2 from ⟨X, c', rfl, hr, HB1.out.trans (hb2.mono HB1.out.size)⟩)
  clear c0 hr hb2
  generalize (if validP l then l.length else 0) = n at *
  go_wp2_with (fail)
  go_ret
  exact HH.out
end Go.Proofs.Ytncamhbjndkihaa
