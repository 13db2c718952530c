/- What is proved: Dominates and Postdominates tell whether a point dominates, or postdominates, another one. -/
import Derived.Test.YtbdpdbeekbbehaaDoDoms
set_option linter.unusedVariables false
namespace Go.Proofs.Ytbdpdbeekbbehaa
open Go.RowKit Go.Shelf

/-- a dominates b, seen from r -/
def DomS (E : Nat → List Nat) (r : Nat) (l : List PtV) (a b : Int) : Prop := validP l = true ∧ ∃ v y : Nat, b = (v : Int) ∧ a = (y : Int) ∧ v < l.length ∧ Dom E r y v
theorem DTree.pr {E : Nat → List Nat} {r : Nat} {ov : Nat → Int} (h : DTree E r ov) {v : Nat} : Pr ov r v ↔ Rea E r v := by
  constructor
  · rintro (rfl | hv)
    · exact .here trivial
    · exact Classical.byContradiction fun hn => by have := h.non v hn; omega
  · intro hv
    by_cases e : v = r
    · exact .inl e
    · obtain ⟨c, h1, _⟩ := h.pos v hv e
      exact .inr (by omega)
theorem DomS.stn {E : Nat → List Nat} {r : Nat} {ov : Nat → Int} {l : List PtV} {a b : Int} (h : DTree E r ov) (hv : validP l = true) : Stn r l.length ov a b ↔ DomS E r l a b := by
  constructor
  · rintro ⟨v, y, h1, h2, h3, h4, h5⟩
    exact ⟨hv, v, y, h1, h2, h3, (h.dom v y (h.pr.1 h4)).1 h5⟩
  · rintro ⟨_, v, y, h1, h2, h3, h4⟩
    exact ⟨v, y, h1, h2, h3, h.pr.2 h4.1, (h.dom v y h4.1).2 h4⟩

set_option maxRecDepth 100000 in
set_option maxHeartbeats 1000000 in
theorem dominates_any (A : Option Addr) (c : Nat) (l : List PtV) (a b : Int) (w : World) (hs : FlSm l) (hp : PRow w.heap.size w A l) (T : Bool) (hT : T = true ↔ DomS (edg l) 0 l a b) :
    Calls Try.prog 20 #[.agg #[.slice A l.length c], .int .i64 a, .int .i64 b] w fun e W => e = .returned (.bool T) ∧ Below w.heap.size w W := by
  have HS := Lib.hid hs
  have HP := Lib.hid hp
  have HT := Lib.hid hT
  have HB1 := Lib.hid ((Below.refl w.heap.size w).alloc (Nat.le_refl _) (.cells #[.slice A l.length c] 24))
  have HFB := Lib.hid (show FBx (w.alloc (.cells #[.slice A l.length c] 24)) w.heap.size A c l from heap_alloc_new w _)
  have c0 := HFB.out.cell
  clear hs hp hT
  go_enter Try.func20, Try.ntmps20
  go_wp2_with (fail)
  generalize (w.alloc (.cells #[.slice A l.length c] 24)) = w1 at *
  have HP1 := Lib.hid ((HP.out.below HB1.out).mono HB1.out.size)
  refine (dominators_any A c l w1 HS.out HP1.out).mono ?_
  rintro e w2 ⟨hb2, ⟨hv, ob, ov, rfl, ho, hob, hd, hvr⟩ | ⟨hv, rfl⟩⟩
  · have HB2 := Lib.hid (HB1.out.trans (hb2.mono HB1.out.size))
    have HC := Lib.hid (stands_any (r := 0) a b w2 ho hd hvr (by have := HS.out.n; omega) T (HT.out.trans (DomS.stn hd hv).symm))
    clear c0 hb2 ho hob hd hvr
    go_wp2_with (fail)
    refine HC.out.mono ?_
    rintro e w3 ⟨rfl, rfl⟩
    go_wp2_with (fail)
    go_ret
    exact ⟨rfl, HB2.out⟩
  · have HB2 := Lib.hid (HB1.out.trans (hb2.mono HB1.out.size))
    obtain rfl : T = false := by
      cases T with
      | false => rfl
      | true =>
        have h := (HT.out.1 rfl).1
        rw [hv] at h
        cases h
    have HC := Lib.hid (stands_none 0 a b w2)
    clear c0 hb2
    go_wp2_with (fail)
    refine HC.out.mono ?_
    rintro e w3 ⟨rfl, rfl⟩
    go_wp2_with (fail)
    go_ret
    exact ⟨rfl, HB2.out⟩

set_option maxRecDepth 100000 in
set_option maxHeartbeats 1000000 in
theorem postdominates_any (A : Option Addr) (c : Nat) (l : List PtV) (a b : Int) (w : World) (hs : FlSm l) (hp : PRow w.heap.size w A l) (T : Bool) (hT : T = true ↔ DomS (bke l) 1 l a b) :
    Calls Try.prog 22 #[.agg #[.slice A l.length c], .int .i64 a, .int .i64 b] w fun e W => e = .returned (.bool T) ∧ Below w.heap.size w W := by
  have HS := Lib.hid hs
  have HP := Lib.hid hp
  have HT := Lib.hid hT
  have HB1 := Lib.hid ((Below.refl w.heap.size w).alloc (Nat.le_refl _) (.cells #[.slice A l.length c] 24))
  have HFB := Lib.hid (show FBx (w.alloc (.cells #[.slice A l.length c] 24)) w.heap.size A c l from heap_alloc_new w _)
  have c0 := HFB.out.cell
  clear hs hp hT
  go_enter Try.func22, Try.ntmps22
  go_wp2_with (fail)
  generalize (w.alloc (.cells #[.slice A l.length c] 24)) = w1 at *
  have HP1 := Lib.hid ((HP.out.below HB1.out).mono HB1.out.size)
  refine (postdominators_any A c l w1 HS.out HP1.out).mono ?_
  rintro e w2 ⟨hb2, ⟨hv, ob, ov, rfl, ho, hob, hd, hvr⟩ | ⟨hv, rfl⟩⟩
  · have HB2 := Lib.hid (HB1.out.trans (hb2.mono HB1.out.size))
    have HC := Lib.hid (stands_any (r := 1) a b w2 ho hd hvr (by have := HS.out.n; omega) T (HT.out.trans (DomS.stn hd hv).symm))
    clear c0 hb2 ho hob hd hvr
    go_wp2_with (fail)
    refine HC.out.mono ?_
    rintro e w3 ⟨rfl, rfl⟩
    go_wp2_with (fail)
    go_ret
    exact ⟨rfl, HB2.out⟩
  · have HB2 := Lib.hid (HB1.out.trans (hb2.mono HB1.out.size))
    obtain rfl : T = false := by
      cases T with
      | false => rfl
      | true =>
        have h := (HT.out.1 rfl).1
        rw [hv] at h
        cases h
    have HC := Lib.hid (stands_none 1 a b w2)
    clear c0 hb2
    go_wp2_with (fail)
    refine HC.out.mono ?_
    rintro e w3 ⟨rfl, rfl⟩
    go_wp2_with (fail)
    go_ret
    exact ⟨rfl, HB2.out⟩
end Go.Proofs.Ytbdpdbeekbbehaa
