/- What is proved: Dominators and Postdominators give the trees; Dominates and Postdominates tell whether a point dominates, or postdominates, another one. -/
import Derived.Test.YtbdpdbeekbbehaaDoImm
import Derived.Test.YtbdpdbeekbbehaaDoValid
set_option linter.unusedVariables false
namespace Go.Proofs.Ytbdpdbeekbbehaa
open Go.RowKit Go.Shelf

/-- the edges the other way round -/
abbrev bke (l : List PtV) : Nat → List Nat := bk (edg l) l.length
/-- -1 or a point -/
def VR (n : Nat) (ov : Nat → Int) : Prop := ∀ v, ov v = -1 ∨ ∃ c : Nat, ov v = (c : Int) ∧ c < n
/-- what Dominators gives -/
def DmRes (E : Nat → List Nat) (r : Nat) (l : List PtV) (w : World) (e : Ending) (W : World) : Prop :=
  Below w.heap.size w W ∧ ((validP l = true ∧ ∃ ob ov, e = .returned (.slice (some ⟨ob, 0, none⟩) l.length l.length) ∧ IArr W ob l.length ov ∧ w.heap.size ≤ ob ∧ DTree E r ov ∧ VR l.length ov) ∨ (validP l = false ∧ e = .returned (.slice none 0 0)))
theorem FBx.agg {w : World} {b : Nat} {A : Option Addr} {c : Nat} {l : List PtV} (h : FBx w b A c l) : w.cell? ⟨b, 0, none⟩ = some (.slice A l.length c) := h.cell

set_option maxRecDepth 100000 in
set_option maxHeartbeats 1000000 in
theorem dominators_any (A : Option Addr) (c : Nat) (l : List PtV) (w : World) (hs : FlSm l) (hp : PRow w.heap.size w A l) :
    Calls Try.prog 16 #[.agg #[.slice A l.length c]] w (DmRes (edg l) 0 l w) := by
  have HS := Lib.hid hs
  have HP := Lib.hid hp
  have HB1 := Lib.hid ((Below.refl w.heap.size w).alloc (Nat.le_refl _) (.cells #[.slice A l.length c] 24))
  have HFB := Lib.hid (show FBx (w.alloc (.cells #[.slice A l.length c] 24)) w.heap.size A c l from heap_alloc_new w _)
  have c0 := HFB.out.cell
  clear hs hp
  go_enter Try.func16, Try.ntmps16
  go_wp2_with (fail)
  generalize (w.alloc (.cells #[.slice A l.length c] 24)) = w1 at *
  have HP1 := Lib.hid ((HP.out.below HB1.out).mono HB1.out.size)
  refine (valid_any A c l w1 HS.out HP1.out).mono ?_
  rintro e w2 ⟨rfl, hb2⟩
  have HB2 := Lib.hid (HB1.out.trans (hb2.mono HB1.out.size))
  have HFB2 := Lib.hid (HFB.out.later hb2)
  have HP2 := Lib.hid (HP1.out.later hb2)
  clear c0 hb2
  cases hv : validP l with
  | false =>
    have HH := Lib.hid (show DmRes (edg l) 0 l w (.returned (.slice none 0 0)) w2 from ⟨HB2.out, .inr ⟨hv, rfl⟩⟩)
    clear hv
    go_wp2_with (fail)
    go_ret
    exact HH.out
  | true =>
    have c0 := HFB2.out.cell
    have HO := Lib.hid (HS.out.ok hv)
    have HV := Lib.hid hv
    clear hv
    go_wp2_with (fail)
    refine (forward_any A c l w2 HO.out HP2.out).mono ?_
    rintro e w3 ⟨a, b, rfl, hvw, hb3⟩
    have HB3 := Lib.hid (HB2.out.trans (hb3.mono HB2.out.size))
    have hnx := hvw.nx HO.out (HP2.out.later hb3)
    have HI := Lib.hid (immediate_any w3 HO.out.gr HO.out.bgr HO.out.bmem hnx.1 hnx.2 next_eK back_eK (r := 0) (by have := HO.out.two; omega) HS.out.n)
    clear hvw hb3 hnx c0
    go_wp2_with (fail)
    refine HI.out.mono ?_
    rintro e w4 ⟨ob, ov, rfl, h1, h2, h3, h4, hb4⟩
    have HH := Lib.hid (show DmRes (edg l) 0 l w (.returned (.slice (some ⟨ob, 0, none⟩) l.length l.length)) w4 from ⟨HB3.out.trans (hb4.mono HB3.out.size), .inl ⟨HV.out, ob, ov, rfl, h1, Nat.le_trans HB3.out.size h2, h3, h4⟩⟩)
    clear h1 h2 h3 h4 hb4
    go_wp2_with (fail)
    go_ret
    exact HH.out

set_option maxRecDepth 100000 in
set_option maxHeartbeats 1000000 in
theorem postdominators_any (A : Option Addr) (c : Nat) (l : List PtV) (w : World) (hs : FlSm l) (hp : PRow w.heap.size w A l) :
    Calls Try.prog 18 #[.agg #[.slice A l.length c]] w (DmRes (bke l) 1 l w) := by
  have HS := Lib.hid hs
  have HP := Lib.hid hp
  have HB1 := Lib.hid ((Below.refl w.heap.size w).alloc (Nat.le_refl _) (.cells #[.slice A l.length c] 24))
  have HFB := Lib.hid (show FBx (w.alloc (.cells #[.slice A l.length c] 24)) w.heap.size A c l from heap_alloc_new w _)
  have c0 := HFB.out.cell
  clear hs hp
  go_enter Try.func18, Try.ntmps18
  go_wp2_with (fail)
  generalize (w.alloc (.cells #[.slice A l.length c] 24)) = w1 at *
  have HP1 := Lib.hid ((HP.out.below HB1.out).mono HB1.out.size)
  refine (valid_any A c l w1 HS.out HP1.out).mono ?_
  rintro e w2 ⟨rfl, hb2⟩
  have HB2 := Lib.hid (HB1.out.trans (hb2.mono HB1.out.size))
  have HFB2 := Lib.hid (HFB.out.later hb2)
  have HP2 := Lib.hid (HP1.out.later hb2)
  clear c0 hb2
  cases hv : validP l with
  | false =>
    have HH := Lib.hid (show DmRes (bke l) 1 l w (.returned (.slice none 0 0)) w2 from ⟨HB2.out, .inr ⟨hv, rfl⟩⟩)
    clear hv
    go_wp2_with (fail)
    go_ret
    exact HH.out
  | true =>
    have c0 := HFB2.out.cell
    have HO := Lib.hid (HS.out.ok hv)
    have HV := Lib.hid hv
    clear hv
    go_wp2_with (fail)
    refine (backward_any A c l w2 HO.out HP2.out).mono ?_
    rintro e w3 ⟨a, b, rfl, hvw, hb3⟩
    have HB3 := Lib.hid (HB2.out.trans (hb3.mono HB2.out.size))
    have hnx := hvw.nx HO.out (HP2.out.later hb3)
    have HI := Lib.hid (immediate_any w3 HO.out.bgr HO.out.gr (fun q x => (HO.out.bmem x q).symm) hnx.2 hnx.1 back_eK next_eK (r := 1) (by have := HO.out.two; omega) HS.out.n)
    clear hvw hb3 hnx c0
    go_wp2_with (fail)
    refine HI.out.mono ?_
    rintro e w4 ⟨ob, ov, rfl, h1, h2, h3, h4, hb4⟩
    have HH := Lib.hid (show DmRes (bke l) 1 l w (.returned (.slice (some ⟨ob, 0, none⟩) l.length l.length)) w4 from ⟨HB3.out.trans (hb4.mono HB3.out.size), .inl ⟨HV.out, ob, ov, rfl, h1, Nat.le_trans HB3.out.size h2, h3, h4⟩⟩)
    clear h1 h2 h3 h4 hb4
    go_wp2_with (fail)
    go_ret
    exact HH.out

/-- how far a point is from the top -/
def muS (pl : Nat → Nat) (N : Nat) (x : Int) : Nat := if x < 0 then 0 else (N + 1 - pl x.toNat) + 1
/-- a point stands over another one -/
def Stn (r n : Nat) (ov : Nat → Int) (a b : Int) : Prop := ∃ v y : Nat, b = (v : Int) ∧ a = (y : Int) ∧ v < n ∧ Pr ov r v ∧ Up ov v y
theorem stands_none (r : Nat) (a b : Int) (w : World) : Calls Try.prog 49 #[.slice none 0 0, .int .i64 (r : Int), .int .i64 a, .int .i64 b] w fun e W => e = .returned (.bool false) ∧ w = W := by
  go_enter Try.func49, Try.ntmps49
  by_cases h : b < 0
  · go_wp2_with (fail)
    go_ret
    exact ⟨rfl, rfl⟩
  · have h2 : (0 : Int) ≤ b := by omega
    go_wp2_with (fail)
    go_ret
    exact ⟨rfl, rfl⟩
set_option maxRecDepth 100000 in
set_option maxHeartbeats 1000000 in
theorem stands_any {E : Nat → List Nat} {r n ob : Nat} {ov : Nat → Int} (a b : Int) (w : World) (ho : IArr w ob n ov) (hd : DTree E r ov) (hv : VR n ov) (hn : n ≤ 1000000) (T : Bool) (hT : T = true ↔ Stn r n ov a b) :
    Calls Try.prog 49 #[.slice (some ⟨ob, 0, none⟩) n n, .int .i64 (r : Int), .int .i64 a, .int .i64 b] w fun e W => e = .returned (.bool T) ∧ w = W := by
  have HO := Lib.hid ho
  have HT := Lib.hid hT
  have HV := Lib.hid hv
  obtain ⟨pl, N, hrk⟩ := hd.rk
  have HRK := Lib.hid hrk
  clear ho hT hv hd hrk
  by_cases hb0 : b < 0
  · obtain rfl : T = false := by
      cases T with
      | false => rfl
      | true => obtain ⟨v, y, h1, _⟩ := HT.out.1 rfl; omega
    go_enter Try.func49, Try.ntmps49
    go_wp2_with (fail)
    go_ret
    exact ⟨rfl, rfl⟩
  · obtain ⟨v0, rfl⟩ : ∃ v : Nat, b = (v : Int) := ⟨b.toNat, by omega⟩
    by_cases hbn : n ≤ v0
    · obtain rfl : T = false := by
        cases T with
        | false => rfl
        | true => obtain ⟨v, y, h1, _, h2, _⟩ := HT.out.1 rfl; omega
      have h3 : ¬ (v0 : Int) < (n : Int) := by omega
      have h4 : (n : Int) ≤ (v0 : Int) := by omega
      go_enter Try.func49, Try.ntmps49
      go_wp2_with (fail)
      go_ret
      exact ⟨rfl, rfl⟩
    · have hvn : v0 < n := by omega
      have hng : ¬ (n : Int) ≤ (v0 : Int) := by omega
      by_cases hpr : Pr ov r v0
      · have HC := Lib.hid (reached_any w ob n r v0 ov HO.out hvn hn true ⟨fun _ => hpr, fun _ => rfl⟩)
        have HT2 := Lib.hid (show T = true ↔ ∃ y : Nat, a = (y : Int) ∧ Up ov v0 y from HT.out.trans ⟨fun ⟨v, y, h1, h2, _, _, h3⟩ => by
          obtain rfl : v0 = v := by omega
          exact ⟨y, h2, h3⟩, fun ⟨y, h2, h3⟩ => ⟨v0, y, rfl, h2, hvn, hpr, h3⟩⟩)
        clear hpr
        go_enter Try.func49, Try.ntmps49
        go_wp2_with (fail)
        refine HC.out.mono ?_
        rintro e w2 ⟨rfl, rfl⟩
        go_wp2_with (fail)
        go_loopw [3] (fun s wr => ∃ x : Int, s = .int .i64 x ∧ Hid (wr = w) ∧ Hid ((∃ v : Nat, x = (v : Int) ∧ v < n ∧ (T = true ↔ ∃ y : Nat, a = (y : Int) ∧ Up ov v y)) ∨ (x = -1 ∧ T = false))) (fun s _ => muS pl N (intOf s))
        case atStart => exact ⟨_, rfl, Lib.hid rfl, Lib.hid (.inl ⟨v0, rfl, hvn, HT2.out⟩)⟩
        case round =>
          obtain ⟨x, rfl, hw, hx⟩ := hrel
          obtain rfl := hw.out
          rcases hx.out with ⟨v, rfl, hvn2, hT3⟩ | ⟨rfl, hf⟩
          · have h0 : (0 : Int) ≤ (v : Int) := by omega
            by_cases hva : (v : Int) = a
            · obtain rfl : T = true := hT3.2 ⟨v, hva.symm, .refl _⟩
              subst hva
              clear hx hT3 hw
              go_wp2_with (fail)
              go_ret
              exact ⟨rfl, rfl⟩
            · have hc2 : ((v : Int) != a) = true := by simpa using hva
              have c0 := HO.out.cell hvn2
              have HN := Lib.hid (show ((∃ u : Nat, ov v = (u : Int) ∧ u < n ∧ (T = true ↔ ∃ y : Nat, a = (y : Int) ∧ Up ov u y)) ∨ (ov v = -1 ∧ T = false)) ∧ muS pl N (ov v) < muS pl N (v : Int) from by
                rcases HV.out v with h1 | ⟨u, h1, h2⟩
                · refine ⟨.inr ⟨h1, ?_⟩, by rw [h1]; unfold muS; rw [if_pos (by omega), if_neg (by omega)]; omega⟩
                  cases hTT : T with
                  | false => rfl
                  | true =>
                    exfalso
                    obtain ⟨y, h3, h4⟩ := hT3.1 hTT
                    rcases h4.cases' with h5 | ⟨u, h5, _⟩
                    · exact hva (by rw [h3, h5])
                    · omega
                · refine ⟨.inl ⟨u, h1, h2, hT3.trans ⟨fun ⟨y, h3, h4⟩ => ?_, fun ⟨y, h3, h4⟩ => ⟨y, h3, .step h1 h4⟩⟩⟩, ?_⟩
                  · rcases h4.cases' with h5 | ⟨u2, h5, h6⟩
                    · exact absurd (by rw [h3, h5]) hva
                    · rw [h1] at h5
                      have := Int.ofNat.inj h5
                      subst this
                      exact ⟨y, h3, h6⟩
                  · have := HRK.out v u h1
                    rw [h1]
                    unfold muS
                    rw [if_neg (by omega), if_neg (by omega)]
                    simp only [Int.toNat_natCast]
                    omega)
              obtain ⟨q, hq⟩ : ∃ q, q = ov v := ⟨_, rfl⟩
              rw [← hq] at c0 HN
              have HVA := Lib.hid hva
              clear hx hT3 hq hva hw
              go_wp2_with (fail)
              exact ⟨⟨q, rfl, by first | exact Lib.hid rfl | exact Lib.hid trivial, Lib.hid HN.out.1⟩, HN.out.2⟩
          · subst hf
            clear hx hw
            go_wp2_with (fail)
            go_ret
            exact ⟨rfl, rfl⟩
      · obtain rfl : T = false := by
          cases T with
          | false => rfl
          | true =>
            obtain ⟨v, y, h1, _, _, h2, _⟩ := HT.out.1 rfl
            obtain rfl : v0 = v := by omega
            exact absurd h2 hpr
        have HC := Lib.hid (reached_any w ob n r v0 ov HO.out hvn hn false ⟨fun h => absurd h (by decide), fun h => absurd h hpr⟩)
        clear hpr
        go_enter Try.func49, Try.ntmps49
        go_wp2_with (fail)
        refine HC.out.mono ?_
        rintro e w2 ⟨rfl, rfl⟩
        go_wp2_with (fail)
        go_ret
        exact ⟨rfl, rfl⟩
end Go.Proofs.Ytbdpdbeekbbehaa
