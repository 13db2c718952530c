/- What is proved: where two ways up meet; whether a point is reached; whether a point stands over another one. -/
import Derived.Test.YtbdpdbeekbbehaaDoBase
import Derived.Test.YtbdpdbeekbbehaaDoIter
set_option linter.unusedVariables false
namespace Go.Proofs.Ytbdpdbeekbbehaa
open Go.RowKit

/-- the root, or something stands over it -/
theorem reached_any (w : World) (ob n r p : Nat) (ov : Nat → Int) (ho : IArr w ob n ov) (hp : p < n) (hn : n ≤ 1000000) (B : Bool) (hB : B = true ↔ Pr ov r p) :
    Calls Try.prog 57 #[.slice (some ⟨ob, 0, none⟩) n n, .int .i64 (r : Int), .int .i64 (p : Int)] w fun e w' => e = .returned (.bool B) ∧ w = w' := by
  have c0 := ho.cell hp
  clear ho
  by_cases e : p = r
  · subst e
    obtain rfl : B = true := hB.2 (.inl rfl)
    clear hB
    go_enter Try.func57, Try.ntmps57
    go_wp2_with (fail)
    go_ret
    exact ⟨rfl, rfl⟩
  · have e1 : ((p : Int) == (r : Int)) = false := by simp; omega
    obtain ⟨x, hx⟩ : ∃ x, x = ov p := ⟨_, rfl⟩
    have hb : B = decide (0 ≤ x) := by
      rw [Bool.eq_iff_iff, hB, decide_eq_true_iff, hx]
      exact ⟨fun h => h.resolve_left e, .inr⟩
    rw [← hx] at c0
    clear hB hx e
    subst hb
    go_enter Try.func57, Try.ntmps57
    go_wp2_with (fail)
    go_ret
    exact ⟨rfl, rfl⟩

set_option maxRecDepth 100000 in
set_option maxHeartbeats 1000000 in
theorem meet_any {r n : Nat} {found : List Nat} {pl : Nat → Nat} {ov : Nat → Int} (w : World) (pb ob a b : Nat) (hpl : IArr w pb n (fun v => (pl v : Int))) (ho : IArr w ob n ov) (hp : Pl found pl) (ht : Tr r found pl ov) (hr : r ∈ found) (hmax : ∀ v ∈ found, pl v ≤ pl r) (hin : ∀ v ∈ found, v < n) (hn : n ≤ 1000000) (ha : Pr ov r a) (hb : Pr ov r b) :
    Calls Try.prog 77 #[.int .i64 (a : Int), .int .i64 (b : Int), .slice (some ⟨pb, 0, none⟩) n n, .slice (some ⟨ob, 0, none⟩) n n] w fun e w' => ∃ c : Nat, e = .returned (.int .i64 (c : Int)) ∧ Meets ov a b c ∧ Pr ov r c ∧ ∃ q, w' = w.drewN q := by
  have HPL := Lib.hid hpl
  have HO := Lib.hid ho
  have HP := Lib.hid hp
  have HT := Lib.hid ht
  have HIN := Lib.hid hin
  have HMX := Lib.hid hmax
  have HA := Lib.hid ha
  have HB := Lib.hid hb
  clear hpl ho hp ht hin hmax ha hb
  go_enter Try.func77, Try.ntmps77
  go_wp2_with (fail)
  go_loopw [0, 1] (fun u v wr => ∃ (x y : Nat) (q : Nat), u = .int .i64 (x : Int) ∧ v = .int .i64 (y : Int) ∧ Hid (wr = w.drewN q) ∧ Hid (Pr ov r x ∧ Pr ov r y ∧ Up ov a x ∧ Up ov b y ∧ ∀ z, Up ov a z → Up ov b z → Up ov x z ∧ Up ov y z)) (fun u v _ => (pl r - pl (intOf u).toNat) + (pl r - pl (intOf v).toNat))
  case atStart => exact ⟨a, b, 0, rfl, rfl, Lib.hid rfl, Lib.hid ⟨HA.out, HB.out, .refl _, .refl _, fun z h1 h2 => ⟨h1, h2⟩⟩⟩
  case round =>
    obtain ⟨x, y, q, rfl, rfl, hw, hi⟩ := hrel
    obtain ⟨hx, hy, hax, hby, hz⟩ := hi.out
    have hxf := HT.out.mem hr hx
    have hyf := HT.out.mem hr hy
    have hxn := HIN.out x hxf
    have hyn := HIN.out y hyf
    by_cases e : x = y
    · subst e
      have HF := Lib.hid (show Meets ov a b x ∧ Pr ov r x from ⟨⟨hax, hby, fun z h1 h2 => (hz z h1 h2).1⟩, hx⟩)
      clear hi hx hy hax hby hz
      go_wp2_with (fail)
      go_ret
      exact ⟨x, rfl, HF.out.1, HF.out.2, q, hw.out⟩
    · have e1 : ((x : Int) == (y : Int)) = false := by simp; omega
      have k0 := HPL.out.cell hxn
      have k1 := HPL.out.cell hyn
      have k2 := HO.out.cell hxn
      have k3 := HO.out.cell hyn
      obtain ⟨px, HPX⟩ : ∃ px, Hid (pl x = px) := ⟨_, Lib.hid rfl⟩
      obtain ⟨py, HPY⟩ : ∃ py, Hid (pl y = py) := ⟨_, Lib.hid rfl⟩
      rw [HPX.out] at k0
      rw [HPY.out] at k1
      have hmx := HMX.out x hxf
      have hmy := HMX.out y hyf
      rw [HPX.out] at hmx
      rw [HPY.out] at hmy
      have HMM := Lib.hid (And.intro hmx hmy)
      have HE := Lib.hid e
      have hne : px ≠ py := fun h => e (HP.out.inj hxf hyf (by rw [HPX.out, HPY.out, h]))
      have hwr : wr = w.drewN q := hw.out
      subst hwr
      clear hmx hmy hi e hw
      by_cases hlt : px < py
      · have hxr : x ≠ r := fun h => by subst h; have := HMM.out; rw [HPX.out] at this; omega
        obtain ⟨c, hc⟩ : ∃ c : Nat, ov x = (c : Int) := by
          rcases hx with h | h
          · exact absurd h hxr
          · exact ⟨(ov x).toNat, by omega⟩
        obtain ⟨_, hcf, hcl, hcp⟩ := HT.out.next hc
        have hcm := HMX.out c hcf
        rw [hc] at k2
        have HS := Lib.hid (show Pr ov r c ∧ Pr ov r y ∧ Up ov a c ∧ Up ov b y ∧ ∀ z, Up ov a z → Up ov b z → Up ov c z ∧ Up ov y z from ⟨hcp, hy, hax.trans (.one hc), hby, fun z h1 h2 => by
          obtain ⟨h3, h4⟩ := hz z h1 h2
          refine ⟨?_, h4⟩
          rcases h3.cases' with h5 | ⟨d, h5, h6⟩
          · subst h5
            have := HT.out.le h4
            rw [HPX.out, HPY.out] at this
            omega
          · rw [hc] at h5
            have := Int.ofNat.inj h5
            subst this
            exact h6⟩)
        have HC := Lib.hid (show pl r - pl c < pl r - px by rw [← HPX.out]; have := HMM.out; omega)
        clear hx hy hax hby hz hc hcl hcp hcm hxr hne
        go_wp2_with (fail)
        go_quiet (fail)
        go_wp2_with (fail)
        refine ⟨⟨c, y, q + nq, rfl, rfl, Lib.hid (by first | rfl | (simp [World.drewN])), HS⟩, ?_⟩
        have := HC.out
        have := HPX.out
        simp only [intOf, Int.toNat_natCast]
        omega
      · have hyr : y ≠ r := fun h => by subst h; have := HMM.out; rw [HPY.out] at this; omega
        obtain ⟨c, hc⟩ : ∃ c : Nat, ov y = (c : Int) := by
          rcases hy with h | h
          · exact absurd h hyr
          · exact ⟨(ov y).toNat, by omega⟩
        obtain ⟨_, hcf, hcl, hcp⟩ := HT.out.next hc
        have hcm := HMX.out c hcf
        rw [hc] at k3
        have HS := Lib.hid (show Pr ov r x ∧ Pr ov r c ∧ Up ov a x ∧ Up ov b c ∧ ∀ z, Up ov a z → Up ov b z → Up ov x z ∧ Up ov c z from ⟨hx, hcp, hax, hby.trans (.one hc), fun z h1 h2 => by
          obtain ⟨h3, h4⟩ := hz z h1 h2
          refine ⟨h3, ?_⟩
          rcases h4.cases' with h5 | ⟨d, h5, h6⟩
          · subst h5
            have := HT.out.le h3
            rw [HPX.out, HPY.out] at this
            omega
          · rw [hc] at h5
            have := Int.ofNat.inj h5
            subst this
            exact h6⟩)
        have HC := Lib.hid (show pl r - pl c < pl r - py by rw [← HPY.out]; have := HMM.out; omega)
        clear hx hy hax hby hz hc hcl hcp hcm hyr hne
        go_wp2_with (fail)
        go_quiet (fail)
        go_wp2_with (fail)
        refine ⟨⟨x, c, q + nq, rfl, rfl, Lib.hid (by first | rfl | (simp [World.drewN])), HS⟩, ?_⟩
        have := HC.out
        have := HPY.out
        simp only [intOf, Int.toNat_natCast]
        omega
end Go.Proofs.Ytbdpdbeekbbehaa
