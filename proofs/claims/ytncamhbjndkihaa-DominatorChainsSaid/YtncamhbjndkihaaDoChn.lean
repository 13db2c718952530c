/- What is proved: the law's way up by immediate dominators. -/
import Derived.Test.YtncamhbjndkihaaDoDoms
set_option linter.unusedVariables false
namespace Go.Proofs.Ytncamhbjndkihaa
open Go.RowKit Go.Shelf

/-- the way up, where it stands -/
def ChI (ov : Nat → Int) (n v a k : Nat) (x : Int) : Prop :=
  ∃ S : List Nat, S.Nodup ∧ S.length = k ∧ (∀ s ∈ S, s < n) ∧ ((∃ y : Nat, x = (y : Int) ∧ y < n ∧ Up ov v y ∧ (∀ s ∈ S, ¬ Up ov y s) ∧ (Up ov v a → Up ov y a)) ∨ (x = -1 ∧ ¬ Up ov v a))
theorem ChI.le {ov : Nat → Int} {n v a k : Nat} {x : Int} (h : ChI ov n v a k x) : k ≤ n := by
  obtain ⟨S, h1, h2, h3, _⟩ := h
  rw [← h2]
  exact nodup_len h1 h3
theorem ChI.next {E : Nat → List Nat} {r : Nat} {ov : Nat → Int} {n v a k y : Nat} (hd : DTree E r ov) (hv : VR n ov) (h : ChI ov n v a k (y : Int)) (hy : a ≠ y) : ChI ov n v a (k + 1) (ov y) := by
  obtain ⟨S, h1, h2, h3, h4⟩ := h
  obtain ⟨y', e, g1, g2, g3, g4⟩ | ⟨e, _⟩ := h4
  · have e := Int.ofNat.inj e
    subst e
    refine ⟨y :: S, List.nodup_cons.2 ⟨fun hm => g3 y hm (.refl _), h1⟩, by simp [h2], fun s hs => by
      rcases List.mem_cons.1 hs with rfl | hs
      · exact g1
      · exact h3 s hs, ?_⟩
    rcases hv y with e | ⟨c, e, hc⟩
    · refine .inr ⟨e, fun g => ?_⟩
      rcases (g4 g).cases' with q | ⟨z, q, _⟩
      · exact hy q.symm
      · rw [e] at q; exact absurd q (by omega)
    · refine .inl ⟨c, e, hc, g2.trans (.one e), fun s hs hu => ?_, fun g => ?_⟩
      · rcases List.mem_cons.1 hs with rfl | hs
        · obtain ⟨pl, N, hk⟩ := hd.rk
          have h5 := hd.anti s c (.one e) hu
          have h6 := hk _ _ e
          rw [h5] at h6
          omega
        · exact g3 s hs (.step e hu)
      · rcases (g4 g).cases' with q | ⟨z, q, q2⟩
        · exact absurd q.symm hy
        · rw [e] at q
          have := Int.ofNat.inj q
          subst this
          exact q2
  · omega
theorem ChI.cases {ov : Nat → Int} {n v a k : Nat} {x : Int} (h : ChI ov n v a k x) : (∃ y : Nat, x = (y : Int) ∧ y < n ∧ Up ov v y) ∨ (x = -1 ∧ ¬ Up ov v a) := by
  obtain ⟨S, h1, h2, h3, ⟨y, e, g1, g2, _⟩ | h4⟩ := h
  · exact .inl ⟨y, e, g1, g2⟩
  · exact .inr h4
set_option maxRecDepth 100000 in
set_option maxHeartbeats 1000000 in
theorem chain_any {E : Nat → List Nat} {r n ob nb : Nat} {ov : Nat → Int} (a v : Nat) (w : World) (ho : IArr w ob n ov) (hd : DTree E r ov) (hvr : VR n ov) (hx : Bx w nb 3 (.int .i64 (n : Int))) (hv : v < n) (ha : a ≤ 1000000) (hn : n ≤ 1000000) (T : Bool) (hT : T = true ↔ Up ov v a) :
    Calls Try.prog 32 #[.slice (some ⟨ob, 0, none⟩) n n, .int .i64 (a : Int), .int .i64 (v : Int), .pointer (some ⟨nb, 0, none⟩)] w fun e W => e = .returned (.bool T) ∧ w = W := by
  have HO := Lib.hid ho
  have HD := Lib.hid hd
  have HV := Lib.hid hvr
  have HT := Lib.hid hT
  have c0 := hx.cell
  clear ho hd hvr hT hx
  go_enter Try.func32, Try.ntmps32
  go_wp2_with (fail)
  go_loopw [2, 10] (fun x i wr => ∃ (y : Int) (k : Nat), x = .int .i64 y ∧ i = .int .i64 (k : Int) ∧ k ≤ n ∧ Hid (wr = w) ∧ Hid (ChI ov n v a k y)) (fun _ i _ => n + 1 - (intOf i).toNat)
  case atStart => exact ⟨v, 0, rfl, rfl, Nat.zero_le _, Lib.hid rfl, Lib.hid ⟨[], List.nodup_nil, rfl, by simp, .inl ⟨v, rfl, hv, .refl _, by simp, fun h => h⟩⟩⟩
  case round =>
    obtain ⟨x, k, rfl, rfl, hk, hw, hi⟩ := hrel
    obtain rfl := hw.out
    have hk1 : k < n + 1 := by omega
    rcases hi.out.cases with ⟨y, rfl, hy, hu⟩ | ⟨rfl, hnu⟩
    · by_cases hay : a = y
      · subst hay
        have HTT := Lib.hid (show T = true from HT.out.2 hu)
        clear hu
        go_wp2_with (fail)
        go_ret
        rw [HTT.out]
        exact ⟨rfl, rfl⟩
      · have hay' : ¬ (a : Int) = (y : Int) := by omega
        have h0 : ¬ (y : Int) < 0 := by omega
        have k1 := HO.out.cell hy
        have f1 := HO.out.frz y
        have HN := Lib.hid (ChI.next HD.out HV.out hi.out hay)
        have hle := HN.out.le
        obtain ⟨z, hz⟩ : ∃ z, z = ov y := ⟨_, rfl⟩
        rw [← hz] at k1 HN
        clear hu hay hz
        go_wp2_with (fail)
        exact ⟨⟨z, k + 1, rfl, by go_num, by omega, Lib.hid (by first | rfl | trivial), HN⟩, by simp [intOf]; omega⟩
    · have HTT := Lib.hid (show T = false from by
        cases hq : T with
        | false => rfl
        | true => exact absurd (HT.out.1 hq) hnu)
      have ha1 : ¬ (a : Int) = -1 := by omega
      clear hnu
      go_wp2_with (fail)
      go_ret
      rw [HTT.out]
      exact ⟨rfl, rfl⟩
end Go.Proofs.Ytncamhbjndkihaa
