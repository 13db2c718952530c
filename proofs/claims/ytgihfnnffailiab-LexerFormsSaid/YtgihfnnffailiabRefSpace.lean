/- What is proved: the reference's Space returns what the plain function says. -/
import Derived.Test.YtgihfnnffailiabName
import Derived.Test.YtgihfnnffailiabTokensLaw
set_option linter.unusedVariables false
namespace Go.Proofs.Ytgihfnnffailiab
open Go.RowKit

/-- the first two tokens of a list of tokens are exactly two words, and nothing follows -/
def twoWords (l : List Tok) (m n : Int) : Prop := ∃ t1 t2 t3, l = [t1, t2, t3] ∧ t1.at_ = 0 ∧ t1.hi = m ∧ t2.at_ = m ∧ t2.hi = n

theorem scan_step0 (l : List UInt8) : scan l = nextTok l 0 :: if (nextTok l 0).kind = 5 then [] else scanTo l l.length (nextTok l 0).hi.toNat := scanTo_step l l.length 0

theorem glue_eq (a b : ByteArray) : glueB a b = true ↔ twoWords (scan (a.data.toList ++ b.data.toList)) a.size ((a.size : Int) + b.size) := by
  have hl : (a.data.toList ++ b.data.toList).length = a.size + b.size := by simp
  unfold glueB
  generalize a.data.toList ++ b.data.toList = l at *
  have hd1 : (nextTok l 0).hi.toNat = (tokAt l (blank l 0)).2 := by unfold nextTok; simp
  have b1 := nextTok_bd l 0 (Nat.zero_le _)
  have e1 := nextTok_end l 0 (Nat.zero_le _)
  have m1 := nextTok_more l 0 (Nat.zero_le _)
  have x1 : (nextTok l 0).at_ = (blank l 0 : Nat) := rfl
  rw [← hd1]
  have hle : (nextTok l 0).hi.toNat ≤ l.length := by omega
  have b2 := nextTok_bd l _ hle
  have e2 := nextTok_end l _ hle
  have m2 := nextTok_more l _ hle
  have x2 : (nextTok l (nextTok l 0).hi.toNat).at_ = (blank l (nextTok l 0).hi.toNat : Nat) := rfl
  have hle2 : (nextTok l (nextTok l 0).hi.toNat).hi.toNat ≤ l.length := by omega
  have e3 := nextTok_end l _ hle2
  have o3 := blank_out l (nextTok l (nextTok l 0).hi.toNat).hi.toNat
  unfold covB twoWords
  simp only [Bool.and_eq_true, decide_eq_true_eq, beq_iff_eq]
  constructor
  · rintro ⟨⟨⟨h1, h2⟩, h3⟩, ⟨h4, h5⟩, h6⟩
    have k1 : (nextTok l 0).kind ≠ 5 := fun h => by have := e1.1 h; omega
    have k2 : (nextTok l (nextTok l 0).hi.toNat).kind ≠ 5 := fun h => by have := e2.1 h; omega
    have k3 : (nextTok l (nextTok l (nextTok l 0).hi.toNat).hi.toNat).kind = 5 := e3.2 (by rw [o3 (by omega)]; omega)
    refine ⟨nextTok l 0, nextTok l (nextTok l 0).hi.toNat, nextTok l (nextTok l (nextTok l 0).hi.toNat).hi.toNat, ?_, h2, h3, h5, h6⟩
    rw [scan_step0, if_neg k1]
    obtain ⟨f, hf⟩ : ∃ f, l.length = f + 2 := ⟨l.length - 2, by omega⟩
    rw [hf, scanTo_step, if_neg k2, scanTo_step, if_pos k3]
  · rintro ⟨t1, t2, t3, h, h2, h3, h5, h6⟩
    rw [scan_step0] at h
    injection h with g1 h
    split at h
    · cases h
    · rename_i k1
      cases hf : l.length with
      | zero =>
        rw [hf] at h
        cases h
      | succ f =>
        rw [hf, scanTo_step] at h
        injection h with g2 h
        split at h
        · cases h
        · rename_i k2
          rw [← g1] at h2 h3
          rw [← g2] at h5 h6
          have a1 := m1 k1
          have a2 := m2 k2
          refine ⟨⟨⟨by omega, h2⟩, h3⟩, ⟨by omega, h5⟩, h6⟩

set_option maxHeartbeats 1000000 in
theorem r_space_any (a b : ByteArray) (w : World) (ha : a.size ≤ 2000) (hb : b.size ≤ 2000) :
    Calls Try.prog 25 #[.string a, .string b] w fun e w' => e = .returned (.string (spaceS a b)) ∧ Below w.heap.size w w' := by
  have hz : (a ++ b).size = a.size + b.size := ByteArray.size_append
  have HS := Lib.hid (r_scan_any (a ++ b) w (by omega))
  have hlen := scan_length (a ++ b).data.toList
  rw [app_list] at HS hlen
  rw [show (a.data.toList ++ b.data.toList).length = a.size + b.size from by simp] at hlen
  have HG := Lib.hid (glue_eq a b)
  have HV := Lib.hid (show spaceS a b = if glueB a b then ⟨#[]⟩ else ⟨#[32]⟩ from rfl)
  generalize scan (a.data.toList ++ b.data.toList) = l at *
  generalize glueB a b = q at *
  generalize spaceS a b = sp at *
  by_cases h3 : l.length = 3
  · obtain ⟨t1, t2, t3, rfl⟩ : ∃ t1 t2 t3, l = [t1, t2, t3] := by
      match l, h3 with
      | [x, y, z], _ => exact ⟨x, y, z, rfl⟩
    have HT : Hid (q = true ↔ t1.at_ = 0 ∧ t1.hi = a.size ∧ t2.at_ = a.size ∧ t2.hi = (a.size : Int) + b.size) := by
      refine HG.out.trans ⟨?_, ?_⟩
      · rintro ⟨u1, u2, u3, h, r⟩
        injection h with g1 h
        injection h with g2 h
        rw [g1, g2]
        exact r
      · intro r
        exact ⟨t1, t2, t3, rfl, r⟩
    have HY : Hid (q = true → sp = ⟨#[]⟩) := fun h => by have := HV.out; rw [h] at this; exact this
    have HN : Hid (¬ q = true → sp = ⟨#[32]⟩) := fun h => by have := HV.out; rw [if_neg h] at this; exact this
    clear HG HV h3 hlen
    go_enter Try.func25, Try.ntmps25
    go_wp2_with (fail)
    refine HS.out.mono ?_
    rintro e w1 ⟨A, c, rfl, ht, hb1⟩
    obtain ⟨bb, off, rfl, hbl, hr⟩ := ht (by simp)
    obtain ⟨_, _, x1, x2⟩ := hr 0 (by simp)
    obtain ⟨_, _, y1, y2⟩ := hr 1 (by simp)
    simp only [List.getElem_cons_succ, List.getElem_cons_zero] at x1 x2 y1 y2
    have B1 := Lib.hid hb1
    clear hb1 hr ht
    go_wp2_with (fail)
    all_goals
      go_ret
      try simp only [bne_iff_ne, ne_eq, bne_eq_false_iff_eq] at *
      first
      | exact ⟨congrArg (fun x => Ending.returned (Value.string x)) (HY.out (HT.out.2 (by omega))).symm, B1.out⟩
      | exact ⟨congrArg (fun x => Ending.returned (Value.string x)) (HN.out (fun h => by have := HT.out.1 h; omega)).symm, B1.out⟩
  · have HN : Hid (sp = ⟨#[32]⟩) := by
      have hq : ¬ q = true := fun h => by
        obtain ⟨t1, t2, t3, e, _⟩ := HG.out.1 h
        rw [e] at h3
        exact h3 rfl
      have := HV.out
      rw [if_neg hq] at this
      exact this
    have hne : ((l.length : Int) != 3) = true := by simp; omega
    clear HG HV
    go_enter Try.func25, Try.ntmps25
    go_wp2_with (fail)
    refine HS.out.mono ?_
    rintro e w1 ⟨A, c, rfl, ht, hb1⟩
    have B1 := Lib.hid hb1
    clear hb1 ht
    go_wp2_with (fail)
    go_ret
    exact ⟨congrArg (fun x => Ending.returned (Value.string x)) HN.out.symm, B1.out⟩
end Go.Proofs.Ytgihfnnffailiab
