/- What is proved: Move (the program's and the reference's) returns what the plain function says. -/
import Derived.Test.YtgihfnnffailiaaOrd
set_option linter.unusedVariables false
namespace Go.Proofs.Ytgihfnnffailiaa
open Go.RowKit

theorem ret_int {k : IntKind} {a b : Int} (h : a = b) : Ending.returned (.int k a) = .returned (.int k b) := by rw [h]

set_option maxHeartbeats 400000 in
theorem move_bad (A : Option Addr) (c : Nat) (l : List Rep) (a : Int) (w : World) (hl : l.length ≤ 1000) (hr : RepsA w A l) (hbad : a < 0 ∨ 16384 < a ∨ ordB l 0 = false) :
    Calls Try.prog 25 #[.slice A l.length c, .int .i64 a] w fun e w' => e = .returned (.int .i64 (mv l a)) ∧ Below w.heap.size w w' := by
  have hm := mv_no l a hbad
  have HM := Lib.hid hm
  have HC := Lib.hid (fun w1 => ordered_any A c l w1 (by omega))
  have HR := Lib.hid hr
  clear hm hr
  by_cases h0 : a < 0
  · clear hbad
    go_enter Try.func25, Try.ntmps25
    go_wp2_with (fail)
    go_ret
    exact ⟨ret_int HM.out.symm, Below.refl _ _⟩
  · by_cases h1 : 16384 < a
    · clear hbad
      go_enter Try.func25, Try.ntmps25
      go_wp2_with (fail)
      go_ret
      exact ⟨ret_int HM.out.symm, Below.refl _ _⟩
    · have hord : ordB l 0 = false := by
        rcases hbad with h | h | h
        · exact absurd h h0
        · exact absurd h h1
        · exact h
      clear hbad
      go_enter Try.func25, Try.ntmps25
      go_wp2_with (go_at_call 41; refine (HC.out _ HR.out).mono ?_; rintro e w' ⟨rfl, hb1⟩)
      go_ret
      exact ⟨ret_int HM.out.symm, hb1⟩

set_option maxHeartbeats 1000000 in
theorem move_good (A : Option Addr) (c : Nat) (l : List Rep) (a : Int) (w : World) (hl : l.length ≤ 1000) (hs : Short l) (hr : RepsA w A l) (h0 : 0 ≤ a) (h1 : a ≤ 16384) (hord : ordB l 0 = true) :
    Calls Try.prog 25 #[.slice A l.length c, .int .i64 a] w fun e w' => e = .returned (.int .i64 (mv l a)) ∧ Below w.heap.size w w' := by
  have HM := Lib.hid (mv_yes l a h0 h1 hord)
  have HC := Lib.hid (fun w1 => ordered_any A c l w1 (by omega))
  have HR := Lib.hid hr
  have HO := Lib.hid hord
  have HS := Lib.hid hs
  clear hr hs
  go_enter Try.func25, Try.ntmps25
  go_wp2_with (go_at_call 41; refine (HC.out _ HR.out).mono ?_; rintro e w1 ⟨rfl, hb1⟩)
  clear hord
  have hz1 := hb1.size
  go_loopw [5, 21] (fun x i wr => ∃ (k : Nat) (d last : Int), k ≤ l.length ∧ i = .int .i64 (k : Int) ∧ x = .int .i64 d ∧ -((k : Int) * 16384) ≤ d ∧ d ≤ (k : Int) * 1000000 ∧ 0 ≤ last ∧ Hid (mvTo l a 0 = mvTo (l.drop k) a d) ∧ Hid (ordB (l.drop k) last = true) ∧ Below w.heap.size w wr) (fun _ i _ => l.length - (intOf i).toNat)
  case atStart => exact ⟨0, 0, 0, Nat.zero_le _, rfl, rfl, by omega, by omega, Int.le_refl _, rfl, HO, hb1⟩
  case round =>
    obtain ⟨k, d, last, hk, rfl, rfl, hd1, hd2, hlast, hmv, hor, hbw⟩ := hrel
    by_cases hlt : k < l.length
    · obtain ⟨b, off, rfl, hb, hr⟩ := (HR.out.below hbw) (by omega)
      obtain ⟨c1, c2, c3⟩ := hr k hlt
      clear hr
      obtain ⟨o1, o2, o3, o4⟩ := ordB_get l k hlt last hor.out
      have hts := HS.out k hlt
      have hgb := grow_bd l[k] (by omega) o2 o3 hts
      have HN := Lib.hid o4
      have hbz := hbw.size
      have HG := Lib.hid (fun w1 => growth_any l[k] w1 (by omega) (by omega) (by omega) (by omega) hts)
      clear o4
      by_cases g1 : l[k].lo ≤ a ∧ a < l[k].hi
      · have HV := Lib.hid (mvTo_hit l k hlt a d g1.1 g1.2)
        obtain ⟨g1, g2⟩ := g1
        go_wp2_with (fail)
        all_goals
          have hmin : min (a - l[k].lo) (l[k].text.size : Int) = a - l[k].lo ∨ min (a - l[k].lo) (l[k].text.size : Int) = l[k].text.size := by omega
          go_ret
          have hval := HM.out.trans (hmv.out.trans HV.out)
          first
          | exact ⟨ret_int (a := l[k].lo + d + (a - l[k].lo)) (by rw [hval]; omega), hbw.alloc hbz _⟩
          | exact ⟨ret_int (a := l[k].lo + d + (l[k].text.size : Int)) (by rw [hval]; omega), hbw.alloc hbz _⟩
      · by_cases g2 : l[k].hi ≤ a
        · have HV := Lib.hid (mvTo_past l k hlt a d g1 g2)
          clear g1
          go_wp2_with (go_at_call 40; refine (HG.out _).mono ?_; rintro e w2 ⟨rfl, hb2⟩)
          have hb3 : Below w.heap.size w w2 := (hbw.alloc hbz _).trans (hb2.mono (by simp; omega))
          exact ⟨⟨k + 1, d + grow l[k], l[k].hi, by omega, by go_num, rfl, by omega, by omega, by omega, hmv.out.trans HV.out, HN.out, hb3⟩, by simp [intOf]; omega⟩
        · have HV := Lib.hid (mvTo_skip l k hlt a d g1 g2)
          have g3 : a < l[k].lo := by omega
          clear g1
          go_wp2_with (fail)
          exact ⟨⟨k + 1, d, l[k].hi, by omega, by go_num, rfl, by omega, by omega, by omega, hmv.out.trans HV.out, HN.out, hbw.alloc hbz _⟩, by simp [intOf]; omega⟩
    · go_wp2_with (fail)
      go_ret
      exact ⟨ret_int (by rw [HM.out, hmv.out, mvTo_end l k hlt]), hbw⟩

theorem move_any (A : Option Addr) (c : Nat) (l : List Rep) (a : Int) (w : World) (hl : l.length ≤ 1000) (hs : Short l) (hr : RepsA w A l) :
    Calls Try.prog 25 #[.slice A l.length c, .int .i64 a] w fun e w' => e = .returned (.int .i64 (mv l a)) ∧ Below w.heap.size w w' := by
  by_cases h : a < 0 ∨ 16384 < a ∨ ordB l 0 = false
  · exact move_bad A c l a w hl hr h
  · have ho : ordB l 0 = true := by
      cases hh : ordB l 0 with
      | true => rfl
      | false => exact absurd (.inr (.inr hh)) h
    exact move_good A c l a w hl hs hr (by omega) (by omega) ho
end Go.Proofs.Ytgihfnnffailiaa
