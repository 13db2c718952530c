/- What is proved: the reference's Move returns what the program's Move returns. -/
import Derived.Test.YtgihfnnffailiaaMove
import Derived.Deep.Draws
set_option linter.unusedVariables false
namespace Go.Proofs.Ytgihfnnffailiaa
open Go.RowKit

set_option maxHeartbeats 400000 in
theorem refMove_out (A : Option Addr) (c : Nat) (l : List Rep) (a : Int) (w : World) (h : a < 0 ∨ 16384 < a) :
    Calls Try.prog 26 #[.slice A l.length c, .int .i64 a] w fun e w' => e = .returned (.int .i64 (mv l a)) ∧ ∃ n, w' = w.drewN n := by
  have HM := Lib.hid (mv_no l a (by omega))
  by_cases h0 : a < 0
  · go_enter Try.func26, Try.ntmps26
    go_wp2_with (fail)
    go_ret
    exact ⟨ret_int HM.out.symm, 0, rfl⟩
  · have h1 : 16384 < a := by omega
    clear h
    go_enter Try.func26, Try.ntmps26
    go_wp2_with (fail)
    go_ret
    exact ⟨ret_int HM.out.symm, 0, rfl⟩

set_option maxRecDepth 100000 in
set_option maxHeartbeats 2000000 in
theorem refMove_in (A : Option Addr) (c : Nat) (l : List Rep) (a : Int) (w : World) (hl : l.length ≤ 1000) (hs : Short l) (hr : RepsA w A l) (h0 : 0 ≤ a) (h1 : a ≤ 16384) :
    Calls Try.prog 26 #[.slice A l.length c, .int .i64 a] w fun e w' => e = .returned (.int .i64 (mv l a)) ∧ ∃ n, w' = w.drewN n := by
  have HR := Lib.hid hr
  have HS := Lib.hid hs
  have HB := Lib.hid (fun h => mv_no l a (.inr (.inr h)))
  have HY := Lib.hid (fun h => mv_yes l a h0 h1 h)
  clear hr hs
  go_enter Try.func26, Try.ntmps26
  go_wp2_with (fail)
  go_loopw [5, 6] (fun y i wr => ∃ (k n : Nat) (last : Int), k ≤ l.length ∧ i = .int .i64 (k : Int) ∧ y = .int .i64 last ∧ Hid (ordB l 0 = ordB (l.drop k) last) ∧ wr = w.drewN n) (fun _ i _ => l.length - (intOf i).toNat)
  case atStart => exact ⟨0, 0, 0, Nat.zero_le _, rfl, rfl, rfl, rfl⟩
  case round =>
    obtain ⟨k, n, last, hk, rfl, rfl, hch, rfl⟩ := hrel
    by_cases hlt : k < l.length
    · obtain ⟨b, off, rfl, _, hr⟩ := HR.out (by omega)
      obtain ⟨c1, c2, c3⟩ := hr k hlt
      have d1 := Lib.hid (ordB_halt l k hlt last)
      have d3 := Lib.hid (ordB_step l k hlt last)
      generalize l[k].lo = p at *
      generalize l[k].hi = q at *
      clear hr
      by_cases g1 : p < last
      · have HV := Lib.hid (HB.out (hch.out.trans (d1.out (.inl g1))))
        have b1 : decide (p < last) = true := by simpa using g1
        go_wp2
        go_quiet (fail)
        go_wp2
        go_ret
        exact ⟨ret_int HV.out.symm, _, by first | rfl | exact World.drewN_drewN _ _ _⟩
      · have b1 : decide (p < last) = false := by simpa using g1
        by_cases g2 : q < p
        · have HV := Lib.hid (HB.out (hch.out.trans (d1.out (.inr (.inl g2)))))
          have b2 : decide (q < p) = true := by simpa using g2
          go_wp2
          go_quiet (fail)
          go_wp2
          go_ret
          exact ⟨ret_int HV.out.symm, _, by first | rfl | exact World.drewN_drewN _ _ _⟩
        · have b2 : decide (q < p) = false := by simpa using g2
          by_cases g3 : 16384 < q
          · have HV := Lib.hid (HB.out (hch.out.trans (d1.out (.inr (.inr g3)))))
            have b3 : decide (16384 < q) = true := by simpa using g3
            go_wp2
            go_quiet (fail)
            go_wp2
            go_ret
            exact ⟨ret_int HV.out.symm, _, by first | rfl | exact World.drewN_drewN _ _ _⟩
          · have HV := Lib.hid (d3.out (by omega))
            have b3 : decide (16384 < q) = false := by simpa using g3
            go_wp2
            go_quiet (fail)
            go_wp2
            exact ⟨⟨k + 1, _, q, by omega, by go_num, rfl, hch.out.trans HV.out, by first | rfl | exact World.drewN_drewN _ _ _⟩, by simp [intOf]; omega⟩
    · have HO := Lib.hid (hch.out.trans (ordB_end l k hlt last))
      go_wp2_with (fail)
      go_loopw [7, 8] (fun y i wr => ∃ (k n : Nat) (d last : Int), k ≤ l.length ∧ i = .int .i64 (k : Int) ∧ y = .int .i64 d ∧ -((k : Int) * 16384) ≤ d ∧ d ≤ (k : Int) * 1000000 ∧ 0 ≤ last ∧ Hid (mvTo l a 0 = mvTo (l.drop k) a d) ∧ Hid (ordB (l.drop k) last = true) ∧ wr = w.drewN n) (fun _ i _ => l.length - (intOf i).toNat)
      case atStart => exact ⟨0, n, 0, 0, Nat.zero_le _, rfl, rfl, by omega, by omega, Int.le_refl _, rfl, HO, rfl⟩
      case round =>
        obtain ⟨k, n, d, last, hk, rfl, rfl, hd1, hd2, hlast, hmv, hor, rfl⟩ := hrel
        by_cases hlt : k < l.length
        · obtain ⟨b, off, rfl, _, hr⟩ := HR.out (by omega)
          obtain ⟨c1, c2, c3⟩ := hr k hlt
          obtain ⟨o1, o2, o3, o4⟩ := ordB_get l k hlt last hor.out
          have hts := HS.out k hlt
          have e1 := Lib.hid (mvTo_hit l k hlt a d)
          have e2 := Lib.hid (mvTo_past l k hlt a d)
          have e3 := Lib.hid (mvTo_skip l k hlt a d)
          have hg : grow l[k] = l[k].text.size - (l[k].hi - l[k].lo) := rfl
          rw [hg] at e2
          have HN := Lib.hid o4
          clear o4 hr hg
          generalize l[k].lo = p at *
          generalize l[k].hi = q at *
          generalize l[k].text = txt at *
          by_cases g1 : p ≤ a
          · by_cases g2 : a < q
            · have HV := Lib.hid (HY.out HO.out |>.trans (hmv.out.trans (e1.out g1 g2)))
              go_wp2_with (fail)
              have m1 : IntKind.i64.wrap (p + d) = p + d := IntWalk.i64_in _ (by omega)
              have m2 : IntKind.i64.wrap (a - p) = a - p := IntWalk.i64_in _ (by omega)
              by_cases g3 : a - p ≤ (txt.size : Int)
              · have m3 : IntKind.i64.wrap (p + d + (a - p)) = p + d + (a - p) := IntWalk.i64_in _ (by omega)
                go_quiet (fail)
                clear m1 m2 m3
                go_wp2_with (fail)
                go_ret
                exact ⟨ret_int (a := p + d + (a - p)) (by rw [HV.out]; omega), _, by first | rfl | exact World.drewN_drewN _ _ _⟩
              · have g4 : (txt.size : Int) < a - p := by omega
                have m3 : IntKind.i64.wrap (p + d + (txt.size : Int)) = p + d + (txt.size : Int) := IntWalk.i64_in _ (by omega)
                go_quiet (fail)
                clear m1 m2 m3
                go_wp2_with (fail)
                go_ret
                exact ⟨ret_int (a := p + d + (txt.size : Int)) (by rw [HV.out]; omega), _, by first | rfl | exact World.drewN_drewN _ _ _⟩
            · have HV := Lib.hid (hmv.out.trans (e2.out (by omega) (by omega)))
              have g3 : q ≤ a := by omega
              go_wp2_with (fail)
              have m1 : IntKind.i64.wrap (d + (txt.size : Int)) = d + (txt.size : Int) := IntWalk.i64_in _ (by omega)
              have m2 : IntKind.i64.wrap (q - p) = q - p := IntWalk.i64_in _ (by omega)
              have m3 : IntKind.i64.wrap (d + (txt.size : Int) - (q - p)) = d + (txt.size : Int) - (q - p) := IntWalk.i64_in _ (by omega)
              go_quiet (fail)
              clear m1 m2 m3
              go_wp2_with (fail)
              exact ⟨⟨k + 1, _, d + (txt.size : Int) - (q - p), q, by omega, by go_num, rfl, by omega, by omega, by omega, (by rw [HV.out]; congr 1; omega), HN, by first | rfl | exact World.drewN_drewN _ _ _⟩, by simp [intOf]; omega⟩
          · by_cases g2 : q ≤ a
            · exfalso; omega
            · have HV := Lib.hid (hmv.out.trans (e3.out (by omega) g2))
              go_wp2_with (fail)
              exact ⟨⟨k + 1, _, d, q, by omega, by go_num, rfl, by omega, by omega, by omega, HV, HN, rfl⟩, by simp [intOf]; omega⟩
        · have HV := Lib.hid (HY.out HO.out |>.trans (hmv.out.trans (mvTo_end l k hlt a d)))
          go_wp2_with (fail)
          go_ret
          exact ⟨ret_int HV.out.symm, _, rfl⟩

theorem refMove_any (A : Option Addr) (c : Nat) (l : List Rep) (a : Int) (w : World) (hl : l.length ≤ 1000) (hs : Short l) (hr : RepsA w A l) :
    Calls Try.prog 26 #[.slice A l.length c, .int .i64 a] w fun e w' => e = .returned (.int .i64 (mv l a)) ∧ ∃ n, w' = w.drewN n := by
  by_cases h : a < 0 ∨ 16384 < a
  · exact refMove_out A c l a w h
  · exact refMove_in A c l a w hl hs hr (by omega) (by omega)
end Go.Proofs.Ytgihfnnffailiaa
