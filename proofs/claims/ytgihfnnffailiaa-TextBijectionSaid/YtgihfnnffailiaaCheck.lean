/- What is proved: check returns the error of replacements as the plain function says. -/
import Derived.Test.YtgihfnnffailiaaMove
set_option linter.unusedVariables false
namespace Go.Proofs.Ytgihfnnffailiaa
open Go.RowKit

set_option maxHeartbeats 1000000 in
theorem check_any (s : ByteArray) (A : Option Addr) (c : Nat) (l : List Rep) (w : World) (hz : s.size ≤ 1000000) (hl : l.length ≤ 1000) (hs : Short l) (hr : RepsA w A l) :
    Calls Try.prog 35 #[.string s, .slice A l.length c] w fun e w' => e = .returned (.int .i64 (chk s.size l 0 s.size)) ∧ Below w.heap.size w w' := by
  have HR := Lib.hid hr
  have HS := Lib.hid hs
  clear hr hs
  go_enter Try.func35, Try.ntmps35
  go_wp2
  go_loopw [5, 6, 13] (fun x y i wr => ∃ (k : Nat) (d last : Int), k ≤ l.length ∧ i = .int .i64 (k : Int) ∧ x = .int .i64 d ∧ y = .int .i64 last ∧ -((k : Int) * 1000000) ≤ d ∧ d ≤ (k : Int) * 1000000 + 1000000 ∧ 0 ≤ last ∧ last ≤ 1000000 ∧ Hid (chk s.size l 0 s.size = chk s.size (l.drop k) last d) ∧ Below w.heap.size w wr) (fun _ _ i _ => l.length - (intOf i).toNat)
  case atStart => exact ⟨0, s.size, 0, Nat.zero_le _, rfl, rfl, rfl, by omega, by omega, Int.le_refl _, by omega, rfl, Below.refl _ _⟩
  case round =>
    obtain ⟨k, d, last, hk, rfl, rfl, rfl, hd1, hd2, hl1, hl2, hch, hbw⟩ := hrel
    by_cases hlt : k < l.length
    · obtain ⟨b, off, rfl, hb, hr⟩ := (HR.out.below hbw) (by omega)
      obtain ⟨c1, c2, c3⟩ := hr k hlt
      clear hr
      have hts := HS.out k hlt
      have hbz := hbw.size
      by_cases g : l[k].lo < 0 ∨ l[k].hi < l[k].lo ∨ (s.size : Int) < l[k].hi
      · have HV := Lib.hid (chk_range s.size l k hlt last d g)
        have hway : l[k].lo < 0 ∨ (¬ l[k].lo < 0 ∧ l[k].hi < l[k].lo) ∨ (¬ l[k].lo < 0 ∧ ¬ l[k].hi < l[k].lo ∧ (s.size : Int) < l[k].hi) := by omega
        clear g
        rcases hway with g | ⟨g, g'⟩ | ⟨g, g', g''⟩
        all_goals
          go_wp2_with (fail)
          go_ret
          exact ⟨ret_int (hch.out.trans HV.out).symm, hbw.alloc hbz _⟩
      · obtain ⟨g1, g2, g3⟩ : 0 ≤ l[k].lo ∧ l[k].lo ≤ l[k].hi ∧ l[k].hi ≤ (s.size : Int) := by omega
        by_cases g4 : l[k].lo < last
        · have HV := Lib.hid (chk_arg s.size l k hlt last d g g4)
          clear g
          go_wp2_with (fail)
          go_ret
          exact ⟨ret_int (hch.out.trans HV.out).symm, hbw.alloc hbz _⟩
        · have HV := Lib.hid (chk_step s.size l k hlt last d g g4)
          have hgb := grow_bd2 l[k] g1 g2 (by omega) hts
          have HG := Lib.hid (fun w1 => growth_any l[k] w1 (by omega) (by omega) (by omega) (by omega) hts)
          clear g
          go_wp2_with (go_at_call 40; refine (HG.out _).mono ?_; rintro e w2 ⟨rfl, hb2⟩)
          have hb3 : Below w.heap.size w w2 := (hbw.alloc hbz _).trans (hb2.mono (by simp; omega))
          exact ⟨⟨k + 1, d + grow l[k], l[k].hi, by omega, by go_num, rfl, rfl, by omega, by omega, by omega, by omega, hch.out.trans HV.out, hb3⟩, by simp [intOf]; omega⟩
    · have HV := Lib.hid (chk_end s.size l k hlt last d)
      by_cases g : 16384 < d
      · go_wp2_with (fail)
        go_ret
        exact ⟨ret_int (by rw [hch.out, HV.out, if_pos g]), hbw⟩
      · go_wp2_with (fail)
        go_ret
        exact ⟨ret_int (by rw [hch.out, HV.out, if_neg (by omega)]), hbw⟩
end Go.Proofs.Ytgihfnnffailiaa
