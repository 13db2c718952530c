/- What is proved: TextReplaces answers true at every string, list of replacements and offset. -/
import Derived.Test.YtgihfnnffailiaaAwake
import Derived.Test.YtgihfnnffailiaaFew
import Derived.Test.YtgihfnnffailiaaSame
import Derived.Test.YtgihfnnffailiaaRefMove
import Derived.Test.YtgihfnnffailiaaRefInvert
set_option linter.unusedVariables false
namespace Go.Proofs.Ytgihfnnffailiaa
open Go.RowKit

set_option maxHeartbeats 400000 in
theorem replaces_long (s : ByteArray) (A : Option Addr) (c : Nat) (l : List Rep) (k : Int) (w : World) (h : 300 < s.size) :
    Calls Try.prog 4 #[.string s, .slice A l.length c, .int .i64 k] w fun e w' => e = .returned (.bool true) ∧ Below w.heap.size w w' := by
  go_enter Try.func4, Try.ntmps4
  go_wp2_with (fail)
  refine (awake_any _).mono ?_
  rintro e w1 ⟨rfl, hb1⟩
  go_wp2_with (fail)
  go_ret
  exact ⟨rfl, hb1⟩

set_option maxHeartbeats 400000 in
theorem replaces_many (s : ByteArray) (A : Option Addr) (c : Nat) (l : List Rep) (k : Int) (w : World) (h : s.size ≤ 300) (hl : l.length ≤ 9223372036854775807) (hr : RepsA w A l) (hf : fewB l = false) :
    Calls Try.prog 4 #[.string s, .slice A l.length c, .int .i64 k] w fun e w' => e = .returned (.bool true) ∧ Below w.heap.size w w' := by
  have HF := hide (few_any A c l w hl hr)
  rw [hf] at HF
  clear hr hf
  go_enter Try.func4, Try.ntmps4
  go_wp2_with (fail)
  refine (unhide HF).mono ?_
  rintro e w1 ⟨rfl, rfl⟩
  go_wp2_with (fail)
  refine (awake_any _).mono ?_
  rintro e w1 ⟨rfl, hb1⟩
  go_wp2_with (fail)
  go_ret
  exact ⟨rfl, hb1⟩

set_option maxHeartbeats 2000000 in
theorem replaces_few (s t : ByteArray) (A : Option Addr) (c : Nat) (l bk : List Rep) (k x m : Int) (w : World) (h : s.size ≤ 300) (hl : l.length ≤ 10) (hr : RepsA w A l) (hf : fewB l = true) (hs : Short l) (ht : appText s l = t) (hx : chk s.size l 0 s.size = x) (hbk : invList s l = bk) (hbl : bk.length ≤ 10) (hm : mv l k = m) :
    Calls Try.prog 4 #[.string s, .slice A l.length c, .int .i64 k] w fun e w' => e = .returned (.bool true) ∧ Below w.heap.size w w' := by
  have HF := hide (few_any A c l w (by omega) hr)
  have HA := hide (apply_any s A c l w (by omega) (by omega) hs hr)
  have HA2 := hide (fun w1 h1 => refApply_any s A c l w1 (by omega) (by omega) hs h1)
  have HI := hide (fun w1 h1 => invert_any s A c l w1 (by omega) (by omega) hs h1)
  have HI2 := hide (fun w1 h1 => refInvert_any s A c l w1 (by omega) (by omega) hs h1)
  have HM := hide (fun w1 h1 => move_any A c l k w1 (by omega) hs h1)
  have HM2 := hide (fun w1 h1 => refMove_any A c l k w1 (by omega) hs h1)
  rw [hf] at HF
  rw [ht, hx] at HA HA2
  rw [hbk, hx] at HI HI2
  rw [hm] at HM HM2
  have HR := hide hr
  clear hr hf hs ht hx hbk hm
  go_enter Try.func4, Try.ntmps4
  go_wp2_with (fail)
  refine (unhide HF).mono ?_
  rintro e w1 ⟨rfl, rfl⟩
  go_wp2_with (fail)
  refine (unhide HA).mono ?_
  rintro e w1 ⟨rfl, hb1⟩
  have z1 := hb1.size
  have HR1 := hide ((unhide HR).below hb1)
  have B1 := hide hb1
  clear hb1
  go_wp2_with (fail)
  refine ((unhide HA2) _ (unhide HR1)).mono ?_
  rintro e w2 ⟨rfl, n2, rfl⟩
  have B2 := hide (below_drewN (unhide B1) n2)
  have HR2 := hide ((unhide HR).below (unhide B2))
  go_wp2_with (fail)
  refine ((unhide HI) _ (unhide HR2)).mono ?_
  rintro e w3 ⟨A3, c3, rfl, hr3, hb3⟩
  have z3 := hb3.size
  simp at z3
  have B3 := hide ((unhide B2).trans (hb3.mono (by simp; omega)))
  have HR3 := hide ((unhide HR2).below hb3)
  have HX3 := hide hr3
  clear hb3 hr3
  go_wp2_with (fail)
  refine ((unhide HI2) _ (unhide HR3)).mono ?_
  rintro e w4 ⟨A4, c4, rfl, hr4, hb4⟩
  have z4 := hb4.size
  have B4 := hide ((unhide B3).trans (hb4.mono (by omega)))
  have HR4 := hide ((unhide HR3).below hb4)
  have HS := hide (same_same A3 A4 c3 c4 bk w4 (by omega) ((unhide HX3).below hb4) hr4)
  clear hb4 hr4
  go_wp2_with (fail)
  refine (unhide HS).mono ?_
  rintro e w5 ⟨rfl, n5, rfl⟩
  have B5 := hide (below_drewN (unhide B4) n5)
  have HR5 := hide ((unhide HR).below (unhide B5))
  go_wp2_with (fail)
  refine ((unhide HM) _ (unhide HR5)).mono ?_
  rintro e w6 ⟨rfl, hb6⟩
  have z6 := hb6.size
  simp at z6
  have B6 := hide ((unhide B5).trans (hb6.mono (by simp; omega)))
  have HR6 := hide ((unhide HR).below (unhide B6))
  clear hb6
  go_wp2_with (fail)
  refine ((unhide HM2) _ (unhide HR6)).mono ?_
  rintro e w7 ⟨rfl, n7, rfl⟩
  have B7 := hide (below_drewN (unhide B6) n7)
  go_wp2_with (fail)
  refine (awake_any _).mono ?_
  rintro e w8 ⟨rfl, hb8⟩
  have B8 := hide ((unhide B7).trans (hb8.mono (by simp; omega)))
  clear hb8
  go_wp2_with (fail)
  go_ret
  exact ⟨rfl, unhide B8⟩

theorem replaces_law (s : ByteArray) (A : Option Addr) (c : Nat) (l : List Rep) (k : Int) (w : World) (hl : l.length ≤ 9223372036854775807) (hr : RepsA w A l) :
    Calls Try.prog 4 #[.string s, .slice A l.length c, .int .i64 k] w fun e w' => e = .returned (.bool true) ∧ Below w.heap.size w w' := by
  by_cases h : 300 < s.size
  · exact replaces_long s A c l k w h
  · cases hf : fewB l with
    | false => exact replaces_many s A c l k w (by omega) hl hr hf
    | true =>
      have hl10 := few_len l hf
      refine replaces_few s _ A c l _ k _ _ w (by omega) hl10 hr hf (few_short l hf) rfl rfl rfl ?_ rfl
      unfold invList
      split
      · rw [inv_length]; exact hl10
      · simp
end Go.Proofs.Ytgihfnnffailiaa
