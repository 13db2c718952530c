/- What is proved: TextUndo answers true at every string and list of replacements. -/
import Derived.Test.YtgihfnnffailiaaAwake
import Derived.Test.YtgihfnnffailiaaFew
import Derived.Test.YtgihfnnffailiaaInvert
import Derived.Test.YtgihfnnffailiaaSame
import Derived.Test.YtgihfnnffailiaaUndoPlain
set_option linter.unusedVariables false
namespace Go.Proofs.Ytgihfnnffailiaa
open Go.RowKit

theorem appText_eq {s t : ByteArray} {l : List Rep} (hc : chk t.size l 0 t.size = 0) (h : app t.data.toList 0 l = s.data.toList.drop 0) : appText t l = s := by
  unfold appText
  rw [if_pos hc, h]
  rfl

set_option maxHeartbeats 400000 in
theorem undo_long (s : ByteArray) (A : Option Addr) (c : Nat) (l : List Rep) (w : World) (h : 300 < s.size) :
    Calls Try.prog 7 #[.string s, .slice A l.length c] w fun e w' => e = .returned (.bool true) ∧ Below w.heap.size w w' := by
  go_enter Try.func7, Try.ntmps7
  go_wp2_with (fail)
  refine (awake_any _).mono ?_
  rintro e w1 ⟨rfl, hb1⟩
  go_wp2_with (fail)
  go_ret
  exact ⟨rfl, hb1⟩

set_option maxHeartbeats 400000 in
theorem undo_many (s : ByteArray) (A : Option Addr) (c : Nat) (l : List Rep) (w : World) (h : s.size ≤ 300) (hl : l.length ≤ 9223372036854775807) (hr : RepsA w A l) (hf : fewB l = false) :
    Calls Try.prog 7 #[.string s, .slice A l.length c] w fun e w' => e = .returned (.bool true) ∧ Below w.heap.size w w' := by
  have HF := hide (few_any A c l w hl hr)
  rw [hf] at HF
  clear hr hf
  go_enter Try.func7, Try.ntmps7
  go_wp2_with (fail)
  refine (unhide HF).mono ?_
  rintro e w1 ⟨rfl, rfl⟩
  go_wp2_with (fail)
  refine (awake_any _).mono ?_
  rintro e w1 ⟨rfl, hb1⟩
  go_wp2_with (fail)
  go_ret
  exact ⟨rfl, hb1⟩

set_option maxHeartbeats 1000000 in
theorem undo_bad (s : ByteArray) (A : Option Addr) (c : Nat) (l : List Rep) (w : World) (x : Int) (h : s.size ≤ 300) (hl : l.length ≤ 9223372036854775807) (hr : RepsA w A l) (hf : fewB l = true) (hx : chk s.size l 0 s.size = x) (hc : x ≠ 0) :
    Calls Try.prog 7 #[.string s, .slice A l.length c] w fun e w' => e = .returned (.bool true) ∧ Below w.heap.size w w' := by
  have hl10 := few_len l hf
  have HF := hide (few_any A c l w hl hr)
  have HA := hide (apply_bad s A c l w (by omega) (by omega) (few_short l hf) hr (by rw [hx]; exact hc))
  have HI := hide (fun w1 h1 => invert_bad s A c l w1 (by omega) (by omega) (few_short l hf) h1 (by rw [hx]; exact hc))
  rw [hf] at HF
  rw [hx] at HA
  rw [hx] at HI
  have HR := hide hr
  have hne : (x != 0) = true := by simpa using hc
  have hne2 : (x == 0) = false := by simpa using hc
  have hne3 : (x != x) = false := by simp
  clear hr hf hc hx
  go_enter Try.func7, Try.ntmps7
  go_wp2_with (fail)
  refine (unhide HF).mono ?_
  rintro e w1 ⟨rfl, rfl⟩
  go_wp2_with (fail)
  refine (unhide HA).mono ?_
  rintro e w1 ⟨rfl, hb1⟩
  have z1 := hb1.size
  have HR1 := hide ((unhide HR).below hb1)
  have B1 := hide hb1
  clear hb1
  go_wp2_with (fail)
  refine ((unhide HI) _ (unhide HR1)).mono ?_
  rintro e w2 ⟨rfl, hb2⟩
  have B2 := hide ((unhide B1).trans (hb2.mono z1))
  have z2 := hb2.size
  clear hb2
  go_wp2_with (fail)
  refine (awake_any _).mono ?_
  rintro e w3 ⟨rfl, hb3⟩
  have B3 := hide ((unhide B2).trans (hb3.mono (by omega)))
  clear hb3
  go_wp2_with (fail)
  go_ret
  exact ⟨rfl, unhide B3⟩

set_option maxHeartbeats 2000000 in
theorem undo_good (s t : ByteArray) (A : Option Addr) (c : Nat) (l bk : List Rep) (w : World) (h : s.size ≤ 300) (hl : l.length ≤ 10) (hr : RepsA w A l) (hf : fewB l = true) (hs : Short l) (hc : chk s.size l 0 s.size = 0) (ht : appText s l = t) (hb : inv s l 0 = bk)
    (ht2 : t.size ≤ 20000) (hbl : bk.length ≤ 10) (hbs : Short bk) (hc2 : chk t.size bk 0 t.size = 0) (ha2 : appText t bk = s) (hi2 : inv t bk 0 = l) :
    Calls Try.prog 7 #[.string s, .slice A l.length c] w fun e w' => e = .returned (.bool true) ∧ Below w.heap.size w w' := by
  have HF := hide (few_any A c l w (by omega) hr)
  have HA := hide (apply_any s A c l w (by omega) (by omega) hs hr)
  have HI := hide (fun w1 h1 => invert_any s A c l w1 (by omega) (by omega) hs h1)
  have HA2 := hide (fun A' c' w1 h1 => apply_any t A' c' bk w1 (by omega) (by omega) hbs h1)
  have HI2 := hide (fun A' c' w1 h1 => invert_any t A' c' bk w1 (by omega) (by omega) hbs h1)
  have e1 : invList s l = bk := by unfold invList; rw [if_pos hc, hb]
  have e2 : invList t bk = l := by unfold invList; rw [if_pos hc2, hi2]
  rw [hf] at HF
  rw [ht, hc] at HA
  rw [e1, hc] at HI
  rw [ha2, hc2] at HA2
  rw [e2, hc2] at HI2
  have HR := hide hr
  clear hr hf hs hc ht hb hbs hc2 ha2 hi2 e1 e2
  go_enter Try.func7, Try.ntmps7
  go_wp2_with (fail)
  refine (unhide HF).mono ?_
  rintro e w1 ⟨rfl, rfl⟩
  go_wp2_with (fail)
  refine (unhide HA).mono ?_
  rintro e w1 ⟨rfl, hb1⟩
  have z1 := hb1.size
  have HR1 := hide ((unhide HR).below hb1)
  have B1 := hide hb1
  clear hb1
  go_wp2_with (fail)
  refine ((unhide HI) _ (unhide HR1)).mono ?_
  rintro e w2 ⟨A2, c2, rfl, hr2, hb2⟩
  have B2 := hide ((unhide B1).trans (hb2.mono z1))
  have z2 := hb2.size
  have HRB := hide hr2
  have HR2 := hide ((unhide HR1).below hb2)
  clear hb2 hr2
  go_wp2_with (fail)
  refine ((unhide HA2) _ _ _ (unhide HRB)).mono ?_
  rintro e w3 ⟨rfl, hb3⟩
  have z3 := hb3.size
  have B3 := hide ((unhide B2).trans (hb3.mono (by omega)))
  have HRB3 := hide ((unhide HRB).below hb3)
  have HR3 := hide ((unhide HR2).below hb3)
  clear hb3
  go_wp2_with (fail)
  refine ((unhide HI2) _ _ _ (unhide HRB3)).mono ?_
  rintro e w4 ⟨A4, c4, rfl, hr4, hb4⟩
  have z4 := hb4.size
  have B4 := hide ((unhide B3).trans (hb4.mono (by omega)))
  have HS := hide (same_same A4 A c4 c l w4 (by omega) hr4 ((unhide HR3).below hb4))
  clear hb4 hr4
  go_wp2_with (fail)
  refine (unhide HS).mono ?_
  rintro e w5 ⟨rfl, n5, rfl⟩
  go_wp2_with (fail)
  refine (awake_any _).mono ?_
  rintro e w6 ⟨rfl, hb6⟩
  have B6 := hide ((below_drewN (unhide B4) n5).trans (hb6.mono (by simp; omega)))
  clear hb6
  go_wp2_with (fail)
  go_ret
  exact ⟨rfl, unhide B6⟩

theorem undo_law (s : ByteArray) (A : Option Addr) (c : Nat) (l : List Rep) (w : World) (hl : l.length ≤ 9223372036854775807) (hr : RepsA w A l) :
    Calls Try.prog 7 #[.string s, .slice A l.length c] w fun e w' => e = .returned (.bool true) ∧ Below w.heap.size w w' := by
  by_cases h : 300 < s.size
  · exact undo_long s A c l w h
  · cases hf : fewB l with
    | false => exact undo_many s A c l w (by omega) hl hr hf
    | true =>
      by_cases hc : chk s.size l 0 s.size = 0
      · have hl10 := few_len l hf
        have hsz := len_eq' s
        have hv : val s.data.toList.length l 0 := val_of_chk _ _ _ _ (by rw [hsz]; exact hc)
        have hat : (appText s l).data.toList = app s.data.toList 0 l := by
          unfold appText
          rw [if_pos hc]
        have htz := len_eq' (appText s l)
        have hlen := app_length s.data.toList l 0 hv (by omega)
        rw [← hat, htz, hsz] at hlen
        have htot := chk_tot _ _ _ _ hc
        obtain ⟨u1, u2, u3, u4⟩ := undo_all s (appText s l) l 0 0 0 (by omega) hv (by omega) (by rw [hat]; rfl)
        have hbl := inv_length s l 0
        have hc2 : chk (appText s l).size (inv s l 0) 0 (appText s l).size = 0 := by
          refine chk_of_val _ _ _ _ ?_ (Int.le_refl _) (by rw [u4]; omega)
          have := u3 (Nat.zero_le _)
          rw [htz] at this
          exact this
        refine undo_good s (appText s l) A c l (inv s l 0) w (by omega) (by omega) hr hf (few_short l hf) hc rfl rfl (by omega) (by omega) ?_ hc2 ?_ ?_
        · exact inv_short s l (by omega)
        · exact appText_eq hc2 u1
        · exact u2
      · exact undo_bad s A c l w _ (by omega) hl hr hf rfl hc
end Go.Proofs.Ytgihfnnffailiaa
