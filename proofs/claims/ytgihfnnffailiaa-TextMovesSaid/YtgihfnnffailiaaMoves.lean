/- What is proved: TextMoves answers true at every string and list of replacements. -/
import Derived.Test.YtgihfnnffailiaaAwake
import Derived.Test.YtgihfnnffailiaaFew
import Derived.Test.YtgihfnnffailiaaMovePlain
import Derived.Deep.RegionHeld3
set_option linter.unusedVariables false
namespace Go.Proofs.Ytgihfnnffailiaa
open Go.RowKit

theorem byte_same {s t : ByteArray} {ls : List UInt8} {k i : Nat} (hl : t.data.toList = ls) (h : ls[k]? = s.data.toList[i]?) (hk : k < t.size) (hi : i < s.size) : ((t[k].toNat : Int) != (s[i].toNat : Int)) = false := by
  rw [← hl, List.getElem?_eq_getElem (by simpa using hk), List.getElem?_eq_getElem (by simpa using hi)] at h
  have e : t[k] = s[i] := Option.some.inj h
  simp [e]

theorem tl_of {s t : ByteArray} {l : List Rep} (ht : t = appText s l) (hc : chk s.size l 0 s.size = 0) : t.data.toList = app s.data.toList 0 l := by
  rw [ht]
  unfold appText
  rw [if_pos hc]
theorem lt_of {t : ByteArray} {ls : List UInt8} (h : t.data.toList = ls) : ls.length = t.size := by
  rw [← h]
  exact len_eq' t

set_option maxHeartbeats 400000 in
theorem moves_long (s : ByteArray) (A : Option Addr) (c : Nat) (l : List Rep) (w : World) (h : 300 < s.size) :
    Calls Try.prog 8 #[.string s, .slice A l.length c] w fun e w' => e = .returned (.bool true) ∧ Below w.heap.size w w' := by
  go_enter Try.func8, Try.ntmps8
  go_wp2_with (fail)
  refine (awake_any _).mono ?_
  rintro e w1 ⟨rfl, hb1⟩
  go_wp2_with (fail)
  go_ret
  exact ⟨rfl, hb1⟩

set_option maxHeartbeats 400000 in
theorem moves_many (s : ByteArray) (A : Option Addr) (c : Nat) (l : List Rep) (w : World) (h : s.size ≤ 300) (hl : l.length ≤ 9223372036854775807) (hr : RepsA w A l) (hf : fewB l = false) :
    Calls Try.prog 8 #[.string s, .slice A l.length c] w fun e w' => e = .returned (.bool true) ∧ Below w.heap.size w w' := by
  have HF := hide (few_any A c l w hl hr)
  rw [hf] at HF
  clear hr hf
  go_enter Try.func8, Try.ntmps8
  go_wp2_with (fail)
  refine (unhide HF).mono ?_
  rintro e w1 ⟨rfl, rfl⟩
  go_wp2_with (fail)
  refine (awake_any _).mono ?_
  rintro e w1 ⟨rfl, hb1⟩
  go_wp2_with (fail)
  go_ret
  exact ⟨rfl, hb1⟩

set_option maxHeartbeats 400000 in
theorem moves_bad (s : ByteArray) (A : Option Addr) (c : Nat) (l : List Rep) (w : World) (h : s.size ≤ 300) (hl : l.length ≤ 9223372036854775807) (hr : RepsA w A l) (hf : fewB l = true) (hc : chk s.size l 0 s.size ≠ 0) :
    Calls Try.prog 8 #[.string s, .slice A l.length c] w fun e w' => e = .returned (.bool true) ∧ Below w.heap.size w w' := by
  have HF := hide (few_any A c l w hl hr)
  have HA := hide (apply_any s A c l w (by omega) (by have := few_len l hf; omega) (few_short l hf) hr)
  rw [hf] at HF
  have hne : (chk s.size l 0 s.size != 0) = true := by simpa using hc
  have hne2 : (chk s.size l 0 s.size == 0) = false := by simpa using hc
  clear hr hf hc
  go_enter Try.func8, Try.ntmps8
  go_wp2_with (fail)
  refine (unhide HF).mono ?_
  rintro e w1 ⟨rfl, rfl⟩
  go_wp2_with (fail)
  refine (unhide HA).mono ?_
  rintro e w1 ⟨rfl, hb1⟩
  go_wp2_with (fail)
  refine (awake_any _).mono ?_
  rintro e w2 ⟨rfl, hb2⟩
  go_wp2_with (fail)
  go_ret
  exact ⟨rfl, hb1.trans (hb2.mono hb1.size)⟩

set_option maxHeartbeats 1000000 in
theorem moves_good (s t : ByteArray) (A : Option Addr) (c : Nat) (l : List Rep) (w : World) (h : s.size ≤ 300) (hl : l.length ≤ 9223372036854775807) (hr : RepsA w A l) (hf : fewB l = true) (hc : chk s.size l 0 s.size = 0) (ht : t = appText s l) :
    Calls Try.prog 8 #[.string s, .slice A l.length c] w fun e w' => e = .returned (.bool true) ∧ Below w.heap.size w w' := by
  have hl10 := few_len l hf
  have HS := hide (few_short l hf)
  have HF := hide (few_any A c l w hl hr)
  have HA := hide (apply_any s A c l w (by omega) (by omega) (few_short l hf) hr)
  rw [hf] at HF
  rw [hc, ← ht] at HA
  have HR := hide hr
  have HC := hide hc
  have HT := hide ht
  clear hr hf hc ht
  go_enter Try.func8, Try.ntmps8
  go_wp2_with (fail)
  refine (unhide HF).mono ?_
  rintro e w1 ⟨rfl, rfl⟩
  go_wp2_with (fail)
  refine (unhide HA).mono ?_
  rintro e w1 ⟨rfl, hb1⟩
  have z1 := hb1.size
  go_wp2_with (fail)
  have MF := hide (mv_facts s.data.toList l (by rw [len_eq']; exact h) (by rw [len_eq']; exact unhide HC))
  have TL := hide (tl_of (unhide HT) (unhide HC))
  have LT := hide (lt_of (unhide TL))
  have HB1 := hide hb1
  have HR1 := hide ((unhide HR).below hb1)
  clear hb1
  go_loopw [7, 33] (fun x y wr => ∃ (i : Nat) (last : Int), i ≤ s.size ∧ y = .int .i64 (i : Int) ∧ x = .int .i64 last ∧ Hid (last = -1 ∨ ∃ j : Nat, j < i ∧ inB l j = false ∧ last = mv l j) ∧ Below w.heap.size w wr) (fun _ y _ => s.size - (intOf y).toNat)
  case atStart => exact ⟨0, -1, Nat.zero_le _, rfl, rfl, .inl rfl, unhide HB1⟩
  case round =>
    obtain ⟨i, last, hi, rfl, rfl, hla, hbw⟩ := hrel
    obtain ⟨wo, hwo⟩ : ∃ wo : World, wo = wr := ⟨_, rfl⟩
    subst hwo
    by_cases hlt : i < s.size
    · go_wp2_with (fail)
      go_loopw [9, 38] (fun x y wi => ∃ k : Nat, k ≤ l.length ∧ y = .int .i64 (k : Int) ∧ x = .bool (inB (l.take k) (i : Int)) ∧ Below w.heap.size w wi) (fun _ y _ => l.length - (intOf y).toNat)
      case atStart => exact ⟨0, Nat.zero_le _, rfl, rfl, hbw⟩
      case round =>
        obtain ⟨k, hk, rfl, rfl, hbi⟩ := hrel
        have hzi := hbi.size
        by_cases hkl : k < l.length
        · obtain ⟨b, off, rfl, hb, hr⟩ := ((unhide HR).below hbi) (by omega)
          obtain ⟨c1, c2, c3⟩ := hr k hkl
          clear hr
          cases hI : inB (l.take k) (i : Int) with
          | true =>
            have HN := hide (inB_yes l k hkl i hI)
            go_wp2_with (fail)
            exact ⟨⟨k + 1, by omega, by go_num, by rw [unhide HN], hbi.alloc hzi _⟩, by simp [intOf]; omega⟩
          | false =>
            by_cases g1 : l[k].lo ≤ (i : Int)
            · by_cases g2 : (i : Int) < l[k].hi
              · have HN := hide (inB_hit l k hkl i ⟨g1, g2⟩)
                go_wp2_with (fail)
                exact ⟨⟨k + 1, by omega, by go_num, by rw [unhide HN], hbi.alloc hzi _⟩, by simp [intOf]; omega⟩
              · have HN := hide (inB_miss l k hkl i hI (by omega))
                go_wp2_with (fail)
                exact ⟨⟨k + 1, by omega, by go_num, by rw [unhide HN], hbi.alloc hzi _⟩, by simp [intOf]; omega⟩
            · have HN := hide (inB_miss l k hkl i hI (by omega))
              go_wp2_with (fail)
              exact ⟨⟨k + 1, by omega, by go_num, by rw [unhide HN], hbi.alloc hzi _⟩, by simp [intOf]; omega⟩
        · have hall := inB_all l k hkl i
          cases hI : inB l (i : Int) with
          | true =>
            rw [hI] at hall
            rw [hall]
            go_wp2_with (fail)
            exact ⟨⟨i + 1, last, by omega, by go_num, rfl, (by rcases hla.out with e | ⟨j, e1, e2, e3⟩; exact .inl e; exact .inr ⟨j, by omega, e2, e3⟩), hbi⟩, by simp [intOf]; omega⟩
          | false =>
            rw [hI] at hall
            rw [hall]
            clear hall
            obtain ⟨kn, hm1, hm2, hm3⟩ := (unhide MF).2.1 i (by rw [len_eq']; exact hlt) hI
            have hlast : last < (kn : Int) := by
              rcases hla.out with e | ⟨j, e1, e2, e3⟩
              · omega
              · have := (unhide MF).2.2 j i e1 (by rw [len_eq']; exact hlt) e2 hI
                omega
            have hkt : kn < t.size := by have := unhide LT; omega
            have hne := hide (byte_same (unhide TL) hm3 hkt hlt)
            have HM := hide (move_any A c l (i : Int) wr (by omega) (unhide HS) ((unhide HR).below hbi))
            rw [hm1] at HM
            have HN := hide (show ((kn : Int) = -1 ∨ ∃ j : Nat, j < i + 1 ∧ inB l j = false ∧ (kn : Int) = mv l j) from .inr ⟨i, by omega, hI, hm1.symm⟩)
            clear hm1 hm2 hm3 hI
            go_wp2_with (fail)
            refine (unhide HM).mono ?_
            rintro e w3 ⟨rfl, hb3⟩
            have hb4 : Below w.heap.size w w3 := hbi.trans (hb3.mono hzi)
            have hneb := unhide hne
            clear hb3
            go_wp2_with (fail)
            go_quiet (fail)
            go_wp2_with (fail)
            exact ⟨⟨i + 1, kn, by omega, by go_num, rfl, HN, below_drewN hb4 _⟩, by simp [intOf]; omega⟩
    · have HM := hide (move_any A c l (s.size : Int) wo (by omega) (unhide HS) ((unhide HR).below hbw))
      have hme := (unhide MF).1
      rw [len_eq', unhide LT] at hme
      rw [hme] at HM
      have hzo := hbw.size
      clear hme
      go_wp2_with (fail)
      refine (unhide HM).mono ?_
      rintro e w3 ⟨rfl, hb3⟩
      have hb4 : Below w.heap.size w w3 := hbw.trans (hb3.mono hzo)
      have hz4 := hb4.size
      clear hb3
      go_wp2_with (fail)
      refine (awake_any _).mono ?_
      rintro e w4 ⟨rfl, hb5⟩
      go_wp2_with (fail)
      go_ret
      exact ⟨rfl, hb4.trans (hb5.mono hz4)⟩

theorem moves_law (s : ByteArray) (A : Option Addr) (c : Nat) (l : List Rep) (w : World) (hl : l.length ≤ 9223372036854775807) (hr : RepsA w A l) :
    Calls Try.prog 8 #[.string s, .slice A l.length c] w fun e w' => e = .returned (.bool true) ∧ Below w.heap.size w w' := by
  by_cases h : 300 < s.size
  · exact moves_long s A c l w h
  · cases hf : fewB l with
    | false => exact moves_many s A c l w (by omega) hl hr hf
    | true =>
      by_cases hc : chk s.size l 0 s.size = 0
      · exact moves_good s (appText s l) A c l w (by omega) hl hr hf hc rfl
      · exact moves_bad s A c l w (by omega) hl hr hf hc
end Go.Proofs.Ytgihfnnffailiaa
