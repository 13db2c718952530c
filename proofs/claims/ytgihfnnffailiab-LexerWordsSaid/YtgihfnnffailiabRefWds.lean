/- What is proved: the reference's Words returns the texts of tokens, in new memory. -/
import Derived.Test.YtgihfnnffailiabRefJoin
set_option linter.unusedVariables false
namespace Go.Proofs.Ytgihfnnffailiab
open Go.RowKit

set_option maxHeartbeats 400000 in
theorem r_words_bad (s : ByteArray) (A : Option Addr) (c : Nat) (l : List Tok) (w : World) (hs : s.size ≤ 1000000) (hl : l.length ≤ 4097) (hr : TokA w A l) (hf : fitB s.size l = false) :
    Calls Try.prog 17 #[.string s, .slice A l.length c] w fun e w' => e = .returned (.slice none 0 0) ∧ Below w.heap.size w w' := by
  have HF := Lib.hid (r_fits_any s A c l w hs hl hr)
  rw [hf] at HF
  clear hf hr
  go_enter Try.func17, Try.ntmps17
  go_wp2_with (fail)
  refine HF.out.mono ?_
  rintro e w1 ⟨rfl, n, rfl⟩
  go_wp2_with (fail)
  go_ret
  exact ⟨rfl, below_drewN (Below.refl _ _) n⟩

set_option maxRecDepth 100000 in
set_option maxHeartbeats 1000000 in
theorem r_words_good (s : ByteArray) (A : Option Addr) (c : Nat) (l : List Tok) (w : World) (hs : s.size ≤ 1000000) (hr : TokA w A l) (hf : fitB s.size l = true) :
    Calls Try.prog 17 #[.string s, .slice A l.length c] w fun e w' => ∃ v, e = .returned v ∧ w'.ownsRow w.heap.size 9 1 v l.length (scells (l.map (word s))) ∧ Below w.heap.size w w' := by
  obtain ⟨i0, hi0, hz0, hz1, hz2⟩ := info_parts infoStr
  have hlen := fit_len _ _ hf
  have HG := Lib.hid (fit_get _ _ hf)
  have HF := Lib.hid (r_fits_any s A c l w hs hlen hr)
  rw [hf] at HF
  have HR := Lib.hid hr
  clear hf hr
  go_enter Try.func17, Try.ntmps17
  go_wp2_with (fail)
  refine HF.out.mono ?_
  rintro e w1 ⟨rfl, n0, rfl⟩
  go_wp2_with (fail)
  have HM0 := Lib.hid (World.ownsRow_made (base := w.heap.size) (e := 9) (size := 1) (w.drewN n0) #[] 0 (Nat.le_refl _) (by unfold maxLen; omega) rfl)
  have HB0 := Lib.hid ((below_drewN (Below.refl w.heap.size w) n0).alloc (Nat.le_refl _) (.cells #[] 9))
  go_loopw [5, 6] (fun v i wr => ∃ k : Nat, k ≤ l.length ∧ i = .int .i64 (k : Int) ∧ Hid (wr.ownsRow w.heap.size 9 1 v k (scells ((l.map (word s)).take k))) ∧ Hid (Below w.heap.size w wr)) (fun _ i _ => l.length - (intOf i).toNat)
  case atStart => exact ⟨0, Nat.zero_le _, rfl, HM0, HB0⟩
  case round =>
    obtain ⟨k, hk, rfl, hown, hbw⟩ := hrel
    by_cases hlt : k < l.length
    · obtain ⟨b, off, rfl, hb, hr0⟩ := HR.out (by omega)
      have hr := hr0.below hbw.out hb
      obtain ⟨c1, c2, c3, c4⟩ := hr k hlt
      obtain ⟨g1, g2, g3, g4⟩ := HG.out k hlt
      have HW := Lib.hid (words_step s l k hlt)
      clear hr hr0
      have hbz := hbw.out.size
      have hwd : word s l[k] = s.extract l[k].at_.toNat l[k].hi.toNat := rfl
      generalize l[k] = t at *
      obtain ⟨kd, lo, ta, th⟩ := t
      simp only at c1 c2 c3 c4 g1 g2 g3 g4 hwd
      obtain ⟨p, rfl⟩ := Int.eq_ofNat_of_zero_le (show 0 ≤ ta by omega)
      obtain ⟨q, rfl⟩ := Int.eq_ofNat_of_zero_le (show 0 ≤ th by omega)
      simp only [Int.toNat_natCast] at hwd
      have HD := Lib.hid hwd
      have HO := Lib.hid hown.out
      have o1 := hown.out.lt
      have hne : u5.ownBlock ≠ some b := fun e => by have := (o1 _ e).1; omega
      have x1 : p ≤ q := by omega
      have x2 : q ≤ s.size := by omega
      have k1 : (0 : Int) ≤ (k : Int) := by omega
      have k2 : (k : Int) < (l.length : Int) := by omega
      have hcap1 : k + 1 ≤ maxLen := by unfold maxLen; omega
      have hcap2 : (k + 1) * 16 ≤ 140737488355328 := by omega
      have HOL := Lib.hid o1
      clear hwd g2 g3 g4 o1
      go_wp2_with (fail)
      go_region_held3 (fun w' => w'.cell? ⟨b, off + k * 4 + 2, none⟩ = some (.int .i64 (p : Int)) ∧ w'.cell? ⟨b, off + k * 4 + 3, none⟩ = some (.int .i64 (q : Int))) (first | go_keep | (go_split_ands; (refine ⟨?_, ?_⟩ <;> (rw [hgrow.cell_far _ (by simp <;> omega) (Ne.symm hne)]; assumption)))) ((refine step_append_lies _ (by rfl) _ _ _ (by rfl) w.heap.size 9 i0 _ 1 16 Try.underlying31 hi0 hz0 hz1 hz2 rfl (by omega) u5 k (scells ((l.map (word s)).take k)) (by rfl) ((HO.out.alloc _).drew) ⟨wr.heap.size, 0, none⟩ 1 1 [.string (s.extract p q)] (by rfl) (by rfl) (World.news_of_block (cs := #[.string (s.extract p q)]) (t := 9) (fr := (0, 0)) (heap_new1 wr _)) (by simp [Value.oneCell']) (by omega) hcap1 hcap2 (by simp; omega) (wr.heap.size + 1) (by simp) ?_; intro gg cap w2 hown1 hgrow hat hltg))
      have B3 := Lib.hid (((hbw.out.alloc hbz (.cells #[.string (s.extract p q)] 9)).drew).grown hgrow (by simp; omega) (fun g hg => (HOL.out g hg).1))
      have O3 : Hid (w2.ownsRow w.heap.size 9 1 (.slice (some ⟨gg, 0, none⟩) (k + 1) cap) (k + 1) (scells ((l.map (word s)).take (k + 1)))) := by
        rw [HW.out, HD.out]
        unfold scells
        rw [List.map_append]
        exact hown1
      clear hown1 hgrow hat hltg hcap1 hcap2
      go_wp2_with (fail)
      exact ⟨⟨k + 1, by omega, by go_num, O3, B3⟩, by simp [intOf]; omega⟩
    · have HO := Lib.hid hown.out
      obtain rfl : k = l.length := by omega
      go_wp2_with (fail)
      go_ret
      have h := HO.out
      rw [show (l.map (word s)).take l.length = l.map (word s) from List.take_of_length_le (by simp)] at h
      exact ⟨_, rfl, h, hbw.out⟩

theorem r_words_any (s : ByteArray) (A : Option Addr) (c : Nat) (l : List Tok) (w : World) (hs : s.size ≤ 1000000) (hl : l.length ≤ 4097) (hr : TokA w A l) :
    Calls Try.prog 17 #[.string s, .slice A l.length c] w fun e w' => ∃ A' c', e = .returned (.slice A' (words s l).length c') ∧ StrA w' A' (words s l) ∧ Below w.heap.size w w' := by
  cases hf : fitB s.size l with
  | true =>
    refine (r_words_good s A c l w hs hr hf).mono fun e w' he => ?_
    obtain ⟨v, h1, h2, h3⟩ := he
    rw [← List.length_map (f := word s)] at h2
    obtain ⟨A', c', hv, hr'⟩ := strs_own h2
    have e : words s l = l.map (word s) := if_pos hf
    rw [e]
    exact ⟨A', c', by rw [h1, hv], hr', h3⟩
  | false =>
    have e : words s l = [] := if_neg (by simp [hf])
    rw [e]
    exact (r_words_bad s A c l w hs hl hr hf).mono fun e w' he => ⟨none, 0, he.1, StrA.nil _ _, he.2⟩
end Go.Proofs.Ytgihfnnffailiab
