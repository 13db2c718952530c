/- What is proved: the reference's Invert returns what the program's Invert returns. -/
import Derived.Test.YtgihfnnffailiaaInvert
import Derived.Test.YtgihfnnffailiaaRefApply
set_option linter.unusedVariables false
namespace Go.Proofs.Ytgihfnnffailiaa
open Go.RowKit

set_option maxHeartbeats 400000 in
theorem refInvert_bad (s : ByteArray) (A : Option Addr) (c : Nat) (l : List Rep) (w : World) (hz : s.size ≤ 1000000) (hl : l.length ≤ 1000) (hs : Short l) (hr : RepsA w A l) (hbad : chk s.size l 0 s.size ≠ 0) :
    Calls Try.prog 23 #[.string s, .slice A l.length c] w fun e w' => e = .returned (.tuple #[.slice none 0 0, .int .i64 (chk s.size l 0 s.size)]) ∧ Below w.heap.size w w' := by
  have HC := Lib.hid (refApply_any s A c l w hz hl hs hr)
  have hne : (chk s.size l 0 s.size != 0) = true := by simpa using hbad
  have hne2 : (chk s.size l 0 s.size == 0) = false := by simpa using hbad
  clear hr hbad
  go_enter Try.func23, Try.ntmps23
  go_wp2_with (fail)
  refine (HC.out).mono ?_
  rintro e w1 ⟨rfl, n, rfl⟩
  go_wp2_with (fail)
  go_ret2
  exact ⟨rfl, below_drewN (Below.refl _ _) n⟩

set_option maxRecDepth 100000 in
set_option maxHeartbeats 2000000 in
theorem refInvert_good (s : ByteArray) (A : Option Addr) (c : Nat) (l : List Rep) (w : World) (hz : s.size ≤ 1000000) (hl : l.length ≤ 1000) (hs : Short l) (hr : RepsA w A l) (hok : chk s.size l 0 s.size = 0) :
    Calls Try.prog 23 #[.string s, .slice A l.length c] w fun e w' => ∃ v, e = .returned (.tuple #[v, .int .i64 0]) ∧ w'.ownsRow w.heap.size 45 3 v l.length (rcells (inv s l 0)) ∧ Below w.heap.size w w' := by
  obtain ⟨i0, hi0, hz0, hz1, hz2⟩ := info_parts infoRep
  have HC := Lib.hid (refApply_any s A c l w hz hl hs hr)
  rw [hok] at HC
  have HR := Lib.hid hr
  have HS := Lib.hid hs
  have HK := Lib.hid hok
  have HIL := Lib.hid (inv_length s l 0)
  clear hr hs hok
  go_enter Try.func23, Try.ntmps23
  go_wp2_with (fail)
  refine (HC.out).mono ?_
  rintro e w1 ⟨rfl, n0, rfl⟩
  go_wp2_with (fail)
  have HM0 := Lib.hid (World.ownsRow_made (base := w.heap.size) (e := 45) (size := 3) (w.drewN n0) #[] 0 (Nat.le_refl _) (by unfold maxLen; omega) rfl)
  have HB0 := Lib.hid ((below_drewN (Below.refl w.heap.size w) n0).alloc (Nat.le_refl _) (.cells #[] 45))
  go_loopw [8, 9, 10] (fun v x i wr => ∃ (k : Nat) (d last sz : Int) (acc : List Rep), k ≤ l.length ∧ i = .int .i64 (k : Int) ∧ x = .int .i64 d ∧ -((k : Int) * 1000000) ≤ d ∧ d ≤ (k : Int) * 1000000 ∧ 0 ≤ last ∧ acc.length ≤ k ∧ Hid (inv s l 0 = acc ++ inv s (l.drop k) d) ∧ Hid (chk s.size (l.drop k) last sz = 0) ∧ Hid (wr.ownsRow w.heap.size 45 3 v acc.length (rcells acc)) ∧ Below w.heap.size w wr) (fun _ _ i _ => l.length - (intOf i).toNat)
  case atStart => exact ⟨0, 0, 0, s.size, [], Nat.zero_le _, rfl, rfl, by omega, by omega, Int.le_refl _, Nat.le_refl _, rfl, HK, HM0, HB0.out⟩
  case round =>
    obtain ⟨k, d, last, sz, acc, hk, rfl, rfl, hd1, hd2, hlast, hacc, hinv, hchk, hown, hbw⟩ := hrel
    by_cases hlt : k < l.length
    · obtain ⟨b, off, rfl, hb, hr0⟩ := HR.out (by omega)
      have HR0 := Lib.hid hr0
      have hr := hr0.below hbw hb
      obtain ⟨c1, c2, c3⟩ := hr k hlt
      obtain ⟨g1, g2, g3, g4, g5⟩ := chk_get s.size l k hlt last sz hchk.out
      have hts := HS.out k hlt
      have HV := Lib.hid (hinv.out.trans (inv_step s acc l k hlt d))
      have hg : grow l[k] = l[k].text.size - (l[k].hi - l[k].lo) := rfl
      rw [hg] at HV g5
      obtain ⟨p, hp⟩ := Int.eq_ofNat_of_zero_le g1
      obtain ⟨q, hq⟩ := Int.eq_ofNat_of_zero_le (show 0 ≤ l[k].hi by omega)
      have HN := Lib.hid g5
      have HRK := Lib.hid (fun w3 (hb3 : Below w.heap.size w w3) => (HR0.out.below hb3 hb) k hlt)
      have htx : ∃ txt, l[k].text = txt := ⟨_, rfl⟩
      obtain ⟨txt, htx⟩ := htx
      rw [htx] at HV c3 hts HN HRK
      rw [hp] at c1 g1 g2 g3 HV HN HRK
      rw [hq] at c2 g3 g4 HV HN HRK
      clear hp hq htx g5 hr hr0 hg
      have hbz := hbw.size
      have o1 := hown.out.lt
      have hne : u8.ownBlock ≠ some b := fun e => by have := (o1 _ e).1; omega
      have HO := Lib.hid hown.out
      clear o1
      have f1 : p ≤ q := by omega
      have f2 : q ≤ s.size := by omega
      have k1 : (0 : Int) ≤ (k : Int) := by omega
      have k2 : (k : Int) < (l.length : Int) := by omega
      have hcap1 : acc.length + 1 ≤ maxLen := by unfold maxLen; omega
      have hcap2 : (acc.length + 1) * 32 ≤ 140737488355328 := by omega
      go_wp2_with (fail)
      have m1 : IntKind.i64.wrap ((p : Int) + d + (txt.size : Int)) = (p : Int) + d + (txt.size : Int) := IntWalk.i64_in _ (by omega)
      go_region_held3 (fun w' => w'.cell? ⟨b, off + k * 3, none⟩ = some (.int .i64 (p : Int)) ∧ w'.cell? ⟨b, off + k * 3 + 1, none⟩ = some (.int .i64 (q : Int)) ∧ w'.cell? ⟨b, off + k * 3 + 2, none⟩ = some (.string txt)) (first | go_keep | (go_split_ands; (refine ⟨?_, ?_, ?_⟩ <;> (rw [hgrow.cell_far _ (by simp <;> omega) (Ne.symm hne)]; assumption)))) ((refine step_append_lies _ (by rfl) _ _ _ (by rfl) w.heap.size 45 i0 _ 3 32 Try.underlying32 hi0 hz0 hz1 hz2 rfl (by omega) u8 acc.length (rcells acc) (by rfl) ((HO.out.alloc _).drew) ⟨wr.heap.size, 0, none⟩ 1 1 [.int .i64 ((p : Int) + d), .int .i64 ((p : Int) + d + (txt.size : Int)), .string (s.extract p q)] (by rfl) (by rfl) (World.news_of_block (cs := #[.int .i64 ((p : Int) + d), .int .i64 ((p : Int) + d + (txt.size : Int)), .string (s.extract p q)]) (t := 45) (fr := (0, 0)) (heap_new1 wr _)) (by simp [Value.oneCell']) (by omega) hcap1 hcap2 (by simp; omega) (wr.heap.size + 1) (by simp) ?_; intro gg cap w2 hown1 hgrow hat hltg))
      have hB2 := (((hbw.alloc hbz (.cells #[.int .i64 ((p : Int) + d), .int .i64 ((p : Int) + d + (txt.size : Int)), .string (s.extract p q)] 45)).drew).grown hgrow (by simp; omega) (fun g hg => (HO.out.lt g hg).1))
      obtain ⟨t0, t1, t2⟩ := HRK.out _ hB2
      have B2 := Lib.hid hB2
      have HO1 := Lib.hid hown1
      clear hgrow hat hltg hown1 hB2 m1 c1 c2 c3 hcap1 hcap2
      go_wp2_with (fail)
      have m1 : IntKind.i64.wrap (d + (txt.size : Int)) = d + (txt.size : Int) := IntWalk.i64_in _ (by omega)
      have m2 : IntKind.i64.wrap ((q : Int) - (p : Int)) = (q : Int) - (p : Int) := IntWalk.i64_in _ (by omega)
      have m3 : IntKind.i64.wrap (d + (txt.size : Int) - ((q : Int) - (p : Int))) = d + (txt.size : Int) - ((q : Int) - (p : Int)) := IntWalk.i64_in _ (by omega)
      go_quiet (fail)
      clear m1 m2 m3
      go_wp2_with (fail)
      refine ⟨⟨k + 1, d + (txt.size : Int) - ((q : Int) - (p : Int)), q, sz + ((txt.size : Int) - ((q : Int) - (p : Int))), acc ++ [⟨(p : Int) + d, (p : Int) + d + txt.size, s.extract p q⟩], by omega, by go_num, rfl, by omega, by omega, by omega, by simp; omega, ?_, HN, ?_, below_drewN B2.out _⟩, by simp [intOf]; omega⟩
      · have h := HV.out
        rw [show d + ((txt.size : Int) - ((q : Int) - (p : Int))) = d + (txt.size : Int) - ((q : Int) - (p : Int)) from by omega] at h
        exact h
      · have h := HO1.out
        rw [show rcells (acc ++ [⟨(p : Int) + d, (p : Int) + d + txt.size, s.extract p q⟩]) = rcells acc ++ [.int .i64 ((p : Int) + d), .int .i64 ((p : Int) + d + (txt.size : Int)), .string (s.extract p q)] from by rw [rcells_append]; rfl, show (acc ++ [(⟨(p : Int) + d, (p : Int) + d + txt.size, s.extract p q⟩ : Rep)]).length = acc.length + 1 from by simp]
        exact h
    · have HE := Lib.hid (hinv.out.trans (inv_end s acc l k hlt d))
      have HO := Lib.hid hown.out
      go_wp2_with (fail)
      go_ret2
      have h := HO.out
      have e1 := HE.out
      have e2 := HIL.out
      rw [← e1] at h
      rw [e2] at h
      exact ⟨_, rfl, h, hbw⟩

theorem refInvert_any (s : ByteArray) (A : Option Addr) (c : Nat) (l : List Rep) (w : World) (hz : s.size ≤ 1000000) (hl : l.length ≤ 1000) (hs : Short l) (hr : RepsA w A l) :
    Calls Try.prog 23 #[.string s, .slice A l.length c] w fun e w' => ∃ A' c', e = .returned (.tuple #[.slice A' (invList s l).length c', .int .i64 (chk s.size l 0 s.size)]) ∧ RepsA w' A' (invList s l) ∧ Below w.heap.size w w' := by
  by_cases h : chk s.size l 0 s.size = 0
  · have e : invList s l = inv s l 0 := if_pos h
    rw [h, e]
    refine (refInvert_good s A c l w hz hl hs hr h).mono fun e w' he => ?_
    obtain ⟨v, h1, h2, h3⟩ := he
    rw [← inv_length s l 0] at h2
    obtain ⟨A', c', hv, hr'⟩ := reps_own h2
    exact ⟨A', c', by rw [h1, hv], hr', h3⟩
  · have e : invList s l = [] := if_neg h
    rw [e]
    exact (refInvert_bad s A c l w hz hl hs hr h).mono fun e w' he => ⟨none, 0, he.1, fun h0 => absurd h0 (by simp), he.2⟩
end Go.Proofs.Ytgihfnnffailiaa
