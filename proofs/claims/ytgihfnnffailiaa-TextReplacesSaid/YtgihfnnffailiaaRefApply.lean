/- What is proved: the reference's Fits and Apply return what check and Apply of the program return. -/
import Derived.Test.YtgihfnnffailiaaApply
import Derived.Test.YtgihfnnffailiaaFitsPlain
import Derived.Deep.Draws
set_option linter.unusedVariables false
namespace Go.Proofs.Ytgihfnnffailiaa
open Go.RowKit

set_option maxHeartbeats 1000000 in
theorem fits_any (s : ByteArray) (A : Option Addr) (c : Nat) (l : List Rep) (w : World) (hz : s.size ≤ 1000000) (hl : l.length ≤ 1000) (hr : RepsA w A l) :
    Calls Try.prog 39 #[.string s, .slice A l.length c] w fun e w' => e = .returned (.int .i64 (fits s.size l 0)) ∧ ∃ n, w' = w.drewN n := by
  have HR := Lib.hid hr
  clear hr
  go_enter Try.func39, Try.ntmps39
  go_wp2
  go_loopw [5, 6] (fun y i wr => ∃ (k n : Nat) (last : Int), k ≤ l.length ∧ i = .int .i64 (k : Int) ∧ y = .int .i64 last ∧ Hid (fits s.size l 0 = fits s.size (l.drop k) last) ∧ wr = w.drewN n) (fun _ i _ => l.length - (intOf i).toNat)
  case atStart => exact ⟨0, 0, 0, Nat.zero_le _, rfl, rfl, rfl, rfl⟩
  case round =>
    obtain ⟨k, n, last, hk, rfl, rfl, hch, rfl⟩ := hrel
    by_cases hlt : k < l.length
    · obtain ⟨b, off, rfl, _, hr⟩ := HR.out (by omega)
      obtain ⟨c1, c2, c3⟩ := hr k hlt
      have d1 := Lib.hid (fits_range s.size l k hlt last)
      have d2 := Lib.hid (fits_arg s.size l k hlt last)
      have d3 := Lib.hid (fits_step s.size l k hlt last)
      generalize l[k].lo = p at *
      generalize l[k].hi = q at *
      clear hr
      by_cases g1 : p < 0
      · have HV := Lib.hid (d1.out (.inl g1))
        have b1 : decide (p < 0) = true := by simpa using g1
        go_wp2
        go_quiet (fail)
        go_wp2
        go_ret
        exact ⟨ret_int (hch.out.trans HV.out).symm, _, by first | rfl | exact World.drewN_drewN _ _ _⟩
      · have b1 : decide (p < 0) = false := by simpa using g1
        by_cases g2 : q < p
        · have HV := Lib.hid (d1.out (.inr (.inl g2)))
          have b2 : decide (q < p) = true := by simpa using g2
          go_wp2
          go_quiet (fail)
          go_wp2
          go_ret
          exact ⟨ret_int (hch.out.trans HV.out).symm, _, by first | rfl | exact World.drewN_drewN _ _ _⟩
        · have b2 : decide (q < p) = false := by simpa using g2
          by_cases g3 : (s.size : Int) < q
          · have HV := Lib.hid (d1.out (.inr (.inr g3)))
            have b3 : decide ((s.size : Int) < q) = true := by simpa using g3
            go_wp2
            go_quiet (fail)
            go_wp2
            go_ret
            exact ⟨ret_int (hch.out.trans HV.out).symm, _, by first | rfl | exact World.drewN_drewN _ _ _⟩
          · have b3 : decide ((s.size : Int) < q) = false := by simpa using g3
            by_cases g4 : p < last
            · have HV := Lib.hid (d2.out (by omega) g4)
              go_wp2
              go_quiet (fail)
              go_wp2
              go_ret
              exact ⟨ret_int (hch.out.trans HV.out).symm, _, by first | rfl | exact World.drewN_drewN _ _ _⟩
            · have HV := Lib.hid (d3.out (by omega) g4)
              go_wp2
              go_quiet (fail)
              go_wp2
              exact ⟨⟨k + 1, _, q, by omega, by go_num, rfl, hch.out.trans HV.out, by first | rfl | exact World.drewN_drewN _ _ _⟩, by simp [intOf]; omega⟩
    · have HV := Lib.hid (fits_end s.size l k hlt last)
      go_wp2
      go_ret
      exact ⟨ret_int (hch.out.trans HV.out).symm, _, by first | rfl | exact World.drewN_drewN _ _ _⟩

set_option maxHeartbeats 400000 in
theorem refApply_bad (s : ByteArray) (A : Option Addr) (c : Nat) (l : List Rep) (w : World) (hz : s.size ≤ 1000000) (hl : l.length ≤ 1000) (hr : RepsA w A l) (hbad : fits s.size l 0 ≠ 0) :
    Calls Try.prog 21 #[.string s, .slice A l.length c] w fun e w' => e = .returned (.tuple #[.string ⟨#[]⟩, .int .i64 (fits s.size l 0)]) ∧ ∃ n, w' = w.drewN n := by
  have HC := Lib.hid (fits_any s A c l w hz hl hr)
  have hne : (fits s.size l 0 != 0) = true := by simpa using hbad
  have hne2 : (fits s.size l 0 == 0) = false := by simpa using hbad
  clear hr hbad
  go_enter Try.func21, Try.ntmps21
  go_wp2_with (fail)
  refine (HC.out).mono ?_
  rintro e w1 ⟨rfl, n, rfl⟩
  go_wp2_with (fail)
  go_ret2
  exact ⟨rfl, n, rfl⟩

def refRes (s : List UInt8) (l : List Rep) : Value := if 16384 < (rapp s l).length then .tuple #[.string ⟨#[]⟩, .int .i64 8] else .tuple #[.string ⟨(rapp s l).toArray⟩, .int .i64 0]
theorem refRes_big {s : List UInt8} {l : List Rep} (h : 16384 < (rapp s l).length) : refRes s l = .tuple #[.string ⟨#[]⟩, .int .i64 8] := if_pos h
theorem refRes_ok {s : List UInt8} {l : List Rep} (h : ¬ 16384 < (rapp s l).length) : refRes s l = .tuple #[.string ⟨(rapp s l).toArray⟩, .int .i64 0] := if_neg h

theorem bytes_of {b : ByteArray} {ls : List UInt8} (h : b.data.toList = ls) : b = ⟨ls.toArray⟩ := by
  rw [← h]
theorem cat_list (ob txt : ByteArray) (p q : Nat) (hq : q ≤ ob.size) : (ob.extract 0 p ++ txt ++ ob.extract q ob.size).data.toList = ob.data.toList.take p ++ (txt.data.toList ++ ob.data.toList.drop q) := by
  have hsz : ob.data.toList.length = ob.size := by simp
  have e1 : (ob.extract 0 p).data.toList = ob.data.toList.take p := by simp [ByteArray.data_extract]
  have e2 : (ob.extract q ob.size).data.toList = ob.data.toList.drop q := by
    have e : (ob.extract q ob.size).data.toList = (ob.data.toList.take ob.size).drop q := by simp [ByteArray.data_extract, List.drop_take]
    rw [e, List.take_of_length_le (by omega)]
  simp only [ByteArray.data_append, Array.toList_append, e1, e2, List.append_assoc]

theorem short_drop {l : List Rep} (h : Short l) (k : Nat) : ∀ r, r ∈ l.drop k → r.text.size ≤ 1000000 := by
  intro r hr
  obtain ⟨i, hi, e⟩ := List.mem_iff_getElem.1 (List.mem_of_mem_drop hr)
  rw [← e]
  exact h i hi

set_option maxHeartbeats 1000000 in
theorem refApply_good (s : ByteArray) (A : Option Addr) (c : Nat) (l : List Rep) (w : World) (hz : s.size ≤ 1000000) (hl : l.length ≤ 1000) (hs : Short l) (hr : RepsA w A l) (hok : fits s.size l 0 = 0) :
    Calls Try.prog 21 #[.string s, .slice A l.length c] w fun e w' => e = .returned (refRes s.data.toList l) ∧ ∃ n, w' = w.drewN n := by
  have HC := Lib.hid (fits_any s A c l w hz hl hr)
  rw [hok] at HC
  have hsz : s.data.toList.length = s.size := by simp
  have hv : val s.data.toList.length l 0 := by rw [hsz]; exact val_of_fits _ _ _ hok
  have HB := Lib.hid (fun k hk => And.intro (rapp_bd s.data.toList l k hk hv) (val_drop _ l 0 k hk (Int.le_refl _) hv))
  have HR := Lib.hid hr
  have HS := Lib.hid hs
  clear hr hok hs hv
  go_enter Try.func21, Try.ntmps21
  go_wp2_with (fail)
  refine (HC.out).mono ?_
  rintro e w1 ⟨rfl, n, rfl⟩
  go_wp2_with (fail)
  go_loopw [7, 8] (fun x i wr => ∃ (k m : Nat) (ob : ByteArray), k ≤ l.length ∧ i = .int .i64 ((k : Int) - 1) ∧ x = .string ob ∧ Hid (ob.data.toList = rapp s.data.toList (l.drop k)) ∧ wr = w.drewN m) (fun _ i _ => (intOf i + 1).toNat)
  case atStart => exact ⟨l.length, n, s, Nat.le_refl _, rfl, rfl, (by rw [List.drop_of_length_le (Nat.le_refl _)]; rfl), rfl⟩
  case round =>
    obtain ⟨k, m, ob, hk, rfl, rfl, hob, rfl⟩ := hrel
    by_cases hk0 : k = 0
    · subst hk0
      have HO := Lib.hid hob.out
      have hos : ob.data.toList.length = ob.size := by simp
      have HL := Lib.hid (show ob.size = (rapp s.data.toList l).length by rw [← hos, hob.out]; rfl)
      have HT := Lib.hid (show ob = ⟨(rapp s.data.toList l).toArray⟩ from bytes_of hob.out)
      rw [show ((0 : Nat) : Int) - 1 = -1 from rfl]
      clear hob hos
      by_cases g : 16384 < ob.size
      · have HF := Lib.hid (show 16384 < (rapp s.data.toList l).length by rw [← HL.out]; exact g)
        go_wp2_with (fail)
        go_ret2
        exact ⟨by rw [refRes_big HF.out]; rfl, m, rfl⟩
      · have HF := Lib.hid (show ¬ 16384 < (rapp s.data.toList l).length by rw [← HL.out]; exact g)
        go_wp2_with (fail)
        go_ret2
        exact ⟨by rw [refRes_ok HF.out, ← HT.out]; rfl, m, rfl⟩
    · obtain ⟨j, rfl⟩ : ∃ j, k = j + 1 := ⟨k - 1, by omega⟩
      have hjl : j < l.length := by omega
      rw [show ((j + 1 : Nat) : Int) - 1 = (j : Int) from by omega]
      obtain ⟨b, off, rfl, _, hr⟩ := HR.out (by omega)
      obtain ⟨c1, c2, c3⟩ := hr j hjl
      obtain ⟨h1, h2, h3, h4, _⟩ := HB.out j hjl
      have hts := HS.out j hjl
      have HD := Lib.hid (rapp_drop s.data.toList l j hjl)
      have hos : ob.data.toList.length = ob.size := by simp
      have hlen : (ob.size : Int) ≤ 2000000000 := by
        obtain ⟨q, hq⟩ := Int.eq_ofNat_of_zero_le (show 0 ≤ l[j].hi by omega)
        have hv4 := HB.out j hjl
        rw [hq] at hv4
        have a := rapp_len s.data.toList 1000000 (l.drop (j + 1)) q hv4.2.2.2.2 (by omega) (short_drop HS.out (j + 1))
        rw [← hob.out, hos, hsz, List.length_drop] at a
        have : ((1000000 : Nat) : Int) * ((l.length - (j + 1) : Nat) : Int) ≤ 1000000 * 1000 := by
          have : ((l.length - (j + 1) : Nat) : Int) ≤ 1000 := by omega
          omega
        omega
      rw [← hob.out, hos] at h1
      obtain ⟨p, hp⟩ := Int.eq_ofNat_of_zero_le h2
      obtain ⟨q, hq⟩ := Int.eq_ofNat_of_zero_le (show 0 ≤ l[j].hi by omega)
      generalize l[j].text = txt at *
      rw [hp, hq] at HD
      rw [hp] at c1 h2 h3
      rw [hq] at c2 h3 h1 h4
      clear hp hq hr hos
      have f1 : p ≤ ob.size := by omega
      have f2 : q ≤ ob.size := by omega
      have z1 : (ob.extract 0 p).size + txt.size ≤ 9223372036854775807 := by simp [ByteArray.size_extract]; omega
      have z2 : (ob.extract 0 p ++ txt).size + (ob.extract q ob.size).size ≤ 9223372036854775807 := by simp [ByteArray.size_extract]; omega
      have e1 := fun wx => run_string_add_sum (P := Try.prog) (w := wx) (ob.extract 0 p) txt z1
      have e2 := fun wx => run_string_add_sum (P := Try.prog) (w := wx) (ob.extract 0 p ++ txt) (ob.extract q ob.size) z2
      clear z1 z2
      go_wp2_with (fail)
      go_quiet (fail)
      go_wp2_with (fail)
      refine ⟨⟨j, _, ob.extract 0 p ++ txt ++ ob.extract q ob.size, by omega, rfl, rfl, ?_, by first | rfl | exact World.drewN_drewN _ _ _⟩, by simp [intOf]⟩
      have e := HD.out
      rw [Int.toNat_natCast, Int.toNat_natCast, ← hob.out] at e
      rw [e]
      exact cat_list ob txt p q f2

theorem refApply_any (s : ByteArray) (A : Option Addr) (c : Nat) (l : List Rep) (w : World) (hz : s.size ≤ 1000000) (hl : l.length ≤ 1000) (hs : Short l) (hr : RepsA w A l) :
    Calls Try.prog 21 #[.string s, .slice A l.length c] w fun e w' => e = .returned (.tuple #[.string (appText s l), .int .i64 (chk s.size l 0 s.size)]) ∧ ∃ n, w' = w.drewN n := by
  have hsz : s.data.toList.length = s.size := by simp
  have hcf := chk_fits s.size l 0 s.size
  by_cases h : fits s.size l 0 = 0
  · rw [if_pos h] at hcf
    have hv : val s.data.toList.length l 0 := by rw [hsz]; exact val_of_fits _ _ _ h
    have hra := rapp_app s.data.toList l 0 hv (by omega)
    rw [List.take_zero, List.nil_append] at hra
    have hlen := app_length s.data.toList l 0 hv (by omega)
    refine (refApply_good s A c l w hz hl hs hr h).mono fun e w' he => ⟨?_, he.2⟩
    rw [he.1]
    by_cases g : 16384 < (s.size : Int) + tot l
    · rw [if_pos g] at hcf
      rw [refRes_big (by rw [hra]; omega), hcf]
      unfold appText
      rw [if_neg (by rw [hcf]; omega)]
    · rw [if_neg g] at hcf
      rw [refRes_ok (by rw [hra]; omega), hra, hcf]
      unfold appText
      rw [if_pos hcf]
  · rw [if_neg h] at hcf
    rw [hcf]
    unfold appText
    rw [if_neg (by rw [hcf]; exact h)]
    exact refApply_bad s A c l w hz hl hr h
end Go.Proofs.Ytgihfnnffailiaa
