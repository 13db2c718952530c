/- What is proved: bounds, Offset and Line (the program's and the reference's) return what the plain functions say. -/
import Derived.Test.YtgihfnnffailiaaPos
import Derived.Test.YtgihfnnffailiaaLinePlain
import Derived.Test.YtgihfnnffailiaaInts
set_option linter.unusedVariables false
namespace Go.Proofs.Ytgihfnnffailiaa
open Go.RowKit

theorem L_eq (s : ByteArray) : lnsTo s.data.toList s.size = L s.data.toList := by
  unfold L
  rw [show s.data.toList.length = s.size from by simp]
theorem own_frm {w : World} {B n : Nat} {E : TypeId} {v : Value} {l : List UInt8} (h : w.ownsRow B E 1 v n (ints (L l))) {g c : Nat} (hv : v = .slice (some ⟨g, 0, none⟩) n c) (k : Nat) (hk : k < (L l).length) : w.cell? ⟨g, k, none⟩ = some (.int .i64 (frm l k : Int)) := by
  have h1 := own_cell h hv k hk
  have e : frm l k = (L l)[k] := by
    unfold frm
    rw [List.getD_eq_getElem?_getD, List.getElem?_eq_getElem hk]
    rfl
  rw [e]
  exact h1

set_option maxHeartbeats 400000 in
theorem bounds_in (s : ByteArray) (j : Nat) (w : World) (hs : s.size ≤ 1000000) (hj : j < (L s.data.toList).length) :
    Calls Try.prog 33 #[.string s, .int .i64 ((j : Int) + 1)] w fun e w' => e = .returned (.tuple #[.int .i64 (frm s.data.toList j : Int), .int .i64 (fin_ s.data.toList j : Int), .bool true]) ∧ Below w.heap.size w w' := by
  have hle := frm_fin s.data.toList j hj
  have hln := L_len s.data.toList
  have hsz : s.data.toList.length = s.size := by simp
  have hj2 : (j : Int) + 1 ≤ ((L s.data.toList).length : Int) := by omega
  have HC := Lib.hid (lines_any s w hs)
  rw [L_eq] at HC
  by_cases hm : j + 1 < (L s.data.toList).length
  · have hL := frm_le s.data.toList (j + 1) hm
    have hmo := L_mono s.data.toList j (j + 1) (by omega) hm
    have hfe : fin_ s.data.toList j = frm s.data.toList (j + 1) - 1 := by unfold fin_; rw [if_pos hm]
    have HF := Lib.hid (show ((frm s.data.toList (j + 1) : Int)) - 1 = (fin_ s.data.toList j : Int) by rw [hfe]; omega)
    clear hfe
    rw [hsz] at hL hle hln
    clear hsz
    go_enter Try.func33, Try.ntmps33
    go_wp2_with (fail)
    refine (HC.out).mono ?_
    rintro e w1 ⟨v, rfl, hown, hb1⟩
    obtain ⟨g, c, hv, _⟩ := hown.form (by omega)
    have c1 := own_frm hown hv j hj
    have c2 := own_frm hown hv (j + 1) hm
    rw [hv]
    clear hown hv
    go_wp2_with (fail)
    go_ret3
    exact ⟨by rw [← HF.out]; rfl, hb1⟩
  · have hfe : fin_ s.data.toList j = s.data.toList.length := by unfold fin_; rw [if_neg hm]
    rw [hsz] at hfe hle hln
    have HF := Lib.hid hfe
    clear hfe hsz
    go_enter Try.func33, Try.ntmps33
    go_wp2_with (fail)
    refine (HC.out).mono ?_
    rintro e w1 ⟨v, rfl, hown, hb1⟩
    obtain ⟨g, c, hv, _⟩ := hown.form (by omega)
    have c1 := own_frm hown hv j hj
    rw [hv]
    clear hown hv
    go_wp2_with (fail)
    go_ret3
    exact ⟨by rw [HF.out]; rfl, hb1⟩

set_option maxHeartbeats 400000 in
theorem bounds_out (s : ByteArray) (k : Int) (w : World) (hs : s.size ≤ 1000000) (hk : k < 1 ∨ ((L s.data.toList).length : Int) < k) :
    Calls Try.prog 33 #[.string s, .int .i64 k] w fun e w' => e = .returned (.tuple #[.int .i64 0, .int .i64 0, .bool false]) ∧ Below w.heap.size w w' := by
  have HC := Lib.hid (lines_any s w hs)
  rw [L_eq] at HC
  have hln := L_len s.data.toList
  by_cases h1 : k < 1
  · go_enter Try.func33, Try.ntmps33
    go_wp2_with (fail)
    refine (HC.out).mono ?_
    rintro e w1 ⟨v, rfl, hown, hb1⟩
    clear hown
    go_wp2_with (fail)
    go_ret3
    exact ⟨rfl, hb1⟩
  · have h2 : ((L s.data.toList).length : Int) < k := by omega
    clear hk
    go_enter Try.func33, Try.ntmps33
    go_wp2_with (fail)
    refine (HC.out).mono ?_
    rintro e w1 ⟨v, rfl, hown, hb1⟩
    obtain ⟨g, c, hv, _⟩ := hown.form (by omega)
    rw [hv]
    clear hown hv
    go_wp2_with (fail)
    go_ret3
    exact ⟨rfl, hb1⟩

/-- an offset has a position, whose offset it is -/
theorem offset_hit (s : ByteArray) (i : Nat) (w : World) (hs : s.size ≤ 1000000) (hi : i ≤ s.size) :
    Calls Try.prog 12 #[.string s, .int .i64 ((posTo s.data.toList i).1 : Int), .int .i64 ((posTo s.data.toList i).2 : Int)] w fun e w' => e = .returned (.tuple #[.int .i64 (i : Int), .bool true]) ∧ Below w.heap.size w w' := by
  have hsz : s.data.toList.length = s.size := by simp
  obtain ⟨p1, p2, p3, p4⟩ := pos_line s.data.toList i (by omega)
  have hb := posTo_bd s.data.toList i
  have hf := frm_fin s.data.toList _ p2
  rw [hsz] at hf
  generalize posTo s.data.toList i = p at *
  obtain ⟨a, b⟩ := p
  simp only at *
  obtain ⟨j, rfl⟩ : ∃ j, a = j + 1 := ⟨a - 1, by omega⟩
  rw [show j + 1 - 1 = j from by omega] at p2 p3 p4 hf
  have HC := Lib.hid (bounds_in s j w hs p2)
  generalize frm s.data.toList j = f at *
  generalize fin_ s.data.toList j = x at *
  have HV := Lib.hid (show (f : Int) + (b : Int) - 1 = (i : Int) by omega)
  have q1 : (b : Int) ≤ (x : Int) - (f : Int) + 1 := by omega
  have q2 : (1 : Int) ≤ (b : Int) := by omega
  have hx : x ≤ 1000000 := by omega
  clear p3 p2 p4 p1
  rw [show (((j + 1 : Nat) : Int)) = (j : Int) + 1 from by omega]
  go_enter Try.func12, Try.ntmps12
  go_wp2_with (fail)
  refine (HC.out).mono ?_
  rintro e w1 ⟨rfl, hb1⟩
  go_wp2_with (fail)
  go_ret2
  exact ⟨by rw [← HV.out]; rfl, hb1⟩

set_option maxHeartbeats 400000 in
theorem offset_miss (s : ByteArray) (line col : Int) (w : World) (hs : s.size ≤ 1000000) (h : ∀ i : Nat, i ≤ s.size → ¬ (((posTo s.data.toList i).1 : Int) = line ∧ ((posTo s.data.toList i).2 : Int) = col)) :
    Calls Try.prog 12 #[.string s, .int .i64 line, .int .i64 col] w fun e w' => e = .returned (.tuple #[.int .i64 0, .bool false]) ∧ Below w.heap.size w w' := by
  have hsz : s.data.toList.length = s.size := by simp
  by_cases hl : line < 1 ∨ ((L s.data.toList).length : Int) < line
  · have HC := Lib.hid (bounds_out s line w hs hl)
    clear h hl hsz
    go_enter Try.func12, Try.ntmps12
    go_wp2_with (fail)
    refine (HC.out).mono ?_
    rintro e w1 ⟨rfl, hb1⟩
    go_wp2_with (fail)
    go_ret2
    exact ⟨rfl, hb1⟩
  · obtain ⟨j, rfl⟩ : ∃ j : Nat, line = (j : Int) + 1 := ⟨(line - 1).toNat, by omega⟩
    have hj : j < (L s.data.toList).length := by omega
    have HC := Lib.hid (bounds_in s j w hs hj)
    have hf := frm_fin s.data.toList j hj
    rw [hsz] at hf
    have hc : col < 1 ∨ (fin_ s.data.toList j : Int) - (frm s.data.toList j : Int) + 1 < col := by
      rcases Int.lt_or_le col 1 with g | g
      · exact .inl g
      · rcases Int.lt_or_le ((fin_ s.data.toList j : Int) - (frm s.data.toList j : Int) + 1) col with g2 | g2
        · exact .inr g2
        · obtain ⟨c, rfl⟩ := Int.eq_ofNat_of_zero_le (show 0 ≤ col by omega)
          have hp := line_pos s.data.toList j c hj (by omega) (by omega)
          exact absurd ⟨by rw [hp]; simp, by rw [hp]⟩ (h (frm s.data.toList j + c - 1) (by omega))
    generalize frm s.data.toList j = f at *
    generalize fin_ s.data.toList j = x at *
    have hx : x ≤ 1000000 := by omega
    have hfx : f ≤ x := hf.1
    clear h hl hsz hj hf
    by_cases g : col < 1
    · clear hc
      go_enter Try.func12, Try.ntmps12
      go_wp2_with (fail)
      refine (HC.out).mono ?_
      rintro e w1 ⟨rfl, hb1⟩
      go_wp2_with (fail)
      go_ret2
      exact ⟨rfl, hb1⟩
    · have g2 : (x : Int) - (f : Int) + 1 < col := by omega
      clear hc
      go_enter Try.func12, Try.ntmps12
      go_wp2_with (fail)
      refine (HC.out).mono ?_
      rintro e w1 ⟨rfl, hb1⟩
      go_wp2_with (fail)
      go_ret2
      exact ⟨rfl, hb1⟩

set_option maxHeartbeats 400000 in
theorem refOffset_stop (s : ByteArray) (stop : Nat) (line col : Int) (w : World) (hs : s.size ≤ 1000000) (hst : stop ≤ s.size + 1) (hno : ∀ k : Nat, k < stop → ¬ (((posTo s.data.toList k).1 : Int) = line ∧ ((posTo s.data.toList k).2 : Int) = col))
    (hyes : stop ≤ s.size → ((posTo s.data.toList stop).1 : Int) = line ∧ ((posTo s.data.toList stop).2 : Int) = col) :
    Calls Try.prog 13 #[.string s, .int .i64 line, .int .i64 col] w fun e w' => e = .returned (.tuple #[.int .i64 (if stop ≤ s.size then (stop : Int) else 0), .bool (decide (stop ≤ s.size))]) ∧ w = w' := by
  have HN := Lib.hid hno
  have HY := Lib.hid hyes
  clear hno hyes
  go_enter Try.func13, Try.ntmps13
  go_wp2_with (fail)
  go_loop [8] (fun x => ∃ k : Nat, k ≤ stop ∧ x = .int .i64 (k : Int)) (fun x => s.size + 1 - (intOf x).toNat)
  case atStart => exact ⟨0, Nat.zero_le _, rfl⟩
  case round =>
    obtain ⟨k, hk, rfl⟩ := hrel
    by_cases hks : k ≤ s.size
    · have hks' : (k : Int) ≤ (s.size : Int) := by omega
      have hp := Lib.hid (refPosition_in s k w hs hks)
      by_cases hst2 : k < stop
      · have hn := HN.out k hst2
        have hbd := posTo_bd s.data.toList k
        generalize (posTo s.data.toList k).1 = x at *
        generalize (posTo s.data.toList k).2 = y at *
        by_cases g : (x : Int) = line
        · have g1 : ((x : Int) == line) = true := by simpa using g
          have g2 : ((y : Int) == col) = false := by simpa using fun e => hn ⟨g, e⟩
          clear g hn
          go_wp2_with (fail)
          refine hp.out.mono ?_
          rintro e w' ⟨rfl, rfl⟩
          go_wp2_with (fail)
          exact ⟨⟨k + 1, by omega, by go_num⟩, by simp [intOf]; omega⟩
        · have g1 : ((x : Int) == line) = false := by simpa using g
          clear g hn
          go_wp2_with (fail)
          refine hp.out.mono ?_
          rintro e w' ⟨rfl, rfl⟩
          go_wp2_with (fail)
          exact ⟨⟨k + 1, by omega, by go_num⟩, by simp [intOf]; omega⟩
      · obtain rfl : k = stop := by omega
        obtain ⟨g, g'⟩ := HY.out hks
        have g1 : (((posTo s.data.toList k).1 : Int) == line) = true := by simpa using g
        have g2 : (((posTo s.data.toList k).2 : Int) == col) = true := by simpa using g'
        clear g g'
        have HV := Lib.hid (show (if k ≤ s.size then (k : Int) else 0) = (k : Int) from if_pos hks)
        have HD := Lib.hid (show decide (k ≤ s.size) = true by simpa using hks)
        go_wp2_with (fail)
        refine hp.out.mono ?_
        rintro e w' ⟨rfl, rfl⟩
        go_wp2_with (fail)
        go_ret2
        exact ⟨by first | rfl | (rw [HV.out, HD.out]; rfl) | (simp only [HV.out, HD.out]; rfl) | (simp [HV.out, HD.out]; done), rfl⟩
    · have hks' : ¬ (k : Int) ≤ (s.size : Int) := by omega
      have HV := Lib.hid (show (if stop ≤ s.size then (stop : Int) else 0) = 0 from if_neg (by omega))
      have HD := Lib.hid (show decide (stop ≤ s.size) = false by simp; omega)
      go_wp2_with (fail)
      go_ret2
      exact ⟨by first | rfl | (rw [HV.out, HD.out]; rfl) | (simp only [HV.out, HD.out]; rfl) | (simp [HV.out, HD.out]; done), rfl⟩

theorem refOffset_hit (s : ByteArray) (i : Nat) (w : World) (hs : s.size ≤ 1000000) (hi : i ≤ s.size) :
    Calls Try.prog 13 #[.string s, .int .i64 ((posTo s.data.toList i).1 : Int), .int .i64 ((posTo s.data.toList i).2 : Int)] w fun e w' => e = .returned (.tuple #[.int .i64 (i : Int), .bool true]) ∧ w = w' := by
  have hsz : s.data.toList.length = s.size := by simp
  have h := refOffset_stop s i ((posTo s.data.toList i).1 : Int) ((posTo s.data.toList i).2 : Int) w hs (by omega) (fun k hk he => by
    have := pos_inj s.data.toList k i (by omega) (by omega) (Prod.ext (by omega) (by omega))
    omega) (fun _ => ⟨rfl, rfl⟩)
  rw [if_pos hi, show decide (i ≤ s.size) = true by simpa using hi] at h
  exact h
theorem refOffset_miss (s : ByteArray) (line col : Int) (w : World) (hs : s.size ≤ 1000000) (h : ∀ i : Nat, i ≤ s.size → ¬ (((posTo s.data.toList i).1 : Int) = line ∧ ((posTo s.data.toList i).2 : Int) = col)) :
    Calls Try.prog 13 #[.string s, .int .i64 line, .int .i64 col] w fun e w' => e = .returned (.tuple #[.int .i64 0, .bool false]) ∧ w = w' := by
  have h := refOffset_stop s (s.size + 1) line col w hs (by omega) (fun k hk => h k (by omega)) (fun h => by omega)
  rw [if_neg (by omega), show decide (s.size + 1 ≤ s.size) = false by simp] at h
  exact h
end Go.Proofs.Ytgihfnnffailiaa
