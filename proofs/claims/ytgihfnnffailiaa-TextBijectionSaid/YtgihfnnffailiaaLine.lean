/- What is proved: Line (the program's and the reference's) returns the same text for any number. -/
import Derived.Test.YtgihfnnffailiaaOffset
import Derived.Lib.Strings
set_option linter.unusedVariables false
namespace Go.Proofs.Ytgihfnnffailiaa
open Go.RowKit

/-- the end of line j without a byte 13 in front of the byte 10 -/
def cut_ (l : List UInt8) (j : Nat) : Nat := if j + 1 < (L l).length ∧ frm l j < fin_ l j ∧ l[fin_ l j - 1]? = some 13 then fin_ l j - 1 else fin_ l j
def lineText (s : ByteArray) (j : Nat) : ByteArray := s.extract (frm s.data.toList j) (cut_ s.data.toList j)

theorem cut_yes (l : List UInt8) (j : Nat) (h1 : j + 1 < (L l).length) (h2 : frm l j < fin_ l j) (h3 : l[fin_ l j - 1]? = some 13) : cut_ l j = fin_ l j - 1 := if_pos ⟨h1, h2, h3⟩
theorem cut_no (l : List UInt8) (j : Nat) (h : ¬ (j + 1 < (L l).length ∧ frm l j < fin_ l j ∧ l[fin_ l j - 1]? = some 13)) : cut_ l j = fin_ l j := if_neg h

theorem last_suffix (q : List UInt8) (c : UInt8) : ([c] : List UInt8).isSuffixOf q = true ↔ q.getLast? = some c := by
  rw [List.isSuffixOf_iff_suffix]
  constructor
  · rintro ⟨t, rfl⟩
    simp
  · intro h
    obtain ⟨ys, hy⟩ := List.getLast?_eq_some_iff.1 h
    exact ⟨ys, hy.symm⟩

theorem ext_list (s : ByteArray) (f x : Nat) : (s.extract f x).data.toList = (s.data.toList.take x).drop f := by
  simp [ByteArray.data_extract, List.drop_take]

theorem trim_list (l : List UInt8) (f x : Nat) (hx : x ≤ l.length) (hf : f ≤ x) : Lib.trimSuffix ((l.take x).drop f) [13] = (l.take (if f < x ∧ l[x - 1]? = some 13 then x - 1 else x)).drop f := by
  unfold Lib.trimSuffix Lib.hasSuffix
  have hlen : ((l.take x).drop f).length = x - f := by simp; omega
  have hlast : f < x → ((l.take x).drop f).getLast? = l[x - 1]? := by
    intro h
    rw [List.getLast?_eq_getElem?, hlen, List.getElem?_drop, List.getElem?_take_of_lt (by omega)]
    congr 1
    omega
  by_cases h : f < x ∧ l[x - 1]? = some 13
  · rw [if_pos h, if_pos ((last_suffix _ _).2 (by rw [hlast h.1]; exact h.2)), hlen]
    show List.take (x - f - 1) _ = _
    rw [List.take_drop, List.take_take]
    congr 2
    omega
  · rw [if_neg h]
    have hn : ¬ ([13] : List UInt8).isSuffixOf ((l.take x).drop f) = true := by
      intro hh
      have h2 := (last_suffix _ _).1 hh
      by_cases g : f < x
      · rw [hlast g] at h2
        exact h ⟨g, h2⟩
      · have : (l.take x).drop f = [] := List.eq_nil_of_length_eq_zero (by omega)
        rw [this] at h2
        cases h2
    rw [if_neg hn]

theorem trim_bytes (s : ByteArray) (f x : Nat) (hx : x ≤ s.size) (hf : f ≤ x) : (⟨(Lib.trimSuffix (s.extract f x).data.toList [13]).toArray⟩ : ByteArray) = s.extract f (if f < x ∧ s.data.toList[x - 1]? = some 13 then x - 1 else x) := by
  have hsz : s.data.toList.length = s.size := by simp
  rw [ext_list, trim_list _ _ _ (by omega) hf, ← ext_list]

theorem trim_any (s : ByteArray) (j : Nat) (w : World) (hs : s.size ≤ 1000000) (hj : j + 1 < (L s.data.toList).length) :
    Calls Try.prog 34 #[.string (s.extract (frm s.data.toList j) (fin_ s.data.toList j)), .string ⟨#[13]⟩] w fun e w' => e = .returned (.string (lineText s j)) ∧ w = w' := by
  have hsz : s.data.toList.length = s.size := by simp
  have hf := frm_fin s.data.toList j (by omega)
  rw [hsz] at hf
  have hsz2 : (s.extract (frm s.data.toList j) (fin_ s.data.toList j)).size ≤ 9223372036854775807 := by simp [ByteArray.size_extract]; omega
  refine (Try.strings_TrimSuffix (s.extract (frm s.data.toList j) (fin_ s.data.toList j)) ⟨#[13]⟩ w hsz2).mono fun e w' he => ⟨?_, he.2.symm⟩
  rw [he.1]
  have h := trim_bytes s (frm s.data.toList j) (fin_ s.data.toList j) hf.2.1 hf.1
  show Ending.returned (.string ⟨(Lib.trimSuffix (s.extract (frm s.data.toList j) (fin_ s.data.toList j)).data.toList [13]).toArray⟩) = _
  rw [h]
  unfold lineText cut_
  congr 2
  simp only [hj, true_and]

set_option maxHeartbeats 400000 in
theorem line_in (s : ByteArray) (j : Nat) (w : World) (hs : s.size ≤ 1000000) (hj : j < (L s.data.toList).length) :
    Calls Try.prog 17 #[.string s, .int .i64 ((j : Int) + 1)] w fun e w' => e = .returned (.string (lineText s j)) ∧ Below w.heap.size w w' := by
  have hsz : s.data.toList.length = s.size := by simp
  have hf := frm_fin s.data.toList j hj
  rw [hsz] at hf
  have HC := Lib.hid (bounds_in s j w hs hj)
  by_cases hm : j + 1 < (L s.data.toList).length
  · have HT := Lib.hid (fun w1 => trim_any s j w1 hs hm)
    have hx := hf.2.2 hm
    generalize lineText s j = txt at *
    generalize frm s.data.toList j = f at *
    generalize fin_ s.data.toList j = x at *
    have hne : ((x : Int) == (s.size : Int)) = false := by simp; omega
    have hfx : f ≤ x := hf.1
    have hx2 : x ≤ s.size := by omega
    clear hsz hf hj
    go_enter Try.func17, Try.ntmps17
    go_wp2_with (fail)
    refine (HC.out).mono ?_
    rintro e w1 ⟨rfl, hb1⟩
    go_wp2_with (fail)
    refine (HT.out _).mono ?_
    rintro e w2 ⟨rfl, rfl⟩
    go_wp2_with (fail)
    go_ret
    exact ⟨rfl, hb1⟩
  · have hfin : fin_ s.data.toList j = s.size := by unfold fin_; rw [if_neg hm]; exact hsz
    have HV := Lib.hid (show lineText s j = s.extract (frm s.data.toList j) s.size by
      unfold lineText
      rw [cut_no _ _ (fun h => hm h.1), hfin])
    rw [hfin] at HC hf
    have hfx : frm s.data.toList j ≤ s.size := hf.1
    generalize frm s.data.toList j = f at *
    have hne : ((s.size : Int) == (s.size : Int)) = true := by simp
    clear hsz hf hj hm hfin
    go_enter Try.func17, Try.ntmps17
    go_wp2_with (fail)
    refine (HC.out).mono ?_
    rintro e w1 ⟨rfl, hb1⟩
    go_wp2_with (fail)
    go_ret
    exact ⟨by rw [HV.out]; rfl, hb1⟩

set_option maxHeartbeats 400000 in
theorem line_out (s : ByteArray) (k : Int) (w : World) (hs : s.size ≤ 1000000) (hk : k < 1 ∨ ((L s.data.toList).length : Int) < k) :
    Calls Try.prog 17 #[.string s, .int .i64 k] w fun e w' => e = .returned (.string ⟨#[]⟩) ∧ Below w.heap.size w w' := by
  have HC := Lib.hid (bounds_out s k w hs hk)
  clear hk
  go_enter Try.func17, Try.ntmps17
  go_wp2_with (fail)
  refine (HC.out).mono ?_
  rintro e w1 ⟨rfl, hb1⟩
  go_wp2_with (fail)
  go_ret
  exact ⟨rfl, hb1⟩

theorem byte_cr (s : ByteArray) (k : Nat) (hk : k < s.size) : s.data.toList[k]? = some 13 ↔ (s[k].toNat : Int) = 13 := by
  rw [List.getElem?_eq_getElem (by simpa using hk)]
  constructor
  · intro h
    have e : s[k] = (13 : UInt8) := Option.some.inj h
    rw [e]
    rfl
  · intro h
    refine congrArg some (UInt8.toNat_inj.1 ?_)
    show s[k].toNat = 13
    omega

set_option maxHeartbeats 400000 in
theorem refLine_out (s : ByteArray) (k : Int) (w : World) (hs : s.size ≤ 1000000) (hk : k < 1 ∨ ((L s.data.toList).length : Int) < k) :
    Calls Try.prog 18 #[.string s, .int .i64 k] w fun e w' => e = .returned (.string ⟨#[]⟩) ∧ Below w.heap.size w w' := by
  have HC := Lib.hid (refLines_any s w hs)
  rw [L_eq] at HC
  have hln := L_len s.data.toList
  by_cases h1 : k < 1
  · go_enter Try.func18, Try.ntmps18
    go_wp2_with (fail)
    refine (HC.out).mono ?_
    rintro e w1 ⟨v, rfl, hown, hb1⟩
    clear hown
    go_wp2_with (fail)
    go_ret
    exact ⟨rfl, hb1⟩
  · have h2 : ((L s.data.toList).length : Int) < k := by omega
    clear hk
    go_enter Try.func18, Try.ntmps18
    go_wp2_with (fail)
    refine (HC.out).mono ?_
    rintro e w1 ⟨v, rfl, hown, hb1⟩
    obtain ⟨g, c, hv, _⟩ := hown.form (by omega)
    rw [hv]
    clear hown hv
    go_wp2_with (fail)
    go_ret
    exact ⟨rfl, hb1⟩

set_option maxHeartbeats 1000000 in
theorem refLine_in (s : ByteArray) (j : Nat) (w : World) (hs : s.size ≤ 1000000) (hj : j < (L s.data.toList).length) :
    Calls Try.prog 18 #[.string s, .int .i64 ((j : Int) + 1)] w fun e w' => e = .returned (.string (lineText s j)) ∧ Below w.heap.size w w' := by
  have hsz : s.data.toList.length = s.size := by simp
  have hf := frm_fin s.data.toList j hj
  have hln := L_len s.data.toList
  have HC := Lib.hid (refLines_any s w hs)
  rw [L_eq] at HC
  by_cases hm : j + 1 < (L s.data.toList).length
  · have hL := frm_le s.data.toList (j + 1) hm
    have hmo := L_mono s.data.toList j (j + 1) (by omega) hm
    have hfe : fin_ s.data.toList j = frm s.data.toList (j + 1) - 1 := by unfold fin_; rw [if_pos hm]
    rw [hsz] at hL hf hln
    have hx0 : fin_ s.data.toList j < s.size := hf.2.2 hm
    have hcut : (frm s.data.toList j < fin_ s.data.toList j ∧ ∃ h : fin_ s.data.toList j - 1 < s.size, (s[fin_ s.data.toList j - 1].toNat : Int) = 13) ∨ ¬ (frm s.data.toList j < fin_ s.data.toList j ∧ s.data.toList[fin_ s.data.toList j - 1]? = some 13) := by
      by_cases g : frm s.data.toList j < fin_ s.data.toList j ∧ s.data.toList[fin_ s.data.toList j - 1]? = some 13
      · exact .inl ⟨g.1, by omega, (byte_cr s _ (by omega)).1 g.2⟩
      · exact .inr g
    rcases hcut with ⟨g1, g2, g3⟩ | g
    · have HV := Lib.hid (show lineText s j = s.extract (frm s.data.toList j) (fin_ s.data.toList j - 1) by
        unfold lineText
        rw [cut_yes _ _ hm g1 ((byte_cr s _ g2).2 g3)])
      have HF := Lib.hid (show frm s.data.toList (j + 1) = fin_ s.data.toList j + 1 by omega)
      have gB : ((s[fin_ s.data.toList j - 1].toNat : Int) == 13) = true := by simpa using g3
      clear hfe hmo hL hf hsz
      obtain ⟨f, hf0⟩ : ∃ f, f = frm s.data.toList j := ⟨_, rfl⟩
      obtain ⟨x, hx⟩ : ∃ x, x = fin_ s.data.toList j := ⟨_, rfl⟩
      rw [← hf0, ← hx] at HV
      have HO := Lib.hid (fun (w1 : World) (v : Value) (g c n B : Nat) (E : TypeId) (h : w1.ownsRow B E 1 v n (ints (L s.data.toList))) (hv : v = .slice (some ⟨g, 0, none⟩) n c) => And.intro ((own_frm h hv j hj).trans (by rw [← hf0])) ((own_frm h hv (j + 1) hm).trans (by rw [HF.out, ← hx])))
      have k1 : f < x := by omega
      have k2 : x < s.size := by omega
      have k3 : x - 1 < s.size := by omega
      have k4 : x ≤ s.size := by omega
      have k5 : f ≤ x - 1 := by omega
      have k6 : x - 1 ≤ s.size := by omega
      have k7 : (0 : Int) ≤ (x : Int) - 1 := by omega
      have k8 : (x : Int) - 1 < (s.size : Int) := by omega
      have k9 : (f : Int) ≤ (x : Int) - 1 := by omega
      have k10 : (1 : Int) ≤ (x : Int) := by omega
      have k11 : ((x : Int) - 1).toNat = x - 1 := by omega
      have k12 : (x : Int) - 1 ≤ (s.size : Int) := by omega
      have gB2 : ((s[x - 1].toNat : Int) == 13) = true := by
        have e : ∀ (y z : Nat) (hy : y < s.size) (hz : z < s.size), y = z → ((s[y].toNat : Int) == 13) = true → ((s[z].toNat : Int) == 13) = true := by
          intro y z hy hz e h
          subst e
          exact h
        exact e _ _ g2 k3 (by rw [hx]) gB
      rw [← hx] at hx0
      clear gB g3 g2 g1
      clear hf0 hx HF
      go_enter Try.func18, Try.ntmps18
      go_wp2_with (fail)
      refine (HC.out).mono ?_
      rintro e w1 ⟨v, rfl, hown, hb1⟩
      obtain ⟨g, c, hv, _⟩ := hown.form (by omega)
      obtain ⟨c1, c2⟩ := HO.out w1 v g c _ _ _ hown hv
      have c2' : w1.cell? ⟨g, j + 1, none⟩ = some (.int .i64 ((x : Int) + 1)) := c2
      rw [hv]
      clear hown hv c2
      go_wp2_with (fail)
      go_ret
      exact ⟨by rw [HV.out]; rfl, hb1⟩
    · have HV := Lib.hid (show lineText s j = s.extract (frm s.data.toList j) (fin_ s.data.toList j) by
        unfold lineText
        rw [cut_no _ _ (fun h => g h.2)])
      have hfx0 : frm s.data.toList j ≤ fin_ s.data.toList j := hf.1
      have HF := Lib.hid (show frm s.data.toList (j + 1) = fin_ s.data.toList j + 1 by omega)
      clear hfe hmo hL hf hsz
      obtain ⟨f, hf0⟩ : ∃ f, f = frm s.data.toList j := ⟨_, rfl⟩
      obtain ⟨x, hx⟩ : ∃ x, x = fin_ s.data.toList j := ⟨_, rfl⟩
      rw [← hf0, ← hx] at HV
      have HO := Lib.hid (fun (w1 : World) (v : Value) (g c n B : Nat) (E : TypeId) (h : w1.ownsRow B E 1 v n (ints (L s.data.toList))) (hv : v = .slice (some ⟨g, 0, none⟩) n c) => And.intro ((own_frm h hv j hj).trans (by rw [← hf0])) ((own_frm h hv (j + 1) hm).trans (by rw [HF.out, ← hx])))
      have k1 : f ≤ x := by omega
      have k2 : x < s.size := by omega
      have k4 : x ≤ s.size := by omega
      have gway : (¬ f < x) ∨ (f < x ∧ ∃ h : x - 1 < s.size, ((s[x - 1].toNat : Int) == 13) = false) := by
        by_cases g1 : f < x
        · refine .inr ⟨g1, by omega, ?_⟩
          have hb := byte_cr s (x - 1) (by omega)
          rw [hx, hf0] at g1
          simp only [beq_eq_false_iff_ne]
          intro h
          have h2 := hb.2 h
          rw [hx] at h2
          exact g ⟨g1, h2⟩
        · exact .inl g1
      rw [← hx] at hx0
      clear g
      clear hf0 hx HF
      go_enter Try.func18, Try.ntmps18
      go_wp2_with (fail)
      refine (HC.out).mono ?_
      rintro e w1 ⟨v, rfl, hown, hb1⟩
      obtain ⟨g, c, hv, _⟩ := hown.form (by omega)
      obtain ⟨c1, c2⟩ := HO.out w1 v g c _ _ _ hown hv
      have c2' : w1.cell? ⟨g, j + 1, none⟩ = some (.int .i64 ((x : Int) + 1)) := c2
      rw [hv]
      clear hown hv c2
      rcases gway with g1 | ⟨g1, g2, g3⟩
      · go_wp2_with (fail)
        go_ret
        exact ⟨by rw [HV.out]; rfl, hb1⟩
      · have k7 : (0 : Int) ≤ (x : Int) - 1 := by omega
        have k8 : (x : Int) - 1 < (s.size : Int) := by omega
        have k10 : (1 : Int) ≤ (x : Int) := by omega
        have k11 : ((x : Int) - 1).toNat = x - 1 := by omega
        go_wp2_with (fail)
        go_ret
        exact ⟨by rw [HV.out]; rfl, hb1⟩
  · have hfin : fin_ s.data.toList j = s.size := by unfold fin_; rw [if_neg hm]; exact hsz
    have HV := Lib.hid (show lineText s j = s.extract (frm s.data.toList j) s.size by
      unfold lineText
      rw [cut_no _ _ (fun h => hm h.1), hfin])
    rw [hfin, hsz] at hf
    have hfx : frm s.data.toList j ≤ s.size := hf.1
    have HO := Lib.hid (fun (w1 : World) (v : Value) (g c n B : Nat) (E : TypeId) (h : w1.ownsRow B E 1 v n (ints (L s.data.toList))) (hv : v = .slice (some ⟨g, 0, none⟩) n c) => own_frm h hv j hj)
    generalize frm s.data.toList j = f at *
    rw [hsz] at hln
    have hml : ((L s.data.toList).length : Int) ≤ (j : Int) + 1 := by omega
    clear hsz hf hfin
    go_enter Try.func18, Try.ntmps18
    go_wp2_with (fail)
    refine (HC.out).mono ?_
    rintro e w1 ⟨v, rfl, hown, hb1⟩
    obtain ⟨g, c, hv, _⟩ := hown.form (by omega)
    have c1 := HO.out w1 v g c _ _ _ hown hv
    rw [hv]
    clear hown hv
    go_wp2_with (fail)
    go_ret
    exact ⟨by rw [HV.out]; rfl, hb1⟩
end Go.Proofs.Ytgihfnnffailiaa
