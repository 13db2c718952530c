/- What is proved: plain facts: replacements that undo others do so (no program is spoken of). -/
import Derived.Test.YtgihfnnffailiaaMovePlain
set_option linter.unusedVariables false
namespace Go.Proofs.Ytgihfnnffailiaa

/-- by how much replacements change a length -/
def tot : List Rep → Int
  | [] => 0
  | r :: rs => grow r + tot rs

theorem chk_tot (n : Int) (l : List Rep) : ∀ (d size : Int), chk n l d size = 0 → size + tot l ≤ 16384 := by
  induction l with
  | nil => intro d size h; unfold chk at h; split at h <;> simp [tot] <;> omega
  | cons r rs ih =>
    intro d size h
    rw [chk_cons] at h
    split at h
    · omega
    · split at h
      · omega
      · have := ih _ _ h
        simp only [tot]
        omega

theorem chk_of_val (n : Int) (l : List Rep) : ∀ (d size : Int), val n l d → 0 ≤ d → size + tot l ≤ 16384 → chk n l d size = 0 := by
  induction l with
  | nil => intro d size _ _ h; unfold chk; simp only [tot] at h; rw [if_neg (by omega)]
  | cons r rs ih =>
    intro d size h hd hs
    obtain ⟨h1, h2, h3, h4⟩ := h
    simp only [tot] at hs
    rw [chk_cons, if_neg (by omega), if_neg (by omega)]
    exact ih _ _ h4 (by omega) (by omega)

theorem app_length (s : List UInt8) (l : List Rep) : ∀ (d : Nat), val s.length l d → d ≤ s.length → ((app s d l).length : Int) = s.length - d + tot l := by
  induction l with
  | nil => intro d _ hd; show ((s.drop d).length : Int) = _; rw [List.length_drop]; simp only [tot]; omega
  | cons r rs ih =>
    intro d h hd
    obtain ⟨h1, h2, h3, h4⟩ := h
    obtain ⟨p, hp⟩ := Int.eq_ofNat_of_zero_le (show 0 ≤ r.lo by omega)
    obtain ⟨q, hq⟩ := Int.eq_ofNat_of_zero_le (show 0 ≤ r.hi by omega)
    have h5 := ih q (by rw [hq] at h4; exact h4) (by omega)
    rw [app_cons, hp, hq]
    simp only [List.length_append, List.length_drop, List.length_take, Int.toNat_natCast, tot]
    have e : r.text.data.toList.length = r.text.size := by simp
    have hgr : grow r = r.text.size - ((q : Int) - p) := by unfold grow; rw [hp, hq]
    rw [e, hgr]
    omega

theorem cut_text (t : ByteArray) (a b : Nat) (x y z : List UInt8) (hl : t.data.toList.drop a = x ++ (y ++ z)) (hb : a + x.length = b) : t.extract b (b + y.length) = ⟨y.toArray⟩ := by
  have h1 : t.data.toList.drop b = y ++ z := by
    rw [← hb, ← List.drop_drop, hl]
    simp
  have h2 : (t.extract b (b + y.length)).data.toList = y := by
    have e : (t.extract b (b + y.length)).data.toList = (t.data.toList.take (b + y.length)).drop b := by simp [ByteArray.data_extract, List.drop_take]
    rw [e, List.drop_take, show b + y.length - b = y.length from by omega, h1]
    simp
  have h3 : (t.extract b (b + y.length)).data = y.toArray := Array.ext' (by simpa using h2)
  calc t.extract b (b + y.length) = ⟨(t.extract b (b + y.length)).data⟩ := rfl
    _ = ⟨y.toArray⟩ := by rw [h3]

theorem rep_ext {r : Rep} {a b : Int} {t : ByteArray} (h1 : a = r.lo) (h2 : b = r.hi) (h3 : t = r.text) : (⟨a, b, t⟩ : Rep) = r := by
  cases r
  simp only at h1 h2 h3
  rw [h1, h2, h3]

theorem undo_all (s t : ByteArray) (l : List Rep) : ∀ (d D : Nat) (c : Int), (D : Int) = d + c → val s.data.toList.length l d → d ≤ s.data.toList.length → t.data.toList.drop D = app s.data.toList d l →
    app t.data.toList D (inv s l c) = s.data.toList.drop d ∧ inv t (inv s l c) (-c) = l ∧ (D ≤ t.data.toList.length → val t.data.toList.length (inv s l c) D) ∧ tot (inv s l c) = - tot l := by
  induction l with
  | nil =>
    intro d D c hD _ _ h
    exact ⟨h, rfl, fun _ => trivial, rfl⟩
  | cons r rs ih =>
    intro d D c hD hv hd h
    obtain ⟨h1, h2, h3, h4⟩ := hv
    obtain ⟨p, hp⟩ := Int.eq_ofNat_of_zero_le (show 0 ≤ r.lo by omega)
    obtain ⟨q, hq⟩ := Int.eq_ofNat_of_zero_le (show 0 ≤ r.hi by omega)
    have hpq : p ≤ q := by omega
    have hdp : d ≤ p := by omega
    have hqn : q ≤ s.data.toList.length := by omega
    have hsz : s.data.toList.length = s.size := by simp
    have htx : r.text.data.toList.length = r.text.size := by simp
    have hex : (s.extract p q).size = q - p := by simp [ByteArray.size_extract]; omega
    have hel : (s.extract p q).data.toList = (s.data.toList.take q).drop p := by simp [ByteArray.data_extract, List.drop_take]
    rw [app_cons, hp, hq, Int.toNat_natCast, Int.toNat_natCast] at h
    have hpl : ((s.data.toList.take p).drop d).length = p - d := by simp; omega
    have hgr : grow r = r.text.size - ((q : Int) - p) := by unfold grow; rw [hp, hq]
    -- the place behind the new text
    have hE : ((D + (p - d) + r.text.size : Nat) : Int) = (q : Int) + (c + grow r) := by rw [hgr]; omega
    have hrest : t.data.toList.drop (D + (p - d) + r.text.size) = app s.data.toList q rs := by
      rw [show D + (p - d) + r.text.size = D + ((p - d) + r.text.size) from by omega, ← List.drop_drop, h, ← List.append_assoc, List.drop_append_of_le_length (by simp; omega)]
      rw [List.drop_of_length_le (by simp; omega)]
      rfl
    have h4' : val s.data.toList.length rs q := by rw [hq] at h4; exact h4
    obtain ⟨i1, i2, i3, i4⟩ := ih q (D + (p - d) + r.text.size) (c + grow r) hE h4' hqn hrest
    have elo : (p : Int) + c = ((D + (p - d) : Nat) : Int) := by omega
    have ehi : (p : Int) + c + r.text.size = ((D + (p - d) + r.text.size : Nat) : Int) := by omega
    rw [inv_cons, hp, hq, Int.toNat_natCast, Int.toNat_natCast]
    refine ⟨?_, ?_, ?_, ?_⟩
    · rw [app_cons]
      show (t.data.toList.take ((p : Int) + c).toNat).drop D ++ ((s.extract p q).data.toList ++ app t.data.toList ((p : Int) + c + r.text.size).toNat (inv s rs (c + grow r))) = _
      rw [ehi, elo, Int.toNat_natCast, Int.toNat_natCast, i1, hel, List.drop_take, h, show D + (p - d) - D = p - d from by omega]
      rw [List.take_append_of_le_length (by omega), List.take_of_length_le (by omega)]
      have a1 : (s.data.toList.take q).drop p ++ s.data.toList.drop q = s.data.toList.drop p := by
        have e : s.data.toList.drop p = (s.data.toList.take q ++ s.data.toList.drop q).drop p := by rw [List.take_append_drop]
        rw [e, List.drop_append_of_le_length (by simp; omega)]
      rw [a1]
      have e : s.data.toList.drop d = (s.data.toList.take p ++ s.data.toList.drop p).drop d := by rw [List.take_append_drop]
      rw [e, List.drop_append_of_le_length (by simp; omega)]
    · rw [inv_cons]
      have hg2 : -c + grow ⟨(p : Int) + c, (p : Int) + c + r.text.size, s.extract p q⟩ = -(c + grow r) := by
        rw [hgr]
        unfold grow
        simp only [hex]
        omega
      rw [hg2, i2]
      congr 1
      refine rep_ext ?_ ?_ ?_
      · show (p : Int) + c + -c = r.lo; omega
      · show (p : Int) + c + -c + ((s.extract p q).size : Int) = r.hi
        rw [hex]
        omega
      · show t.extract ((p : Int) + c).toNat ((p : Int) + c + r.text.size).toNat = r.text
        rw [ehi, elo, Int.toNat_natCast, Int.toNat_natCast, ← htx]
        have := cut_text t D (D + (p - d)) _ _ _ h (by rw [hpl])
        rw [this]
    · intro hDl
      have hlen := congrArg List.length h
      simp only [List.length_append, List.length_drop] at hlen
      refine ⟨?_, ?_, ?_, ?_⟩
      · show (D : Int) ≤ (p : Int) + c; omega
      · show (p : Int) + c ≤ (p : Int) + c + r.text.size; omega
      · show (p : Int) + c + r.text.size ≤ (t.data.toList.length : Int)
        have hpl' : (s.data.toList.take p).length - d = p - d := by simp; omega
        rw [hpl', htx] at hlen
        omega
      · have hpl' : (s.data.toList.take p).length - d = p - d := by simp; omega
        rw [hpl', htx] at hlen
        have := i3 (by omega)
        show val _ _ ((p : Int) + c + r.text.size)
        rw [ehi]
        exact this
    · show grow ⟨(p : Int) + c, (p : Int) + c + r.text.size, s.extract p q⟩ + tot (inv s rs (c + grow r)) = -(grow r + tot rs)
      rw [i4, hgr]
      unfold grow
      simp only [hex]
      omega

theorem inv_short (s : ByteArray) (l : List Rep) (h : s.size ≤ 1000000) : Short (inv s l 0) := by
  have key : ∀ (l : List Rep) (c : Int) (r : Rep), r ∈ inv s l c → r.text.size ≤ 1000000 := by
    intro l
    induction l with
    | nil => intro c r hr; simp [inv] at hr
    | cons x xs ih =>
      intro c r hr
      rw [inv_cons] at hr
      rcases List.mem_cons.1 hr with e | e
      · rw [e]
        show (s.extract x.lo.toNat x.hi.toNat).size ≤ 1000000
        simp [ByteArray.size_extract]
        omega
      · exact ih _ r e
  intro i hi
  exact key l 0 _ (List.getElem_mem hi)
end Go.Proofs.Ytgihfnnffailiaa
