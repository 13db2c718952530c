/- What is proved: plain facts: where offsets outside of all spans move (no program is spoken of). -/
import Derived.Test.YtgihfnnffailiaaRepPlain
set_option linter.unusedVariables false
namespace Go.Proofs.Ytgihfnnffailiaa

/-- spans in order from d on, within n bytes -/
def val (n : Int) : List Rep → Int → Prop
  | [], _ => True
  | r :: rs, d => d ≤ r.lo ∧ r.lo ≤ r.hi ∧ r.hi ≤ n ∧ val n rs r.hi

theorem val_of_chk (n : Int) (l : List Rep) : ∀ (d size : Int), chk n l d size = 0 → val n l d := by
  induction l with
  | nil => intro d size _; trivial
  | cons r rs ih =>
    intro d size h
    rw [chk_cons] at h
    split at h
    · omega
    · split at h
      · omega
      · exact ⟨by omega, by omega, by omega, ih _ _ h⟩

theorem ord_of_val (n : Int) (hn : n ≤ 16384) (l : List Rep) : ∀ d, val n l d → ordB l d = true := by
  induction l with
  | nil => intro d _; rfl
  | cons r rs ih =>
    intro d h
    obtain ⟨h1, h2, h3, h4⟩ := h
    rw [ordB_cons, if_neg (by omega)]
    exact ih _ h4

/-- is an offset inside of a span -/
def inB (l : List Rep) (i : Int) : Bool := l.any fun r => decide (r.lo ≤ i ∧ i < r.hi)
theorem inB_cons (r : Rep) (rs : List Rep) (i : Int) (h : inB (r :: rs) i = false) : ¬ (r.lo ≤ i ∧ i < r.hi) ∧ inB rs i = false := by
  unfold inB at h ⊢
  simp only [List.any_cons, Bool.or_eq_false_iff, decide_eq_false_iff_not] at h
  exact h
theorem inB_take (l : List Rep) (k : Nat) (hk : k < l.length) (i : Int) : inB (l.take (k + 1)) i = (inB (l.take k) i || decide (l[k].lo ≤ i ∧ i < l[k].hi)) := by
  unfold inB
  rw [List.take_succ_eq_append_getElem hk, List.any_append]
  simp

theorem mvTo_before (n : Int) (l : List Rep) : ∀ (d i c : Int), val n l d → i < d → mvTo l i c = i + c := by
  induction l with
  | nil => intro d i c _ _; rfl
  | cons r rs ih =>
    intro d i c h hi
    obtain ⟨h1, h2, h3, h4⟩ := h
    rw [mvTo_cons, if_neg (by omega), if_neg (by omega)]
    exact ih _ _ _ h4 (by omega)

theorem mvTo_low (n : Int) (l : List Rep) : ∀ (d i c : Int), val n l d → d ≤ i → inB l i = false → d + c ≤ mvTo l i c := by
  induction l with
  | nil => intro d i c _ hi _; show d + c ≤ i + c; omega
  | cons r rs ih =>
    intro d i c h hi ho
    obtain ⟨h1, h2, h3, h4⟩ := h
    obtain ⟨o1, o2⟩ := inB_cons r rs i ho
    rw [mvTo_cons, if_neg o1]
    by_cases g : r.hi ≤ i
    · rw [if_pos g]
      have h5 := ih r.hi i (c + grow r) h4 g o2
      unfold grow at h5
      unfold grow
      omega
    · rw [if_neg g, mvTo_before n rs _ _ _ h4 (by omega)]
      omega

theorem mvTo_mono (n : Int) (l : List Rep) : ∀ (d i j c : Int), val n l d → d ≤ i → i < j → inB l i = false → inB l j = false → mvTo l i c < mvTo l j c := by
  induction l with
  | nil => intro d i j c _ _ hij _ _; show i + c < j + c; omega
  | cons r rs ih =>
    intro d i j c h hi hij ho hp
    obtain ⟨h1, h2, h3, h4⟩ := h
    obtain ⟨o1, o2⟩ := inB_cons r rs i ho
    obtain ⟨p1, p2⟩ := inB_cons r rs j hp
    rw [mvTo_cons, if_neg o1, mvTo_cons, if_neg p1]
    by_cases g : r.hi ≤ i
    · rw [if_pos g, if_pos (by omega)]
      exact ih r.hi i j _ h4 g hij o2 p2
    · rw [if_neg g, mvTo_before n rs _ _ _ h4 (by omega)]
      by_cases g2 : r.hi ≤ j
      · rw [if_pos g2]
        have h5 := mvTo_low n rs r.hi j (c + grow r) h4 g2 p2
        unfold grow at h5
        unfold grow
        omega
      · rw [if_neg g2, mvTo_before n rs _ _ _ h4 (by omega)]
        omega

theorem mvTo_end' (s : List UInt8) (l : List Rep) : ∀ (d : Nat) (c : Int), val s.length l d → d ≤ s.length → mvTo l s.length c - (d + c) = (app s d l).length := by
  induction l with
  | nil => intro d c _ hd; show (s.length : Int) + c - (d + c) = ((s.drop d).length : Int); rw [List.length_drop]; omega
  | cons r rs ih =>
    intro d c h hd
    obtain ⟨h1, h2, h3, h4⟩ := h
    obtain ⟨p, hp⟩ := Int.eq_ofNat_of_zero_le (show 0 ≤ r.lo by omega)
    obtain ⟨q, hq⟩ := Int.eq_ofNat_of_zero_le (show 0 ≤ r.hi by omega)
    have h5 := ih q (c + grow r) (by rw [hq] at h4; exact h4) (by omega)
    rw [mvTo_cons, if_neg (by omega), if_pos h3, app_cons, hp, hq]
    simp only [List.length_append, List.length_drop, List.length_take, Int.toNat_natCast]
    have e : r.text.data.toList.length = r.text.size := by simp
    rw [e]
    unfold grow at h5 ⊢
    rw [hp, hq] at h5 ⊢
    omega

theorem mvTo_get (s : List UInt8) (l : List Rep) : ∀ (d i : Nat) (c : Int), val s.length l d → d ≤ i → i < s.length → inB l i = false → (app s d l)[(mvTo l i c - (d + c)).toNat]? = s[i]? := by
  induction l with
  | nil =>
    intro d i c _ hi hn _
    show (s.drop d)[((i : Int) + c - (d + c)).toNat]? = s[i]?
    rw [List.getElem?_drop]
    congr 1
    omega
  | cons r rs ih =>
    intro d i c h hi hn ho
    obtain ⟨h1, h2, h3, h4⟩ := h
    obtain ⟨o1, o2⟩ := inB_cons r rs i ho
    obtain ⟨p, hp⟩ := Int.eq_ofNat_of_zero_le (show 0 ≤ r.lo by omega)
    obtain ⟨q, hq⟩ := Int.eq_ofNat_of_zero_le (show 0 ≤ r.hi by omega)
    have e : r.text.data.toList.length = r.text.size := by simp
    have hpre : ((s.take p).drop d).length = p - d := by simp; omega
    rw [mvTo_cons, if_neg o1, app_cons, hp, hq, Int.toNat_natCast, Int.toNat_natCast]
    rw [hp] at h1 h2 o1
    rw [hq] at h2 h3 o1 h4
    by_cases g : (q : Int) ≤ i
    · rw [if_pos g]
      have h5 := ih q i (c + grow r) h4 (by omega) hn o2
      have h6 := mvTo_low s.length rs q i (c + grow r) h4 g o2
      have eg : grow r = r.text.size - ((q : Int) - p) := by unfold grow; rw [hp, hq]
      rw [List.getElem?_append_right (by rw [hpre]; omega), List.getElem?_append_right (by rw [hpre, e]; omega), hpre, e, ← h5]
      congr 1
      omega
    · rw [if_neg g, mvTo_before s.length rs q i c h4 (by omega)]
      rw [List.getElem?_append_left (by rw [hpre]; omega), List.getElem?_drop, List.getElem?_take_of_lt (by omega)]
      congr 1
      omega

theorem inB_yes (l : List Rep) (k : Nat) (hk : k < l.length) (i : Int) (h : inB (l.take k) i = true) : inB (l.take (k + 1)) i = true := by rw [inB_take l k hk, h]; rfl
theorem inB_hit (l : List Rep) (k : Nat) (hk : k < l.length) (i : Int) (h : l[k].lo ≤ i ∧ i < l[k].hi) : inB (l.take (k + 1)) i = true := by rw [inB_take l k hk]; simp [h]
theorem inB_miss (l : List Rep) (k : Nat) (hk : k < l.length) (i : Int) (h : inB (l.take k) i = false) (h2 : ¬ (l[k].lo ≤ i ∧ i < l[k].hi)) : inB (l.take (k + 1)) i = false := by rw [inB_take l k hk, h]; simp [h2]
theorem inB_all (l : List Rep) (k : Nat) (hk : ¬ k < l.length) (i : Int) : inB (l.take k) i = inB l i := by rw [List.take_of_length_le (by omega)]

theorem mv_facts (s : List UInt8) (l : List Rep) (hn : s.length ≤ 300) (hc : chk s.length l 0 s.length = 0) :
    mv l s.length = (app s 0 l).length ∧
    (∀ i : Nat, i < s.length → inB l i = false → ∃ k : Nat, mv l i = k ∧ k < (app s 0 l).length ∧ (app s 0 l)[k]? = s[i]?) ∧
    (∀ i j : Nat, i < j → j < s.length → inB l i = false → inB l j = false → mv l i < mv l j) := by
  have hv := val_of_chk _ _ _ _ hc
  have ho := ord_of_val _ (by omega) _ _ hv
  refine ⟨?_, fun i hi hin => ?_, fun i j hij hj h1 h2 => ?_⟩
  · rw [mv_yes _ _ (by omega) (by omega) ho]
    have := mvTo_end' s l 0 0 hv (by omega)
    omega
  · have h1 := mvTo_low _ _ _ i 0 hv (by omega) hin
    have h2 := mvTo_get s l 0 i 0 hv (by omega) hi hin
    rw [mv_yes _ _ (by omega) (by omega) ho]
    obtain ⟨k, hk⟩ := Int.eq_ofNat_of_zero_le (show 0 ≤ mvTo l i 0 by omega)
    rw [hk] at h2 ⊢
    have e : ((k : Int) - (((0 : Nat) : Int) + 0)).toNat = k := by omega
    rw [e] at h2
    refine ⟨k, rfl, ?_, h2⟩
    rcases Nat.lt_or_ge k (app s 0 l).length with h' | h'
    · exact h'
    · rw [List.getElem?_eq_none h', List.getElem?_eq_getElem hi] at h2
      cases h2
  · rw [mv_yes _ _ (by omega) (by omega) ho, mv_yes _ _ (by omega) (by omega) ho]
    exact mvTo_mono _ _ _ _ _ _ hv (by omega) (by omega) h1 h2
end Go.Proofs.Ytgihfnnffailiaa
