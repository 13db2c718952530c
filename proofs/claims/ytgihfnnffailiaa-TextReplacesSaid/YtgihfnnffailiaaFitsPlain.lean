/- What is proved: plain facts: the reference's errors and its way from the back give the same (no program is spoken of). -/
import Derived.Test.YtgihfnnffailiaaUndoPlain
set_option linter.unusedVariables false
namespace Go.Proofs.Ytgihfnnffailiaa

def fits (n : Int) : List Rep → Int → Int
  | [], _ => 0
  | r :: rs, last => if r.lo < 0 ∨ r.hi < r.lo ∨ n < r.hi then 2 else if r.lo < last then 1 else fits n rs r.hi
theorem fits_cons (n : Int) (r : Rep) (rs : List Rep) (last : Int) : fits n (r :: rs) last = if r.lo < 0 ∨ r.hi < r.lo ∨ n < r.hi then 2 else if r.lo < last then 1 else fits n rs r.hi := rfl

theorem fits_range (n : Int) (l : List Rep) (k : Nat) (hk : k < l.length) (last : Int) (h : l[k].lo < 0 ∨ l[k].hi < l[k].lo ∨ n < l[k].hi) : fits n (l.drop k) last = 2 := by
  rw [drop_one l k hk, fits_cons, if_pos h]
theorem fits_arg (n : Int) (l : List Rep) (k : Nat) (hk : k < l.length) (last : Int) (h : ¬ (l[k].lo < 0 ∨ l[k].hi < l[k].lo ∨ n < l[k].hi)) (h2 : l[k].lo < last) : fits n (l.drop k) last = 1 := by
  rw [drop_one l k hk, fits_cons, if_neg h, if_pos h2]
theorem fits_step (n : Int) (l : List Rep) (k : Nat) (hk : k < l.length) (last : Int) (h : ¬ (l[k].lo < 0 ∨ l[k].hi < l[k].lo ∨ n < l[k].hi)) (h2 : ¬ l[k].lo < last) : fits n (l.drop k) last = fits n (l.drop (k + 1)) l[k].hi := by
  rw [drop_one l k hk, fits_cons, if_neg h, if_neg h2]
theorem fits_end (n : Int) (l : List Rep) (k : Nat) (hk : ¬ k < l.length) (last : Int) : fits n (l.drop k) last = 0 := by
  rw [List.drop_of_length_le (by omega)]
  rfl

theorem chk_fits (n : Int) (l : List Rep) : ∀ (d size : Int), chk n l d size = if fits n l d = 0 then (if 16384 < size + tot l then 8 else 0) else fits n l d := by
  induction l with
  | nil => intro d size; simp [chk, fits, tot]
  | cons r rs ih =>
    intro d size
    rw [chk_cons, fits_cons]
    by_cases h : r.lo < 0 ∨ r.hi < r.lo ∨ n < r.hi
    · rw [if_pos h, if_pos h, if_neg (by omega)]
    · rw [if_neg h, if_neg h]
      by_cases h2 : r.lo < d
      · rw [if_pos h2, if_pos h2, if_neg (by omega)]
      · rw [if_neg h2, if_neg h2, ih]
        rw [show size + tot (r :: rs) = size + grow r + tot rs from by simp only [tot]; omega]

theorem val_of_fits (n : Int) (l : List Rep) : ∀ (d : Int), fits n l d = 0 → val n l d := by
  induction l with
  | nil => intro d _; trivial
  | cons r rs ih =>
    intro d h
    rw [fits_cons] at h
    split at h
    · omega
    · split at h
      · omega
      · exact ⟨by omega, by omega, by omega, ih _ h⟩

/-- replacements made from the back -/
def rapp (s : List UInt8) : List Rep → List UInt8
  | [] => s
  | r :: rs => (rapp s rs).take r.lo.toNat ++ (r.text.data.toList ++ (rapp s rs).drop r.hi.toNat)

theorem rapp_app (s : List UInt8) (l : List Rep) : ∀ (d : Nat), val s.length l d → d ≤ s.length → rapp s l = s.take d ++ app s d l := by
  induction l with
  | nil => intro d _ _; show s = s.take d ++ s.drop d; rw [List.take_append_drop]
  | cons r rs ih =>
    intro d h hd
    obtain ⟨h1, h2, h3, h4⟩ := h
    obtain ⟨p, hp⟩ := Int.eq_ofNat_of_zero_le (show 0 ≤ r.lo by omega)
    obtain ⟨q, hq⟩ := Int.eq_ofNat_of_zero_le (show 0 ≤ r.hi by omega)
    have e := ih q (by rw [hq] at h4; exact h4) (by omega)
    show (rapp s rs).take r.lo.toNat ++ (r.text.data.toList ++ (rapp s rs).drop r.hi.toNat) = _
    rw [app_cons, hp, hq, Int.toNat_natCast, Int.toNat_natCast, e]
    rw [List.take_append_of_le_length (by simp; omega), List.take_take, Nat.min_eq_left (by omega)]
    rw [List.drop_append_of_le_length (by simp; omega), List.drop_of_length_le (by simp; omega), List.nil_append]
    rw [← List.append_assoc (s.take d)]
    congr 1
    have e2 : s.take p = (s.take p).take d ++ (s.take p).drop d := (List.take_append_drop d _).symm
    rw [List.take_take, Nat.min_eq_left (by omega)] at e2
    exact e2

theorem rapp_drop (s : List UInt8) (l : List Rep) (k : Nat) (hk : k < l.length) : rapp s (l.drop k) = (rapp s (l.drop (k + 1))).take l[k].lo.toNat ++ (l[k].text.data.toList ++ (rapp s (l.drop (k + 1))).drop l[k].hi.toNat) := by
  rw [drop_one l k hk]
  rfl

theorem val_drop (n : Int) (l : List Rep) : ∀ (d : Int) (k : Nat) (hk : k < l.length), 0 ≤ d → val n l d → 0 ≤ l[k].lo ∧ l[k].lo ≤ l[k].hi ∧ l[k].hi ≤ n ∧ val n (l.drop (k + 1)) l[k].hi := by
  induction l with
  | nil => intro d k hk; simp at hk
  | cons r rs ih =>
    intro d k hk hd h
    obtain ⟨h1, h2, h3, h4⟩ := h
    cases k with
    | zero => exact ⟨by simp; omega, by simpa using h2, by simpa using h3, by simpa using h4⟩
    | succ k => simpa using ih r.hi k (by simpa using hk) (by omega) h4

theorem rapp_bd (s : List UInt8) (l : List Rep) (k : Nat) (hk : k < l.length) (hv : val s.length l 0) : l[k].hi ≤ (rapp s (l.drop (k + 1))).length := by
  obtain ⟨h1, h2, h3, h4⟩ := val_drop _ l 0 k hk (Int.le_refl _) hv
  obtain ⟨q, hq⟩ := Int.eq_ofNat_of_zero_le (show 0 ≤ l[k].hi by omega)
  rw [hq] at h4 h3 ⊢
  rw [rapp_app s _ q h4 (by omega)]
  simp
  omega

theorem tot_le (n : Int) (m : Nat) (l : List Rep) : ∀ (d : Int), val n l d → (∀ r, r ∈ l → r.text.size ≤ m) → tot l ≤ m * l.length := by
  induction l with
  | nil => intro d _ _; simp [tot]
  | cons r rs ih =>
    intro d h hm
    obtain ⟨h1, h2, h3, h4⟩ := h
    have i := ih _ h4 (fun x hx => hm x (List.mem_cons_of_mem _ hx))
    have h0 := hm r (List.mem_cons_self ..)
    have e : ((m : Int) * ((r :: rs).length : Int)) = m * rs.length + m := by
      rw [List.length_cons]
      have : ((rs.length + 1 : Nat) : Int) = (rs.length : Int) + 1 := by omega
      rw [this, Int.mul_add, Int.mul_one]
    simp only [tot]
    rw [e]
    unfold grow
    omega

theorem rapp_len (s : List UInt8) (m : Nat) (l : List Rep) (d : Nat) (h : val s.length l d) (hd : d ≤ s.length) (hm : ∀ r, r ∈ l → r.text.size ≤ m) : ((rapp s l).length : Int) ≤ s.length + m * l.length := by
  have a := app_length s l d h hd
  have b := tot_le _ m l _ h hm
  rw [rapp_app s l d h hd]
  simp only [List.length_append, List.length_take]
  omega
end Go.Proofs.Ytgihfnnffailiaa
