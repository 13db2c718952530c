/- What is proved: plain facts on replacements in lists of bytes (no program is spoken of). -/
set_option linter.unusedVariables false
namespace Go.Proofs.Ytgihfnnffailiaa

/-- a replacement -/
structure Rep where
  lo : Int
  hi : Int
  text : ByteArray

/-- are spans in order within the longest text -/
def ordB : List Rep → Int → Bool
  | [], _ => true
  | r :: rs, last => if r.lo < last ∨ r.hi < r.lo ∨ 16384 < r.hi then false else ordB rs r.hi

theorem ordB_cons (r : Rep) (rs : List Rep) (last : Int) : ordB (r :: rs) last = if r.lo < last ∨ r.hi < r.lo ∨ 16384 < r.hi then false else ordB rs r.hi := rfl

def grow (r : Rep) : Int := r.text.size - (r.hi - r.lo)

/-- the error of replacements of a text of n bytes -/
def chk (n : Int) : List Rep → Int → Int → Int
  | [], _, size => if 16384 < size then 8 else 0
  | r :: rs, last, size => if r.lo < 0 ∨ r.hi < r.lo ∨ n < r.hi then 2 else if r.lo < last then 1 else chk n rs r.hi (size + grow r)

theorem chk_cons (n : Int) (r : Rep) (rs : List Rep) (last size : Int) : chk n (r :: rs) last size = if r.lo < 0 ∨ r.hi < r.lo ∨ n < r.hi then 2 else if r.lo < last then 1 else chk n rs r.hi (size + grow r) := rfl

/-- where an offset moves, behind spans that have changed the length by c -/
def mvTo : List Rep → Int → Int → Int
  | [], at_, c => at_ + c
  | r :: rs, at_, c => if r.lo ≤ at_ ∧ at_ < r.hi then r.lo + c + min (at_ - r.lo) r.text.size else mvTo rs at_ (if r.hi ≤ at_ then c + grow r else c)

def mv (l : List Rep) (at_ : Int) : Int := if at_ < 0 ∨ 16384 < at_ ∨ ordB l 0 = false then -1 else mvTo l at_ 0

theorem drop_one (l : List Rep) (k : Nat) (hk : k < l.length) : l.drop k = l[k] :: l.drop (k + 1) := by
  rw [List.drop_eq_getElem_cons hk]

theorem ordB_step (l : List Rep) (k : Nat) (hk : k < l.length) (last : Int) (h : ¬ l[k].lo < last ∧ ¬ l[k].hi < l[k].lo ∧ ¬ 16384 < l[k].hi) : ordB (l.drop k) last = ordB (l.drop (k + 1)) l[k].hi := by
  rw [drop_one l k hk, ordB_cons, if_neg (by omega)]
theorem ordB_halt (l : List Rep) (k : Nat) (hk : k < l.length) (last : Int) (h : l[k].lo < last ∨ l[k].hi < l[k].lo ∨ 16384 < l[k].hi) : ordB (l.drop k) last = false := by
  rw [drop_one l k hk, ordB_cons, if_pos h]
theorem ordB_end (l : List Rep) (k : Nat) (hk : ¬ k < l.length) (last : Int) : ordB (l.drop k) last = true := by
  rw [List.drop_of_length_le (by omega)]
  rfl

theorem ordB_get (l : List Rep) (k : Nat) (hk : k < l.length) (last : Int) (h : ordB (l.drop k) last = true) : last ≤ l[k].lo ∧ l[k].lo ≤ l[k].hi ∧ l[k].hi ≤ 16384 ∧ ordB (l.drop (k + 1)) l[k].hi = true := by
  rw [drop_one l k hk, ordB_cons] at h
  split at h
  · cases h
  · exact ⟨by omega, by omega, by omega, h⟩

theorem mvTo_cons (r : Rep) (rs : List Rep) (a c : Int) : mvTo (r :: rs) a c = if r.lo ≤ a ∧ a < r.hi then r.lo + c + min (a - r.lo) r.text.size else mvTo rs a (if r.hi ≤ a then c + grow r else c) := rfl
theorem mvTo_hit (l : List Rep) (k : Nat) (hk : k < l.length) (a c : Int) (h1 : l[k].lo ≤ a) (h2 : a < l[k].hi) : mvTo (l.drop k) a c = l[k].lo + c + min (a - l[k].lo) l[k].text.size := by
  rw [drop_one l k hk, mvTo_cons, if_pos ⟨h1, h2⟩]
theorem mvTo_past (l : List Rep) (k : Nat) (hk : k < l.length) (a c : Int) (h1 : ¬ (l[k].lo ≤ a ∧ a < l[k].hi)) (h2 : l[k].hi ≤ a) : mvTo (l.drop k) a c = mvTo (l.drop (k + 1)) a (c + grow l[k]) := by
  rw [drop_one l k hk, mvTo_cons, if_neg h1, if_pos h2]
theorem mvTo_skip (l : List Rep) (k : Nat) (hk : k < l.length) (a c : Int) (h1 : ¬ (l[k].lo ≤ a ∧ a < l[k].hi)) (h2 : ¬ l[k].hi ≤ a) : mvTo (l.drop k) a c = mvTo (l.drop (k + 1)) a c := by
  rw [drop_one l k hk, mvTo_cons, if_neg h1, if_neg h2]
theorem mvTo_end (l : List Rep) (k : Nat) (hk : ¬ k < l.length) (a c : Int) : mvTo (l.drop k) a c = a + c := by
  rw [List.drop_of_length_le (by omega)]
  rfl
theorem mv_no (l : List Rep) (a : Int) (h : a < 0 ∨ 16384 < a ∨ ordB l 0 = false) : mv l a = -1 := if_pos h
theorem mv_yes (l : List Rep) (a : Int) (h1 : 0 ≤ a) (h2 : a ≤ 16384) (h3 : ordB l 0 = true) : mv l a = mvTo l a 0 := if_neg (by rw [h3]; simp; omega)
theorem grow_bd (r : Rep) (h1 : 0 ≤ r.lo) (h2 : r.lo ≤ r.hi) (h3 : r.hi ≤ 16384) (h4 : r.text.size ≤ 1000000) : -16384 ≤ grow r ∧ grow r ≤ 1000000 := by
  unfold grow
  omega

/-- the replacements that undo others, of a text that they have changed by c so far -/
def inv (s : ByteArray) : List Rep → Int → List Rep
  | [], _ => []
  | r :: rs, c => ⟨r.lo + c, r.lo + c + r.text.size, s.extract r.lo.toNat r.hi.toNat⟩ :: inv s rs (c + grow r)
theorem inv_cons (s : ByteArray) (r : Rep) (rs : List Rep) (c : Int) : inv s (r :: rs) c = ⟨r.lo + c, r.lo + c + r.text.size, s.extract r.lo.toNat r.hi.toNat⟩ :: inv s rs (c + grow r) := rfl
theorem inv_step (s : ByteArray) (acc l : List Rep) (k : Nat) (hk : k < l.length) (c : Int) : acc ++ inv s (l.drop k) c = (acc ++ [⟨l[k].lo + c, l[k].lo + c + l[k].text.size, s.extract l[k].lo.toNat l[k].hi.toNat⟩]) ++ inv s (l.drop (k + 1)) (c + grow l[k]) := by
  rw [drop_one l k hk, inv_cons]
  simp
theorem inv_end (s : ByteArray) (acc l : List Rep) (k : Nat) (hk : ¬ k < l.length) (c : Int) : acc ++ inv s (l.drop k) c = acc := by
  rw [List.drop_of_length_le (by omega)]
  simp [inv]
theorem inv_length (s : ByteArray) (l : List Rep) : ∀ c, (inv s l c).length = l.length := by
  induction l with
  | nil => intro c; rfl
  | cons r rs ih => intro c; rw [inv_cons]; simp [ih]

/-- every text is short -/
def Short (l : List Rep) : Prop := ∀ (i : Nat) (h : i < l.length), l[i].text.size ≤ 1000000

theorem chk_range (n : Int) (l : List Rep) (k : Nat) (hk : k < l.length) (last size : Int) (h : l[k].lo < 0 ∨ l[k].hi < l[k].lo ∨ n < l[k].hi) : chk n (l.drop k) last size = 2 := by
  rw [drop_one l k hk, chk_cons, if_pos h]
theorem chk_arg (n : Int) (l : List Rep) (k : Nat) (hk : k < l.length) (last size : Int) (h : ¬ (l[k].lo < 0 ∨ l[k].hi < l[k].lo ∨ n < l[k].hi)) (h2 : l[k].lo < last) : chk n (l.drop k) last size = 1 := by
  rw [drop_one l k hk, chk_cons, if_neg h, if_pos h2]
theorem chk_step (n : Int) (l : List Rep) (k : Nat) (hk : k < l.length) (last size : Int) (h : ¬ (l[k].lo < 0 ∨ l[k].hi < l[k].lo ∨ n < l[k].hi)) (h2 : ¬ l[k].lo < last) : chk n (l.drop k) last size = chk n (l.drop (k + 1)) l[k].hi (size + grow l[k]) := by
  rw [drop_one l k hk, chk_cons, if_neg h, if_neg h2]
theorem chk_end (n : Int) (l : List Rep) (k : Nat) (hk : ¬ k < l.length) (last size : Int) : chk n (l.drop k) last size = if 16384 < size then 8 else 0 := by
  rw [List.drop_of_length_le (by omega)]
  rfl
theorem grow_bd2 (r : Rep) (h1 : 0 ≤ r.lo) (h2 : r.lo ≤ r.hi) (h3 : r.hi ≤ 1000000) (h4 : r.text.size ≤ 1000000) : -1000000 ≤ grow r ∧ grow r ≤ 1000000 := by
  unfold grow
  omega

theorem chk_get (n : Int) (l : List Rep) (k : Nat) (hk : k < l.length) (last size : Int) (h : chk n (l.drop k) last size = 0) : 0 ≤ l[k].lo ∧ last ≤ l[k].lo ∧ l[k].lo ≤ l[k].hi ∧ l[k].hi ≤ n ∧ chk n (l.drop (k + 1)) l[k].hi (size + grow l[k]) = 0 := by
  rw [drop_one l k hk, chk_cons] at h
  split at h
  · omega
  · split at h
    · omega
    · exact ⟨by omega, by omega, by omega, by omega, h⟩

/-- the text behind offset d, with replacements made -/
def app (s : List UInt8) (d : Nat) : List Rep → List UInt8
  | [] => s.drop d
  | r :: rs => (s.take r.lo.toNat).drop d ++ (r.text.data.toList ++ app s r.hi.toNat rs)

theorem app_cons (s : List UInt8) (d : Nat) (r : Rep) (rs : List Rep) : app s d (r :: rs) = (s.take r.lo.toNat).drop d ++ (r.text.data.toList ++ app s r.hi.toNat rs) := rfl
theorem app_step (s acc : List UInt8) (d : Nat) (l : List Rep) (k : Nat) (hk : k < l.length) : acc ++ app s d (l.drop k) = (acc ++ (s.take l[k].lo.toNat).drop d ++ l[k].text.data.toList) ++ app s l[k].hi.toNat (l.drop (k + 1)) := by
  rw [drop_one l k hk, app_cons]
  simp
theorem app_end (s acc : List UInt8) (d : Nat) (l : List Rep) (k : Nat) (hk : ¬ k < l.length) : acc ++ app s d (l.drop k) = acc ++ s.drop d := by
  rw [List.drop_of_length_le (by omega)]
  rfl
end Go.Proofs.Ytgihfnnffailiaa
