/- What is proved: which nodes of a circuit lead to literals, and what the cone of literals is, as plain mathematics; it speaks of no program. -/
import Derived.Test.YtbcabnbgkicfdaaGaP
set_option linter.unusedVariables false
namespace Go.Proofs.Ytbcabnbgkicfdaa
open Go.RowKit

def setM (f : Nat → Bool) (x : Nat) : Nat → Bool := fun v => if v = x then true else f v
theorem setM_at (f : Nat → Bool) (x : Nat) : setM f x x = true := by simp [setM]
theorem setM_up {f : Nat → Bool} {x n : Nat} (h : f n = true) : setM f x n = true := by unfold setM; split <;> simp [h]
theorem setM_ne {f : Nat → Bool} {x n : Nat} (h : n ≠ x) : setM f x n = f n := by simp [setM, h]
/-- which nodes the literals are of -/
def ld0 (ls : List Int) : Nat → Bool := fun n => ls.any (fun x => decide ((x / 2).toNat = n))
theorem ld0_nil : ld0 [] = fun _ => false := rfl
theorem ld0_snoc (ls : List Int) (x : Int) : ld0 (ls ++ [x]) = setM (ld0 ls) (x / 2).toNat := by
  funext n
  unfold ld0 setM
  rw [List.any_append]
  by_cases e : n = (x / 2).toNat
  · rw [if_pos e]
    simp [e]
  · rw [if_neg e]
    have e2 : ¬ (x / 2).toNat = n := fun h => e h.symm
    simp [e2]
theorem ld0_take (ls : List Int) {k : Nat} (hk : k < ls.length) : ld0 (ls.take (k + 1)) = setM (ld0 (ls.take k)) (ls[k] / 2).toNat := by
  rw [List.take_succ_eq_append_getElem hk, ld0_snoc]
/-- the last gates have been looked at, k of them -/
def ldS (b : Nat) (gs : List Gt) (f : Nat → Bool) : Nat → Nat → Bool
  | 0 => f
  | k + 1 => match gs[gs.length - 1 - k]? with
    | none => ldS b gs f k
    | some g => if ldS b gs f k (b + (gs.length - 1 - k)) = true then setM (setM (ldS b gs f k) (g.x / 2).toNat) (g.y / 2).toNat else ldS b gs f k
def ldF (b : Nat) (gs : List Gt) (ls : List Int) : Nat → Bool := ldS b gs (ld0 ls) gs.length
theorem ldS_yes {b : Nat} {gs : List Gt} {f : Nat → Bool} {k i : Nat} (hi : i < gs.length) (he : gs.length - 1 - k = i) (h : ldS b gs f k (b + i) = true) : ldS b gs f (k + 1) = setM (setM (ldS b gs f k) (gs[i].x / 2).toNat) (gs[i].y / 2).toNat := by
  subst he
  simp only [ldS, List.getElem?_eq_getElem hi, h, if_true]
theorem ldS_no {b : Nat} {gs : List Gt} {f : Nat → Bool} {k i : Nat} (hi : i < gs.length) (he : gs.length - 1 - k = i) (h : ldS b gs f k (b + i) = false) : ldS b gs f (k + 1) = ldS b gs f k := by
  subst he
  simp only [ldS, List.getElem?_eq_getElem hi, h]
  rfl
theorem ldS_up {b : Nat} {gs : List Gt} {f : Nat → Bool} {n : Nat} : ∀ {j k : Nat}, k ≤ j → ldS b gs f k n = true → ldS b gs f j n = true := by
  intro j
  induction j with
  | zero => intro k hk h; rw [show k = 0 by omega] at h; exact h
  | succ j ih =>
    intro k hk h
    by_cases e : k = j + 1
    · rw [← e]; exact h
    · have h1 := ih (by omega) h
      simp only [ldS]
      cases gs[gs.length - 1 - j]? with
      | none => exact h1
      | some g =>
        simp only
        split
        · exact setM_up (setM_up h1)
        · exact h1
section
variable {I : Int} {b : Nat} {gs : List Gt}
theorem ldS_stay (h : CkOk I gs) (hb : (b : Int) = 1 + I) {f : Nat → Bool} {n : Nat} {k : Nat} (hn : b + (gs.length - 1 - k) ≤ n) : ∀ j, k ≤ j → j ≤ gs.length → ldS b gs f j n = ldS b gs f k n := by
  intro j
  induction j with
  | zero => intro hk _; rw [show k = 0 by omega]
  | succ j ih =>
    intro hk hj
    by_cases e : k = j + 1
    · rw [e]
    · rw [← ih (by omega) (by omega)]
      have hi : gs.length - 1 - j < gs.length := by omega
      have ho := h.ok _ hi
      cases hv : ldS b gs f j (b + (gs.length - 1 - j)) with
      | false => rw [ldS_no hi rfl hv]
      | true => rw [ldS_yes hi rfl hv, setM_ne (by omega), setM_ne (by omega)]
/-- what leads, leads further down -/
theorem ldF_down (h : CkOk I gs) (hb : (b : Int) = 1 + I) (ls : List Int) (i : Nat) (hi : i < gs.length) (hf : ldF b gs ls (b + i) = true) : ldF b gs ls (gs[i].x / 2).toNat = true ∧ ldF b gs ls (gs[i].y / 2).toNat = true := by
  have e : gs.length - 1 - (gs.length - 1 - i) = i := by omega
  have h1 : ldS b gs (ld0 ls) (gs.length - 1 - i) (b + i) = true := by
    rw [← ldS_stay h hb (k := gs.length - 1 - i) (by omega) gs.length (by omega) (Nat.le_refl _)]
    exact hf
  have h2 := ldS_yes hi e h1
  unfold ldF
  refine ⟨ldS_up (k := gs.length - 1 - i + 1) (by omega) ?_, ldS_up (k := gs.length - 1 - i + 1) (by omega) ?_⟩
  · rw [h2]; exact setM_up (setM_at _ _)
  · rw [h2]; exact setM_at _ _
theorem ldF_lit (ls : List Int) {x : Int} (hx : x ∈ ls) : ldF b gs ls (x / 2).toNat = true := by
  unfold ldF
  refine ldS_up (Nat.zero_le _) ?_
  simp only [ldS, ld0, List.any_eq_true, decide_eq_true_eq]
  exact ⟨x, hx, rfl⟩
theorem ldF_ind (ls : List Int) {R : Nat → Prop} (h0 : ∀ x ∈ ls, R (x / 2).toNat) (h1 : ∀ (i : Nat) (hi : i < gs.length), R (b + i) → R (gs[i].x / 2).toNat ∧ R (gs[i].y / 2).toNat) {n : Nat} (hn : ldF b gs ls n = true) : R n := by
  have key : ∀ k, k ≤ gs.length → ∀ n, ldS b gs (ld0 ls) k n = true → R n := by
    intro k
    induction k with
    | zero =>
      intro _ n hn
      simp only [ldS, ld0, List.any_eq_true, decide_eq_true_eq] at hn
      obtain ⟨x, hx, rfl⟩ := hn
      exact h0 x hx
    | succ k ih =>
      intro hk n hn
      have hi : gs.length - 1 - k < gs.length := by omega
      cases hv : ldS b gs (ld0 ls) k (b + (gs.length - 1 - k)) with
      | false => rw [ldS_no hi rfl hv] at hn; exact ih (by omega) n hn
      | true =>
        rw [ldS_yes hi rfl hv] at hn
        have hr := h1 _ hi (ih (by omega) _ hv)
        unfold setM at hn
        split at hn
        · rename_i e; rw [e]; exact hr.2
        · split at hn
          · rename_i e; rw [e]; exact hr.1
          · exact ih (by omega) n hn
  exact key _ (Nat.le_refl _) n hn

/-- the gates that lead, counted; the number of a node in the cone; a literal there -/
def cntM (f : Nat → Bool) (b : Nat) : Nat → Nat
  | 0 => 0
  | k + 1 => cntM f b k + (if f (b + k) = true then 1 else 0)
def num (f : Nat → Bool) (b n : Nat) : Nat := if n < b then n else b + cntM f b (n - b)
def mvL (f : Nat → Bool) (b : Nat) (x : Int) : Int := 2 * (num f b (x / 2).toNat : Int) + x % 2
def cnG (f : Nat → Bool) (b : Nat) (gs : List Gt) : Nat → List Gt
  | 0 => []
  | k + 1 => if f (b + k) = true then (match gs[k]? with | some g => cnG f b gs k ++ [⟨mvL f b g.x, mvL f b g.y⟩] | none => cnG f b gs k) else cnG f b gs k
theorem cnG_yes {f : Nat → Bool} {k : Nat} (hk : k < gs.length) (h : f (b + k) = true) : cnG f b gs (k + 1) = cnG f b gs k ++ [⟨mvL f b gs[k].x, mvL f b gs[k].y⟩] := by
  simp only [cnG, h, if_true, List.getElem?_eq_getElem hk]
theorem cnG_no {f : Nat → Bool} {k : Nat} (h : f (b + k) = false) : cnG f b gs (k + 1) = cnG f b gs k := by
  simp [cnG, h]
theorem cnG_len {f : Nat → Bool} : ∀ k, k ≤ gs.length → (cnG f b gs k).length = cntM f b k := by
  intro k
  induction k with
  | zero => intro _; rfl
  | succ k ih =>
    intro hk
    cases hv : f (b + k) with
    | true => rw [cnG_yes (by omega) hv]; simp [cntM, hv, ih (by omega)]
    | false => rw [cnG_no hv, ih (by omega)]; simp [cntM, hv]
theorem cntM_le (f : Nat → Bool) (b : Nat) : ∀ k, cntM f b k ≤ k := by
  intro k
  induction k with
  | zero => exact Nat.le_refl _
  | succ k ih => simp only [cntM]; split <;> omega
theorem cntM_mono (f : Nat → Bool) (b : Nat) : ∀ {k j : Nat}, k ≤ j → cntM f b k ≤ cntM f b j := by
  intro k j
  induction j with
  | zero => intro h; rw [show k = 0 by omega]; exact Nat.le_refl _
  | succ j ih =>
    intro h
    by_cases e : k = j + 1
    · rw [e]; exact Nat.le_refl _
    · have := ih (by omega)
      simp only [cntM]
      omega
theorem cntM_lt {f : Nat → Bool} {b k j : Nat} (h : k < j) (hf : f (b + k) = true) : cntM f b k < cntM f b j := by
  have := cntM_mono f b (show k + 1 ≤ j from h)
  simp only [cntM, hf, if_true] at this
  omega
theorem num_low {f : Nat → Bool} {n : Nat} (h : n < b) : num f b n = n := by simp [num, h]
theorem num_high (f : Nat → Bool) (b i : Nat) : num f b (b + i) = b + cntM f b i := by
  unfold num
  rw [if_neg (by omega), show b + i - b = i by omega]
theorem num_lt {f : Nat → Bool} {n m : Nat} (h : n < m) (hn : n < b ∨ f n = true) : num f b n < num f b m := by
  by_cases h1 : n < b
  · rw [num_low h1]
    by_cases h2 : m < b
    · rw [num_low h2]; exact h
    · obtain ⟨i, rfl⟩ : ∃ i, m = b + i := ⟨m - b, by omega⟩
      rw [num_high]
      omega
  · have hf : f n = true := by rcases hn with h | h; omega; exact h
    obtain ⟨i, rfl⟩ : ∃ i, n = b + i := ⟨n - b, by omega⟩
    obtain ⟨j, rfl⟩ : ∃ j, m = b + j := ⟨m - b, by omega⟩
    rw [num_high, num_high]
    have := cntM_lt (b := b) (show i < j by omega) hf
    omega
theorem num_inj {f : Nat → Bool} {n m : Nat} (hn : n < b ∨ f n = true) (hm : m < b ∨ f m = true) (h : num f b n = num f b m) : n = m := by
  rcases Nat.lt_trichotomy n m with h1 | h1 | h1
  · have := num_lt h1 hn; omega
  · exact h1
  · have := num_lt h1 hm; omega
theorem num_le (f : Nat → Bool) (b n : Nat) : num f b n ≤ n := by
  unfold num
  split
  · exact Nat.le_refl _
  · have := cntM_le f b (n - b); omega
theorem num_pos {f : Nat → Bool} {n : Nat} (hb : 0 < b) (h : 0 < n) : 0 < num f b n := by
  unfold num
  split <;> omega
theorem mvL_div (f : Nat → Bool) (b : Nat) (x : Int) : (mvL f b x / 2).toNat = num f b (x / 2).toNat ∧ mvL f b x % 2 = x % 2 ∧ 0 ≤ mvL f b x := by
  unfold mvL
  omega
/-- the gates of the cone, by their old numbers -/
theorem cnG_get {f : Nat → Bool} : ∀ k, k ≤ gs.length → ∀ (i : Nat) (hi : i < k) (hl : i < gs.length), f (b + i) = true → (cnG f b gs k)[cntM f b i]? = some ⟨mvL f b gs[i].x, mvL f b gs[i].y⟩ := by
  intro k
  induction k with
  | zero => intro _ i hi; omega
  | succ k ih =>
    intro hk i hi hl hf
    have hlen := cnG_len (f := f) (b := b) (gs := gs) k (by omega)
    by_cases e : i = k
    · subst e
      rw [cnG_yes hl hf, List.getElem?_append_right (by omega), hlen]
      simp
    · have h1 := ih (by omega) i (by omega) hl hf
      have h2 : cntM f b i < (cnG f b gs k).length := (List.getElem?_eq_some_iff.1 h1).1
      cases hv : f (b + k) with
      | true => rw [cnG_yes (by omega) hv, List.getElem?_append_left h2]; exact h1
      | false => rw [cnG_no hv]; exact h1
theorem cnG_from {f : Nat → Bool} : ∀ k, k ≤ gs.length → ∀ j, j < (cnG f b gs k).length → ∃ i, i < k ∧ f (b + i) = true ∧ cntM f b i = j := by
  intro k
  induction k with
  | zero => intro _ j hj; simp [cnG] at hj
  | succ k ih =>
    intro hk j hj
    have hlen := cnG_len (f := f) (b := b) (gs := gs) k (by omega)
    cases hv : f (b + k) with
    | true =>
      rw [cnG_yes (by omega) hv] at hj
      by_cases e : j < (cnG f b gs k).length
      · obtain ⟨i, h1, h2, h3⟩ := ih (by omega) j e
        exact ⟨i, by omega, h2, h3⟩
      · exact ⟨k, by omega, hv, by simp at hj; omega⟩
    | false =>
      rw [cnG_no hv] at hj
      obtain ⟨i, h1, h2, h3⟩ := ih (by omega) j hj
      exact ⟨i, by omega, h2, h3⟩
/-- the cone's gates -/
def cnA (f : Nat → Bool) (b : Nat) (gs : List Gt) : List Gt := cnG f b gs gs.length
/-- the nodes that lead are closed downwards -/
def Dn (b : Nat) (gs : List Gt) (f : Nat → Bool) : Prop := ∀ (i : Nat) (hi : i < gs.length), f (b + i) = true → f (gs[i].x / 2).toNat = true ∧ f (gs[i].y / 2).toNat = true
theorem cn_at {f : Nat → Bool} {j : Nat} (hj : j < (cnA f b gs).length) : ∃ (i : Nat) (hi : i < gs.length), f (b + i) = true ∧ cntM f b i = j ∧ (cnA f b gs)[j] = ⟨mvL f b gs[i].x, mvL f b gs[i].y⟩ := by
  obtain ⟨i, h1, h2, h3⟩ := cnG_from gs.length (Nat.le_refl _) j hj
  refine ⟨i, h1, h2, h3, ?_⟩
  have := cnG_get gs.length (Nat.le_refl _) i h1 h1 h2
  rw [h3] at this
  obtain ⟨_, h5⟩ := List.getElem?_eq_some_iff.1 this
  exact h5
theorem lit_ne {x y : Int} (h : x < y) (hn : y ≠ notP x) (h0 : 0 ≤ x) : (x / 2).toNat < (y / 2).toNat := by
  have h1 := notP_even (x := x)
  omega
theorem cn_ok (h : CkOk I gs) (hb : (b : Int) = 1 + I) {f : Nat → Bool} (hd : Dn b gs f) : CkOk I (cnA f b gs) := by
  have hlo := h.lo
  refine ⟨h.lo, h.hi, ?_, fun j hj => ?_⟩
  · refine List.pairwise_iff_getElem.2 fun j1 j2 h1 h2 hlt e => ?_
    obtain ⟨i1, g1, f1, c1, e1⟩ := cn_at h1
    obtain ⟨i2, g2, f2, c2, e2⟩ := cn_at h2
    rw [e1, e2] at e
    simp only [Gt.mk.injEq] at e
    have d1 := hd i1 g1 f1
    have d2 := hd i2 g2 f2
    have o1 := h.ok i1 g1
    have o2 := h.ok i2 g2
    have q : ∀ x y : Int, 0 ≤ x → 0 ≤ y → f (x / 2).toNat = true → f (y / 2).toNat = true → mvL f b x = mvL f b y → x = y := by
      intro x y hx hy fx fy he
      have a := mvL_div f b x
      have c := mvL_div f b y
      rw [he] at a
      have := num_inj (b := b) (f := f) (.inr fx) (.inr fy) (by rw [← a.1, ← c.1])
      omega
    have ex := q _ _ (by omega) (by omega) d1.1 d2.1 e.1
    have ey := q _ _ (by omega) (by omega) d1.2 d2.2 e.2
    have hne : i1 ≠ i2 := fun e => by subst e; omega
    have eg : gs[i1] = gs[i2] := Gt.ext' ex ey
    rcases Nat.lt_or_gt_of_ne hne with hl | hl
    · exact List.pairwise_iff_getElem.1 h.nd i1 i2 g1 g2 hl eg
    · exact List.pairwise_iff_getElem.1 h.nd i2 i1 g2 g1 hl eg.symm
  · obtain ⟨i, g, hf, c, e⟩ := cn_at hj
    rw [e]
    have d := hd i g hf
    have o := h.ok i g
    have hxy := lit_ne o.2.1 o.2.2.2 (by omega)
    have l1 := num_lt (b := b) hxy (.inr d.1)
    have l2 := num_lt (b := b) (f := f) (show (gs[i].y / 2).toNat < b + i by omega) (.inr d.2)
    have l3 := num_pos (f := f) (b := b) (n := (gs[i].x / 2).toNat) (by omega) (by omega)
    rw [num_high, c] at l2
    have a1 := mvL_div f b gs[i].x
    have a2 := mvL_div f b gs[i].y
    simp only
    have n1 := notP_div (mvL f b gs[i].x)
    refine ⟨by omega, by omega, by omega, fun hq => ?_⟩
    rw [← hq] at n1
    omega
/-- the values are the same -/
theorem cn_val (h : CkOk I gs) (hb : (b : Int) = 1 + I) {f : Nat → Bool} (hd : Dn b gs f) {inp : List Bool} (hI : (inp.length : Int) = I) : ∀ n, n < b + gs.length → (n < b ∨ f n = true) → (nv inp (cnA f b gs))[num f b n]? = (nv inp gs)[n]? := by
  have hc := cn_ok h hb hd
  intro n
  induction n using Nat.strongRecOn with
  | ind n ih =>
    intro hn hf
    by_cases h1 : n < b
    · rw [num_low h1]
      obtain ⟨t1, e1⟩ := nv_pre inp [] gs
      obtain ⟨t2, e2⟩ := nv_pre inp [] (cnA f b gs)
      simp only [List.nil_append] at e1 e2
      have hl : n < (nv inp []).length := by rw [nv_len]; simp; omega
      rw [e1, e2, List.getElem?_append_left hl, List.getElem?_append_left hl]
    · obtain ⟨i, rfl⟩ : ∃ i, n = b + i := ⟨n - b, by omega⟩
      have hfi : f (b + i) = true := by rcases hf with hf | hf; omega; exact hf
      have hi : i < gs.length := by omega
      have d := hd i hi hfi
      have o := h.ok i hi
      have hg := cnG_get gs.length (Nat.le_refl _) i hi hi hfi
      obtain ⟨hj, hg2⟩ := List.getElem?_eq_some_iff.1 hg
      rw [num_high, show b + cntM f b i = 1 + inp.length + cntM f b i by omega, show b + i = 1 + inp.length + i by omega, nv_gate hI hc _ hj, nv_gate hI h i hi]
      have hg3 : (cnA f b gs)[cntM f b i] = ⟨mvL f b gs[i].x, mvL f b gs[i].y⟩ := hg2
      rw [hg3]
      have q : ∀ x : Int, 0 ≤ x → (x / 2).toNat < b + i → f (x / 2).toNat = true → litV (nv inp (cnA f b gs)) (mvL f b x) = litV (nv inp gs) x := by
        intro x hx hl hfx
        have a := mvL_div f b x
        unfold litV
        rw [a.1, a.2.1, ih _ hl (by omega) (.inr hfx)]
      rw [q _ (by omega) (by omega) d.1, q _ (by omega) (by omega) d.2]
theorem cn_lit (h : CkOk I gs) (hb : (b : Int) = 1 + I) {f : Nat → Bool} (hd : Dn b gs f) {inp : List Bool} (hI : (inp.length : Int) = I) {x : Int} (hx : isLit I gs x) (hf : f (x / 2).toNat = true) : litV (nv inp (cnA f b gs)) (mvL f b x) = litV (nv inp gs) x := by
  have a := mvL_div f b x
  unfold isLit at hx
  unfold litV
  rw [a.1, a.2.1, cn_val h hb hd hI _ (by omega) (.inr hf)]
theorem cn_isLit (h : CkOk I gs) (hb : (b : Int) = 1 + I) {f : Nat → Bool} {x : Int} (hx : isLit I gs x) (hf : f (x / 2).toNat = true) : isLit I (cnA f b gs) (mvL f b x) := by
  have a := mvL_div f b x
  unfold isLit at *
  refine ⟨a.2.2, ?_⟩
  have hlen : (cnA f b gs).length = cntM f b gs.length := cnG_len gs.length (Nat.le_refl _)
  have l := num_lt (b := b) (f := f) (show (x / 2).toNat < b + gs.length by omega) (.inr hf)
  rw [num_high] at l
  omega
theorem cn_small (f : Nat → Bool) (b : Nat) (gs : List Gt) : (cnA f b gs).length ≤ gs.length := by
  have hlen : (cnA f b gs).length = cntM f b gs.length := cnG_len gs.length (Nat.le_refl _)
  have := cntM_le f b gs.length
  omega
/-- the cone of the cone -/
theorem cn_twice (h : CkOk I gs) (hb : (b : Int) = 1 + I) (ls : List Int) (hls : ∀ x ∈ ls, isLit I gs x) :
    cnA (ldF b (cnA (ldF b gs ls) b gs) (ls.map (mvL (ldF b gs ls) b))) b (cnA (ldF b gs ls) b gs) = cnA (ldF b gs ls) b gs ∧ (ls.map (mvL (ldF b gs ls) b)).map (mvL (ldF b (cnA (ldF b gs ls) b gs) (ls.map (mvL (ldF b gs ls) b))) b) = ls.map (mvL (ldF b gs ls) b) := by
  have hd : Dn b gs (ldF b gs ls) := fun i hi hf => ldF_down h hb ls i hi hf
  have hc := cn_ok h hb hd
  generalize hf : ldF b gs ls = f at *
  generalize hC : cnA f b gs = C at *
  generalize hL : ls.map (mvL f b) = L at *
  have hd2 : Dn b C (ldF b C L) := fun i hi hf => ldF_down hc hb L i hi hf
  generalize hg : ldF b C L = g at *
  have key : ∀ n, f n = true → f n = true ∧ g (num f b n) = true := by
    intro n hn
    rw [← hf] at hn
    refine ldF_ind ls (R := fun n => f n = true ∧ g (num f b n) = true) ?_ ?_ hn
    · intro x hx
      refine ⟨by rw [← hf]; exact ldF_lit ls hx, ?_⟩
      rw [← hg, ← (mvL_div f b x).1]
      refine ldF_lit L ?_
      rw [← hL]
      exact List.mem_map_of_mem hx
    · intro i hi ⟨h1, h2⟩
      have d := hd i hi h1
      have hget := cnG_get gs.length (Nat.le_refl _) i hi hi h1
      rw [show cnG f b gs gs.length = C from hC] at hget
      obtain ⟨hj, hg2⟩ := List.getElem?_eq_some_iff.1 hget
      rw [num_high] at h2
      have d2 := hd2 _ hj h2
      rw [hg2] at d2
      rw [(mvL_div f b gs[i].x).1, (mvL_div f b gs[i].y).1] at d2
      exact ⟨⟨d.1, d2.1⟩, d.2, d2.2⟩
  have hall : ∀ j, j < C.length → g (b + j) = true := by
    intro j hj
    rw [← hC] at hj
    obtain ⟨i, hi, hfi, hc, _⟩ := cn_at hj
    have := (key _ hfi).2
    rw [num_high, hc] at this
    exact this
  have hcnt : ∀ j, j ≤ C.length → cntM g b j = j := by
    intro j
    induction j with
    | zero => intro _; rfl
    | succ j ih => intro hj; simp only [cntM, hall j (by omega), if_true, ih (by omega)]
  have hnum : ∀ n, n ≤ b + C.length → num g b n = n := by
    intro n hn
    by_cases h1 : n < b
    · exact num_low h1
    · obtain ⟨i, rfl⟩ : ∃ i, n = b + i := ⟨n - b, by omega⟩
      rw [num_high, hcnt i (by omega)]
  have hmv : ∀ x : Int, 0 ≤ x → (x / 2).toNat ≤ b + C.length → mvL g b x = x := by
    intro x h0 hx
    unfold mvL
    rw [hnum _ hx]
    omega
  refine ⟨?_, ?_⟩
  · have hh : ∀ k, k ≤ C.length → cnG g b C k = C.take k := by
      intro k
      induction k with
      | zero => intro _; simp [cnG]
      | succ k ih =>
        intro hk
        have o := hc.ok k (by omega)
        rw [cnG_yes (by omega) (hall k (by omega)), ih (by omega), List.take_succ_eq_append_getElem (by omega), hmv _ (by omega) (by omega), hmv _ (by omega) (by omega)]
    have := hh C.length (Nat.le_refl _)
    rw [List.take_length] at this
    exact this
  · rw [← hL, List.map_map]
    refine List.map_congr_left fun x hx => ?_
    have hlx := cn_isLit (f := f) h hb (hls x hx) (by rw [← hf]; exact ldF_lit ls hx)
    rw [hC] at hlx
    unfold isLit at hlx
    exact hmv _ hlx.1 (by omega)
/-- inputs that do not lead do not matter -/
theorem sup_val (h : CkOk I gs) (hb : (b : Int) = 1 + I) {f : Nat → Bool} (hd : Dn b gs f) {inp inq : List Bool} (hI : (inp.length : Int) = I) (hQ : (inq.length : Int) = I) (hs : ∀ i, i < inp.length → f (i + 1) = true → inp[i]? = inq[i]?) : ∀ n, n < b + gs.length → f n = true → (nv inp gs)[n]? = (nv inq gs)[n]? := by
  intro n
  induction n using Nat.strongRecOn with
  | ind n ih =>
    intro hn hf
    by_cases h1 : n < b
    · obtain ⟨t1, e1⟩ := nv_pre inp [] gs
      obtain ⟨t2, e2⟩ := nv_pre inq [] gs
      simp only [List.nil_append] at e1 e2
      have hl : n < (nv inp []).length := by rw [nv_len]; simp; omega
      have hl2 : n < (nv inq []).length := by rw [nv_len]; simp; omega
      rw [e1, e2, List.getElem?_append_left hl, List.getElem?_append_left hl2]
      cases n with
      | zero => rfl
      | succ n =>
        simp only [nv, List.foldl_nil, List.getElem?_cons_succ]
        exact hs n (by omega) hf
    · obtain ⟨i, rfl⟩ : ∃ i, n = b + i := ⟨n - b, by omega⟩
      have hi : i < gs.length := by omega
      have d := hd i hi hf
      have o := h.ok i hi
      rw [show b + i = 1 + inp.length + i by omega, nv_gate hI h i hi, show 1 + inp.length + i = 1 + inq.length + i by omega, nv_gate hQ h i hi]
      have q : ∀ x : Int, (x / 2).toNat < b + i → f (x / 2).toNat = true → litV (nv inp gs) x = litV (nv inq gs) x := by
        intro x hl hfx
        unfold litV
        rw [ih _ hl (by omega) hfx]
      rw [q _ (by omega) d.1, q _ (by omega) d.2]
theorem sup_lit (h : CkOk I gs) (hb : (b : Int) = 1 + I) {f : Nat → Bool} (hd : Dn b gs f) {inp inq : List Bool} (hI : (inp.length : Int) = I) (hQ : (inq.length : Int) = I) (hs : ∀ i, i < inp.length → f (i + 1) = true → inp[i]? = inq[i]?) {x : Int} (hx : isLit I gs x) (hf : f (x / 2).toNat = true) : litV (nv inp gs) x = litV (nv inq gs) x := by
  unfold isLit at hx
  unfold litV
  rw [sup_val h hb hd hI hQ hs _ (by omega) hf]
/-- the inputs that lead, as numbers -/
def supL (f : Nat → Bool) : Nat → List Int
  | 0 => []
  | k + 1 => if f (k + 1) = true then supL f k ++ [(k : Int)] else supL f k
theorem supL_mem {f : Nat → Bool} {x : Int} : ∀ k, x ∈ supL f k ↔ ∃ i : Nat, x = (i : Int) ∧ i < k ∧ f (i + 1) = true := by
  intro k
  induction k with
  | zero => simp [supL]
  | succ k ih =>
    simp only [supL]
    split
    · rename_i hv
      simp only [List.mem_append, ih, List.mem_singleton]
      constructor
      · rintro (⟨i, h1, h2, h3⟩ | h)
        · exact ⟨i, h1, by omega, h3⟩
        · exact ⟨k, h, by omega, hv⟩
      · rintro ⟨i, h1, h2, h3⟩
        by_cases e : i = k
        · subst e; exact .inr h1
        · exact .inl ⟨i, h1, by omega, h3⟩
    · rename_i hv
      rw [ih]
      constructor
      · rintro ⟨i, h1, h2, h3⟩; exact ⟨i, h1, by omega, h3⟩
      · rintro ⟨i, h1, h2, h3⟩
        by_cases e : i = k
        · subst e; exact absurd h3 hv
        · exact ⟨i, h1, by omega, h3⟩
theorem supL_len (f : Nat → Bool) : ∀ k, (supL f k).length ≤ k := by
  intro k
  induction k with
  | zero => exact Nat.le_refl _
  | succ k ih => simp only [supL]; split <;> (try simp) <;> omega
end
end Go.Proofs.Ytbcabnbgkicfdaa
