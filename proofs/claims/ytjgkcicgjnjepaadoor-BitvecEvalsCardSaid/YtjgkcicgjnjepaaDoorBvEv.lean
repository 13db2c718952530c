/- What is proved: the nodes of a node, its inputs and its value, as plain mathematics. -/
import Derived.Test.YtjgkcicgjnjepaaDoorBvInt
set_option linter.unusedVariables false
namespace Go.Proofs.YtjgkcicgjnjepaaDoor
open Go.RowKit

/-- the arguments that a node needs -/
def Tm.args (x : Tm) : List Nat := ([x.a.toNat, x.b.toNat, x.c.toNat]).take (cnt x.o)
def argsAt (l : List Tm) (k : Nat) : List Nat := ((l[k]?).map Tm.args).getD []
theorem argsAt_eq {l : List Tm} {k : Nat} (h : k < l.length) : argsAt l k = l[k].args := by
  unfold argsAt
  rw [List.getElem?_eq_getElem h]
  rfl
theorem mem_args {x : Tm} {k : Nat} (h : k ∈ x.args) : (0 < cnt x.o ∧ k = x.a.toNat) ∨ (1 < cnt x.o ∧ k = x.b.toNat) ∨ (2 < cnt x.o ∧ k = x.c.toNat) := by
  unfold Tm.args at h
  rw [List.mem_take_iff_getElem] at h
  obtain ⟨j, hj, e⟩ := h
  have hj3 : j < 3 := by simp at hj; omega
  have hjc : j < cnt x.o := by omega
  have : j = 0 ∨ j = 1 ∨ j = 2 := by omega
  rcases this with rfl | rfl | rfl
  · exact .inl ⟨hjc, e.symm⟩
  · exact .inr (.inl ⟨hjc, e.symm⟩)
  · exact .inr (.inr ⟨hjc, e.symm⟩)
theorem arg_need {l : List Tm} {n k : Nat} {s a : Int} (hk : k < n) (h : argOk l n k s a = true) : 0 ≤ a ∧ ∃ hi : a.toNat < l.length, srt l[a.toNat].o = s := by
  unfold argOk at h
  rw [if_pos hk] at h
  exact srt_of (by simpa using h)
theorem args_lt {W : Int} {l : List Tm} (h : TbOk W l) {i : Nat} (hi : i < l.length) {k : Nat} (hk : k ∈ l[i].args) : k < i := by
  obtain ⟨_, _, _, h4, h5, h6⟩ := okB_iff.1 (h.ok i hi)
  rcases mem_args hk with ⟨hc, rfl⟩ | ⟨hc, rfl⟩ | ⟨hc, rfl⟩
  · obtain ⟨_, hl, _⟩ := arg_need hc h4
    rw [List.length_take] at hl
    omega
  · obtain ⟨_, hl, _⟩ := arg_need hc h5
    rw [List.length_take] at hl
    omega
  · obtain ⟨_, hl, _⟩ := arg_need hc h6
    rw [List.length_take] at hl
    omega
/-- the marks behind r rounds, from node i downwards; i itself at first -/
def mkS (l : List Tm) (i : Nat) : Nat → Nat → Bool
  | 0 => fun k => decide (k = i)
  | r + 1 => fun k => mkS l i r k || (mkS l i r (i - r) && (argsAt l (i - r)).contains k)
/-- the nodes of node i -/
def mrk (l : List Tm) (i : Nat) : Nat → Bool := mkS l i (i + 1)
theorem mkS_le {W : Int} {l : List Tm} (h : TbOk W l) {i : Nat} (hi : i < l.length) : ∀ r, r ≤ i + 1 → (∀ k, mkS l i r k = true → k ≤ i) := by
  intro r
  induction r with
  | zero => intro _ k hk; simp [mkS] at hk; omega
  | succ r ih =>
    intro hr k hk
    simp only [mkS, Bool.or_eq_true, Bool.and_eq_true] at hk
    rcases hk with hk | ⟨_, hk⟩
    · exact ih (by omega) k hk
    · rw [argsAt_eq (show i - r < l.length by omega), List.contains_iff_mem] at hk
      have := args_lt h (show i - r < l.length by omega) hk
      omega
theorem mrk_le {W : Int} {l : List Tm} (h : TbOk W l) {i : Nat} (hi : i < l.length) {k : Nat} (hk : mrk l i k = true) : k ≤ i := mkS_le h hi (i + 1) (Nat.le_refl _) k hk
theorem mkS_mono (l : List Tm) (i : Nat) {k : Nat} : ∀ r s, r ≤ s → mkS l i r k = true → mkS l i s k = true := by
  intro r s h
  induction s with
  | zero => intro hk; rw [show r = 0 by omega] at hk; exact hk
  | succ s ih =>
    intro hk
    rcases Nat.lt_or_ge r (s + 1) with h1 | h1
    · simp only [mkS, Bool.or_eq_true]
      exact .inl (ih (by omega) hk)
    · rw [show r = s + 1 by omega] at hk; exact hk
theorem mrk_self (l : List Tm) (i : Nat) : mrk l i i = true := mkS_mono l i 0 (i + 1) (by omega) (by simp [mkS])
/-- a node's mark is settled when its round comes -/
theorem mkS_set {W : Int} {l : List Tm} (h : TbOk W l) {i : Nat} (hi : i < l.length) {k : Nat} : ∀ s r, r ≤ s → s ≤ i + 1 → i - r ≤ k → mkS l i s k = mkS l i r k := by
  intro s
  induction s with
  | zero => intro r hr _ _; rw [show r = 0 by omega]
  | succ s ih =>
    intro r hr hs hk
    rcases Nat.lt_or_ge r (s + 1) with h1 | h1
    · rw [← ih r (by omega) (by omega) hk]
      simp only [mkS]
      have hc : (argsAt l (i - s)).contains k = false := by
        rw [argsAt_eq (show i - s < l.length by omega)]
        cases hc : (l[i - s].args).contains k with
        | false => rfl
        | true =>
          rw [List.contains_iff_mem] at hc
          have := args_lt h (show i - s < l.length by omega) hc
          omega
      rw [hc, Bool.and_false, Bool.or_false]
    · rw [show r = s + 1 by omega]
/-- the nodes of a node are closed under arguments -/
theorem mrk_args {W : Int} {l : List Tm} (h : TbOk W l) {i : Nat} (hi : i < l.length) {k : Nat} (hk : mrk l i k = true) (hkl : k < l.length) {a : Nat} (ha : a ∈ l[k].args) : mrk l i a = true := by
  have hki := mrk_le h hi hk
  have h1 : mkS l i (i - k) k = true := by
    rw [← mkS_set h hi (i + 1) (i - k) (by omega) (Nat.le_refl _) (by omega)]
    exact hk
  have h2 : mkS l i (i - k + 1) a = true := by
    simp only [mkS, Bool.or_eq_true, Bool.and_eq_true]
    right
    rw [show i - (i - k) = k by omega, argsAt_eq hkl, List.contains_iff_mem]
    exact ⟨h1, ha⟩
  exact mkS_mono l i _ (i + 1) (by omega) h2

/-- the value of a node, if its arguments have the values a, b, c -/
def valQ (W : Int) (x : Tm) (a b c : Int) (inp : List Int) : Int :=
  match x.o with
  | 0 => inp.getD x.v.toNat 0
  | 1 => inp.getD x.v.toNat 0
  | 2 => x.v
  | 3 => x.v
  | 4 => wrpP W (-a)
  | 5 => wrpP W (a + b)
  | 6 => wrpP W (a - b)
  | 7 => wrpP W (a * b)
  | 8 => divQ W a b
  | 9 => divR W a b
  | 10 => if a = 1 then b else c
  | 11 => 1 - a
  | 12 => min a b
  | 13 => max a b
  | 14 => bt (a == b)
  | 15 => if a = 1 then b else c
  | 16 => bt (a == b)
  | _ => bt (decide (a < b))
/-- .. the values f -/
def valP (W : Int) (x : Tm) (f : Nat → Int) (inp : List Int) : Int := valQ W x (f x.a.toNat) (f x.b.toNat) (f x.c.toNat) inp
/-- the input of a node, if it is one, fits -/
def fitB (W : Int) (x : Tm) (inp : List Int) : Bool :=
  if x.op = 0 then decide (x.v.toNat < inp.length) && (inp.getD x.v.toNat 0 == wrpP W (inp.getD x.v.toNat 0)) else if x.op = 1 then decide (x.v.toNat < inp.length) && (inp.getD x.v.toNat 0 == 0 || inp.getD x.v.toNat 0 == 1) else true
/-- the values of the marked nodes below k; nothing if an input does not fit -/
def evS (W : Int) (l : List Tm) (m : Nat → Bool) (inp : List Int) : Nat → Option (Nat → Int)
  | 0 => some fun _ => 0
  | k + 1 => match evS W l m inp k with
    | none => none
    | some f => if m k = true then (match l[k]? with | none => some f | some x => if fitB W x inp = true then some (setF f k (valP W x f inp)) else none) else some f
def evP (W : Int) (l : List Tm) (i : Int) (inp : List Int) : Int × Int :=
  if 0 ≤ i ∧ i < (l.length : Int) then (match evS W l (mrk l i.toNat) inp (i.toNat + 1) with | none => (0, 2) | some f => (f i.toNat, 0)) else (0, 1)
theorem evS_succ {W : Int} {l : List Tm} {m : Nat → Bool} {inp : List Int} {k : Nat} {f : Nat → Int} (h : evS W l m inp k = some f) (hk : k < l.length) : evS W l m inp (k + 1) = if m k = true then (if fitB W l[k] inp = true then some (setF f k (valP W l[k] f inp)) else none) else some f := by
  simp only [evS, h, List.getElem?_eq_getElem hk]
theorem evS_none {W : Int} {l : List Tm} {m : Nat → Bool} {inp : List Int} : ∀ k j, k ≤ j → evS W l m inp k = none → evS W l m inp j = none := by
  intro k j h hn
  induction j with
  | zero => rw [show k = 0 by omega] at hn; exact hn
  | succ j ih =>
    rcases Nat.lt_or_ge k (j + 1) with h1 | h1
    · simp only [evS, ih (by omega)]
    · rw [show k = j + 1 by omega] at hn; exact hn

/-- a value of a sort -/
def rng (W s v : Int) : Prop := if s = 0 then wrpP W v = v else v = 0 ∨ v = 1
theorem rng_zero {W : Int} (h : ¬ (W < 2 ∨ 8 < W)) (s : Int) : rng W s 0 := by
  unfold rng
  split
  · rw [wrp_same W 0 (hf_in h)]
    have := hf_bound h
    unfold loP hiP
    rw [if_neg (hf_in h)]
    omega
  · exact .inl rfl
theorem rng_bound {W s v : Int} (h : rng W s v) : -128 ≤ v ∧ v ≤ 127 := by
  unfold rng at h
  split at h
  · have := wrp_bound W v; omega
  · omega
theorem bt_rng (W : Int) (b : Bool) : rng W 1 (bt b) := by
  unfold rng
  rw [if_neg (by decide)]
  cases b
  · exact .inl rfl
  · exact .inr rfl
theorem o_lt {x : Tm} (h1 : 0 ≤ x.op) (h2 : x.op < 18) : x.o < 18 ∧ x.op = (x.o : Int) := by
  unfold Tm.o
  omega
theorem o_cases {o : Nat} (h : o < 18) : o = 0 ∨ o = 1 ∨ o = 2 ∨ o = 3 ∨ o = 4 ∨ o = 5 ∨ o = 6 ∨ o = 7 ∨ o = 8 ∨ o = 9 ∨ o = 10 ∨ o = 11 ∨ o = 12 ∨ o = 13 ∨ o = 14 ∨ o = 15 ∨ o = 16 ∨ o = 17 := by omega
theorem divQ_rng {W a b : Int} (h : ¬ (W < 2 ∨ 8 < W)) : rng W 0 (divQ W a b) := by
  unfold divQ
  split
  · exact rng_zero h 0
  · unfold rng
    rw [if_pos rfl]
    exact wrp_wrp W _ h
theorem divR_rng {W a b : Int} (h : ¬ (W < 2 ∨ 8 < W)) : rng W 0 (divR W a b) := by
  unfold divR rng
  rw [if_pos rfl]
  split
  · exact wrp_wrp W _ h
  · exact rest_in W _ _ h (wrp_wrp W b h) (by assumption)
/-- the value of a node that fits has its sort -/
theorem val_rng {W : Int} {l : List Tm} {x : Tm} {f : Nat → Int} {inp : List Int} (hW : ¬ (W < 2 ∨ 8 < W)) (hok : okB W l x = true) (hf : ∀ j (h : j < l.length), rng W (srt l[j].o) (f j)) (hfit : fitB W x inp = true) : rng W (srt x.o) (valP W x f inp) := by
  obtain ⟨h1, h2, h3, h4, h5, h6⟩ := okB_iff.1 hok
  obtain ⟨ho, hop⟩ := o_lt h1 h2
  have A : 0 < cnt x.o → rng W (agA x.o) (f x.a.toNat) := fun hc => by
    obtain ⟨_, hl, e⟩ := arg_need hc h4
    rw [← e]; exact hf _ hl
  have B : 1 < cnt x.o → rng W (agB x.o) (f x.b.toNat) := fun hc => by
    obtain ⟨_, hl, e⟩ := arg_need hc h5
    rw [← e]; exact hf _ hl
  have C : 2 < cnt x.o → rng W (agC x.o) (f x.c.toNat) := fun hc => by
    obtain ⟨_, hl, e⟩ := arg_need hc h6
    rw [← e]; exact hf _ hl
  have hw : ∀ n, rng W 0 (wrpP W n) := fun n => by
    unfold rng
    rw [if_pos rfl]
    exact wrp_wrp W n hW
  unfold valP
  unfold fitB at hfit
  unfold valOk at h3
  generalize f x.a.toNat = a at *
  generalize f x.b.toNat = b at *
  generalize f x.c.toNat = c at *
  unfold valQ
  rw [hop] at hfit h3
  rcases o_cases ho with e | e | e | e | e | e | e | e | e | e | e | e | e | e | e | e | e | e <;> rw [e] at A B C hfit h3 ⊢
  · simp only [Int.natCast_zero, if_true, Bool.and_eq_true, beq_iff_eq] at hfit
    show rng W 0 _
    unfold rng
    rw [if_pos rfl]
    exact hfit.2.symm
  · simp at hfit
    show rng W 1 _
    unfold rng
    rw [if_neg (by decide)]
    simpa using hfit.2
  · simp at h3
    show rng W 0 _
    unfold rng
    rw [if_pos rfl]
    exact h3.symm
  · simp at h3
    show rng W 1 _
    unfold rng
    rw [if_neg (by decide)]
    exact h3
  · exact hw _
  · exact hw _
  · exact hw _
  · exact hw _
  · exact divQ_rng hW
  · exact divR_rng hW
  · have b1 := B (by decide)
    have c1 := C (by decide)
    show rng W 0 (if a = 1 then b else c)
    split
    · exact b1
    · exact c1
  · have a1 := A (by decide)
    show rng W 1 (1 - a)
    have a2 : rng W 1 a := a1
    unfold rng at a2 ⊢
    rw [if_neg (by decide)] at a2 ⊢
    omega
  · have a2 : rng W 1 a := A (by decide)
    have b2 : rng W 1 b := B (by decide)
    show rng W 1 (min a b)
    unfold rng at a2 b2 ⊢
    rw [if_neg (by decide)] at a2 b2 ⊢
    omega
  · have a2 : rng W 1 a := A (by decide)
    have b2 : rng W 1 b := B (by decide)
    show rng W 1 (max a b)
    unfold rng at a2 b2 ⊢
    rw [if_neg (by decide)] at a2 b2 ⊢
    omega
  · exact bt_rng W _
  · have b1 := B (by decide)
    have c1 := C (by decide)
    show rng W 1 (if a = 1 then b else c)
    split
    · exact b1
    · exact c1
  · exact bt_rng W _
  · exact bt_rng W _
/-- all values have the sorts of their nodes (0 where there is none yet) -/
theorem ev_rng {W : Int} {l : List Tm} {m : Nat → Bool} {inp : List Int} (hW : ¬ (W < 2 ∨ 8 < W)) (ht : TbOk W l) : ∀ k, k ≤ l.length → ∀ f, evS W l m inp k = some f → ∀ j (h : j < l.length), rng W (srt l[j].o) (f j) := by
  intro k
  induction k with
  | zero => intro _ f hf j h; simp [evS] at hf; subst hf; exact rng_zero hW _
  | succ k ih =>
    intro hk f hf j h
    cases hp : evS W l m inp k with
    | none => rw [evS_none k (k + 1) (by omega) hp] at hf; cases hf
    | some g =>
      have hg := ih (by omega) g hp
      rw [evS_succ hp (by omega)] at hf
      split at hf
      · split at hf
        · rename_i hfit
          cases hf
          unfold setF
          split
          · rename_i e
            subst e
            refine val_rng hW (ht.ok j h) (fun i hi => ?_) hfit
            rw [List.getElem_take]
            exact hg i _
          · exact hg j h
        · cases hf
      · cases hf
        exact hg j h
theorem ev_some {W : Int} {l : List Tm} {m : Nat → Bool} {inp : List Int} {k n : Nat} {f : Nat → Int} (h : evS W l m inp n = some f) (hk : k ≤ n) : ∃ g, evS W l m inp k = some g := by
  cases hp : evS W l m inp k with
  | none => rw [evS_none k n hk hp] at h; cases h
  | some g => exact ⟨g, rfl⟩
end Go.Proofs.YtjgkcicgjnjepaaDoor
