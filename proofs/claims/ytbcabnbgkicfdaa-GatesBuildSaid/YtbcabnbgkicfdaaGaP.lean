/- What is proved: circuits of gates with two inputs as plain mathematics: what conjunctions give, what the values of literals are; it speaks of no program. -/
import Derived.WalkKit
set_option linter.unusedVariables false
namespace Go.Proofs.Ytbcabnbgkicfdaa
open Go.RowKit

/-- a gate -/
structure Gt where
  x : Int
  y : Int
theorem Gt.ext' {p q : Gt} (h1 : p.x = q.x) (h2 : p.y = q.y) : p = q := by cases p; cases q; simp_all
instance gtEq : DecidableEq Gt := fun p q => decidable_of_iff (p.x = q.x ∧ p.y = q.y) ⟨fun ⟨h1, h2⟩ => Gt.ext' h1 h2, fun h => by subst h; simp⟩

/-- the negation of a literal -/
def notP (x : Int) : Int := if x % 2 = 0 then x + 1 else x - 1
theorem notP_div (x : Int) : notP x / 2 = x / 2 := by unfold notP; split <;> omega
theorem notP_mod (x : Int) : notP x % 2 = 1 - x % 2 := by unfold notP; split <;> omega
theorem notP_notP (x : Int) : notP (notP x) = x := by unfold notP; split <;> split <;> omega
theorem notP_even {x : Int} (h : x % 2 = 0) : notP x = x + 1 := by unfold notP; rw [if_pos h]
theorem notP_odd {x : Int} (h : x % 2 = 1) : notP x = x - 1 := by unfold notP; rw [if_neg (by omega)]
theorem notP_near (x : Int) : x - 1 ≤ notP x ∧ notP x ≤ x + 1 := by unfold notP; split <;> omega
theorem notP_ne (x : Int) : notP x ≠ x := by unfold notP; split <;> omega
theorem notP_eq {x y : Int} : x = notP y ↔ y = notP x := ⟨fun h => by rw [h, notP_notP], fun h => by rw [h, notP_notP]⟩

/-- a number is a literal of a circuit -/
def isLit (I : Int) (gs : List Gt) (x : Int) : Prop := 0 ≤ x ∧ x < 2 * (1 + I + gs.length)
instance (I : Int) (gs : List Gt) (x : Int) : Decidable (isLit I gs x) := by unfold isLit; infer_instance
theorem isLit.not {I : Int} {gs : List Gt} {x : Int} (h : isLit I gs x) : isLit I gs (notP x) := by
  unfold isLit at *
  have := notP_div x
  omega
theorem isLit.more {I : Int} {gs gs' : List Gt} {x : Int} (h : isLit I gs x) (hl : gs.length ≤ gs'.length) : isLit I gs' x := by
  unfold isLit at *
  omega
/-- the gate of two literals, and where a gate stands -/
def gat (x y : Int) : Gt := ⟨min x y, max x y⟩
def gix (gs : List Gt) (g : Gt) : Option Nat := gs.findIdx? (fun y => decide (y = g))
theorem gix_some {l : List Gt} {x : Gt} {i : Nat} (h : gix l x = some i) : ∃ hi : i < l.length, l[i] = x ∧ ∀ j (hj : j < i), l[j]'(by omega) ≠ x := by
  unfold gix at h
  rw [List.findIdx?_eq_some_iff_getElem] at h
  obtain ⟨h1, h2, h3⟩ := h
  exact ⟨h1, by simpa using h2, fun j hj => by simpa using h3 j hj⟩
theorem gix_none {l : List Gt} {x : Gt} (h : gix l x = none) : x ∉ l := by
  unfold gix at h
  rw [List.findIdx?_eq_none_iff] at h
  intro hx
  simpa using h x hx
theorem gix_of {l : List Gt} {x : Gt} {i : Nat} (hn : l.Nodup) (hi : i < l.length) (h : l[i] = x) : gix l x = some i := by
  unfold gix
  rw [List.findIdx?_eq_some_iff_getElem]
  refine ⟨hi, by simpa using h, fun j hj => ?_⟩
  have hne : l[j]'(by omega) ≠ l[i] := List.pairwise_iff_getElem.1 hn j i (by omega) hi hj
  rw [h] at hne
  simpa using hne
theorem gix_not {l : List Gt} {x : Gt} (h : x ∉ l) : gix l x = none := by
  unfold gix
  rw [List.findIdx?_eq_none_iff]
  intro y hy
  have : y ≠ x := fun e => h (e ▸ hy)
  simpa using this
/-- the conjunction of two literals: what needs no gate; the literal; the gates behind it -/
def andK (x y : Int) : Option Int := if x = 0 ∨ y = 0 then some 0 else if x = 1 then some y else if y = 1 ∨ x = y then some x else if x = notP y then some 0 else none
def andN (I : Int) (gs : List Gt) (x y : Int) : Int :=
  match andK x y with
  | some z => z
  | none => match gix gs (gat x y) with
    | some i => 2 * (1 + I + i)
    | none => 2 * (1 + I + gs.length)
def andL (gs : List Gt) (x y : Int) : List Gt :=
  match andK x y with
  | some _ => gs
  | none => match gix gs (gat x y) with
    | some _ => gs
    | none => gs ++ [gat x y]
theorem and_some {I : Int} {gs : List Gt} {x y z : Int} (h : andK x y = some z) : andN I gs x y = z ∧ andL gs x y = gs := by unfold andN andL; rw [h]; exact ⟨rfl, rfl⟩
theorem and_old {I : Int} {gs : List Gt} {x y : Int} {i : Nat} (h : andK x y = none) (hi : gix gs (gat x y) = some i) : andN I gs x y = 2 * (1 + I + i) ∧ andL gs x y = gs := by unfold andN andL; rw [h]; simp [hi]
theorem and_new {I : Int} {gs : List Gt} {x y : Int} (h : andK x y = none) (hi : gix gs (gat x y) = none) : andN I gs x y = 2 * (1 + I + gs.length) ∧ andL gs x y = gs ++ [gat x y] := by unfold andN andL; rw [h]; simp [hi]
def orN (I : Int) (gs : List Gt) (x y : Int) : Int := notP (andN I gs (notP x) (notP y))
def orL (gs : List Gt) (x y : Int) : List Gt := andL gs (notP x) (notP y)
/-- Mux; Xor(x, y) is Mux(x, not y, y) -/
def muxA (gs : List Gt) (c x : Int) : List Gt := andL gs c x
def muxB (gs : List Gt) (c x y : Int) : List Gt := andL (muxA gs c x) (notP c) y
def muxN (I : Int) (gs : List Gt) (c x y : Int) : Int := orN I (muxB gs c x y) (andN I gs c x) (andN I (muxA gs c x) (notP c) y)
def muxL (I : Int) (gs : List Gt) (c x y : Int) : List Gt := orL (muxB gs c x y) (andN I gs c x) (andN I (muxA gs c x) (notP c) y)

/-- a circuit is valid (but for the number of its nodes) -/
structure CkOk (I : Int) (gs : List Gt) : Prop where
  lo : 0 ≤ I
  hi : I ≤ 1024
  nd : gs.Nodup
  ok : ∀ i (h : i < gs.length), 2 ≤ gs[i].x ∧ gs[i].x < gs[i].y ∧ gs[i].y < 2 * (1 + I + (i : Int)) ∧ gs[i].y ≠ notP gs[i].x
theorem CkOk.nil {I : Int} (h : 0 ≤ I) (h' : I ≤ 1024) : CkOk I [] := ⟨h, h', List.nodup_nil, fun i h => by simp at h⟩
theorem CkOk.snoc {I : Int} {gs : List Gt} (h : CkOk I gs) {g : Gt} (hn : g ∉ gs) (h1 : 2 ≤ g.x) (h2 : g.x < g.y) (h3 : g.y < 2 * (1 + I + (gs.length : Int))) (h4 : g.y ≠ notP g.x) : CkOk I (gs ++ [g]) := by
  refine ⟨h.lo, h.hi, ?_, fun i hi => ?_⟩
  · rw [List.nodup_append]
    exact ⟨h.nd, by simp, fun a ha b hb e => hn (by simp at hb; rw [← hb, ← e]; exact ha)⟩
  · by_cases hl : i < gs.length
    · rw [List.getElem_append_left hl]
      exact h.ok i hl
    · have e : i = gs.length := by simp at hi; omega
      subst e
      rw [List.getElem_append_right (Nat.le_refl _)]
      simp only [Nat.sub_self, List.getElem_cons_zero]
      exact ⟨h1, h2, h3, h4⟩
theorem CkOk.pre {I : Int} {gs hs : List Gt} (h : CkOk I (gs ++ hs)) : CkOk I gs := by
  refine ⟨h.lo, h.hi, (List.nodup_append.1 h.nd).1, fun i hi => ?_⟩
  have := h.ok i (by simp; omega)
  rw [List.getElem_append_left hi] at this
  exact this

theorem snoc_ind {α : Type} {P : List α → Prop} (h0 : P []) (h1 : ∀ l a, P l → P (l ++ [a])) (l : List α) : P l := by
  rw [← List.reverse_reverse l]
  induction l.reverse with
  | nil => exact h0
  | cons a t ih => rw [List.reverse_cons]; exact h1 _ _ ih
/-- the values of the nodes, and of a literal -/
def litV (ns : List Bool) (x : Int) : Bool := ((ns[(x / 2).toNat]?).getD false) != decide (x % 2 = 1)
def nv (inp : List Bool) (gs : List Gt) : List Bool := gs.foldl (fun ns g => ns ++ [litV ns g.x && litV ns g.y]) (false :: inp)
theorem nv_snoc (inp : List Bool) (gs : List Gt) (g : Gt) : nv inp (gs ++ [g]) = nv inp gs ++ [litV (nv inp gs) g.x && litV (nv inp gs) g.y] := by
  unfold nv
  rw [List.foldl_append]
  rfl
theorem nv_len (inp : List Bool) (gs : List Gt) : (nv inp gs).length = 1 + inp.length + gs.length := by
  induction gs using snoc_ind with
  | h0 => simp [nv]; omega
  | h1 gs g ih => rw [nv_snoc]; simp [ih]; omega
theorem litV_append {ns ms : List Bool} {x : Int} (h : (x / 2).toNat < ns.length) : litV (ns ++ ms) x = litV ns x := by
  unfold litV
  rw [List.getElem?_append_left h]
theorem nv_pre (inp : List Bool) (gs hs : List Gt) : ∃ t, nv inp (gs ++ hs) = nv inp gs ++ t := by
  induction hs using snoc_ind with
  | h0 => exact ⟨[], by simp⟩
  | h1 hs g ih =>
    obtain ⟨t, ht⟩ := ih
    refine ⟨t ++ [litV (nv inp (gs ++ hs)) g.x && litV (nv inp (gs ++ hs)) g.y], ?_⟩
    rw [← List.append_assoc, nv_snoc, ht, List.append_assoc]
theorem lit_pre {I : Int} {inp : List Bool} (hI : (inp.length : Int) = I) {gs gs' : List Gt} (h : gs <+: gs') {x : Int} (hx : isLit I gs x) : litV (nv inp gs') x = litV (nv inp gs) x := by
  obtain ⟨hs, rfl⟩ := h
  obtain ⟨t, ht⟩ := nv_pre inp gs hs
  rw [ht]
  apply litV_append
  rw [nv_len]
  unfold isLit at hx
  omega
theorem litV_not (ns : List Bool) (x : Int) : litV ns (notP x) = !litV ns x := by
  unfold litV
  rw [notP_div]
  have h := notP_mod x
  have : x % 2 = 0 ∨ x % 2 = 1 := by omega
  rcases this with e | e
  · rw [h, e]; simp
  · rw [h, e]; simp
theorem litV_zero (inp : List Bool) (gs : List Gt) : litV (nv inp gs) 0 = false := by
  obtain ⟨t, ht⟩ := nv_pre inp [] gs
  simp only [List.nil_append] at ht
  rw [ht]
  simp [litV, nv]
theorem litV_one (inp : List Bool) (gs : List Gt) : litV (nv inp gs) 1 = true := by
  have h := litV_not (nv inp gs) 0
  rw [litV_zero] at h
  exact h
theorem litV_inp {inp : List Bool} (gs : List Gt) {i : Nat} (hi : i < inp.length) : litV (nv inp gs) (2 * ((i : Int) + 1)) = inp[i] := by
  obtain ⟨t, ht⟩ := nv_pre inp [] gs
  simp only [List.nil_append] at ht
  rw [ht]
  have e : (2 * ((i : Int) + 1) / 2).toNat = i + 1 := by omega
  have e2 : decide (2 * ((i : Int) + 1) % 2 = 1) = false := by simp
  unfold litV
  rw [e, e2]
  simp only [nv, List.foldl_nil, List.cons_append, List.getElem?_cons_succ]
  rw [List.getElem?_append_left hi, List.getElem?_eq_getElem hi]
  simp
/-- the value of a gate's node -/
theorem nv_gate {I : Int} {inp : List Bool} (hI : (inp.length : Int) = I) {gs : List Gt} (h : CkOk I gs) : ∀ i (hi : i < gs.length), (nv inp gs)[1 + inp.length + i]? = some (litV (nv inp gs) gs[i].x && litV (nv inp gs) gs[i].y) := by
  induction gs using snoc_ind with
  | h0 => intro i hi; simp at hi
  | h1 gs g ih =>
    intro i hi
    have h0 := h.ok i hi
    have hl := nv_len inp gs
    have hx : ∀ z, 0 ≤ z → z < 2 * (1 + I + (i : Int)) → litV (nv inp (gs ++ [g])) z = litV (nv inp gs) z := fun z h1 h2 => lit_pre hI ⟨[g], rfl⟩ (show isLit I gs z from ⟨h1, by simp at hi; omega⟩)
    rw [hx _ (by omega) (by omega), hx _ (by omega) (by omega)]
    by_cases hlt : i < gs.length
    · rw [nv_snoc, List.getElem?_append_left (by omega), ih h.pre i hlt]
      simp only [List.getElem_append_left hlt]
    · have e : i = gs.length := by simp at hi; omega
      subst e
      rw [nv_snoc, List.getElem?_append_right (by omega)]
      simp [hl]
theorem lit_gate {I : Int} {inp : List Bool} (hI : (inp.length : Int) = I) {gs : List Gt} (h : CkOk I gs) (i : Nat) (hi : i < gs.length) : litV (nv inp gs) (2 * (1 + I + (i : Int))) = (litV (nv inp gs) gs[i].x && litV (nv inp gs) gs[i].y) := by
  have e : (2 * (1 + I + (i : Int)) / 2).toNat = 1 + inp.length + i := by omega
  have e2 : decide (2 * (1 + I + (i : Int)) % 2 = 1) = false := by simp
  have := nv_gate hI h i hi
  conv => lhs; unfold litV
  rw [e, e2, this]
  simp

/-- what an operator gives -/
structure OpR (I : Int) (gs gs' : List Gt) (z : Int) (n : Nat) (f : List Bool → Bool) : Prop where
  ok : CkOk I gs'
  lit : isLit I gs' z
  pre : gs <+: gs'
  len : gs'.length ≤ gs.length + n
  val : ∀ inp : List Bool, (inp.length : Int) = I → litV (nv inp gs') z = f (nv inp gs)
theorem OpR.mono {I : Int} {gs gs' : List Gt} {z : Int} {n m : Nat} {f : List Bool → Bool} (h : OpR I gs gs' z n f) (hm : n ≤ m) : OpR I gs gs' z m f := ⟨h.ok, h.lit, h.pre, by have := h.len; omega, h.val⟩
theorem OpR.grow {I : Int} {gs gs' : List Gt} {z : Int} {n : Nat} {f : List Bool → Bool} (h : OpR I gs gs' z n f) : gs.length ≤ gs'.length := h.pre.length_le
theorem gat_lo (x y : Int) : (gat x y).x = x ∧ (gat x y).y = y ∨ (gat x y).x = y ∧ (gat x y).y = x := by
  unfold gat
  simp only
  omega
theorem andK_none {x y : Int} (h : andK x y = none) : x ≠ 0 ∧ y ≠ 0 ∧ x ≠ 1 ∧ y ≠ 1 ∧ x ≠ y ∧ x ≠ notP y := by
  unfold andK at h
  split at h
  · cases h
  · split at h
    · cases h
    · split at h
      · cases h
      · split at h
        · cases h
        · omega
theorem and_ok {I : Int} {gs : List Gt} {x y : Int} (h : CkOk I gs) (hx : isLit I gs x) (hy : isLit I gs y) : OpR I gs (andL gs x y) (andN I gs x y) 1 (fun ns => litV ns x && litV ns y) := by
  have hlo := h.lo
  cases hk : andK x y with
  | some z =>
    obtain ⟨e1, e2⟩ := and_some (I := I) (gs := gs) hk
    rw [e1, e2]
    refine ⟨h, ?_, List.prefix_refl _, by omega, fun inp hI => ?_⟩
    all_goals
      unfold andK at hk
      split at hk
      · cases hk
        first
          | (unfold isLit; omega)
          | (rename_i hc; rcases hc with rfl | rfl <;> simp [litV_zero])
      · split at hk
        · cases hk
          first
            | exact hy
            | (rename_i hc; subst hc; simp [litV_one])
        · split at hk
          · cases hk
            first
              | exact hx
              | (rename_i hc; rcases hc with rfl | rfl <;> simp [litV_one])
          · split at hk
            · cases hk
              first
                | (unfold isLit; omega)
                | (rename_i hc; subst hc; simp [litV_zero, litV_not])
            · cases hk
  | none =>
    obtain ⟨n1, n2, n3, n4, n5, n6⟩ := andK_none hk
    have n7 : y ≠ notP x := fun e => n6 (notP_eq.2 e)
    unfold isLit at hx hy
    have hval : ∀ ns, (litV ns (gat x y).x && litV ns (gat x y).y) = (litV ns x && litV ns y) := fun ns => by
      rcases gat_lo x y with ⟨e1, e2⟩ | ⟨e1, e2⟩
      · rw [e1, e2]
      · rw [e1, e2, Bool.and_comm]
    cases hi : gix gs (gat x y) with
    | some i =>
      obtain ⟨e1, e2⟩ := and_old (I := I) hk hi
      rw [e1, e2]
      obtain ⟨hl, hg, _⟩ := gix_some hi
      refine ⟨h, ⟨by omega, by omega⟩, List.prefix_refl _, by omega, fun inp hI => ?_⟩
      rw [lit_gate hI h i hl, hg]
      exact hval _
    | none =>
      obtain ⟨e1, e2⟩ := and_new (I := I) hk hi
      rw [e1, e2]
      have hck : CkOk I (gs ++ [gat x y]) := by
        refine h.snoc (gix_none hi) ?_ ?_ ?_ ?_
        · unfold gat; simp only; omega
        · unfold gat; simp only; omega
        · unfold gat; simp only; omega
        · rcases gat_lo x y with ⟨e1, e2⟩ | ⟨e1, e2⟩
          · rw [e1, e2]; exact n7
          · rw [e1, e2]; exact n6
      refine ⟨hck, ⟨by omega, by simp; omega⟩, ⟨_, rfl⟩, by simp, fun inp hI => ?_⟩
      have hg := lit_gate hI hck gs.length (by simp)
      rw [hg]
      simp only [List.getElem_append_right (Nat.le_refl _), Nat.sub_self, List.getElem_cons_zero]
      rw [lit_pre hI ⟨_, rfl⟩ (show isLit I gs (gat x y).x from by unfold gat isLit; simp only; omega), lit_pre hI ⟨_, rfl⟩ (show isLit I gs (gat x y).y from by unfold gat isLit; simp only; omega)]
      exact hval _
theorem or_ok {I : Int} {gs : List Gt} {x y : Int} (h : CkOk I gs) (hx : isLit I gs x) (hy : isLit I gs y) : OpR I gs (orL gs x y) (orN I gs x y) 1 (fun ns => litV ns x || litV ns y) := by
  obtain ⟨a, b, c, d, e⟩ := and_ok h hx.not hy.not
  refine ⟨a, b.not, c, d, fun inp hI => ?_⟩
  unfold orL orN
  rw [litV_not, e inp hI]
  simp only [litV_not]
  cases litV (nv inp gs) x <;> cases litV (nv inp gs) y <;> rfl
theorem mux_ok {I : Int} {gs : List Gt} {c x y : Int} (h : CkOk I gs) (hc : isLit I gs c) (hx : isLit I gs x) (hy : isLit I gs y) : OpR I gs (muxL I gs c x y) (muxN I gs c x y) 3 (fun ns => if litV ns c then litV ns x else litV ns y) := by
  have r1 := and_ok h hc hx
  have r2 := and_ok r1.ok (hc.not.more r1.grow) (hy.more r1.grow)
  have r3 := or_ok r2.ok (r1.lit.more r2.grow) r2.lit
  refine ⟨r3.ok, r3.lit, r1.pre.trans (r2.pre.trans r3.pre), ?_, fun inp hI => ?_⟩
  · have h1 := r1.len
    have h2 := r2.len
    have h3 := r3.len
    unfold muxL muxB muxA
    omega
  · unfold muxL muxN muxB muxA
    rw [r3.val inp hI, lit_pre hI r2.pre r1.lit, r1.val inp hI, r2.val inp hI, lit_pre hI r1.pre hc.not, lit_pre hI r1.pre hy, litV_not]
    cases litV (nv inp gs) c <;> simp
/-- the numbers between are literals -/
theorem mux_parts {I : Int} {gs : List Gt} {c x y : Int} (h : CkOk I gs) (hc : isLit I gs c) (hx : isLit I gs x) (hy : isLit I gs y) :
    OpR I gs (muxA gs c x) (andN I gs c x) 1 (fun ns => litV ns c && litV ns x) ∧ isLit I (muxA gs c x) (notP c) ∧ isLit I (muxA gs c x) y ∧ CkOk I (muxB gs c x y) ∧ (muxB gs c x y).length ≤ gs.length + 2 ∧ isLit I (muxB gs c x y) (andN I gs c x) ∧ isLit I (muxB gs c x y) (andN I (muxA gs c x) (notP c) y) := by
  have r1 := and_ok h hc hx
  have r2 := and_ok r1.ok (hc.not.more r1.grow) (hy.more r1.grow)
  have h1 := r1.len
  have h2 := r2.len
  exact ⟨r1, hc.not.more r1.grow, hy.more r1.grow, r2.ok, by unfold muxB muxA; omega, r1.lit.more r2.grow, r2.lit⟩

/-- a circuit is valid, asked gate by gate -/
def gtB (I : Int) (i : Nat) (g : Gt) : Bool := decide (2 ≤ g.x) && decide (g.x < g.y) && decide (g.y < 2 * (1 + I + (i : Int))) && decide (g.y ≠ notP g.x)
def vldF (I : Int) (gs : List Gt) : Nat → Bool
  | 0 => true
  | k + 1 => vldF I gs k && (match gs[k]? with | none => true | some g => gtB I k g && decide (g ∉ gs.take k))
def vldB (I : Int) (gs : List Gt) : Bool := decide (0 ≤ I) && decide (I ≤ 1024) && decide (1 + I + (gs.length : Int) ≤ 65536) && vldF I gs gs.length
theorem vldF_less {I : Int} {gs : List Gt} : ∀ {n k : Nat}, k ≤ n → vldF I gs n = true → vldF I gs k = true := by
  intro n
  induction n with
  | zero => intro k hk h; rw [show k = 0 by omega]; exact h
  | succ n ih =>
    intro k hk h
    by_cases e : k = n + 1
    · rw [e]; exact h
    · simp only [vldF, Bool.and_eq_true] at h
      exact ih (by omega) h.1
theorem vldF_bad {I : Int} {gs : List Gt} {k : Nat} (hk : k < gs.length) (h : gtB I k gs[k] = false ∨ gs[k] ∈ gs.take k) : vldF I gs gs.length = false := by
  cases hv : vldF I gs gs.length with
  | false => rfl
  | true =>
    have h1 := vldF_less (show k + 1 ≤ gs.length by omega) hv
    simp only [vldF, List.getElem?_eq_getElem hk, Bool.and_eq_true, decide_eq_true_eq] at h1
    rcases h with h | h
    · rw [h] at h1; exact absurd h1.2.1 (by simp)
    · exact absurd h h1.2.2
theorem vldF_good {I : Int} {gs : List Gt} {k : Nat} (hk : k < gs.length) (h0 : vldF I gs k = true) (h : gtB I k gs[k] = true) (h2 : gs[k] ∉ gs.take k) : vldF I gs (k + 1) = true := by
  simp [vldF, List.getElem?_eq_getElem hk, h0, h, h2]
theorem gtB_iff {I : Int} {i : Nat} {g : Gt} : gtB I i g = true ↔ 2 ≤ g.x ∧ g.x < g.y ∧ g.y < 2 * (1 + I + (i : Int)) ∧ g.y ≠ notP g.x := by
  simp [gtB, and_assoc]
theorem vldF_iff {I : Int} {gs : List Gt} : ∀ n, n ≤ gs.length → (vldF I gs n = true ↔ ∀ k (hk : k < gs.length), k < n → gtB I k gs[k] = true ∧ gs[k] ∉ gs.take k) := by
  intro n
  induction n with
  | zero => intro _; simp [vldF]
  | succ n ih =>
    intro hn
    simp only [vldF, List.getElem?_eq_getElem (show n < gs.length by omega), Bool.and_eq_true, decide_eq_true_eq, ih (by omega)]
    constructor
    · intro ⟨h1, h2⟩ k hk hl
      by_cases e : k = n
      · subst e; exact h2
      · exact h1 k hk (by omega)
    · intro h
      exact ⟨fun k hk hl => h k hk (by omega), h n (by omega) (by omega)⟩
theorem vld_iff {I : Int} {gs : List Gt} : vldB I gs = true ↔ CkOk I gs ∧ 1 + I + (gs.length : Int) ≤ 65536 := by
  unfold vldB
  simp only [Bool.and_eq_true, decide_eq_true_eq, vldF_iff gs.length (Nat.le_refl _)]
  constructor
  · intro ⟨⟨⟨h1, h2⟩, h3⟩, h4⟩
    refine ⟨⟨h1, h2, ?_, fun i hi => gtB_iff.1 (h4 i hi hi).1⟩, h3⟩
    refine List.pairwise_iff_getElem.2 fun i j hi hj hij e => (h4 j hj hj).2 ?_
    rw [← e]
    exact List.mem_take_iff_getElem.2 ⟨i, by omega, rfl⟩
  · intro ⟨h, h3⟩
    refine ⟨⟨⟨h.lo, h.hi⟩, h3⟩, fun k hk _ => ⟨gtB_iff.2 (h.ok k hk), fun hm => ?_⟩⟩
    obtain ⟨i, hi, e⟩ := List.mem_take_iff_getElem.1 hm
    exact List.pairwise_iff_getElem.1 h.nd i k (by omega) hk (by omega) e
end Go.Proofs.Ytbcabnbgkicfdaa
