/- What is proved: what holds of literals in every circuit that a circuit grows to: their values, and what they depend on; numbers of words; it speaks of no program. -/
import Derived.Test.YtbcabnbgkicfdaaGaP
set_option linter.unusedVariables false
namespace Go.Proofs.Ytbcabnbgkicfdaa
open Go.RowKit

/-- a literal that depends on nothing but some inputs -/
inductive Dep (I : Int) (gs : List Gt) (D : Int → Prop) : Int → Prop
  | const {x : Int} (h : 0 ≤ x) (h' : x ≤ 1) : Dep I gs D x
  | inp {x : Int} (h : 2 ≤ x) (h' : x < 2 * (1 + I)) (hd : D (x / 2 - 1)) : Dep I gs D x
  | gate {x : Int} (i : Nat) (g : Gt) (hg : gs[i]? = some g) (hx : x / 2 = 1 + I + (i : Int)) (h1 : Dep I gs D g.x) (h2 : Dep I gs D g.y) : Dep I gs D x
section
variable {I : Int} {gs : List Gt} {D : Int → Prop} {x y : Int}
theorem Dep.not (h : Dep I gs D x) : Dep I gs D (notP x) := by
  have e := notP_div x
  cases h with
  | const h h' => exact .const (by omega) (by omega)
  | inp h h' hd => exact .inp (by omega) (by omega) (by rw [e]; exact hd)
  | gate i g hg hx h1 h2 => exact .gate i g hg (by omega) h1 h2
theorem Dep.not_iff : Dep I gs D (notP x) ↔ Dep I gs D x := ⟨fun h => by have := h.not; rwa [notP_notP] at this, Dep.not⟩
theorem Dep.more {gs' : List Gt} (hp : gs <+: gs') (h : Dep I gs D x) : Dep I gs' D x := by
  induction h with
  | const h h' => exact .const h h'
  | inp h h' hd => exact .inp h h' hd
  | gate i g hg hx _ _ i1 i2 =>
    obtain ⟨t, rfl⟩ := hp
    have hl := (List.getElem?_eq_some_iff.1 hg).1
    exact .gate i g (by rw [List.getElem?_append_left hl]; exact hg) hx i1 i2
theorem and_dep (hx : Dep I gs D x) (hy : Dep I gs D y) : Dep I (andL gs x y) D (andN I gs x y) := by
  cases hk : andK x y with
  | some z =>
    obtain ⟨e1, e2⟩ := and_some (I := I) (gs := gs) hk
    rw [e1, e2]
    unfold andK at hk
    split at hk
    · cases hk; exact .const (by omega) (by omega)
    · split at hk
      · cases hk; exact hy
      · split at hk
        · cases hk; exact hx
        · split at hk
          · cases hk; exact .const (by omega) (by omega)
          · cases hk
  | none =>
    have hval : Dep I gs D (gat x y).x ∧ Dep I gs D (gat x y).y := by
      rcases gat_lo x y with ⟨e1, e2⟩ | ⟨e1, e2⟩
      · rw [e1, e2]; exact ⟨hx, hy⟩
      · rw [e1, e2]; exact ⟨hy, hx⟩
    cases hi : gix gs (gat x y) with
    | some i =>
      obtain ⟨e1, e2⟩ := and_old (I := I) hk hi
      rw [e1, e2]
      obtain ⟨hl, hg, _⟩ := gix_some hi
      exact .gate i _ (by rw [List.getElem?_eq_getElem hl, hg]) (by omega) hval.1 hval.2
    | none =>
      obtain ⟨e1, e2⟩ := and_new (I := I) hk hi
      rw [e1, e2]
      have hp : gs <+: gs ++ [gat x y] := ⟨_, rfl⟩
      exact .gate gs.length (gat x y) (by rw [List.getElem?_append_right (Nat.le_refl _)]; simp) (by omega) (hval.1.more hp) (hval.2.more hp)
end

/-- laws of values and of dependence -/
structure VOk (v : Int → Bool) (d : Int → Prop) : Prop where
  zero : v 0 = false
  one : v 1 = true
  not : ∀ x, v (notP x) = !v x
  d0 : d 0
  d1 : d 1
  dnot : ∀ x, d (notP x) ↔ d x
/-- what holds in every circuit that this one grows to -/
def Hol (I : Int) (gs : List Gt) (φ : (Int → Bool) → (Int → Prop) → Prop) : Prop := ∀ (G : List Gt) (inp : List Bool) (D : Int → Prop), gs <+: G → (inp.length : Int) = I → φ (litV (nv inp G)) (Dep I G D)
theorem vok (I : Int) (G : List Gt) (inp : List Bool) (D : Int → Prop) : VOk (litV (nv inp G)) (Dep I G D) :=
  ⟨litV_zero inp G, litV_one inp G, fun x => litV_not _ x, .const (by omega) (by omega), .const (by omega) (by omega), fun x => Dep.not_iff⟩
section
variable {I : Int} {gs gs' : List Gt} {φ ψ χ : (Int → Bool) → (Int → Prop) → Prop}
theorem Hol.more (h : Hol I gs φ) (hp : gs <+: gs') : Hol I gs' φ := fun G inp D hG hI => h G inp D (hp.trans hG) hI
theorem Hol.mp (h : Hol I gs φ) (k : ∀ v d, VOk v d → φ v d → ψ v d) : Hol I gs ψ := fun G inp D hG hI => k _ _ (vok I G inp D) (h G inp D hG hI)
theorem Hol.mp2 (h : Hol I gs φ) (h2 : Hol I gs ψ) (k : ∀ v d, VOk v d → φ v d → ψ v d → χ v d) : Hol I gs χ := fun G inp D hG hI => k _ _ (vok I G inp D) (h G inp D hG hI) (h2 G inp D hG hI)
theorem Hol.triv (k : ∀ v d, VOk v d → φ v d) : Hol I gs φ := fun G inp D _ _ => k _ _ (vok I G inp D)
theorem and_hol {x y : Int} (h : CkOk I gs) (hx : isLit I gs x) (hy : isLit I gs y) : Hol I (andL gs x y) (fun v d => v (andN I gs x y) = (v x && v y) ∧ (d x → d y → d (andN I gs x y))) := by
  intro G inp D hG hI
  have r := and_ok h hx hy
  refine ⟨?_, fun h1 h2 => ?_⟩
  · rw [lit_pre hI hG r.lit, r.val inp hI, lit_pre hI (r.pre.trans hG) hx, lit_pre hI (r.pre.trans hG) hy]
  · have key : ∀ {z : Int}, isLit I gs z → Dep I G D z → Dep I gs D z := fun {z} hz hd => by
      induction hd with
      | const h h' => exact .const h h'
      | inp h h' hd => exact .inp h h' hd
      | gate i g hg hx' _ _ i1 i2 =>
        have hlen : i < gs.length := by unfold isLit at hz; omega
        have hg2 : gs[i]? = some g := by
          obtain ⟨t, ht⟩ := r.pre.trans hG
          rw [← ht, List.getElem?_append_left hlen] at hg
          exact hg
        have ho := h.ok i hlen
        have e : gs[i] = g := by rw [List.getElem?_eq_getElem hlen] at hg2; exact Option.some.inj hg2
        rw [e] at ho
        exact .gate i g hg2 hx' (i1 (by unfold isLit at *; omega)) (i2 (by unfold isLit at *; omega))
    exact (and_dep (key hx h1) (key hy h2)).more hG
theorem or_hol {x y : Int} (h : CkOk I gs) (hx : isLit I gs x) (hy : isLit I gs y) : Hol I (orL gs x y) (fun v d => v (orN I gs x y) = (v x || v y) ∧ (d x → d y → d (orN I gs x y))) := by
  refine (and_hol h hx.not hy.not).mp fun v d ho hv => ?_
  unfold orN
  rw [ho.not, ho.dnot, hv.1, ho.not, ho.not]
  refine ⟨by cases v x <;> cases v y <;> rfl, fun h1 h2 => hv.2 ((ho.dnot _).2 h1) ((ho.dnot _).2 h2)⟩
theorem mux_hol {c x y : Int} (h : CkOk I gs) (hc : isLit I gs c) (hx : isLit I gs x) (hy : isLit I gs y) : Hol I (muxL I gs c x y) (fun v d => v (muxN I gs c x y) = (if v c then v x else v y) ∧ (d c → d x → d y → d (muxN I gs c x y))) := by
  have r1 := and_ok h hc hx
  have r2 := and_ok r1.ok (hc.not.more r1.grow) (hy.more r1.grow)
  have r3 := or_ok r2.ok (r1.lit.more r2.grow) r2.lit
  have h1 := (and_hol h hc hx).more (r2.pre.trans r3.pre)
  have h2 := (and_hol r1.ok (hc.not.more r1.grow) (hy.more r1.grow)).more r3.pre
  have h3 := or_hol r2.ok (r1.lit.more r2.grow) r2.lit
  unfold muxL muxN muxB muxA
  refine (h1.mp2 h2 (χ := fun v d => (v (andN I gs c x) = (v c && v x) ∧ (d c → d x → d (andN I gs c x))) ∧ _) fun v d _ a b => ⟨a, b⟩).mp2 h3 fun v d ho ⟨a, b⟩ k => ?_
  refine ⟨?_, fun dc dx dy => k.2 (a.2 dc dx) (b.2 ((ho.dnot _).2 dc) dy)⟩
  rw [k.1, a.1, b.1, ho.not]
  cases v c <;> simp
end

/-- the number of a word, without a sign -/
def b2n (b : Bool) : Int := if b then 1 else 0
theorem b2n_lo (b : Bool) : 0 ≤ b2n b ∧ b2n b ≤ 1 := by cases b <;> decide
def un (v : Int → Bool) : List Int → Int
  | [] => 0
  | x :: l => b2n (v x) + 2 * un v l
def pw (k : Nat) : Int := 2 ^ k
theorem pw_zero : pw 0 = 1 := rfl
theorem pw_succ (k : Nat) : pw (k + 1) = 2 * pw k := by unfold pw; rw [Int.pow_succ]; omega
theorem pw_pos (k : Nat) : 0 < pw k := by
  induction k with
  | zero => decide
  | succ k ih => rw [pw_succ]; omega
theorem un_lo (v : Int → Bool) (l : List Int) : 0 ≤ un v l ∧ un v l < pw l.length := by
  induction l with
  | nil => exact ⟨Int.le_refl _, pw_pos 0⟩
  | cons x l ih =>
    have := b2n_lo (v x)
    rw [List.length_cons, pw_succ]
    simp only [un]
    omega
theorem un_append (v : Int → Bool) (l m : List Int) : un v (l ++ m) = un v l + pw l.length * un v m := by
  induction l with
  | nil => simp [un, pw_zero]
  | cons x l ih =>
    rw [List.cons_append, List.length_cons, pw_succ]
    simp only [un, ih]
    rw [Int.mul_add, Int.mul_assoc]
    omega
theorem un_snoc (v : Int → Bool) (l : List Int) (x : Int) : un v (l ++ [x]) = un v l + pw l.length * b2n (v x) := by
  rw [un_append]
  simp [un]
theorem un_take (v : Int → Bool) (l : List Int) {i : Nat} (h : i < l.length) : un v (l.take (i + 1)) = un v (l.take i) + pw i * b2n (v l[i]) := by
  rw [List.take_succ_eq_append_getElem h, un_snoc, List.length_take, Nat.min_eq_left (by omega)]
theorem b2n_not (b : Bool) : b2n (!b) = 1 - b2n b := by cases b <;> rfl
theorem b2n_inj {a b : Bool} (h : b2n a = b2n b) : a = b := by cases a <;> cases b <;> simp [b2n] at h ⊢
theorem un_inj (v : Int → Bool) : ∀ (l m : List Int), l.length = m.length → un v l = un v m → l.map v = m.map v := by
  intro l
  induction l with
  | nil => intro m h _; cases m with | nil => rfl | cons => simp at h
  | cons x l ih =>
    intro m h e
    cases m with
    | nil => simp at h
    | cons y m =>
      simp only [un] at e
      have a := b2n_lo (v x)
      have b := b2n_lo (v y)
      rw [List.map_cons, List.map_cons, ih m (by simpa using h) (by omega), b2n_inj (show b2n (v x) = b2n (v y) by omega)]
/-- all of a word's literals -/
def Lts (I : Int) (gs : List Gt) (l : List Int) : Prop := ∀ x ∈ l, isLit I gs x
theorem Lts.more {I : Int} {gs gs' : List Gt} {l : List Int} (h : Lts I gs l) (hl : gs.length ≤ gs'.length) : Lts I gs' l := fun x hx => (h x hx).more hl
theorem Lts.snoc {I : Int} {gs : List Gt} {l : List Int} {x : Int} (h : Lts I gs l) (hx : isLit I gs x) : Lts I gs (l ++ [x]) := fun y hy => by
  rw [List.mem_append, List.mem_singleton] at hy
  rcases hy with hy | rfl
  · exact h y hy
  · exact hx
theorem Lts.append {I : Int} {gs : List Gt} {l m : List Int} (h : Lts I gs l) (k : Lts I gs m) : Lts I gs (l ++ m) := fun y hy => by
  rw [List.mem_append] at hy
  exact hy.elim (h y) (k y)
theorem Lts.nil {I : Int} {gs : List Gt} : Lts I gs [] := fun x hx => by simp at hx
theorem Lts.at {I : Int} {gs : List Gt} {l : List Int} (h : Lts I gs l) {i : Nat} (hi : i < l.length) : isLit I gs l[i] := h _ (List.getElem_mem hi)
theorem Lts.sub {I : Int} {gs : List Gt} {l m : List Int} (h : Lts I gs l) (hs : ∀ x ∈ m, x ∈ l) : Lts I gs m := fun x hx => h x (hs x hx)
theorem Lts.not {I : Int} {gs : List Gt} {l : List Int} (h : Lts I gs l) : Lts I gs (l.map notP) := fun x hx => by
  obtain ⟨y, hy, rfl⟩ := List.mem_map.1 hx
  exact (h y hy).not
theorem un_not {v : Int → Bool} {d : Int → Prop} (ho : VOk v d) (l : List Int) : un v (l.map notP) = pw l.length - 1 - un v l := by
  induction l with
  | nil => rfl
  | cons x l ih =>
    rw [List.map_cons, List.length_cons, pw_succ]
    simp only [un, ih, ho.not, b2n_not]
    omega
theorem un_zeros {v : Int → Bool} {d : Int → Prop} (ho : VOk v d) (n : Nat) : un v (List.replicate n 0) = 0 := by
  induction n with
  | zero => rfl
  | succ n ih =>
    rw [List.replicate_succ]
    simp [un, ih, ho.zero, b2n]
/-- all of a word's literals depend on -/
def Dps (d : Int → Prop) (l : List Int) : Prop := ∀ x ∈ l, d x
theorem Dps.snoc {d : Int → Prop} {l : List Int} {x : Int} (h : Dps d l) (hx : d x) : Dps d (l ++ [x]) := fun y hy => by
  rw [List.mem_append, List.mem_singleton] at hy
  rcases hy with hy | rfl
  · exact h y hy
  · exact hx
theorem Dps.nil (d : Int → Prop) : Dps d [] := fun x hx => by simp at hx
theorem Dps.at {d : Int → Prop} {l : List Int} (h : Dps d l) {i : Nat} (hi : i < l.length) : d l[i] := h _ (List.getElem_mem hi)
theorem Dps.append {d : Int → Prop} {l m : List Int} (h : Dps d l) (k : Dps d m) : Dps d (l ++ m) := fun y hy => by
  rw [List.mem_append] at hy
  exact hy.elim (h y) (k y)
theorem Dps.sub {d : Int → Prop} {l m : List Int} (h : Dps d l) (hs : ∀ x ∈ m, x ∈ l) : Dps d m := fun x hx => h x (hs x hx)
end Go.Proofs.Ytbcabnbgkicfdaa
