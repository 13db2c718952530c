/- What is proved: classes and types do not depend on the order of the constraints: plain mathematics. -/
import Derived.Test.YtmamajillkajoaaDoorCoGra
set_option linter.unusedVariables false
namespace Go.Proofs.YtmamajillkajoaaDoor
open Go.RowKit

/-- every constraint of one list is in the other one -/
def Sub (l l' : List Con) : Prop := ∀ c, c ∈ l → c ∈ l'
theorem Adj.sub {l l' : List Con} (h : Sub l l') {u v : Nat} : Adj l u v → Adj l' u v := by
  rintro ⟨k, c, h1, h2, h3⟩
  obtain ⟨j, hj⟩ := List.getElem?_of_mem (h c (List.mem_of_getElem? h1))
  exact ⟨j, c, hj, h2, h3⟩
theorem Mk.sub {l l' : List Con} (h : Sub l l') {v : Nat} {t : TyV} : Mk l v t → Mk l' v t := by
  rintro ⟨k, c, h1, h2, h3⟩
  obtain ⟨j, hj⟩ := List.getElem?_of_mem (h c (List.mem_of_getElem? h1))
  exact ⟨j, c, hj, h2, h3⟩
theorem Rk.sub {l l' : List Con} (h : Sub l l') : ∀ {k u v : Nat}, Rk l k u v → Rk l' k u v
  | 0, u, v, e => e
  | k + 1, u, v, ⟨w, h1, h2⟩ => ⟨w, Rk.sub h h1, h2.sub h⟩
theorem Conn.sub {l l' : List Con} (h : Sub l l') {u v : Nat} : Conn l u v → Conn l' u v := by
  rintro ⟨k, hk⟩
  exact ⟨k, hk.sub h⟩
theorem cls_sub {l l' : List Con} {n r u : Nat} (hp : ∀ x ∈ l, posB n x = true) (hp' : ∀ x ∈ l', posB n x = true) (h : Sub l l') (hr : r < n) (hu : u ∈ cls l n r) : u ∈ cls l' n r :=
  (cls_iff hp' hr).2 (((cls_iff hp hr).1 hu).sub h)

/-- the classes of both lists, by the same vertices -/
theorem clss_pair {l l' : List Con} {n : Nat} (hp : ∀ x ∈ l, posB n x = true) (hp' : ∀ x ∈ l', posB n x = true) (h : Sub l l') (h' : Sub l' l) : ∀ k, k ≤ n → ∃ rs : List Nat, (∀ r ∈ rs, r < k) ∧ clss l n k = rs.map (cls l n) ∧ clss l' n k = rs.map (cls l' n)
  | 0, _ => ⟨[], by simp, rfl, rfl⟩
  | k + 1, hk => by
    obtain ⟨rs, h1, h2, h3⟩ := clss_pair hp hp' h h' k (by omega)
    have e : (clss l n k).any (fun c => c.contains k) = (clss l' n k).any (fun c => c.contains k) := by
      rw [Bool.eq_iff_iff, List.any_eq_true, List.any_eq_true, h2, h3]
      constructor
      · rintro ⟨c, hc, hk'⟩
        obtain ⟨r, hr, rfl⟩ := List.mem_map.1 hc
        exact ⟨_, List.mem_map.2 ⟨r, hr, rfl⟩, List.contains_iff_mem.2 (cls_sub hp hp' h (by have := h1 r hr; omega) (List.contains_iff_mem.1 hk'))⟩
      · rintro ⟨c, hc, hk'⟩
        obtain ⟨r, hr, rfl⟩ := List.mem_map.1 hc
        exact ⟨_, List.mem_map.2 ⟨r, hr, rfl⟩, List.contains_iff_mem.2 (cls_sub hp' hp h' (by have := h1 r hr; omega) (List.contains_iff_mem.1 hk'))⟩
    rw [clss_succ, clss_succ, ← e]
    cases (clss l n k).any (fun c => c.contains k) with
    | true => exact ⟨rs, fun r hr => by have := h1 r hr; omega, h2, h3⟩
    | false =>
      refine ⟨rs ++ [k], fun r hr => ?_, by rw [h2]; simp, by rw [h3]; simp⟩
      rcases List.mem_append.1 hr with hr | hr
      · have := h1 r hr; omega
      · have : r = k := by simpa using hr
        omega

/-- what is known behind marks S -/
def JM (S : TyV → Prop) (t : TyV) : Prop := (t = noT ∧ ∀ x, ¬ S x) ∨ (S t ∧ ∀ x, S x → x = t ∨ covB x t = true)
theorem cov_not {a b c : TyV} (h : covB a b = true) : covB b c = false := by
  unfold covB at h ⊢
  split at h
  · have : b.kind = 3 := by simpa using h
    rw [if_neg (by omega), if_neg (by omega)]
  · split at h
    · have : b.kind = 1 ∨ b.kind = 2 := by simpa using h
      rw [if_neg (by omega), if_neg (by omega)]
    · cases h
theorem cov_self (a : TyV) : covB a a = false := by
  cases h : covB a a with
  | false => rfl
  | true => rw [cov_not h] at h; cases h
/-- two marks that cover the same are equal -/
theorem cov_both {a b c : TyV} (h1 : markB a = true) (h2 : markB b = true) (ha : covB a c = true) (hb : covB b c = true) : a = b := by
  have key : (a.kind = 5 ∧ b.kind = 5) ∨ (a.kind = 6 ∧ b.kind = 6) := by
    unfold covB at ha hb
    split at ha <;> split at hb
    · left; omega
    · split at hb
      · exfalso; simp at ha hb; omega
      · cases hb
    · split at ha
      · exfalso; simp at ha hb; omega
      · cases ha
    · split at ha
      · split at hb
        · right; omega
        · cases hb
      · cases ha
  rw [mark_plain (by omega)] at h1 h2
  obtain ⟨ak, al, an⟩ := a
  obtain ⟨bk, bl, bn⟩ := b
  refine tyB_iff.1 ?_
  unfold tyB
  simp [noB] at h1 h2 key ⊢
  refine ⟨by omega, by omega, ?_⟩
  rw [h1.2, h2.2]
theorem excl_iff {a b : TyV} (ha : markB a = true) (hb : markB b = true) : exclB a b = false ↔ a = b ∨ covB a b = true ∨ covB b a = true := by
  unfold exclB
  rw [ha, hb, ← tyB_iff]
  cases tyB a b <;> cases covB a b <;> cases covB b a <;> simp
theorem JM.calm {S : TyV → Prop} {t : TyV} (h : JM S t) (hm : ∀ x, S x → markB x = true) {x y : TyV} (hx : S x) (hy : S y) : exclB x y = false := by
  rcases h with ⟨_, h⟩ | ⟨h0, h⟩
  · exact (h x hx).elim
  · rw [excl_iff (hm x hx) (hm y hy)]
    rcases h x hx with rfl | e1 <;> rcases h y hy with rfl | e2
    · exact .inl rfl
    · exact .inr (.inr e2)
    · exact .inr (.inl e1)
    · exact .inl (cov_both (hm x hx) (hm y hy) e1 e2)
theorem JM.same {S : TyV → Prop} {t u : TyV} (h : JM S t) (g : JM S u) : t = u := by
  rcases h with ⟨h1, h2⟩ | ⟨h1, h2⟩ <;> rcases g with ⟨g1, g2⟩ | ⟨g1, g2⟩
  · rw [h1, g1]
  · exact (h2 _ g1).elim
  · exact (g2 _ h1).elim
  · rcases h2 u g1 with e | e
    · exact e.symm
    · rcases g2 t h1 with e2 | e2
      · exact e2
      · rw [cov_not e] at e2; cases e2
theorem JM.congr {S S' : TyV → Prop} {t : TyV} (h : JM S t) (e : ∀ x, S x ↔ S' x) : JM S' t := by
  rcases h with ⟨h1, h2⟩ | ⟨h1, h2⟩
  · exact .inl ⟨h1, fun x hx => h2 x ((e x).2 hx)⟩
  · exact .inr ⟨(e t).1 h1, fun x hx => h2 x ((e x).2 hx)⟩
theorem cmn_spec (l : List Con) : ∀ (is : List Nat) (t : TyV) (S : TyV → Prop), (∀ i ∈ is, i < l.length ∧ markB (markAt l i) = true) → (∀ x, S x → markB x = true) → JM S t →
    (cmn l is t = none → ∃ x y, (S x ∨ ∃ i ∈ is, markAt l i = x) ∧ (S y ∨ ∃ i ∈ is, markAt l i = y) ∧ exclB x y = true) ∧ (∀ u, cmn l is t = some u → JM (fun x => S x ∨ ∃ i ∈ is, markAt l i = x) u)
  | [], t, S, _, _, hJ => ⟨fun h => by simp [cmn] at h, fun u h => by
      have : t = u := by simpa [cmn] using h
      subst this
      exact hJ.congr fun x => by simp⟩
  | i :: is, t, S, hi, hS, hJ => by
    obtain ⟨h1, h2⟩ := hi i (List.mem_cons_self ..)
    have hc : l[i]? = some l[i] := List.getElem?_eq_getElem h1
    rw [markAt_eq h1] at h2
    unfold cmn
    rw [hc]
    dsimp only
    generalize hm : l[i].mark = m at *
    have hme : markAt l i = m := by rw [markAt_eq h1, hm]
    cases hx : exclB t m with
    | true =>
      rw [if_pos rfl]
      refine ⟨fun _ => ?_, fun u h => by cases h⟩
      rcases hJ with ⟨rfl, _⟩ | ⟨h0, _⟩
      · have : exclB noT m = false := rfl
        rw [this] at hx; cases hx
      · exact ⟨t, m, .inl h0, .inr ⟨i, List.mem_cons_self .., hme⟩, hx⟩
    | false =>
      rw [if_neg (by decide)]
      have hJ1 : JM (fun x => S x ∨ x = m) (if t.kind == 0 || covB t m then m else t) := by
        rcases hJ with ⟨rfl, h0⟩ | ⟨h0, h3⟩
        · rw [show (noT.kind == 0 || covB noT m) = true from rfl, if_pos rfl]
          refine .inr ⟨.inr rfl, fun x hx => ?_⟩
          rcases hx with hx | hx
          · exact (h0 x hx).elim
          · exact .inl hx
        · have hk : (t.kind == 0) = false := by
            have := hS t h0
            cases hk : (t.kind == 0) with
            | false => rfl
            | true =>
              have e0 : t.kind = 0 := by simpa using hk
              rw [mark_none (by rw [e0]; rfl) (by rw [e0]; rfl) (by rw [e0]; rfl) (by rw [e0]; rfl) (by rw [e0]; rfl) (by rw [e0]; rfl)] at this
              cases this
          rw [hk, Bool.false_or]
          cases hcv : covB t m with
          | true =>
            rw [if_pos rfl]
            refine .inr ⟨.inr rfl, fun x hx => ?_⟩
            rcases hx with hx | hx
            · rcases h3 x hx with rfl | e
              · exact .inr hcv
              · rw [cov_not e] at hcv; cases hcv
            · exact .inl hx
          | false =>
            rw [if_neg (by decide)]
            refine .inr ⟨.inl h0, fun x hx => ?_⟩
            rcases hx with hx | rfl
            · exact h3 x hx
            · rcases (excl_iff (hS t h0) h2).1 hx with e | e | e
              · exact .inl e.symm
              · rw [hcv] at e; cases e
              · exact .inr e
      obtain ⟨q1, q2⟩ := cmn_spec l is _ (fun x => S x ∨ x = m) (fun j hj => hi j (List.mem_cons_of_mem _ hj)) (fun x hx => hx.elim (hS x) (fun e => by rw [e]; exact h2)) hJ1
      have hiff : ∀ x, ((S x ∨ x = m) ∨ ∃ j ∈ is, markAt l j = x) ↔ (S x ∨ ∃ j ∈ i :: is, markAt l j = x) := fun x => by
        constructor
        · rintro ((h | h) | ⟨j, hj, h⟩)
          · exact .inl h
          · exact .inr ⟨i, List.mem_cons_self .., by rw [hme, h]⟩
          · exact .inr ⟨j, List.mem_cons_of_mem _ hj, h⟩
        · rintro (h | ⟨j, hj, h⟩)
          · exact .inl (.inl h)
          · rcases List.mem_cons.1 hj with rfl | hj
            · exact .inl (.inr (by rw [← h, hme]))
            · exact .inr ⟨j, hj, h⟩
      refine ⟨fun h => ?_, fun u h => (q2 u h).congr hiff⟩
      obtain ⟨x, y, k1, k2, k3⟩ := q1 h
      exact ⟨x, y, (hiff x).1 k1, (hiff y).1 k2, k3⟩

/-- a vertex' class has a mark -/
def MarkOf (l : List Con) (r : Nat) (t : TyV) : Prop := ∃ v, Conn l r v ∧ Mk l v t
theorem mks_iff {l : List Con} {cl : List Nat} {e : Nat} : e ∈ mks l cl ↔ ∃ v ∈ cl, e ∈ mrk l v l.length := by
  unfold mks
  rw [(srt_perm _).mem_iff, List.mem_flatMap]
theorem markOf_iff {l : List Con} {n r : Nat} {t : TyV} (hp : ∀ x ∈ l, posB n x = true) (hr : r < n) : (∃ i ∈ mks l (cls l n r), markAt l i = t) ↔ MarkOf l r t := by
  constructor
  · rintro ⟨i, hi, ht⟩
    obtain ⟨v, hv, hm⟩ := mks_iff.1 hi
    exact ⟨v, (cls_iff hp hr).1 hv, (mk_iff hp).1 ⟨i, hm, ht⟩⟩
  · rintro ⟨v, hv, hm⟩
    obtain ⟨i, hi, ht⟩ := (mk_iff hp).2 hm
    exact ⟨i, mks_iff.2 ⟨v, (cls_iff hp hr).2 hv, hi⟩, ht⟩
theorem mk_mark {l : List Con} {n v : Nat} {t : TyV} (hp : ∀ x ∈ l, posB n x = true) (h : Mk l v t) : markB t = true := by
  obtain ⟨k, c, h1, h2, h3, rfl⟩ := h
  rcases (pos_cases (hp c (List.mem_of_getElem? h1))).2 with ⟨_, h⟩ | ⟨h, _⟩
  · exact h
  · rw [h] at h2; cases h2
theorem cmn_cls {l : List Con} {n r : Nat} (hp : ∀ x ∈ l, posB n x = true) (hr : r < n) :
    (cmn l (mks l (cls l n r)) noT = none → ∃ x y, MarkOf l r x ∧ MarkOf l r y ∧ exclB x y = true) ∧ (∀ u, cmn l (mks l (cls l n r)) noT = some u → JM (MarkOf l r) u) := by
  have hiff : ∀ x, (False ∨ ∃ j ∈ mks l (cls l n r), markAt l j = x) ↔ MarkOf l r x := fun x => by rw [false_or]; exact markOf_iff hp hr
  obtain ⟨q1, q2⟩ := cmn_spec l (mks l (cls l n r)) noT (fun _ => False) (fun i hi => ⟨mks_lt hi, by
    obtain ⟨v, _, hm⟩ := (markOf_iff hp hr).1 ⟨i, hi, rfl⟩
    exact mk_mark hp hm⟩) (fun _ h => h.elim) (.inl ⟨rfl, fun _ h => h⟩)
  refine ⟨fun h => ?_, fun u h => (q2 u h).congr hiff⟩
  obtain ⟨x, y, k1, k2, k3⟩ := q1 h
  exact ⟨x, y, (hiff x).1 k1, (hiff y).1 k2, k3⟩
theorem MarkOf.sub {l l' : List Con} (h : Sub l l') {r : Nat} {t : TyV} : MarkOf l r t → MarkOf l' r t := by
  rintro ⟨v, h1, h2⟩
  exact ⟨v, h1.sub h, h2.sub h⟩
theorem MarkOf.mark {l : List Con} {n r : Nat} {t : TyV} (hp : ∀ x ∈ l, posB n x = true) (h : MarkOf l r t) : markB t = true := by
  obtain ⟨v, _, h⟩ := h
  exact mk_mark hp h
/-- what is known of a class depends on its marks alone -/
theorem cmn_same {l l' : List Con} {n r : Nat} (hp : ∀ x ∈ l, posB n x = true) (hp' : ∀ x ∈ l', posB n x = true) (hr : r < n) (h : Sub l l') (h' : Sub l' l) : cmn l (mks l (cls l n r)) noT = cmn l' (mks l' (cls l' n r)) noT := by
  obtain ⟨a1, a2⟩ := cmn_cls hp hr
  obtain ⟨b1, b2⟩ := cmn_cls hp' hr
  have hiff : ∀ x, MarkOf l r x ↔ MarkOf l' r x := fun x => ⟨MarkOf.sub h, MarkOf.sub h'⟩
  cases ea : cmn l (mks l (cls l n r)) noT with
  | none =>
    cases eb : cmn l' (mks l' (cls l' n r)) noT with
    | none => rfl
    | some u =>
      obtain ⟨x, y, k1, k2, k3⟩ := a1 ea
      rw [(b2 u eb).calm (fun x hx => hx.mark hp') (k1.sub h) (k2.sub h)] at k3
      cases k3
  | some t =>
    cases eb : cmn l' (mks l' (cls l' n r)) noT with
    | none =>
      obtain ⟨x, y, k1, k2, k3⟩ := b1 eb
      rw [(a2 t ea).calm (fun x hx => hx.mark hp) (k1.sub h') (k2.sub h')] at k3
      cases k3
    | some u => rw [((a2 t ea).congr hiff).same (b2 u eb)]
theorem typ_same {l l' : List Con} {n r : Nat} (hp : ∀ x ∈ l, posB n x = true) (hp' : ∀ x ∈ l', posB n x = true) (hr : r < n) (h : Sub l l') (h' : Sub l' l) : typ l (cls l n r) = typ l' (cls l' n r) := by
  unfold typ
  rw [cmn_same hp hp' hr h h']
end Go.Proofs.YtmamajillkajoaaDoor
