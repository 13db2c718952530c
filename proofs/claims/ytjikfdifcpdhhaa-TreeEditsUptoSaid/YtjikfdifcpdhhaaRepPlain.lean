/- What is proved: plain facts on trees whose kids are replaced. -/
import Derived.Test.YtjikfdifcpdhhaaReplace
set_option linter.unusedVariables false
namespace Go.Proofs.Ytjikfdifcpdhhaa
open Go.RowKit

namespace NT
theorem getZ_setK (A' : Option Addr) (c' : Nat) (l' : List NT) : ∀ (p : List Int) (n x : NT), getZ n p = some x → getZ (setK A' c' l' p n) p = some (mk x.kind x.text x.lo x.hi A' c' l') := by
  intro p
  induction p with
  | nil => intro n x h; simp only [getZ, Option.some.injEq] at h; subst h; rfl
  | cons i p ih =>
    intro n x h
    by_cases hi : 0 ≤ i ∧ i.toNat < n.kids.length
    · rw [getZ_yes hi.1 hi.2] at h
      rw [setK_yes hi.1 hi.2]
      have hl : i.toNat < (mk n.kind n.text n.lo n.hi n.A n.c (n.kids.set i.toNat (setK A' c' l' p n.kids[i.toNat]))).kids.length := by simp only [kids, List.length_set]; exact hi.2
      rw [getZ_yes hi.1 hl]
      have e : (mk n.kind n.text n.lo n.hi n.A n.c (n.kids.set i.toNat (setK A' c' l' p n.kids[i.toNat]))).kids[i.toNat] = setK A' c' l' p n.kids[i.toNat] := by
        have key : ∀ h : i.toNat < (n.kids.set i.toNat (setK A' c' l' p n.kids[i.toNat])).length, (n.kids.set i.toNat (setK A' c' l' p n.kids[i.toNat]))[i.toNat] = setK A' c' l' p n.kids[i.toNat] := fun h => List.getElem_set_self ..
        exact key hl
      rw [e]
      exact ih _ x h
    · rw [getZ_no (by omega)] at h; cases h
theorem setK_setK (A1 A2 : Option Addr) (c1 c2 : Nat) (l1 l2 : List NT) : ∀ (p : List Int) (n x : NT), getZ n p = some x → setK A2 c2 l2 p (setK A1 c1 l1 p n) = setK A2 c2 l2 p n := by
  intro p
  induction p with
  | nil => intro n x h; rfl
  | cons i p ih =>
    intro n x h
    by_cases hi : 0 ≤ i ∧ i.toNat < n.kids.length
    · rw [getZ_yes hi.1 hi.2] at h
      rw [setK_yes hi.1 hi.2]
      have hl : i.toNat < (mk n.kind n.text n.lo n.hi n.A n.c (n.kids.set i.toNat (setK A1 c1 l1 p n.kids[i.toNat]))).kids.length := by simp only [kids, List.length_set]; exact hi.2
      rw [setK_yes hi.1 hl, setK_yes hi.1 hi.2]
      have e : (mk n.kind n.text n.lo n.hi n.A n.c (n.kids.set i.toNat (setK A1 c1 l1 p n.kids[i.toNat]))).kids[i.toNat] = setK A1 c1 l1 p n.kids[i.toNat] := by
        have key : ∀ h : i.toNat < (n.kids.set i.toNat (setK A1 c1 l1 p n.kids[i.toNat])).length, (n.kids.set i.toNat (setK A1 c1 l1 p n.kids[i.toNat]))[i.toNat] = setK A1 c1 l1 p n.kids[i.toNat] := fun h => List.getElem_set_self ..
        exact key hl
      rw [e, ih _ x h]
      show mk n.kind n.text n.lo n.hi n.A n.c ((n.kids.set i.toNat (setK A1 c1 l1 p n.kids[i.toNat])).set i.toNat (setK A2 c2 l2 p n.kids[i.toNat])) = _
      rw [List.set_set]
    · rw [getZ_no (by omega)] at h; cases h
theorem setK_self : ∀ (p : List Int) (n x : NT), getZ n p = some x → strip (setK none 0 x.kids p n) = strip n := by
  intro p
  induction p with
  | nil => intro n x h; simp only [getZ, Option.some.injEq] at h; subst h; exact (strip_iff _ _).2 ⟨rfl, rfl, rfl, rfl, rfl⟩
  | cons i p ih =>
    intro n x h
    by_cases hi : 0 ≤ i ∧ i.toNat < n.kids.length
    · rw [getZ_yes hi.1 hi.2] at h
      rw [setK_yes hi.1 hi.2]
      refine (strip_iff _ _).2 ⟨rfl, rfl, rfl, rfl, ?_⟩
      show (n.kids.set _ _).map strip = n.kids.map strip
      rw [List.map_set, ih _ x h]
      have e : strip n.kids[i.toNat] = (n.kids.map strip)[i.toNat]'(by simpa using hi.2) := by simp
      rw [e, List.set_getElem_self]
    · rw [getZ_no (by omega)] at h; cases h
theorem cnts_set : ∀ (l : List NT) (i : Nat) (y : NT) (h : i < l.length), cnts (l.set i y) + cnt l[i] = cnts l + cnt y
  | [], i, y, h => by simp at h
  | x :: xs, 0, y, h => by simp [cnts]; omega
  | x :: xs, i + 1, y, h => by
    have := cnts_set xs i y (by simpa using h)
    simp only [List.set_cons_succ, cnts, List.getElem_cons_succ]
    omega
theorem cnt_setK (A' : Option Addr) (c' : Nat) (l' : List NT) : ∀ (p : List Int) (n x : NT), getZ n p = some x → cnt (setK A' c' l' p n) + cnts x.kids = cnt n + cnts l' := by
  intro p
  induction p with
  | nil => intro n x h; simp only [getZ, Option.some.injEq] at h; subst h; rw [setK_nil, cnt_eq n]; simp only [cnt]; omega
  | cons i p ih =>
    intro n x h
    by_cases hi : 0 ≤ i ∧ i.toNat < n.kids.length
    · rw [getZ_yes hi.1 hi.2] at h
      rw [setK_yes hi.1 hi.2]
      have h1 := ih _ x h
      have h2 := cnts_set n.kids i.toNat (setK A' c' l' p n.kids[i.toNat]) hi.2
      have h3 := cnt_eq n
      simp only [cnt]
      omega
    · rw [getZ_no (by omega)] at h; cases h
end NT

/-- kids, of which some are taken out and others put in -/
theorem cut3 {α : Type} (l : List α) {F T : Nat} (h : F ≤ T) : l.take F ++ ((l.take T).drop F ++ l.drop T) = l := by
  have e1 : l.take F = (l.take T).take F := by rw [List.take_take, Nat.min_eq_left h]
  rw [e1, ← List.append_assoc, List.take_append_drop, List.take_append_drop]
theorem back_kids {α : Type} (l a : List α) {F T : Nat} (hFT : F ≤ T) (hT : T ≤ l.length) : (l.take F ++ a ++ l.drop T).take F ++ (l.take T).drop F ++ (l.take F ++ a ++ l.drop T).drop (F + a.length) = l := by
  have hF : (l.take F).length = F := by rw [List.length_take]; omega
  have e1 : (l.take F ++ a ++ l.drop T).take F = l.take F := by
    rw [List.append_assoc, List.take_append_of_le_length (by omega), List.take_of_length_le (by omega)]
  have e2 : (l.take F ++ a ++ l.drop T).drop (F + a.length) = l.drop T := by
    rw [List.drop_append_of_le_length (by simp; omega), List.drop_of_length_le (by simp; omega), List.nil_append]
  rw [e1, e2, List.append_assoc, cut3 l hFT]
/-- how many nodes there are then -/
theorem cnt_rep {n x m : NT} {p : List Int} {F T : Nat} {L : List NT} (hx : NT.getZ n p = some x) (hFT : F ≤ T) (hm : NT.strip m = NT.strip (NT.setK none 0 (x.kids.take F ++ L ++ x.kids.drop T) p n)) : NT.cnt m + NT.cnts ((x.kids.take T).drop F) = NT.cnt n + NT.cnts L := by
  have h1 := NT.cnt_setK none 0 (x.kids.take F ++ L ++ x.kids.drop T) p n x hx
  rw [← NT.cnt_of_strip hm] at h1
  have h2 := congrArg NT.cnts (cut3 x.kids hFT)
  rw [NT.cnts_append, NT.cnts_append] at h2
  rw [NT.cnts_append, NT.cnts_append] at h1
  omega
/-- replaced back: the tree as it was -/
theorem rep_back {n x m m2 : NT} {p : List Int} {F T : Nat} {L K : List NT} {r : Int} (hx : NT.getZ n p = some x) (hFT : F ≤ T) (hT : T ≤ x.kids.length) (hl : ¬ (listB x.kind = false ∧ (L.length : Int) ≠ (T : Int) - (F : Int)))
    (hm : NT.strip m = NT.strip (NT.setK none 0 (x.kids.take F ++ L ++ x.kids.drop T) p n)) (hK : K.map NT.strip = ((x.kids.take T).drop F).map NT.strip)
    (h2 : ∃ z, NT.getZ m p = some z ∧ (0 ≤ (F : Int) ∧ (F : Int) ≤ ((F + L.length : Nat) : Int) ∧ ((F + L.length : Nat) : Int) ≤ (z.kids.length : Int) → ¬ (listB z.kind = false ∧ (K.length : Int) ≠ ((F + L.length : Nat) : Int) - (F : Int)) → r = 0 ∧ NT.strip m2 = NT.strip (NT.setK none 0 (z.kids.take F ++ K ++ z.kids.drop (F + L.length)) p m))) : r = 0 ∧ NT.strip m2 = NT.strip n := by
  obtain ⟨z, hz, himp⟩ := h2
  obtain ⟨y, hy, hyx⟩ := NT.getZ_strip p m _ hm _ (NT.getZ_setK none 0 (x.kids.take F ++ L ++ x.kids.drop T) p n x hx)
  rw [hz] at hy
  cases hy
  have hs := (NT.strip_iff _ _).1 hyx
  have hkd : z.kind = x.kind := hs.1
  have hks : z.kids.map NT.strip = (x.kids.take F ++ L ++ x.kids.drop T).map NT.strip := hs.2.2.2.2
  have hlen := congrArg List.length hks
  simp only [List.length_map, List.length_append, List.length_take, List.length_drop] at hlen
  have hKl := congrArg List.length hK
  simp only [List.length_map, List.length_take, List.length_drop] at hKl
  obtain ⟨hr, hm2⟩ := himp ⟨by omega, by omega, by omega⟩ (by
    rw [hkd]
    rintro ⟨h1, h3⟩
    apply hl
    refine ⟨h1, fun e => h3 ?_⟩
    omega)
  refine ⟨hr, hm2.trans ?_⟩
  rw [NT.strip_setK none none 0 0 (l' := z.kids.take F ++ K ++ z.kids.drop (F + L.length)) (l'' := x.kids) ?_ p m _ hm, NT.setK_setK _ _ _ _ _ _ p n x hx, NT.setK_self p n x hx]
  have hb := back_kids (x.kids.map NT.strip) (L.map NT.strip) hFT (by simpa using hT)
  rw [List.map_append, List.map_append, List.map_take, List.map_drop, hks, hK]
  simp only [List.map_append, List.map_take, List.map_drop, List.length_map] at hb ⊢
  exact hb
theorem rep_zero {n m : NT} {p : List Int} {f t : Int} {L : List NT} (h : RepRes n p f t L m 0) : ∃ x, NT.getZ n p = some x ∧ 0 ≤ f ∧ f ≤ t ∧ t ≤ (x.kids.length : Int) ∧ ¬ (listB x.kind = false ∧ (L.length : Int) ≠ t - f) ∧ NT.strip m = NT.strip (NT.setK none 0 (x.kids.take f.toNat ++ L ++ x.kids.drop t.toNat) p n) := by
  have h2 := h.2
  cases hg : NT.getZ n p with
  | none =>
    rw [hg] at h2
    have h3 : (0 : Int) = 7 := h2
    exact absurd h3 (by decide)
  | some x =>
    rw [hg] at h2
    by_cases hr : 0 ≤ f ∧ f ≤ t ∧ t ≤ (x.kids.length : Int)
    · have h3 : (if listB x.kind = false ∧ (L.length : Int) ≠ t - f then (0 : Int) = 1 else (0 : Int) = 0 ∧ NT.strip m = NT.strip (NT.setK none 0 (x.kids.take f.toNat ++ L ++ x.kids.drop t.toNat) p n)) := by
        have h4 : (if 0 ≤ f ∧ f ≤ t ∧ t ≤ (x.kids.length : Int) then (if listB x.kind = false ∧ (L.length : Int) ≠ t - f then (0 : Int) = 1 else (0 : Int) = 0 ∧ NT.strip m = NT.strip (NT.setK none 0 (x.kids.take f.toNat ++ L ++ x.kids.drop t.toNat) p n)) else (0 : Int) = 2) := h2
        rwa [if_pos hr] at h4
      by_cases hl : listB x.kind = false ∧ (L.length : Int) ≠ t - f
      · rw [if_pos hl] at h3; exact absurd h3 (by decide)
      · rw [if_neg hl] at h3
        exact ⟨x, rfl, hr.1, hr.2.1, hr.2.2, hl, h3.2⟩
    · have h4 : (if 0 ≤ f ∧ f ≤ t ∧ t ≤ (x.kids.length : Int) then (if listB x.kind = false ∧ (L.length : Int) ≠ t - f then (0 : Int) = 1 else (0 : Int) = 0 ∧ NT.strip m = NT.strip (NT.setK none 0 (x.kids.take f.toNat ++ L ++ x.kids.drop t.toNat) p n)) else (0 : Int) = 2) := h2
      rw [if_neg hr] at h4
      exact absurd h4 (by decide)
theorem rep_back2 {n x m m2 : NT} {p : List Int} {F T : Nat} {L K : List NT} {r : Int} (hx : NT.getZ n p = some x) (hFT : F ≤ T) (hT : T ≤ x.kids.length) (hl : ¬ (listB x.kind = false ∧ (L.length : Int) ≠ (T : Int) - (F : Int)))
    (hm : NT.strip m = NT.strip (NT.setK none 0 (x.kids.take F ++ L ++ x.kids.drop T) p n)) (hK : K.map NT.strip = ((x.kids.take T).drop F).map NT.strip)
    (h : RepRes m p (F : Int) ((F + L.length : Nat) : Int) K m2 r) : r = 0 ∧ NT.strip m2 = NT.strip n := by
  refine rep_back hx hFT hT hl hm hK ?_
  obtain ⟨z, hz, _⟩ := NT.getZ_strip p m _ hm _ (NT.getZ_setK none 0 (x.kids.take F ++ L ++ x.kids.drop T) p n x hx)
  refine ⟨z, hz, fun hr hn => ?_⟩
  have h2 := h.2
  rw [hz] at h2
  have h4 : (if 0 ≤ (F : Int) ∧ (F : Int) ≤ ((F + L.length : Nat) : Int) ∧ ((F + L.length : Nat) : Int) ≤ (z.kids.length : Int) then (if listB z.kind = false ∧ (K.length : Int) ≠ ((F + L.length : Nat) : Int) - (F : Int) then r = 1 else r = 0 ∧ NT.strip m2 = NT.strip (NT.setK none 0 (z.kids.take F ++ K ++ z.kids.drop (F + L.length)) p m)) else r = 2) := h2
  rw [if_pos hr, if_neg hn] at h4
  exact h4
end Go.Proofs.Ytjikfdifcpdhhaa
