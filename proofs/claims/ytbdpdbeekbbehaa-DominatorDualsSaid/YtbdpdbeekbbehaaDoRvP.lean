/- What is proved: the reversed flow, as mathematics: its tree of dominators is the tree of postdominators. -/
import Derived.Test.YtbdpdbeekbbehaaDoRefI
import Derived.Test.YtbdpdbeekbbehaaDoSmall
set_option linter.unusedVariables false
namespace Go.Proofs.Ytbdpdbeekbbehaa
open Go.RowKit Go.Shelf

/-- 1 for 0, 0 for 1 -/
def oth (n : Nat) : Nat := if n < 2 then 1 - n else n
theorem oth_oth (n : Nat) : oth (oth n) = n := by
  unfold oth
  by_cases h : n < 2
  · rw [if_pos h, if_pos (by omega)]; omega
  · rw [if_neg h, if_neg h]
theorem oth_lt {n m : Nat} (h : 2 ≤ m) (hn : n < m) : oth n < m := by unfold oth; split <;> omega
theorem oth_inj {a b : Nat} (h : oth a = oth b) : a = b := by rw [← oth_oth a, h, oth_oth]
theorem oth_one : oth 1 = 0 := rfl
theorem oth_zero : oth 0 = 1 := rfl
/-- the edges with their ends exchanged -/
def othE (E : Nat → List Nat) (v : Nat) : List Nat := (E v).map oth
/-- where the reversed edges of v lead -/
def rvE (E : Nat → List Nat) (n v : Nat) : List Nat := (bk (othE E) n v).map oth
theorem rvE_mem {E : Nat → List Nat} {n v q : Nat} : q ∈ rvE E n v ↔ oth q < n ∧ oth v ∈ E (oth q) := by
  unfold rvE
  simp only [List.mem_map, bk_mem]
  constructor
  · rintro ⟨u, ⟨h1, h2⟩, rfl⟩
    rw [oth_oth]
    obtain ⟨x, hx, rfl⟩ := List.mem_map.1 h2
    rw [oth_oth]
    exact ⟨h1, hx⟩
  · rintro ⟨h1, h2⟩
    exact ⟨oth q, ⟨h1, List.mem_map.2 ⟨oth v, h2, oth_oth v⟩⟩, oth_oth q⟩
/-- two graphs that are the same but for names -/
structure IsoE (E G : Nat → List Nat) : Prop where
  eg : ∀ q v, q ∈ G v ↔ oth q ∈ E (oth v)
section
variable {E G : Nat → List Nat} {r a b : Nat}
theorem IsoE.symm (h : IsoE E G) : IsoE G E := ⟨fun q v => by rw [h.eg, oth_oth, oth_oth]⟩
theorem IsoE.rch (h : IsoE E G) {X : Nat → Prop} (hr : Rch G X a b) : Rch E (fun x => X (oth x)) (oth a) (oth b) := by
  induction hr with
  | here hx => exact .here (by rw [oth_oth]; exact hx)
  | step _ h1 h2 ih => exact .step ih ((h.eg _ _).1 h1) (by rw [oth_oth]; exact h2)
theorem IsoE.rea (h : IsoE E G) (hr : Rea G a b) : Rea E (oth a) (oth b) := h.rch hr
theorem IsoE.dom1 (h : IsoE E G) (hd : Dom G r a b) : Dom E (oth r) (oth a) (oth b) := by
  refine ⟨h.rea hd.1, fun g => hd.2 ?_⟩
  have g2 := h.symm.rch g
  rw [oth_oth, oth_oth] at g2
  exact g2.mono fun x hx e => hx (by rw [e])
theorem IsoE.dom (h : IsoE E G) : Dom G r a b ↔ Dom E (oth r) (oth a) (oth b) := by
  refine ⟨h.dom1, fun g => ?_⟩
  have g2 := h.symm.dom1 g
  rw [oth_oth, oth_oth, oth_oth] at g2
  exact g2
/-- a tree of the one is the tree of the other -/
theorem IsoE.tree (h : IsoE E G) {ov og : Nat → Int} (h1 : DTree E (oth r) ov) (h2 : DTree G r og) (i : Nat) : (og (oth i) < 0 → ov i = og (oth i)) ∧ ∀ c : Nat, og (oth i) = (c : Int) → ov i = (oth c : Nat) := by
  have hneg : ∀ j, og j < 0 → og j = -1 := fun j hj => by
    by_cases e : j = r
    · rw [e]; exact h2.rt
    · by_cases hj2 : Rea G r j
      · obtain ⟨c, hc, _⟩ := h2.pos j hj2 e
        omega
      · exact h2.non j hj2
  constructor
  · intro hm
    rw [hneg _ hm]
    by_cases e : i = oth r
    · rw [e]; exact h1.rt
    · refine h1.non i fun g => ?_
      have g2 := h.symm.rea g
      rw [oth_oth] at g2
      obtain ⟨c, hc, _⟩ := h2.pos _ g2 (fun e2 => e (by rw [← e2, oth_oth]))
      omega
  · intro c hc
    have hri : Rea G r (oth i) := Classical.byContradiction fun hn => by rw [h2.non _ hn] at hc; omega
    have hci : c ≠ oth i := fun e => by
      obtain ⟨pl, N, hk⟩ := h2.rk
      have := (hk _ _ hc).1
      rw [e] at this
      omega
    have hd := (h2.dom (oth i) c hri).1 (.one hc)
    have hrc : Rea G r c := by
      obtain ⟨c', hc', hr'⟩ := h2.pos (oth i) hri (fun e => by rw [e, h2.rt] at hc; omega)
      rw [hc] at hc'
      have := Int.ofNat.inj hc'
      subst this
      exact hr'
    refine h1.imm (c0 := oth c) ?_ (fun e => hci (by rw [← e, oth_oth])) fun y hy hne => ?_
    · have g := h.dom.1 hd
      rw [oth_oth] at g
      exact g
    · have g := h.symm.dom.1 hy
      rw [oth_oth] at g
      have g2 := (h2.dom (oth i) (oth y) hri).2 g
      rcases g2.cases' with e | ⟨z, e, g3⟩
      · exact absurd (oth_inj e.symm) hne
      · rw [hc] at e
        have := Int.ofNat.inj e
        subst this
        have g4 := h.dom.1 ((h2.dom c (oth y) hrc).1 g3)
        rw [oth_oth] at g4
        exact g4
end
/-- a flow's points with the edges reversed -/
def rvL (R : Nat → Option Addr × Nat) (E : Nat → List Nat) (n : Nat) : List PtV := (List.range n).map fun v => ⟨0, 0, (R v).1, (R v).2, zl (rvE E n v)⟩
section
variable {R : Nat → Option Addr × Nat} {l : List PtV}
theorem rvL_len (E : Nat → List Nat) (n : Nat) : (rvL R E n).length = n := by simp [rvL]
theorem zl_nat (l : List Nat) : (zl l).map Int.toNat = l := by
  unfold zl
  rw [List.map_map]
  conv => rhs; rw [← List.map_id l]
  exact List.map_congr_left fun x _ => by simp
theorem rvL_edg (E : Nat → List Nat) (n v : Nat) (h : v < n) : edg (rvL R E n) v = rvE E n v := by
  unfold edg rvL
  rw [List.getElem?_eq_getElem (by simpa using h)]
  simp only [List.getElem_map, List.getElem_range, Option.map_some, Option.getD_some]
  exact zl_nat _
theorem rvL_out (E : Nat → List Nat) (n v : Nat) (h : ¬ v < n) : edg (rvL R E n) v = [] := edg_out (by rw [rvL_len]; omega)
theorem edg_one (hl : FlOk l) : edg l 1 = [] := by
  have h := hl.ok
  unfold validP at h
  simp only [Bool.and_eq_true] at h
  have h2 := h.1.2
  have h3 := hl.two
  unfold edg
  rw [List.getElem?_eq_getElem (show 1 < l.length by omega)] at h2 ⊢
  simp only [Option.map_some, Option.getD_some] at h2 ⊢
  cases hq : l[1].nx with
  | nil => rfl
  | cons a t => rw [hq] at h2; simp at h2
theorem edg_in (hl : FlOk l) {u x : Nat} (h : x ∈ edg l u) : u < l.length ∧ 0 < x ∧ x < l.length := by
  have hu : u < l.length := by
    by_cases hu : u < l.length
    · exact hu
    · rw [edg_out (by omega)] at h; simp at h
  exact ⟨hu, (edg_zl hl.ok hu).2 x h⟩
theorem rvL_mem (hl : FlOk l) {v q : Nat} : q ∈ edg (rvL R (edg l) l.length) v ↔ oth v ∈ edg l (oth q) := by
  have h2 := hl.two
  by_cases hv : v < l.length
  · rw [rvL_edg _ _ _ hv, rvE_mem]
    exact ⟨fun h => h.2, fun h => ⟨(edg_in hl h).1, h⟩⟩
  · rw [rvL_out _ _ _ hv]
    constructor
    · intro h; simp at h
    · intro h
      have h3 := (edg_in hl h).2.2
      have h4 := oth_lt h2 h3
      rw [oth_oth] at h4
      exact absurd h4 hv
theorem rvL_iso (hl : FlOk l) : IsoE (bke l) (edg (rvL R (edg l) l.length)) := ⟨fun q v => by
  rw [rvL_mem hl]
  exact (hl.bmem _ _).symm⟩
theorem rvL_valid (hl : FlOk l) : validP (rvL R (edg l) l.length) = true := by
  have h2 := hl.two
  have hn := hl.n
  have e1 : ((rvL R (edg l) l.length)[1]?.map PtV.nx).getD [] = [] := by
    unfold rvL
    rw [List.getElem?_eq_getElem (by simp; omega)]
    simp only [List.getElem_map, List.getElem_range, Option.map_some, Option.getD_some]
    have : rvE (edg l) l.length 1 = [] := by
      cases hq : rvE (edg l) l.length 1 with
      | nil => rfl
      | cons a t =>
        have hm : a ∈ rvE (edg l) l.length 1 := by rw [hq]; simp
        have h3 := (rvE_mem.1 hm).2
        have h4 := (edg_in hl h3).2.1
        rw [oth_one] at h4
        omega
    rw [this]
    rfl
  unfold validP
  rw [e1, rvL_len]
  simp only [Bool.and_eq_true, decide_eq_true_eq, List.all_eq_true]
  refine ⟨⟨⟨h2, by omega⟩, by rfl⟩, fun p hp x hx => ?_⟩
  unfold rvL at hp
  obtain ⟨v, hv, rfl⟩ := List.mem_map.1 hp
  have hx2 : x ∈ zl (rvE (edg l) l.length v) := hx
  obtain ⟨q, hq, rfl⟩ := List.mem_map.1 hx2
  have h3 := rvE_mem.1 hq
  have h4 := oth_lt h2 h3.1
  rw [oth_oth] at h4
  refine ⟨?_, by omega⟩
  have h5 : q ≠ 0 := fun e => by
    have h6 := h3.2
    rw [e, oth_zero, edg_one hl] at h6
    simp at h6
  omega
theorem othE_len {n : Nat} (hs : smB n l = true) (u : Nat) : (othE (edg l) u).length ≤ 8 := by
  unfold othE
  rw [List.length_map]
  by_cases hu : u < l.length
  · unfold edg
    rw [List.getElem?_eq_getElem hu]
    simp only [Option.map_some, Option.getD_some, List.length_map]
    unfold smB at hs
    simp only [Bool.and_eq_true, List.all_eq_true, decide_eq_true_eq] at hs
    exact hs.1 _ (List.getElem_mem hu)
  · rw [edg_out (by omega)]; simp
theorem rvE_len (hs : smB 14 l = true) (v : Nat) : (rvE (edg l) l.length v).length ≤ 112 := by
  unfold rvE
  rw [List.length_map]
  have h1 := smB_len hs
  have h2 := bk_len (othE_len hs) v l.length
  have h3 : l.length * 8 ≤ 14 * 8 := Nat.mul_le_mul_right 8 h1
  omega
theorem rvL_sm (hs : smB 14 l = true) : FlSm (rvL R (edg l) l.length) := by
  refine ⟨by rw [rvL_len]; have := smB_len hs; omega, fun p hp => ?_⟩
  unfold rvL at hp
  obtain ⟨v, hv, rfl⟩ := List.mem_map.1 hp
  show (zl (rvE (edg l) l.length v)).length ≤ 1000
  rw [zl_len]
  have := rvE_len hs v
  omega
end
end Go.Proofs.Ytbdpdbeekbbehaa
