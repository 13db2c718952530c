/- What is proved: the chapter's example, as mathematics. -/
import Derived.Test.YtbdpdbeekbbehaaDoLoops
import Derived.Test.YtbdpdbeekbbehaaDoCtl
import Derived.Test.YtbdpdbeekbbehaaDoDom2
set_option linter.unusedVariables false
namespace Go.Proofs.Ytbdpdbeekbbehaa
open Go.RowKit Go.Shelf

/-- the immediate dominator is the nearest one -/
theorem DTree.imm {E : Nat → List Nat} {r : Nat} {ov : Nat → Int} (h : DTree E r ov) {v c0 : Nat} (h1 : Dom E r c0 v) (h2 : c0 ≠ v) (h3 : ∀ y, Dom E r y v → y ≠ v → Dom E r y c0) : ov v = (c0 : Int) := by
  have hv := h1.1
  have hne : v ≠ r := fun e => by
    subst e
    have hu := (h.dom v c0 hv).2 h1
    cases hu with
    | refl _ => exact h2 rfl
    | step e _ => rw [h.rt] at e; exact absurd e (by omega)
  obtain ⟨c, hc, hrc⟩ := h.pos v hv hne
  have hcv : Dom E r c v := (h.dom v c hv).1 (.one hc)
  have hcn : c ≠ v := fun e => by
    subst e
    obtain ⟨pl, N, hk⟩ := h.rk
    exact absurd (hk _ _ hc).1 (by omega)
  have hcc := h3 c hcv hcn
  have hu := (h.dom v c0 hv).2 h1
  have hu2 : Up ov c c0 := by
    cases hu with
    | refl _ => exact absurd rfl h2
    | step e g => rw [hc] at e; cases e; exact g
  have hu3 := (h.dom c0 c hcc.1).2 hcc
  rw [hc, h.anti c c0 hu2 hu3]
/-- what is reached in k steps -/
def rchB (E : Nat → List Nat) (o n a : Nat) : Nat → List Nat
  | 0 => if a = o then [] else [a]
  | k + 1 => (List.range n).filter fun v => (rchB E o n a k).contains v || (!(v == o) && (List.range n).any fun u => (rchB E o n a k).contains u && (E u).contains v)
theorem rchB_sound {E : Nat → List Nat} {o n a : Nat} : ∀ k v, v ∈ rchB E o n a k → Rch E (fun x => x ≠ o) a v
  | 0, v, h => by
    unfold rchB at h
    split at h
    · simp at h
    · rename_i hne
      rw [List.mem_singleton.1 h]
      exact .here hne
  | k + 1, v, h => by
    unfold rchB at h
    simp only [List.mem_filter, List.mem_range, Bool.or_eq_true, Bool.and_eq_true, List.any_eq_true, List.contains_iff_mem, Bool.not_eq_true', beq_eq_false_iff_ne] at h
    rcases h.2 with h | ⟨h1, u, _, h2, h3⟩
    · exact rchB_sound k v h
    · exact .step (rchB_sound k u h2) h3 h1
theorem rchB_all {E : Nat → List Nat} {o n a k : Nat} (hE : ∀ u v, v ∈ E u → u < n ∧ v < n) (h0 : a ≠ o → a ∈ rchB E o n a k) (hs : ∀ v, v ∈ rchB E o n a (k + 1) → v ∈ rchB E o n a k) {v : Nat} (h : Rch E (fun x => x ≠ o) a v) : v ∈ rchB E o n a k := by
  induction h with
  | here h => exact h0 h
  | @step b c _ h1 h2 ih =>
    refine hs c ?_
    unfold rchB
    simp only [List.mem_filter, List.mem_range, Bool.or_eq_true, Bool.and_eq_true, List.any_eq_true, List.contains_iff_mem, Bool.not_eq_true', beq_eq_false_iff_ne]
    exact ⟨(hE b c h1).2, .inr ⟨h2, b, (hE b c h1).1, ih, h1⟩⟩
/-- a small graph whose reach is closed -/
structure Cl (E : Nat → List Nat) : Prop where
  lt : ∀ u v, v ∈ E u → u < 5 ∧ v < 5
  st : ∀ a, a < 5 → ∀ o, o < 6 → (a = o ∨ a ∈ rchB E o 5 a 4) ∧ ∀ v, v < 5 → v ∈ rchB E o 5 a 5 → v ∈ rchB E o 5 a 4
section
variable {E : Nat → List Nat}
theorem rchB_lt {E : Nat → List Nat} {o n a k v : Nat} (h : v ∈ rchB E o n a (k + 1)) : v < n := by
  unfold rchB at h
  simp only [List.mem_filter, List.mem_range] at h
  exact h.1
theorem Cl.rch (h : Cl E) {a o v : Nat} (ha : a < 5) (ho : o < 6) : Rch E (fun x => x ≠ o) a v ↔ v ∈ rchB E o 5 a 4 :=
  ⟨fun g => rchB_all h.lt (fun hne => by rcases (h.st a ha o ho).1 with e | e; exact absurd e hne; exact e) (fun v hv => (h.st a ha o ho).2 v (rchB_lt hv) hv) g, rchB_sound _ _⟩
theorem Cl.in5 (h : Cl E) {a v : Nat} (ha : a < 5) (g : Rea E a v) : v < 5 := by
  cases g with
  | here _ => exact ha
  | step _ h1 _ => exact (h.lt _ _ h1).2
theorem Cl.big (h : Cl E) {a o v : Nat} (ha : a < 5) (ho : 5 ≤ o) (g : Rea E a v) : Rch E (fun x => x ≠ o) a v := by
  induction g with
  | here _ => exact .here (by omega)
  | @step b c _ h1 _ ih => exact .step ih h1 (by have := (h.lt _ _ h1).2; omega)
theorem Cl.rea (h : Cl E) {a v : Nat} (ha : a < 5) : Rea E a v ↔ v ∈ rchB E 5 5 a 4 :=
  ⟨fun g => (h.rch ha (by omega)).1 (h.big ha (Nat.le_refl _) g), fun g => ((h.rch ha (by omega)).2 g).mono fun _ _ => trivial⟩
def domB (E : Nat → List Nat) (r y v : Nat) : Bool := (rchB E 5 5 r 4).contains v && decide (y < 5) && !(rchB E y 5 r 4).contains v
theorem Cl.dom (h : Cl E) {r : Nat} (hr : r < 5) (y v : Nat) : domB E r y v = true ↔ Dom E r y v := by
  unfold domB Dom
  simp only [Bool.and_eq_true, List.contains_iff_mem, decide_eq_true_eq, Bool.not_eq_true', ← Bool.not_eq_true]
  rw [h.rea hr]
  constructor
  · rintro ⟨⟨h1, h2⟩, h3⟩
    exact ⟨h1, fun g => h3 ((h.rch hr (by omega)).1 g)⟩
  · rintro ⟨h1, h2⟩
    by_cases hy : y < 5
    · exact ⟨⟨h1, hy⟩, fun g => h2 ((h.rch hr (by omega)).2 g)⟩
    · exact absurd (h.big hr (by omega) ((h.rea hr).2 h1)) h2
theorem Cl.imm (h : Cl E) {r : Nat} (hr : r < 5) {ov : Nat → Int} (hd : DTree E r ov) {v c : Nat} (hv : v < 5) (h1 : domB E r c v = true) (h2 : c ≠ v) (h3 : ∀ y, y < 5 → domB E r y v = true → y ≠ v → domB E r y c = true) : ov v = (c : Int) :=
  hd.imm ((h.dom hr c v).1 h1) h2 fun y hy hne => by
    have h4 := (h.dom hr y v).2 hy
    have h5 : y < 5 := by
      unfold domB at h4
      simp only [Bool.and_eq_true, decide_eq_true_eq] at h4
      exact h4.1.2
    exact (h.dom hr y c).1 (h3 y h5 h4 hne)
end
def clB (E : Nat → List Nat) : Bool := (List.range 5).all fun a => (List.range 6).all fun o => (decide (a = o) || (rchB E o 5 a 4).contains a) && (List.range 5).all fun v => !(rchB E o 5 a 5).contains v || (rchB E o 5 a 4).contains v
theorem clB_st {E : Nat → List Nat} (h : clB E = true) (a : Nat) (ha : a < 5) (o : Nat) (ho : o < 6) : (a = o ∨ a ∈ rchB E o 5 a 4) ∧ ∀ v, v < 5 → v ∈ rchB E o 5 a 5 → v ∈ rchB E o 5 a 4 := by
  unfold clB at h
  simp only [List.all_eq_true, List.mem_range, Bool.and_eq_true, Bool.or_eq_true, decide_eq_true_eq, List.contains_iff_mem, Bool.not_eq_true', ← Bool.not_eq_true] at h
  obtain ⟨h1, h2⟩ := h a ha o ho
  exact ⟨h1, fun v hv hm => by rcases h2 v hv with g | g; exact absurd hm g; exact g⟩
def exE : Nat → List Nat
  | 0 => [2] | 1 => [] | 2 => [3, 4] | 3 => [2] | 4 => [1] | _ => []
def exB : Nat → List Nat
  | 0 => [] | 1 => [4] | 2 => [0, 3] | 3 => [2] | 4 => [2] | _ => []
theorem exE_cl : Cl exE := ⟨fun u v h => by
    match u, h with
    | 0, h => simp [exE] at h; omega
    | 1, h => simp [exE] at h
    | 2, h => simp [exE] at h; omega
    | 3, h => simp [exE] at h; omega
    | 4, h => simp [exE] at h; omega
    | n + 5, h => simp [exE] at h, clB_st (by decide +kernel)⟩
theorem exB_cl : Cl exB := ⟨fun u v h => by
    match u, h with
    | 0, h => simp [exB] at h
    | 1, h => simp [exB] at h; omega
    | 2, h => simp [exB] at h; omega
    | 3, h => simp [exB] at h; omega
    | 4, h => simp [exB] at h; omega
    | n + 5, h => simp [exB] at h, clB_st (by decide +kernel)⟩
theorem bk_exE : bk exE 5 = exB := by
  funext v
  match v with
  | 0 => rfl
  | 1 => rfl
  | 2 => rfl
  | 3 => rfl
  | 4 => rfl
  | n + 5 =>
    refine List.eq_nil_iff_forall_not_mem.2 fun q hq => ?_
    have := (exE_cl.lt _ _ (bk_mem.1 hq).2).2
    omega
/-- the chapter's flow -/
def exL (A0 A2 A3 A4 : Option Addr) : List PtV := [⟨0, 0, A0, 1, [2]⟩, ⟨0, 0, none, 0, []⟩, ⟨0, 0, A2, 2, [3, 4]⟩, ⟨0, 0, A3, 1, [2]⟩, ⟨0, 0, A4, 1, [1]⟩]
section
variable (A0 A2 A3 A4 : Option Addr)
theorem exL_edg : edg (exL A0 A2 A3 A4) = exE := by
  funext v
  match v with
  | 0 => rfl
  | 1 => rfl
  | 2 => rfl
  | 3 => rfl
  | 4 => rfl
  | n + 5 => exact edg_out (by show 5 ≤ n + 5; omega)
theorem exL_bke : bke (exL A0 A2 A3 A4) = exB := by
  unfold bke
  rw [exL_edg]
  exact bk_exE
theorem exL_ok : FlOk (exL A0 A2 A3 A4) := ⟨rfl, by show 5 ≤ 30; omega, fun p hp => by
  unfold exL at hp
  simp only [List.mem_cons, List.not_mem_nil, or_false] at hp
  rcases hp with rfl | rfl | rfl | rfl | rfl <;> simp⟩
theorem exL_dom {ov : Nat → Int} (hd : DTree (edg (exL A0 A2 A3 A4)) 0 ov) : (List.range 5).map ov = [-1, 4, 0, 2, 2] := by
  rw [exL_edg] at hd
  have e0 := hd.rt
  have e1 : ov 1 = (4 : Nat) := exE_cl.imm (by omega) hd (by omega) (by decide +kernel) (by omega) (by decide +kernel)
  have e2 : ov 2 = (0 : Nat) := exE_cl.imm (by omega) hd (by omega) (by decide +kernel) (by omega) (by decide +kernel)
  have e3 : ov 3 = (2 : Nat) := exE_cl.imm (by omega) hd (by omega) (by decide +kernel) (by omega) (by decide +kernel)
  have e4 : ov 4 = (2 : Nat) := exE_cl.imm (by omega) hd (by omega) (by decide +kernel) (by omega) (by decide +kernel)
  show [ov 0, ov 1, ov 2, ov 3, ov 4] = _
  rw [e0, e1, e2, e3, e4]
  rfl
theorem exL_post {ov : Nat → Int} (hd : DTree (bke (exL A0 A2 A3 A4)) 1 ov) : (List.range 5).map ov = [2, -1, 4, 2, 1] := by
  rw [exL_bke] at hd
  have e1 := hd.rt
  have e0 : ov 0 = (2 : Nat) := exB_cl.imm (by omega) hd (by omega) (by decide +kernel) (by omega) (by decide +kernel)
  have e2 : ov 2 = (4 : Nat) := exB_cl.imm (by omega) hd (by omega) (by decide +kernel) (by omega) (by decide +kernel)
  have e3 : ov 3 = (2 : Nat) := exB_cl.imm (by omega) hd (by omega) (by decide +kernel) (by omega) (by decide +kernel)
  have e4 : ov 4 = (1 : Nat) := exB_cl.imm (by omega) hd (by omega) (by decide +kernel) (by omega) (by decide +kernel)
  show [ov 0, ov 1, ov 2, ov 3, ov 4] = _
  rw [e0, e1, e2, e3, e4]
  rfl
def lpB (h c : Nat) : Bool := c == h || (rchB exE 5 5 0 4).contains c && (List.range 5).any fun b => (exE b).contains h && domB exE 0 h b && (rchB exE h 5 c 4).contains b
def cdB (a v : Nat) : Bool := (exE a).any fun s => domB exB 1 v s && !(!(v == a) && domB exB 1 v a)
theorem exL_lp (h c : Nat) : lpB h c = true ↔ LpP (edg (exL A0 A2 A3 A4)) h c := by
  rw [exL_edg]
  unfold lpB LpP
  simp only [Bool.or_eq_true, Bool.and_eq_true, beq_iff_eq, List.any_eq_true, List.contains_iff_mem, List.mem_range]
  rw [exE_cl.rea (by omega)]
  refine or_congr Iff.rfl (and_congr_right fun hr => ?_)
  have hc5 := exE_cl.in5 (a := 0) (by omega) ((exE_cl.rea (by omega)).2 hr)
  constructor
  · rintro ⟨b, hb, ⟨h1, h2⟩, h3⟩
    exact ⟨b, h1, (exE_cl.dom (by omega) h b).1 h2, (exE_cl.rch hc5 (by have := (exE_cl.lt _ _ h1).2; omega)).2 h3⟩
  · rintro ⟨b, h1, h2, h3⟩
    exact ⟨b, (exE_cl.lt _ _ h1).1, ⟨h1, (exE_cl.dom (by omega) h b).2 h2⟩, (exE_cl.rch hc5 (by have := (exE_cl.lt _ _ h1).2; omega)).1 h3⟩
theorem exL_cd (a v : Nat) : cdB a v = true ↔ CDp (edg (exL A0 A2 A3 A4)) (bke (exL A0 A2 A3 A4)) 1 a v := by
  rw [exL_edg, exL_bke]
  unfold cdB CDp
  simp only [Bool.and_eq_true, List.any_eq_true, Bool.not_eq_true', ← Bool.not_eq_true, beq_iff_eq, exB_cl.dom (r := 1) (by omega)]
theorem exL_heads : lpHeads (domB exE 0) (exL A0 A2 A3 A4) 5 = [2] := by
  unfold lpHeads
  rw [exL_edg]
  show (List.range 5).filter (fun h => !(tlL exE (domB exE 0) 5 h).isEmpty) = [2]
  decide +kernel
theorem ex_body : (List.range 5).filter (lpB 2) = [2, 3] := by decide +kernel
theorem ex_ctl : (List.range 5).map (fun v => zl ((List.range 5).filter fun a => cdB a v)) = [[], [], [2], [2], []] := by decide +kernel
theorem exL_d24 : DomS (edg (exL A0 A2 A3 A4)) 0 (exL A0 A2 A3 A4) 2 4 := ⟨rfl, 4, 2, rfl, rfl, by show 4 < 5; omega, by rw [exL_edg]; exact (exE_cl.dom (by omega) 2 4).1 (by decide +kernel)⟩
theorem exL_p43 : DomS (bke (exL A0 A2 A3 A4)) 1 (exL A0 A2 A3 A4) 4 3 := ⟨rfl, 3, 4, rfl, rfl, by show 3 < 5; omega, by rw [exL_bke]; exact (exB_cl.dom (by omega) 4 3).1 (by decide +kernel)⟩
end
end Go.Proofs.Ytbdpdbeekbbehaa
