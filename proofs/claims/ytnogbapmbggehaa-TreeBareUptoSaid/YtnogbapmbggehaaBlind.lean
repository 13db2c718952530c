/- What is proved: the shape of a tree does not depend on its places. -/
import Derived.Test.YtnogbapmbggehaaShaped
import Derived.Test.YtnogbapmbggehaaBare
set_option linter.unusedVariables false
namespace Go.Proofs.Ytnogbapmbggehaa
open Go.RowKit Go.Shelf

/-- a node's label alone -/
def leaf (n : NT) : NT := .mk n.kind n.text 0 0 none 0 []
theorem rowB_leaf (ps : List (NT → Bool)) (h : ∀ p ∈ ps, ∀ x, p x = p (leaf x)) : ∀ l : List NT, rowB ps l = rowB ps (l.map leaf) := by
  induction ps with
  | nil => intro l; cases l <;> rfl
  | cons p ps ih =>
    intro l
    cases l with
    | nil => rfl
    | cons x xs =>
      simp only [rowB, List.map_cons]
      rw [← h p (by simp) x, ← ih (fun q hq => h q (by simp [hq])) xs]
theorem manyB_leaf (m : Int) (p : NT → Bool) (h : ∀ x, p x = p (leaf x)) (l : List NT) : manyB m p l = manyB m p (l.map leaf) := by
  unfold manyB
  rw [List.length_map, List.all_map]
  congr 1
  exact congrArg l.all (funext h)
def Leafy (P : List NT → Bool) : Prop := ∀ l, P l = P (l.map leaf)
theorem Leafy.ite {c : Prop} [Decidable c] {P Q : List NT → Bool} (h : Leafy P) (h' : Leafy Q) : Leafy (if c then P else Q) := by
  split
  · exact h
  · exact h'
theorem Leafy.no : Leafy (fun _ => false) := fun _ => rfl
theorem Leafy.row {ps : List (NT → Bool)} (h : ∀ p ∈ ps, ∀ x, p x = p (leaf x)) : Leafy (rowB ps) := rowB_leaf ps h
theorem Leafy.many {m : Int} {p : NT → Bool} (h : ∀ x, p x = p (leaf x)) : Leafy (manyB m p) := manyB_leaf m p h
theorem leafy_kids (k : Int) : Leafy (kidsB k) := by
  unfold kidsB
  repeat' (apply Leafy.ite)
  all_goals first | exact Leafy.no | (refine Leafy.many ?_; intro x; rfl) | (refine Leafy.row ?_; intro p hp x; first | (cases hp; done) | (simp only [List.mem_cons, List.not_mem_nil, or_false] at hp; (first | (subst hp; rfl) | (rcases hp with rfl | rfl <;> rfl) | (rcases hp with rfl | rfl | rfl <;> rfl))))
theorem kidsB_leaf (k : Int) (l : List NT) : kidsB k l = kidsB k (l.map leaf) := leafy_kids k l
theorem nodeB_leaf {m n : NT} (h1 : m.kind = n.kind) (h2 : m.text = n.text) (h3 : m.kids.map leaf = n.kids.map leaf) : nodeB m = nodeB n := by
  unfold nodeB
  rw [h1, h2, kidsB_leaf _ m.kids, kidsB_leaf _ n.kids, h3]
theorem leaf_of {m n : NT} (h : NT.strip m = NT.bare n) : leaf m = leaf n := by
  rw [NT.strip_eq, NT.bare_eq] at h
  simp only [NT.mk.injEq] at h
  unfold leaf
  rw [h.1, h.2.1]
theorem leafs_of {l l' : List NT} (h : l'.map NT.strip = l.map NT.bare) : l'.map leaf = l.map leaf := by
  induction l' generalizing l with
  | nil => cases l with
    | nil => rfl
    | cons y ys => simp at h
  | cons x xs ih => cases l with
    | nil => simp at h
    | cons y ys =>
      simp only [List.map_cons, List.cons.injEq] at h ⊢
      exact ⟨leaf_of h.1, ih h.2⟩
theorem all_forest (l : List NT) (ih : ∀ k ∈ l, ∀ m : NT, NT.strip m = NT.bare k → (NT.nds m).all nodeB = (NT.nds k).all nodeB) : ∀ l' : List NT, l'.map NT.strip = l.map NT.bare → (NT.ndss l').all nodeB = (NT.ndss l).all nodeB := by
  induction l with
  | nil => intro l' h; cases l' with
    | nil => rfl
    | cons x xs => simp at h
  | cons y ys ihl => intro l' h; cases l' with
    | nil => simp at h
    | cons x xs =>
      simp only [List.map_cons, List.cons.injEq] at h
      simp only [NT.ndss, List.all_append]
      rw [ih y (by simp) x h.1, ihl (fun k hk => ih k (by simp [hk])) xs h.2]
theorem all_blind : ∀ n m : NT, NT.strip m = NT.bare n → (NT.nds m).all nodeB = (NT.nds n).all nodeB := NT.ind fun n ih m h => by
  have h' := h
  rw [NT.strip_eq, NT.bare_eq] at h'
  simp only [NT.mk.injEq] at h'
  obtain ⟨h1, h2, _, _, _, _, h3⟩ := h'
  rw [NT.nds_eq, NT.nds_eq n, List.all_cons, List.all_cons, nodeB_leaf h1 h2 (leafs_of h3), all_forest n.kids ih m.kids h3]
theorem shaped_blind {root : NT → Bool} (hr : ∀ x, root x = root (leaf x)) {n m : NT} (h : NT.strip m = NT.bare n) : shapedB root m = shapedB root n := by
  unfold shapedB
  rw [hr m, hr n, leaf_of h, all_blind n m h]
/-- the places of a tree without places -/
theorem places_forest (l : List NT) (ih : ∀ k ∈ l, ∀ m : NT, NT.strip m = NT.bare k → ∀ x ∈ NT.nds m, x.lo = 0 ∧ x.hi = 0) : ∀ l' : List NT, l'.map NT.strip = l.map NT.bare → ∀ x ∈ NT.ndss l', x.lo = 0 ∧ x.hi = 0 := by
  induction l with
  | nil => intro l' h; cases l' with
    | nil => intro x hx; simp [NT.ndss] at hx
    | cons x xs => simp at h
  | cons y ys ihl => intro l' h; cases l' with
    | nil => simp at h
    | cons x xs =>
      simp only [List.map_cons, List.cons.injEq] at h
      intro z hz
      simp only [NT.ndss, List.mem_append] at hz
      rcases hz with hz | hz
      · exact ih y (by simp) x h.1 z hz
      · exact ihl (fun k hk => ih k (by simp [hk])) xs h.2 z hz
theorem places_zero : ∀ n m : NT, NT.strip m = NT.bare n → ∀ x ∈ NT.nds m, x.lo = 0 ∧ x.hi = 0 := NT.ind fun n ih m h => by
  have h' := h
  rw [NT.strip_eq, NT.bare_eq] at h'
  simp only [NT.mk.injEq] at h'
  obtain ⟨_, _, h4, h5, _, _, h3⟩ := h'
  intro x hx
  rw [NT.nds_eq] at hx
  rcases List.mem_cons.1 hx with rfl | hx
  · exact ⟨h4, h5⟩
  · exact places_forest n.kids ih m.kids h3 x hx
theorem kinds_forest (l : List NT) (ih : ∀ k ∈ l, ∀ m : NT, NT.strip m = NT.bare k → (∀ x ∈ NT.nds k, I64 x.kind) → ∀ x ∈ NT.nds m, I64 x.kind) : ∀ l' : List NT, l'.map NT.strip = l.map NT.bare → (∀ x ∈ NT.ndss l, I64 x.kind) → ∀ x ∈ NT.ndss l', I64 x.kind := by
  induction l with
  | nil => intro l' h; cases l' with
    | nil => intro _ x hx; simp [NT.ndss] at hx
    | cons x xs => simp at h
  | cons y ys ihl => intro l' h; cases l' with
    | nil => simp at h
    | cons x xs =>
      simp only [List.map_cons, List.cons.injEq] at h
      intro hw z hz
      simp only [NT.ndss, List.mem_append] at hz hw
      rcases hz with hz | hz
      · exact ih y (by simp) x h.1 (fun u hu => hw u (.inl hu)) z hz
      · exact ihl (fun k hk => ih k (by simp [hk])) xs h.2 (fun u hu => hw u (.inr hu)) z hz
theorem kinds_same : ∀ n m : NT, NT.strip m = NT.bare n → (∀ x ∈ NT.nds n, I64 x.kind) → ∀ x ∈ NT.nds m, I64 x.kind := NT.ind fun n ih m h hw => by
  have h' := h
  rw [NT.strip_eq, NT.bare_eq] at h'
  simp only [NT.mk.injEq] at h'
  obtain ⟨h1, _, _, _, _, _, h3⟩ := h'
  rw [NT.nds_eq] at hw
  intro x hx
  rw [NT.nds_eq] at hx
  rcases List.mem_cons.1 hx with rfl | hx
  · rw [h1]; exact hw n (by simp)
  · exact kinds_forest n.kids ih m.kids h3 (fun u hu => hw u (by simp [hu])) x hx
theorem cnt_bare : ∀ n : NT, NT.cnt (NT.bare n) = NT.cnt n := NT.ind fun n ih => by
  have h : ∀ l : List NT, (∀ k ∈ l, NT.cnt (NT.bare k) = NT.cnt k) → NT.cnts (l.map NT.bare) = NT.cnts l := by
    intro l
    induction l with
    | nil => intro _; rfl
    | cons x xs ihl => intro h; simp only [List.map_cons, NT.cnts]; rw [h x (by simp), ihl (fun k hk => h k (by simp [hk]))]
  rw [NT.bare_eq, NT.cnt_eq, NT.cnt_eq n, ← h n.kids ih]
  rfl
theorem cnt_blind {n m : NT} (h : NT.strip m = NT.bare n) : NT.cnt m = NT.cnt n := by
  rw [← NT.cnt_strip m, h, cnt_bare]
end Go.Proofs.Ytnogbapmbggehaa
