/- What is proved: plain facts on trees; a tree as it lies in memory stays where what lay before stays. -/
import Derived.Test.YtnpcfmoiiecadaaDoorProg
import Derived.WalkKit
import Derived.Below
set_option linter.unusedVariables false
namespace Go.Proofs.YtnpcfmoiiecadaaDoor
open Go.RowKit

/-- a tree; A and c: where its kids lie -/
inductive NT where
  | mk (kind : Int) (text : ByteArray) (lo hi : Int) (A : Option Addr) (c : Nat) (kids : List NT)

namespace NT
def kind : NT → Int | mk k _ _ _ _ _ _ => k
def text : NT → ByteArray | mk _ t _ _ _ _ _ => t
def lo : NT → Int | mk _ _ l _ _ _ _ => l
def hi : NT → Int | mk _ _ _ h _ _ _ => h
def A : NT → Option Addr | mk _ _ _ _ a _ _ => a
def c : NT → Nat | mk _ _ _ _ _ c _ => c
def kids : NT → List NT | mk _ _ _ _ _ _ ks => ks

theorem ind {P : NT → Prop} (h : ∀ n : NT, (∀ k ∈ n.kids, P k) → P n) : ∀ n, P n := fun n =>
  NT.rec (motive_1 := P) (motive_2 := fun l => ∀ k ∈ l, P k) (fun k t l hh a c ks ih => h (mk k t l hh a c ks) ih) (fun k hk => by cases hk)
    (fun x xs hx hxs k hk => by
      cases List.mem_cons.1 hk with
      | inl e => rw [e]; exact hx
      | inr e => exact hxs k e) n

/-- how a node stands as a value -/
def val (n : NT) : Value := .agg #[.int .i64 n.kind, .string n.text, .int .i64 n.lo, .int .i64 n.hi, .slice n.A n.kids.length n.c]

mutual
def cnt : NT → Nat
  | mk _ _ _ _ _ _ ks => cnts ks + 1
def cnts : List NT → Nat
  | [] => 0
  | k :: ks => cnt k + cnts ks
end
mutual
def nds : NT → List NT
  | mk k t l h a c ks => mk k t l h a c ks :: ndss ks
def ndss : List NT → List NT
  | [] => []
  | k :: ks => nds k ++ ndss ks
end
mutual
def lev : NT → Nat
  | mk _ _ _ _ _ _ ks => levs ks + 1
def levs : List NT → Nat
  | [] => 0
  | k :: ks => max (lev k) (levs ks)
end
mutual
/-- the nodes in the order of their numbers, with the level of each -/
def wlk : NT → Nat → List (Nat × NT)
  | mk k t l h a c ks, v => (v, mk k t l h a c ks) :: wlks ks (v + 1)
def wlks : List NT → Nat → List (Nat × NT)
  | [], _ => []
  | k :: ks, v => wlk k v ++ wlks ks v
end

theorem cnt_eq (n : NT) : cnt n = cnts n.kids + 1 := by cases n; simp [cnt, kids]
theorem nds_eq (n : NT) : nds n = n :: ndss n.kids := by cases n; simp [nds, kids]
theorem lev_eq (n : NT) : lev n = levs n.kids + 1 := by cases n; simp [lev, kids]
theorem wlk_eq (n : NT) (v : Nat) : wlk n v = (v, n) :: wlks n.kids (v + 1) := by cases n; simp [wlk, kids]

theorem cnts_append (l m : List NT) : cnts (l ++ m) = cnts l + cnts m := by
  induction l with
  | nil => simp [cnts]
  | cons x xs ih => simp [cnts, ih]; omega
theorem ndss_append (l m : List NT) : ndss (l ++ m) = ndss l ++ ndss m := by
  induction l with
  | nil => simp [ndss]
  | cons x xs ih => simp [ndss, ih]
theorem wlks_append (l m : List NT) (v : Nat) : wlks (l ++ m) v = wlks l v ++ wlks m v := by
  induction l with
  | nil => simp [wlks]
  | cons x xs ih => simp [wlks, ih]
theorem levs_append (l m : List NT) : levs (l ++ m) = max (levs l) (levs m) := by
  induction l with
  | nil => simp [levs]
  | cons x xs ih => simp [levs, ih, Nat.max_assoc]

theorem cnts_get {l : List NT} {i : Nat} (h : i < l.length) : cnts (l.take (i + 1)) = cnts (l.take i) + cnt l[i] := by
  rw [List.take_succ_eq_append_getElem h, cnts_append]; simp [cnts]
theorem ndss_get {l : List NT} {i : Nat} (h : i < l.length) : ndss (l.take (i + 1)) = ndss (l.take i) ++ nds l[i] := by
  rw [List.take_succ_eq_append_getElem h, ndss_append]; simp [ndss]
theorem levs_get {l : List NT} {i : Nat} (h : i < l.length) : levs (l.take (i + 1)) = max (levs (l.take i)) (lev l[i]) := by
  rw [List.take_succ_eq_append_getElem h, levs_append]; simp [levs]
theorem wlks_get {l : List NT} {i : Nat} (h : i < l.length) (v : Nat) : wlks (l.take (i + 1)) v = wlks (l.take i) v ++ wlk l[i] v := by
  rw [List.take_succ_eq_append_getElem h, wlks_append]; simp [wlks]
theorem cnt_pos (n : NT) : 1 ≤ cnt n := by rw [cnt_eq]; omega
theorem cnts_take_le (l : List NT) (i : Nat) : cnts (l.take i) ≤ cnts l := by
  have h := cnts_append (l.take i) (l.drop i)
  rw [List.take_append_drop] at h; omega
theorem cnts_len (l : List NT) : l.length ≤ cnts l := by
  induction l with
  | nil => simp
  | cons x xs ih => have := cnt_pos x; simp [cnts]; omega
theorem cnts_mem {l : List NT} {k : NT} (h : k ∈ l) : cnt k ≤ cnts l := by
  induction l with
  | nil => cases h
  | cons x xs ih =>
    cases List.mem_cons.1 h with
    | inl e => subst e; simp [cnts]
    | inr e => have := ih e; simp [cnts]; omega
theorem cnt_kid {n k : NT} (h : k ∈ n.kids) : cnt k + 1 ≤ cnt n := by
  have := cnts_mem h; rw [cnt_eq n]; omega
theorem kids_len (n : NT) : n.kids.length + 1 ≤ cnt n := by
  have := cnts_len n.kids; rw [cnt_eq]; omega
theorem ndss_len (l : List NT) (h : ∀ k ∈ l, (nds k).length = cnt k) : (ndss l).length = cnts l := by
  induction l with
  | nil => simp [ndss, cnts]
  | cons x xs ih => simp [ndss, cnts, h x (by simp), ih (fun k hk => h k (by simp [hk]))]
theorem nds_len : ∀ n : NT, (nds n).length = cnt n := ind fun n ih => by
  rw [nds_eq, cnt_eq, List.length_cons, ndss_len _ ih]
theorem wlks_len (l : List NT) (v : Nat) (h : ∀ k ∈ l, ∀ v, (wlk k v).length = cnt k) : (wlks l v).length = cnts l := by
  induction l with
  | nil => simp [wlks, cnts]
  | cons x xs ih => simp [wlks, cnts, h x (by simp), ih (fun k hk => h k (by simp [hk]))]
theorem wlk_len : ∀ (n : NT) (v : Nat), (wlk n v).length = cnt n := ind fun n ih v => by
  rw [wlk_eq, cnt_eq, List.length_cons, wlks_len _ _ ih]
theorem wlks_snd (l : List NT) (v : Nat) (h : ∀ k ∈ l, ∀ v, (wlk k v).map (·.2) = nds k) : (wlks l v).map (·.2) = ndss l := by
  induction l with
  | nil => simp [wlks, ndss]
  | cons x xs ih => simp [wlks, ndss, h x (by simp), ih (fun k hk => h k (by simp [hk]))]
theorem wlk_snd : ∀ (n : NT) (v : Nat), (wlk n v).map (·.2) = nds n := ind fun n ih v => by
  rw [wlk_eq, nds_eq, List.map_cons, wlks_snd _ _ ih]
theorem lev_le_cnts (l : List NT) (h : ∀ k ∈ l, lev k ≤ cnt k) : levs l ≤ cnts l := by
  induction l with
  | nil => simp [levs]
  | cons x xs ih =>
    have h1 := h x (by simp)
    have h2 := ih (fun k hk => h k (by simp [hk]))
    simp [levs, cnts]; omega
theorem lev_le : ∀ n : NT, lev n ≤ cnt n := ind fun n ih => by
  have := lev_le_cnts _ ih; rw [lev_eq, cnt_eq]; omega
end NT

/-- five cells that hold a node -/
def Cells5 (w : World) (b o : Nat) (n : NT) : Prop :=
  w.cell? ⟨b, o, none⟩ = some (.int .i64 n.kind) ∧ w.cell? ⟨b, o + 1, none⟩ = some (.string n.text) ∧ w.cell? ⟨b, o + 2, none⟩ = some (.int .i64 n.lo) ∧ w.cell? ⟨b, o + 3, none⟩ = some (.int .i64 n.hi) ∧ w.cell? ⟨b, o + 4, none⟩ = some (.slice n.A n.kids.length n.c)
theorem Cells5.below {w w' : World} {b o B : Nat} {n : NT} (h : Cells5 w b o n) (hb : Below B w w') (hlt : b < B) : Cells5 w' b o n := by
  obtain ⟨h0, h1, h2, h3, h4⟩ := h
  exact ⟨(hb.cell (p := ⟨b, o, none⟩) hlt).trans h0, (hb.cell (p := ⟨b, o + 1, none⟩) hlt).trans h1, (hb.cell (p := ⟨b, o + 2, none⟩) hlt).trans h2, (hb.cell (p := ⟨b, o + 3, none⟩) hlt).trans h3, (hb.cell (p := ⟨b, o + 4, none⟩) hlt).trans h4⟩

/-- a slice's address, nil or not, below block n₀, where the cells of these nodes lie -/
def Row (n₀ : Nat) (w : World) (A : Option Addr) (l : List NT) : Prop :=
  0 < l.length → ∃ b off, A = some ⟨b, off, none⟩ ∧ b < n₀ ∧ ∀ (i : Nat) (h : i < l.length), Cells5 w b (off + i * 5) l[i]
theorem Row.below {n₀ : Nat} {w w' : World} {A : Option Addr} {l : List NT} (h : Row n₀ w A l) (hb : Below n₀ w w') : Row n₀ w' A l := fun h0 => by
  obtain ⟨b, off, hA, hlt, hc⟩ := h h0
  exact ⟨b, off, hA, hlt, fun i hi => (hc i hi).below hb hlt⟩
theorem Row.mono {n₀ n₁ : Nat} {w : World} {A : Option Addr} {l : List NT} (h : Row n₀ w A l) (hn : n₀ ≤ n₁) : Row n₁ w A l := fun h0 => by
  obtain ⟨b, off, hA, hlt, hc⟩ := h h0
  exact ⟨b, off, hA, by omega, hc⟩

mutual
/-- all below a node lies in memory, below block n₀ -/
def InT (n₀ : Nat) (w : World) : NT → Prop
  | .mk _ _ _ _ A c ks => Row n₀ w A ks ∧ ks.length ≤ c ∧ InTs n₀ w ks
def InTs (n₀ : Nat) (w : World) : List NT → Prop
  | [] => True
  | k :: ks => InT n₀ w k ∧ InTs n₀ w ks
end
theorem inTs_iff {n₀ : Nat} {w : World} (l : List NT) : InTs n₀ w l ↔ ∀ k ∈ l, InT n₀ w k := by
  induction l with
  | nil => simp [InTs]
  | cons x xs ih => simp [InTs, ih]
theorem inT_iff {n₀ : Nat} {w : World} (n : NT) : InT n₀ w n ↔ Row n₀ w n.A n.kids ∧ n.kids.length ≤ n.c ∧ ∀ k ∈ n.kids, InT n₀ w k := by
  cases n; simp [InT, NT.A, NT.kids, NT.c, inTs_iff]
theorem InT.row {n₀ : Nat} {w : World} {n : NT} (h : InT n₀ w n) : Row n₀ w n.A n.kids := ((inT_iff n).1 h).1
theorem InT.kid {n₀ : Nat} {w : World} {n k : NT} (h : InT n₀ w n) (hk : k ∈ n.kids) : InT n₀ w k := ((inT_iff n).1 h).2.2 k hk
theorem InT.cap {n₀ : Nat} {w : World} {n : NT} (h : InT n₀ w n) : n.kids.length ≤ n.c := ((inT_iff n).1 h).2.1
theorem InT.below {n₀ : Nat} {w w' : World} (hb : Below n₀ w w') : ∀ n : NT, InT n₀ w n → InT n₀ w' n := NT.ind fun n ih h =>
  (inT_iff n).2 ⟨h.row.below hb, h.cap, fun k hk => ih k hk (h.kid hk)⟩
theorem InT.mono {n₀ n₁ : Nat} {w : World} (hn : n₀ ≤ n₁) : ∀ n : NT, InT n₀ w n → InT n₁ w n := NT.ind fun n ih h =>
  (inT_iff n).2 ⟨h.row.mono hn, h.cap, fun k hk => ih k hk (h.kid hk)⟩
/-- what a kid's five cells hold -/
theorem InT.cells {n₀ : Nat} {w : World} {n : NT} (h : InT n₀ w n) (i : Nat) (hi : i < n.kids.length) : ∃ b off, n.A = some ⟨b, off, none⟩ ∧ b < n₀ ∧ Cells5 w b (off + i * 5) n.kids[i] := by
  obtain ⟨b, off, hA, hlt, hc⟩ := h.row (by omega)
  exact ⟨b, off, hA, hlt, hc i hi⟩
theorem InT.ndss {n₀ : Nat} {w : World} (l : List NT) (h : ∀ k ∈ l, InT n₀ w k) (ih : ∀ k ∈ l, InT n₀ w k → ∀ x ∈ NT.nds k, InT n₀ w x) : ∀ x ∈ NT.ndss l, InT n₀ w x := by
  induction l with
  | nil => intro x hx; simp [NT.ndss] at hx
  | cons y ys ihl =>
    intro x hx
    simp only [NT.ndss, List.mem_append] at hx
    cases hx with
    | inl e => exact ih y (by simp) (h y (by simp)) x e
    | inr e => exact ihl (fun k hk => h k (by simp [hk])) (fun k hk => ih k (by simp [hk])) x e
theorem InT.nds {n₀ : Nat} {w : World} : ∀ n : NT, InT n₀ w n → ∀ x ∈ NT.nds n, InT n₀ w x := NT.ind fun n ih h x hx => by
  rw [NT.nds_eq] at hx
  cases List.mem_cons.1 hx with
  | inl e => rw [e]; exact h
  | inr e => exact InT.ndss n.kids (fun k hk => h.kid hk) ih x e
end Go.Proofs.YtnpcfmoiiecadaaDoor
