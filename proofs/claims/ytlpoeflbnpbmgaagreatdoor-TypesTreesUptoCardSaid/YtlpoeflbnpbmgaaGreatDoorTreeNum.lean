/- What is proved: distance and Number return what the plain functions say. -/
import Derived.Test.YtlpoeflbnpbmgaaGreatDoorTyWr
import Derived.Test.YtlpoeflbnpbmgaaGreatDoorTreeCount
import Derived.Maps.AppendAt
set_option linter.unusedVariables false
namespace Go.Proofs.YtlpoeflbnpbmgaaGreatDoor.NT
open Go.RowKit

mutual
/-- the paths of all nodes, in the order of their numbers -/
def pths : NT → List (List Nat)
  | mk _ _ _ _ _ _ ks => [] :: pthss ks 0
def pthss : List NT → Nat → List (List Nat)
  | [], _ => []
  | k :: ks, i => (pths k).map (i :: ·) ++ pthss ks (i + 1)
end
theorem pths_eq (n : NT) : pths n = [] :: pthss n.kids 0 := by cases n; simp [pths, kids]

/-- the node with a path -/
def getP : NT → List Nat → Option NT
  | n, [] => some n
  | n, i :: p => if h : i < n.kids.length then getP n.kids[i] p else none
/-- the number of the node with a path -/
def numP : NT → List Nat → Option Nat
  | n, [] => some 0
  | n, i :: p => if h : i < n.kids.length then (numP n.kids[i] p).map (· + (1 + cnts (n.kids.take i))) else none

theorem pthss_len (l : List NT) (h : ∀ k ∈ l, (pths k).length = cnt k) : ∀ i, (pthss l i).length = cnts l := by
  induction l with
  | nil => intro i; simp [pthss, cnts]
  | cons x xs ih => intro i; simp [pthss, cnts, h x (by simp), ih (fun k hk => h k (by simp [hk]))]
theorem pths_len : ∀ n : NT, (pths n).length = cnt n := ind fun n ih => by
  rw [pths_eq, cnt_eq, List.length_cons, pthss_len _ ih]

/-- where among the paths below the kids from the i-th on a number stands -/
theorem pthss_get (l : List NT) : ∀ (i j : Nat) (m : Nat) (hm : m < l.length) (q : List Nat), (pths l[m])[j]? = some q → (pthss l i)[cnts (l.take m) + j]? = some ((i + m) :: q) := by
  intro i j m
  induction l generalizing i m with
  | nil => intro hm; simp at hm
  | cons x xs ih =>
    intro hm q hq
    cases m with
    | zero =>
      have hj : j < (pths x).length := (List.getElem?_eq_some_iff.1 hq).1
      simp only [pthss, List.take_zero, cnts, Nat.zero_add, Nat.add_zero]
      rw [List.getElem?_append_left (by simpa using hj)]
      simp only [List.getElem_cons_zero] at hq
      simp [hq]
    | succ m =>
      have h' := ih (i + 1) m (by simpa using hm) q (by simpa using hq)
      simp only [pthss, List.take_succ_cons, cnts]
      rw [List.getElem?_append_right (by simp [pths_len]; omega)]
      simp only [List.length_map, pths_len]
      rw [show cnt x + cnts (xs.take m) + j - cnt x = cnts (xs.take m) + j from by omega, h', show i + 1 + m = i + (m + 1) from by omega]

/-- a path that leads to a node stands at the node's number -/
theorem pths_num : ∀ (p : List Nat) (n : NT) (k : Nat), numP n p = some k → (pths n)[k]? = some p := by
  intro p
  induction p with
  | nil => intro n k h; simp [numP] at h; subst h; rw [pths_eq]; rfl
  | cons i p ih =>
    intro n k h
    unfold numP at h
    split at h
    · rename_i hi
      obtain ⟨j, hj, rfl⟩ := Option.map_eq_some_iff.1 h
      have h1 := ih _ _ hj
      have h2 := pthss_get n.kids 0 j i hi p h1
      rw [pths_eq, show j + (1 + cnts (n.kids.take i)) = (cnts (n.kids.take i) + j) + 1 from by omega, List.getElem?_cons_succ, h2]
      simp
    · simp at h
theorem numP_lt {n : NT} {p : List Nat} {k : Nat} (h : numP n p = some k) : k < cnt n := by
  have := pths_num p n k h
  rw [← pths_len]
  exact (List.getElem?_eq_some_iff.1 this).1

theorem pthss_mem (l : List NT) (i : Nat) (q : List Nat) (h : q ∈ pthss l i) : ∃ (m : Nat) (hm : m < l.length) (p : List Nat), p ∈ pths l[m] ∧ q = (i + m) :: p := by
  induction l generalizing i with
  | nil => simp [pthss] at h
  | cons x xs ih =>
    simp only [pthss, List.mem_append, List.mem_map] at h
    rcases h with ⟨p, hp, rfl⟩ | h
    · exact ⟨0, by simp, p, by simpa using hp, by simp⟩
    · obtain ⟨m, hm, p, hp, rfl⟩ := ih (i + 1) h
      exact ⟨m + 1, by simp; omega, p, by simpa using hp, by simp; omega⟩
/-- each path of the list leads to a node and has a number -/
theorem pths_some : ∀ (n : NT) (p : List Nat), p ∈ pths n → (∃ k, numP n p = some k) ∧ ∃ x, getP n p = some x := ind fun n ih p hp => by
  rw [pths_eq] at hp
  cases List.mem_cons.1 hp with
  | inl e => subst e; exact ⟨⟨0, rfl⟩, ⟨n, rfl⟩⟩
  | inr e =>
    obtain ⟨m, hm, q, hq, rfl⟩ := pthss_mem _ _ _ e
    obtain ⟨⟨k, hk⟩, ⟨x, hx⟩⟩ := ih _ (List.getElem_mem hm) q hq
    rw [Nat.zero_add]
    constructor
    · unfold numP; rw [dif_pos hm, hk]; exact ⟨_, rfl⟩
    · unfold getP; rw [dif_pos hm]; exact ⟨x, hx⟩
theorem pths_nodup_aux (n : NT) (i j : Nat) (p : List Nat) (hi : (pths n)[i]? = some p) (hk : numP n p = some j) (hu : ∀ (i j : Nat) (q : List Nat), (pths n)[i]? = some q → (pths n)[j]? = some q → i = j) : i = j := hu i j p hi (pths_num p n j hk)

theorem pthss_inj (l : List NT) (h : ∀ k ∈ l, ∀ (i j : Nat) (q : List Nat), (pths k)[i]? = some q → (pths k)[j]? = some q → i = j) :
    ∀ (b i j : Nat) (q : List Nat), (pthss l b)[i]? = some q → (pthss l b)[j]? = some q → i = j := by
  induction l with
  | nil => intro b i j q hi; simp [pthss] at hi
  | cons x xs ih =>
    intro b i j q hi hj
    have lenx := pths_len x
    have far : ∀ m : Nat, (pths x).length ≤ m → (pthss (x :: xs) b)[m]? = some q → ∃ r, q = r ∧ (pthss xs (b + 1))[m - (pths x).length]? = some q := by
      intro m hm h1
      simp only [pthss] at h1
      rw [List.getElem?_append_right (by simpa using hm)] at h1
      exact ⟨q, rfl, by simpa using h1⟩
    have near : ∀ m : Nat, m < (pths x).length → (pthss (x :: xs) b)[m]? = some q → ∃ r, q = b :: r ∧ (pths x)[m]? = some r := by
      intro m hm h1
      simp only [pthss] at h1
      rw [List.getElem?_append_left (by simpa using hm)] at h1
      simp only [List.getElem?_map] at h1
      obtain ⟨r, hr, rfl⟩ := Option.map_eq_some_iff.1 h1
      exact ⟨r, rfl, hr⟩
    have heads : ∀ m : Nat, (pthss xs (b + 1))[m]? = some q → ∃ c r, q = c :: r ∧ b < c := by
      intro m hm
      obtain ⟨u, hu, p, _, rfl⟩ := pthss_mem xs (b + 1) q (List.mem_of_getElem? hm)
      exact ⟨_, _, rfl, by omega⟩
    by_cases h1 : i < (pths x).length <;> by_cases h2 : j < (pths x).length
    · obtain ⟨r, e, hr⟩ := near i h1 hi
      obtain ⟨r', e', hr'⟩ := near j h2 hj
      rw [e] at e'
      simp only [List.cons.injEq, true_and] at e'
      subst e'
      exact h x (by simp) i j r hr hr'
    · obtain ⟨r, e, hr⟩ := near i h1 hi
      obtain ⟨_, _, hr'⟩ := far j (by omega) hj
      obtain ⟨c, r', e', hc⟩ := heads _ hr'
      rw [e] at e'
      simp at e'
      omega
    · obtain ⟨r, e, hr⟩ := near j h2 hj
      obtain ⟨_, _, hr'⟩ := far i (by omega) hi
      obtain ⟨c, r', e', hc⟩ := heads _ hr'
      rw [e] at e'
      simp at e'
      omega
    · obtain ⟨_, _, hr⟩ := far i (by omega) hi
      obtain ⟨_, _, hr'⟩ := far j (by omega) hj
      have := ih (fun k hk => h k (by simp [hk])) (b + 1) _ _ q hr hr'
      omega
theorem pths_inj : ∀ (n : NT) (i j : Nat) (q : List Nat), (pths n)[i]? = some q → (pths n)[j]? = some q → i = j := ind fun n ih i j q hi hj => by
  rw [pths_eq] at hi hj
  have nn : ∀ m : Nat, (pthss n.kids 0)[m]? = some q → q ≠ [] := by
    intro m hm
    obtain ⟨u, hu, p, _, rfl⟩ := pthss_mem n.kids 0 q (List.mem_of_getElem? hm)
    simp
  cases i with
  | zero =>
    cases j with
    | zero => rfl
    | succ j =>
      simp at hi hj
      exact (nn j hj (by simpa using hi.symm)).elim
  | succ i =>
    cases j with
    | zero =>
      simp at hi hj
      exact (nn i hi (by simpa using hj.symm)).elim
    | succ j =>
      simp at hi hj
      rw [pthss_inj n.kids ih 0 i j q hi hj]
/-- the path at a number has this number -/
theorem num_pths {n : NT} {k : Nat} {p : List Nat} (h : (pths n)[k]? = some p) : numP n p = some k := by
  obtain ⟨⟨j, hj⟩, _⟩ := pths_some n p (List.mem_of_getElem? h)
  rw [hj, pths_inj n k j p h (pths_num p n j hj)]

/-- one step of the path while one goes through the nodes -/
def stepP (P : List Nat) (v : Nat) : List Nat :=
  if v = 1 then P else if v = P.length + 2 then P ++ [0] else (P.take (v - 2)) ++ [(P.getD (v - 2) 0) + 1]
def track (P : List Nat) : List Nat → List (List Nat)
  | [] => []
  | v :: vs => stepP P v :: track (stepP P v) vs
theorem track_append (l m : List Nat) : ∀ P, track P (l ++ m) = track P l ++ track (l.foldl stepP P) m := by
  induction l with
  | nil => intro P; rfl
  | cons v vs ih => intro P; simp [track, ih]

theorem track_forest (l : List NT) (h : ∀ k ∈ l, ∀ (p P : List Nat), stepP P (p.length + 1) = p → track P ((wlk k (p.length + 1)).map (·.1)) = (pths k).map (p ++ ·) ∧ p <+: ((wlk k (p.length + 1)).map (·.1)).foldl stepP P) :
    ∀ (i : Nat) (b P : List Nat), ((i = 0 ∧ P = b) ∨ ∃ j, i = j + 1 ∧ (b ++ [j]) <+: P) →
      track P ((wlks l (b.length + 2)).map (·.1)) = (pthss l i).map (b ++ ·) ∧ b <+: ((wlks l (b.length + 2)).map (·.1)).foldl stepP P := by
  induction l with
  | nil =>
    intro i b P hP
    refine ⟨by simp [wlks, pthss, track], ?_⟩
    rcases hP with ⟨_, rfl⟩ | ⟨j, _, hj⟩
    · simp [wlks]
    · simp only [wlks, List.map_nil, List.foldl_nil]
      exact (List.prefix_append b [j]).trans hj
  | cons x xs ih =>
    intro i b P hP
    have hs : stepP P ((b ++ [i]).length + 1) = b ++ [i] := by
      rcases hP with ⟨rfl, rfl⟩ | ⟨j, rfl, r, rfl⟩
      · unfold stepP
        rw [if_neg (by simp), if_pos (by simp)]
      · unfold stepP
        rw [if_neg (by simp), if_neg (by simp)]
        have e : (b ++ [j + 1]).length + 1 - 2 = b.length := by simp
        rw [e]
        simp
    obtain ⟨h1, h2⟩ := h x (by simp) (b ++ [i]) P hs
    have hl : (b ++ [i]).length + 1 = b.length + 2 := by simp
    rw [hl] at h1 h2
    obtain ⟨g1, g2⟩ := ih (fun k hk => h k (by simp [hk])) (i + 1) b (((wlk x (b.length + 2)).map (·.1)).foldl stepP P) (.inr ⟨i, rfl, h2⟩)
    constructor
    · simp only [wlks, List.map_append, pthss]
      rw [track_append, h1, g1]
      simp [List.map_map, Function.comp_def]
    · simp only [wlks, List.map_append, List.foldl_append]
      exact g2
theorem track_node : ∀ (n : NT) (p P : List Nat), stepP P (p.length + 1) = p → track P ((wlk n (p.length + 1)).map (·.1)) = (pths n).map (p ++ ·) ∧ p <+: ((wlk n (p.length + 1)).map (·.1)).foldl stepP P := ind fun n ih p P hs => by
  obtain ⟨g1, g2⟩ := track_forest n.kids ih 0 p p (.inl ⟨rfl, rfl⟩)
  rw [wlk_eq, pths_eq]
  simp only [List.map_cons, track, List.foldl_cons, hs, List.append_nil]
  exact ⟨by rw [g1], g2⟩
/-- going through the levels of the nodes gives their paths -/
theorem track_root (n : NT) : track [] ((wlk n 1).map (·.1)) = pths n := by
  have h := (track_node n [] [] (by simp [stepP])).1
  simpa using h
theorem track_get (P : List Nat) (l : List Nat) : ∀ (k : Nat), k < l.length → (track P l)[k]? = some ((l.take (k + 1)).foldl stepP P) := by
  induction l generalizing P with
  | nil => intro k h; simp at h
  | cons v vs ih =>
    intro k h
    cases k with
    | zero => simp [track]
    | succ k => simpa [track] using ih (stepP P v) k (by simpa using h)
/-- a path's length is one less than its node's level -/
theorem wlks_pthss (l : List NT) (h : ∀ k ∈ l, ∀ v, (wlk k (v + 1)).map (·.1) = (pths k).map (·.length + (v + 1))) : ∀ (i v : Nat), (wlks l (v + 1)).map (·.1) = (pthss l i).map (·.length + v) := by
  induction l with
  | nil => intro i v; simp [wlks, pthss]
  | cons x xs ih =>
    intro i v
    simp only [wlks, pthss, List.map_append, List.map_map, Function.comp_def]
    rw [h x (by simp) v, ih (fun k hk => h k (by simp [hk])) (i + 1) v]
    simp [Nat.add_assoc, Nat.add_comm 1 v]
theorem wlk_pths : ∀ (n : NT) (v : Nat), (wlk n (v + 1)).map (·.1) = (pths n).map (·.length + (v + 1)) := ind fun n ih v => by
  rw [wlk_eq, pths_eq]
  simp only [List.map_cons, List.length_nil, Nat.zero_add]
  rw [wlks_pthss n.kids ih 0 (v + 1)]
end Go.Proofs.YtlpoeflbnpbmgaaGreatDoor.NT
set_option linter.unusedVariables false
namespace Go.Proofs.YtlpoeflbnpbmgaaGreatDoor
open Go.RowKit Go.Shelf
attribute [local go_sem] Oper.semAt_some

/-- a list of numbers as cells -/
def icells (l : List Nat) : List Value := l.map fun k : Nat => .int .i64 (k : Int)
theorem icells_len (l : List Nat) : (icells l).length = l.length := by simp [icells]
theorem icells_one (l : List Nat) : ∀ u ∈ icells l, u.oneCell' = true := by
  intro u hu
  obtain ⟨k, _, rfl⟩ := List.mem_map.1 hu
  rfl
/-- a slice's address, nil or not, below block n₀, where these numbers lie -/
def IntRow (n₀ : Nat) (w : World) (A : Option Addr) (l : List Nat) : Prop :=
  0 < l.length → ∃ b off, A = some ⟨b, off, none⟩ ∧ b < n₀ ∧ ∀ (i : Nat) (h : i < l.length), w.cell? ⟨b, off + i, none⟩ = some (.int .i64 (l[i] : Int))
theorem IntRow.below {n₀ : Nat} {w w' : World} {A : Option Addr} {l : List Nat} (h : IntRow n₀ w A l) (hb : Below n₀ w w') : IntRow n₀ w' A l := fun h0 => by
  obtain ⟨b, off, hA, hlt, hc⟩ := h h0
  exact ⟨b, off, hA, hlt, fun i hi => (hb.cell (p := ⟨b, off + i, none⟩) hlt).trans (hc i hi)⟩
theorem IntRow.mono {n₀ n₁ : Nat} {w : World} {A : Option Addr} {l : List Nat} (h : IntRow n₀ w A l) (hn : n₀ ≤ n₁) : IntRow n₁ w A l := fun h0 => by
  obtain ⟨b, off, hA, hlt, hc⟩ := h h0
  exact ⟨b, off, hA, by omega, hc⟩
theorem ints_own {w : World} {B : Nat} {v : Value} {l : List Nat} (h : w.ownsRow B 3 1 v l.length (icells l)) : ∃ A c, v = .slice A l.length c ∧ IntRow w.heap.size w A l := by
  rcases Nat.eq_zero_or_pos l.length with h0 | h0
  · rcases h.2 with ⟨rfl, _⟩ | ⟨g, cap, cur, rfl, _⟩
    · exact ⟨none, 0, by rw [h0], fun hh => by omega⟩
    · exact ⟨_, _, rfl, fun hh => by omega⟩
  · obtain ⟨g, cap, hv, _, hlt⟩ := h.form h0
    refine ⟨some ⟨g, 0, none⟩, cap, hv, fun _ => ⟨g, 0, rfl, hlt, fun i hi => ?_⟩⟩
    have hc := h.cells (g := g) (by rw [hv]; rfl) i (.int .i64 (l[i] : Int)) (by simp [icells, List.getElem?_eq_getElem hi])
    rwa [addr_add] at hc
theorem own_frozen {w : World} {B g n m cap : Nat} {e : TypeId} {sz : Nat} {xs : List Value} (h : w.ownsRow B e sz (.slice (some ⟨g, 0, none⟩) n cap) m xs) (j : Nat) : w.frozen? ⟨g, j, none⟩ = false := by
  obtain ⟨hl, h0 | ⟨g', cap', cur, hv, hb, hg, hn, hc, hs, hx⟩⟩ := h
  · simp at h0
  · cases hv
    simp [World.frozen?, hg]
theorem own_cap {w : World} {B g n cap : Nat} {e : TypeId} {sz : Nat} {xs : List Value} (h : w.ownsRow B e sz (.slice (some ⟨g, 0, none⟩) n cap) n xs) : n ≤ cap ∧ cap ≤ maxLen := by
  obtain ⟨hl, h0 | ⟨g', cap', cur, hv, hb, hg, hn, hc, hs, hx⟩⟩ := h
  · simp at h0
  · cases hv
    exact ⟨hn, hc⟩
/-- a shorter part of a row of its own -/
theorem own_take {w : World} {B g n cap m : Nat} {e : TypeId} {xs : List Value} (h : w.ownsRow B e 1 (.slice (some ⟨g, 0, none⟩) n cap) n xs) (hm : m ≤ n) : w.ownsRow B e 1 (.slice (some ⟨g, 0, none⟩) m cap) m (xs.take m) := by
  obtain ⟨hl, h0 | ⟨g', cap', cur, hv, hb, hg, hn, hc, hs, hx⟩⟩ := h
  · simp at h0
  · cases hv
    refine ⟨by simp; omega, .inr ⟨g, cap, cur, rfl, hb, hg, by omega, hc, hs, ?_⟩⟩
    rw [← hx, List.take_take, Nat.mul_one, Nat.mul_one, Nat.min_eq_left hm]
/-- a store into a row of its own -/
theorem own_set {w : World} {B g n cap j : Nat} {e : TypeId} {xs : List Value} (h : w.ownsRow B e 1 (.slice (some ⟨g, 0, none⟩) n cap) n xs) (hj : j < n) (u : Value) : (w.setCell ⟨g, j, none⟩ u).ownsRow B e 1 (.slice (some ⟨g, 0, none⟩) n cap) n (xs.set j u) := by
  obtain ⟨hl, h0 | ⟨g', cap', cur, hv, hb, hg, hn, hc, hs, hx⟩⟩ := h
  · simp at h0
  · cases hv
    refine ⟨by simp; omega, .inr ⟨g, cap, cur.setIfInBounds j u, rfl, hb, ?_, hn, hc, by simpa using hs, ?_⟩⟩
    · simp [World.setCell, Array.getElem?_modify, hg]
    · rw [← hx, Array.toList_setIfInBounds, List.take_set]

theorem stepP_one (P : List Nat) : NT.stepP P 1 = P := by simp [NT.stepP]
theorem stepP_down (P : List Nat) : NT.stepP P (P.length + 2) = P ++ [0] := by simp [NT.stepP]
theorem stepP_on (P : List Nat) (v : Nat) (h1 : v ≠ 1) (h2 : v ≠ P.length + 2) : NT.stepP P v = P.take (v - 2) ++ [P.getD (v - 2) 0 + 1] := by simp [NT.stepP, h1, h2]

/-- along the nodes of a tree: where the next level is neither the root's nor one below the node before, the path is long enough -/
theorem level_ok (n : NT) (pre : List (Nat × NT)) (x : Nat × NT) (post : List (Nat × NT)) (h : NT.wlk n 1 = pre ++ x :: post) :
    NT.stepP ((pre.map (·.1)).foldl NT.stepP []) x.1 = (NT.pths n).getD pre.length [] ∧ x.1 = ((NT.pths n).getD pre.length []).length + 1 ∧ pre.length < NT.cnt n := by
  have hlen : pre.length < (NT.wlk n 1).length := by rw [h]; simp
  have hlen' : pre.length < (NT.pths n).length := by rw [NT.pths_len]; rwa [NT.wlk_len] at hlen
  have h1 := NT.track_root n
  have h2 := NT.track_get [] ((NT.wlk n 1).map (·.1)) pre.length (by simpa using hlen)
  have h3 := NT.wlk_pths n 0
  rw [h1, h] at h2
  have e : ((pre ++ x :: post).map (·.1)).take (pre.length + 1) = pre.map (·.1) ++ [x.1] := by
    rw [show pre ++ x :: post = (pre ++ [x]) ++ post by simp, List.map_append, List.take_left' (by simp)]
    simp
  rw [e, List.foldl_append] at h2
  have g : (NT.pths n).getD pre.length [] = NT.stepP ((pre.map (·.1)).foldl NT.stepP []) x.1 := by
    rw [List.getD_eq_getElem?_getD, h2]; rfl
  refine ⟨g.symm, ?_, by rwa [NT.wlk_len] at hlen⟩
  have h4 : ((NT.wlk n (0 + 1)).map (·.1))[pre.length]? = some x.1 := by rw [show (0 + 1 : Nat) = 1 from rfl, h]; simp
  rw [h3, List.getElem?_map, h2] at h4
  simp only [List.foldl_cons, List.foldl_nil] at h4
  simp only [Option.map_some, Option.some.injEq] at h4
  rw [g]
  omega

theorem pths_ents : ∀ (n : NT) (q : List Nat), q ∈ NT.pths n → ∀ x ∈ q, x ≤ NT.cnt n := NT.ind fun n ih q hq x hx => by
  rw [NT.pths_eq] at hq
  cases List.mem_cons.1 hq with
  | inl e => subst e; cases hx
  | inr e =>
    obtain ⟨m, hm, p, hp, rfl⟩ := NT.pthss_mem _ _ _ e
    have hk := NT.cnt_kid (List.getElem_mem hm)
    have hl := NT.kids_len n
    cases List.mem_cons.1 hx with
    | inl e => omega
    | inr e => have := ih _ (List.getElem_mem hm) p hp x e; omega

/-- the path of the node with a number, and whether there is one -/
def pathAt (n : NT) (k : Int) : List Nat := if 0 ≤ k then (NT.pths n).getD k.toNat [] else []
def isNum (n : NT) (k : Int) : Bool := decide (0 ≤ k ∧ k < (NT.cnt n : Int))

theorem path_start (w : World) (T : NT) (k : Int) : ∃ W : World, ((((((w.alloc (.cells #[.int .i64 T.kind, .string T.text, .int .i64 T.lo, .int .i64 T.hi, .slice T.A T.kids.length T.c] 24)).alloc (.cells #[.int .i64 k] 3)).alloc (.cells #[.slice none 0 0] 84)).alloc (.cells #[.bool false] 4)).alloc (.cells #[.slice none 0 0] 84)).alloc (.cells #[.int .i64 T.kind, .string T.text, .int .i64 T.lo, .int .i64 T.hi, .slice T.A T.kids.length T.c] 24)) = W ∧ W.heap.size = w.heap.size + 6 ∧ Below w.heap.size w W ∧
    Boxed W (w.heap.size + 1) 3 (.int .i64 k) ∧ Boxed W (w.heap.size + 1 + 1) 84 (.slice none 0 0) ∧ Boxed W (w.heap.size + 1 + 1 + 1) 4 (.bool false) ∧ Boxed W (w.heap.size + 1 + 1 + 1 + 1) 84 (.slice none 0 0) ∧ W.heap[w.heap.size + 1 + 1 + 1 + 1 + 1]? = some (.cells #[.int .i64 T.kind, .string T.text, .int .i64 T.lo, .int .i64 T.hi, .slice T.A T.kids.length T.c] 24 (0, 0)) := by
  have z0 := World.size_alloc w (.cells #[.int .i64 T.kind, .string T.text, .int .i64 T.lo, .int .i64 T.hi, .slice T.A T.kids.length T.c] 24)
  have b0 := (Below.refl w.heap.size w).alloc (Nat.le_refl _) (.cells #[.int .i64 T.kind, .string T.text, .int .i64 T.lo, .int .i64 T.hi, .slice T.A T.kids.length T.c] 24)
  generalize w.alloc (.cells #[.int .i64 T.kind, .string T.text, .int .i64 T.lo, .int .i64 T.hi, .slice T.A T.kids.length T.c] 24) = w1 at *
  have z1 := World.size_alloc w1 (.cells #[.int .i64 k] 3)
  have b1 := b0.alloc (by omega) (.cells #[.int .i64 k] 3)
  have q1 := Boxed.new w1 3 (.int .i64 k)
  rw [z0] at q1
  generalize w1.alloc (.cells #[.int .i64 k] 3) = w2 at *
  have z2 := World.size_alloc w2 (.cells #[.slice none 0 0] 84)
  have b2 := b1.alloc (by omega) (.cells #[.slice none 0 0] 84)
  have p1 := q1.alloc (.cells #[.slice none 0 0] 84)
  have q2 := Boxed.new w2 84 (.slice none 0 0)
  rw [z1, z0] at q2
  generalize w2.alloc (.cells #[.slice none 0 0] 84) = w3 at *
  have z3 := World.size_alloc w3 (.cells #[.bool false] 4)
  have b3 := b2.alloc (by omega) (.cells #[.bool false] 4)
  have p1 := p1.alloc (.cells #[.bool false] 4)
  have p2 := q2.alloc (.cells #[.bool false] 4)
  have q3 := Boxed.new w3 4 (.bool false)
  rw [z2, z1, z0] at q3
  generalize w3.alloc (.cells #[.bool false] 4) = w4 at *
  have z4 := World.size_alloc w4 (.cells #[.slice none 0 0] 84)
  have b4 := b3.alloc (by omega) (.cells #[.slice none 0 0] 84)
  have p1 := p1.alloc (.cells #[.slice none 0 0] 84)
  have p2 := p2.alloc (.cells #[.slice none 0 0] 84)
  have p3 := q3.alloc (.cells #[.slice none 0 0] 84)
  have q4 := Boxed.new w4 84 (.slice none 0 0)
  rw [z3, z2, z1, z0] at q4
  generalize w4.alloc (.cells #[.slice none 0 0] 84) = w5 at *
  have hk := heap_alloc_new w5 (.cells #[.int .i64 T.kind, .string T.text, .int .i64 T.lo, .int .i64 T.hi, .slice T.A T.kids.length T.c] 24)
  rw [z4, z3, z2, z1, z0] at hk
  exact ⟨_, rfl, by simp; omega, b4.alloc (by omega) _, p1.alloc _, p2.alloc _, p3.alloc _, q4.alloc _, hk⟩

/-- what the loop's cells hold when the nodes of pre have come -/
structure Way (w : World) (k : Int) (P : List Nat) (n : Nat) (M : Nat) (W : World) : Prop where
  num : ∃ q : Int, (q = k - n ∨ q = k - n + 18446744073709551616) ∧ -9223372036854775808 ≤ q ∧ q ≤ 9223372036854775807 ∧ Boxed W (w.heap.size + 1) 3 (.int .i64 q)
  res : Boxed W (w.heap.size + 1 + 1) 84 (.slice none 0 0)
  ok : Boxed W (w.heap.size + 1 + 1 + 1) 4 (.bool false)
  path : ∃ v, Boxed W (w.heap.size + 1 + 1 + 1 + 1) 84 v ∧ W.ownsRow (w.heap.size + 6) 3 1 v P.length (icells P) ∧ (∀ b, v.ownBlock = some b → b < M)
  below : Below w.heap.size w W
  len : P.length ≤ 1000000000
  ents : ∀ x ∈ P, x ≤ 1000000000
theorem Way.own {w : World} {k : Int} {P : List Nat} {n M B : Nat} (hB : w.heap.size + 6 ≤ B) {X Y : World} {row : Option Nat} (h : Way w k P n M X) (hg : X.grownBy Y row) (hr : ∀ r, row = some r → B ≤ r ∧ ∃ o : Obj, X.heap[r]? = some o ∧ o.isCells = false) : Way w k P n M Y := by
  have far : ∀ b, b < w.heap.size + 6 → some b ≠ row := fun b hb e => by have := (hr b e.symm).1; omega
  obtain ⟨q, h1, h2, h3, h4⟩ := h.num
  obtain ⟨v, g1, g2, g3⟩ := h.path
  refine ⟨⟨q, h1, h2, h3, h4.kept hg (far _ (by omega))⟩, h.res.kept hg (far _ (by omega)), h.ok.kept hg (far _ (by omega)), ⟨v, g1.kept hg (far _ (by omega)), g2.kept hg ?_, g3⟩, h.below.grown hg h.below.size (fun r e => by have := (hr r e).1; omega), h.len, h.ents⟩
  cases hv : v.ownBlock with
  | none => exact .inl rfl
  | some b =>
    refine .inr (fun e => ?_)
    obtain ⟨_, o, ho, hc⟩ := hr b e.symm
    rcases g2.2 with ⟨rfl, _⟩ | ⟨g, cap, cur, rfl, _, hgc, _⟩
    · simp [Value.ownBlock] at hv
    · simp [Value.ownBlock] at hv
      subst hv
      rw [hgc] at ho
      cases ho
      cases hc

theorem infoInt : (Tryz.prog.info? 3).map (fun i => (i.zero, i.size, i.bytes)) = some (some (.int .i64 0), 1, 8) := by kernel_rfl
/-- behind what a round does to the path -/
structure Mid (w W W1 : World) (M : Nat) (v : Value) (P : List Nat) : Prop where
  keeps : KeepsOthers W W1
  below : Below w.heap.size W W1
  stays : Stays M W W1
  boxes : ∀ b, b < w.heap.size + 4 → W1.heap[b]? = W.heap[b]?
  box : Boxed W1 (w.heap.size + 1 + 1 + 1 + 1) 84 v
  row : W1.ownsRow (w.heap.size + 6) 3 1 v P.length (icells P)
theorem Mid.start {w W : World} {k : Int} {P : List Nat} {n M : Nat} (h : Way w k P n M W) : ∃ v, Mid w W W M v P := by
  obtain ⟨v, g1, g2, g3⟩ := h.path
  exact ⟨v, KeepsOthers.refl W, Below.refl _ _, Stays.refl _ _, fun _ _ => rfl, g1, g2⟩
theorem row_ne {W : World} {B b : Nat} {e : TypeId} {sz n : Nat} {v : Value} {xs : List Value} (h : W.ownsRow B e sz v n xs) (hb : b < B) : v.ownBlock ≠ some b := fun e => by
  have := (h.lt b e).1
  omega
theorem Mid.longer {w W w1 : World} {M : Nat} {v v' : Value} {P : List Nat} {tmp : Obj} (g1 : Boxed W (w.heap.size + 1 + 1 + 1 + 1) 84 v) (g2 : W.ownsRow (w.heap.size + 6) 3 1 v P.length (icells P)) (g3 : ∀ b, v.ownBlock = some b → b < M) (hM : w.heap.size + 6 ≤ M) (hM2 : M ≤ W.heap.size)
    (hown : w1.ownsRow (w.heap.size + 6) 3 1 v' (P.length + 1) (icells P ++ [.int .i64 0])) (hgrow : (W.alloc tmp).grownBy w1 v.ownBlock) :
    Boxed w1 (w.heap.size + 1 + 1 + 1 + 1) 84 v ∧ Mid w W (w1.setCell ⟨w.heap.size + 1 + 1 + 1 + 1, 0, none⟩ v') M v' (P ++ [0]) := by
  have hne : ∀ b, b < w.heap.size + 6 → some b ≠ v.ownBlock := fun b hb => (row_ne g2 hb).symm
  have hb1 : Boxed w1 (w.heap.size + 1 + 1 + 1 + 1) 84 v := (g1.alloc tmp).kept hgrow (hne _ (by omega))
  have hz := hgrow.size
  simp at hz
  refine ⟨hb1, ?_, ?_, ?_, ?_, hb1.set v', ?_⟩
  · refine ((KeepsOthers.alloc W tmp).trans (KeepsOthers.of_grownBy hgrow fun j o ej hj => ?_)).trans (KeepsOthers.setCell _ _ _)
    rcases (g2.alloc tmp).2 with ⟨rfl, _⟩ | ⟨g, cap, cur, rfl, _, hgb, _⟩
    · simp [Value.ownBlock] at ej
    · obtain rfl : g = j := by simpa [Value.ownBlock] using ej
      rw [hgb] at hj
      cases hj
      rfl
  · exact (((Below.refl w.heap.size W).alloc (by omega) tmp).grown hgrow (by simp; omega) (fun j ej => by have := (g2.lt j ej).1; omega)).setCell (p := ⟨w.heap.size + 1 + 1 + 1 + 1, 0, none⟩) (by simp; omega) v'
  · refine Stays.set (fun b h1 h2 => ?_) _ _ _ (by omega)
    exact (hgrow.block b (by simp; omega) (fun e => by have := g3 b e.symm; omega)).trans (heap_alloc_old _ _ (by omega))
  · intro b hb
    exact ((Below.heap_setCell w1 ⟨w.heap.size + 1 + 1 + 1 + 1, 0, none⟩ v' b (by show b ≠ w.heap.size + 1 + 1 + 1 + 1; omega)).trans (hgrow.block b (by simp; omega) (hne b (by omega)))).trans (heap_alloc_old _ _ (by omega))
  · have e1 : (P ++ [0]).length = P.length + 1 := by simp
    have e2 : icells (P ++ [0]) = icells P ++ [.int .i64 0] := by simp [icells]
    rw [e1, e2]
    exact hown.kept (grownBy_setCell' w1 _ v') (.inr (row_ne hown (by omega)))
theorem Mid.on {w W : World} {M g cap m : Nat} {P : List Nat} (g1 : Boxed W (w.heap.size + 1 + 1 + 1 + 1) 84 (.slice (some ⟨g, 0, none⟩) P.length cap)) (g2 : W.ownsRow (w.heap.size + 6) 3 1 (.slice (some ⟨g, 0, none⟩) P.length cap) P.length (icells P)) (g3 : g < M) (hM : w.heap.size + 6 ≤ M) (hM2 : M ≤ W.heap.size) (hm : m < P.length) :
    Mid w W ((W.setCell ⟨w.heap.size + 1 + 1 + 1 + 1, 0, none⟩ (.slice (some ⟨g, 0, none⟩) (m + 1) cap)).setCell ⟨g, m, none⟩ (.int .i64 ((P[m] : Int) + 1))) M (.slice (some ⟨g, 0, none⟩) (m + 1) cap) (P.take m ++ [P.getD m 0 + 1]) := by
  have hg : w.heap.size + 6 ≤ g := (g2.lt g rfl).1
  have r1 := own_take g2 (show m + 1 ≤ P.length by omega)
  have r2 : (W.setCell ⟨w.heap.size + 1 + 1 + 1 + 1, 0, none⟩ (.slice (some ⟨g, 0, none⟩) (m + 1) cap)).ownsRow (w.heap.size + 6) 3 1 (.slice (some ⟨g, 0, none⟩) (m + 1) cap) (m + 1) ((icells P).take (m + 1)) := r1.kept (grownBy_setCell' W _ _) (.inr (row_ne r1 (by omega)))
  have r3 := own_set r2 (show m < m + 1 by omega) (.int .i64 ((P[m] : Int) + 1))
  refine ⟨(KeepsOthers.setCell _ _ _).trans (KeepsOthers.setCell _ _ _), ((Below.refl w.heap.size W).setCell (p := ⟨w.heap.size + 1 + 1 + 1 + 1, 0, none⟩) (by simp; omega) _).setCell (p := ⟨g, m, none⟩) (by simp; omega) _, Stays.set (Stays.set (Stays.refl _ _) _ _ _ (by omega)) _ _ _ g3, ?_, ?_, ?_⟩
  · intro b hb
    exact (Below.heap_setCell _ ⟨g, m, none⟩ _ b (by show b ≠ g; omega)).trans (Below.heap_setCell W ⟨w.heap.size + 1 + 1 + 1 + 1, 0, none⟩ _ b (by show b ≠ w.heap.size + 1 + 1 + 1 + 1; omega))
  · exact (Below.heap_setCell _ ⟨g, m, none⟩ _ _ (by show _ ≠ g; omega)).trans (g1.set _)
  · have e : (P.take m ++ [P.getD m 0 + 1]).length = m + 1 := by simp; omega
    have e2 : icells (P.take m ++ [P.getD m 0 + 1]) = ((icells P).take (m + 1)).set m (.int .i64 ((P[m] : Int) + 1)) := by
      apply List.ext_getElem?
      intro i
      simp only [icells, List.map_append, List.map_cons, List.map_nil, List.getElem?_set, List.getElem?_append, List.length_map, List.length_take, List.getElem?_map, List.getElem?_take]
      rcases Nat.lt_trichotomy i m with h | h | h
      · rw [if_pos (by omega), if_pos h, if_neg (by omega), if_pos (by omega)]
      · subst h
        rw [if_neg (by omega), if_pos rfl, if_pos (by omega), Nat.min_eq_left (by omega), Nat.sub_self]
        simp [List.getD_eq_getElem?_getD, List.getElem?_eq_getElem hm]
      · rw [if_neg (by omega), if_neg (by omega), if_neg (by omega), List.getElem?_eq_none (by simp; omega)]
    rw [e, e2]
    exact r3

theorem Mid.cells {w W W1 : World} {q : Int} {P' : List Nat} {M : Nat} {v : Value} (hm : Mid w W W1 M v P') (b0 : Boxed W (w.heap.size + 1) 3 (.int .i64 q)) (b1 : Boxed W (w.heap.size + 1 + 1) 84 (.slice none 0 0)) (b2 : Boxed W (w.heap.size + 1 + 1 + 1) 4 (.bool false)) :
    (W1.cell? ⟨w.heap.size + 1, 0, none⟩ = some (.int .i64 q) ∧ W1.frozen? ⟨w.heap.size + 1, 0, none⟩ = false) ∧ (W1.cell? ⟨w.heap.size + 1 + 1, 0, none⟩ = some (.slice none 0 0) ∧ W1.frozen? ⟨w.heap.size + 1 + 1, 0, none⟩ = false) ∧ (W1.cell? ⟨w.heap.size + 1 + 1 + 1, 0, none⟩ = some (.bool false) ∧ W1.frozen? ⟨w.heap.size + 1 + 1 + 1, 0, none⟩ = false) ∧ W1.cell? ⟨w.heap.size + 1 + 1 + 1 + 1, 0, none⟩ = some v := by
  have r0 : Boxed W1 (w.heap.size + 1) 3 (.int .i64 q) := (hm.boxes _ (by omega)).trans b0
  have r1 : Boxed W1 (w.heap.size + 1 + 1) 84 (.slice none 0 0) := (hm.boxes _ (by omega)).trans b1
  have r2 : Boxed W1 (w.heap.size + 1 + 1 + 1) 4 (.bool false) := (hm.boxes _ (by omega)).trans b2
  exact ⟨⟨r0.cell, r0.frozen⟩, ⟨r1.cell, r1.frozen⟩, ⟨r2.cell, r2.frozen⟩, hm.box.cell⟩
/-- a round that goes on -/
theorem Way.next {w W W1 : World} {k q' : Int} {P P' : List Nat} {n M : Nat} {v : Value} (h : Way w k P n M W) (hm : Mid w W W1 M v P') (hM : w.heap.size + 8 ≤ M) (hM2 : M ≤ W.heap.size) (hq : q' = k - (n + 1 : Nat) ∨ q' = k - (n + 1 : Nat) + 18446744073709551616) (h1 : -9223372036854775808 ≤ q') (h2 : q' ≤ 9223372036854775807) (hl : P'.length + 1 ≤ 1000000000 ∧ ∀ x ∈ P', x ≤ 1000000000) :
    KeepsOthers W (W1.setCell ⟨w.heap.size + 1, 0, none⟩ (.int .i64 q')) ∧ Below w.heap.size W (W1.setCell ⟨w.heap.size + 1, 0, none⟩ (.int .i64 q')) ∧ Stays M W (W1.setCell ⟨w.heap.size + 1, 0, none⟩ (.int .i64 q')) ∧ Way w k P' (n + 1) (W1.setCell ⟨w.heap.size + 1, 0, none⟩ (.int .i64 q')).heap.size (W1.setCell ⟨w.heap.size + 1, 0, none⟩ (.int .i64 q')) := by
  obtain ⟨q, _, _, _, b0⟩ := h.num
  have b1 : Boxed W1 (w.heap.size + 1) 3 (.int .i64 q) := (hm.boxes _ (by omega)).trans b0
  have r1 : Boxed W1 (w.heap.size + 1 + 1) 84 (.slice none 0 0) := (hm.boxes _ (by omega)).trans h.res
  have r2 : Boxed W1 (w.heap.size + 1 + 1 + 1) 4 (.bool false) := (hm.boxes _ (by omega)).trans h.ok
  have rr := hm.row.kept (grownBy_setCell' W1 (w.heap.size + 1) (.int .i64 q')) (.inr (row_ne hm.row (by omega)))
  refine ⟨hm.keeps.trans (KeepsOthers.setCell _ _ _), hm.below.setCell (p := ⟨w.heap.size + 1, 0, none⟩) (by simp) _, Stays.set hm.stays _ _ _ (by omega), ⟨q', hq, h1, h2, b1.set _⟩, r1.other (by omega) _, r2.other (by omega) _, ⟨v, hm.box.other (by omega) _, rr, fun b e => (rr.lt b e).2⟩, ?_, by omega, hl.2⟩
  exact (h.below.trans hm.below).setCell (p := ⟨w.heap.size + 1, 0, none⟩) (by simp) _
/-- a round in which the node was found -/
theorem Way.found {w W W1 : World} {k : Int} {P P' : List Nat} {n M : Nat} {v : Value} (h : Way w k P n M W) (hm : Mid w W W1 M v P') :
    KeepsOthers W ((W1.setCell ⟨w.heap.size + 1 + 1, 0, none⟩ v).setCell ⟨w.heap.size + 1 + 1 + 1, 0, none⟩ (.bool true)) ∧ Boxed ((W1.setCell ⟨w.heap.size + 1 + 1, 0, none⟩ v).setCell ⟨w.heap.size + 1 + 1 + 1, 0, none⟩ (.bool true)) (w.heap.size + 1 + 1) 84 v ∧
    ((W1.setCell ⟨w.heap.size + 1 + 1, 0, none⟩ v).setCell ⟨w.heap.size + 1 + 1 + 1, 0, none⟩ (.bool true)).ownsRow (w.heap.size + 6) 3 1 v P'.length (icells P') ∧ Boxed ((W1.setCell ⟨w.heap.size + 1 + 1, 0, none⟩ v).setCell ⟨w.heap.size + 1 + 1 + 1, 0, none⟩ (.bool true)) (w.heap.size + 1 + 1 + 1) 4 (.bool true) ∧ Below w.heap.size w ((W1.setCell ⟨w.heap.size + 1 + 1, 0, none⟩ v).setCell ⟨w.heap.size + 1 + 1 + 1, 0, none⟩ (.bool true)) := by
  have r1 : Boxed W1 (w.heap.size + 1 + 1) 84 (.slice none 0 0) := (hm.boxes _ (by omega)).trans h.res
  have r2 : Boxed W1 (w.heap.size + 1 + 1 + 1) 4 (.bool false) := (hm.boxes _ (by omega)).trans h.ok
  have rr := hm.row.kept (grownBy_setCell' W1 (w.heap.size + 1 + 1) v) (.inr (row_ne hm.row (by omega)))
  have rr2 := rr.kept (grownBy_setCell' (W1.setCell ⟨w.heap.size + 1 + 1, 0, none⟩ v) (w.heap.size + 1 + 1 + 1) (.bool true)) (.inr (row_ne rr (by omega)))
  exact ⟨(hm.keeps.trans (KeepsOthers.setCell _ _ _)).trans (KeepsOthers.setCell _ _ _), (r1.set v).other (by omega) _, rr2, (r2.other (by omega) v).set _, ((h.below.trans hm.below).setCell (p := ⟨w.heap.size + 1 + 1, 0, none⟩) (by simp; omega) _).setCell (p := ⟨w.heap.size + 1 + 1 + 1, 0, none⟩) (by simp; omega) _⟩

theorem num_step {k q : Int} {n : Nat} (hk1 : -9223372036854775808 ≤ k) (hk2 : k ≤ 9223372036854775807) (hq : q = k - n ∨ q = k - n + 18446744073709551616) (h1 : -9223372036854775808 ≤ q) (h2 : q ≤ 9223372036854775807) (hne : ∀ j : Nat, j < n → k ≠ j) (hn : n ≤ 1000000000) :
    (q = 0 → k = (n : Int)) ∧ (q ≠ 0 → (wrap64 (q - 1) = k - ((n + 1 : Nat) : Int) ∨ wrap64 (q - 1) = k - ((n + 1 : Nat) : Int) + 18446744073709551616) ∧ -9223372036854775808 ≤ wrap64 (q - 1) ∧ wrap64 (q - 1) ≤ 9223372036854775807 ∧ ∀ j : Nat, j < n + 1 → k ≠ j) := by
  refine ⟨fun h => by omega, fun h => ⟨?_, ?_, ?_, fun j hj => ?_⟩⟩
  · unfold wrap64; omega
  · unfold wrap64; omega
  · unfold wrap64; omega
  · rcases Nat.lt_or_ge j n with h' | h'
    · exact hne j h'
    · omega
end Go.Proofs.YtlpoeflbnpbmgaaGreatDoor
set_option linter.unusedVariables false
namespace Go.Proofs.YtlpoeflbnpbmgaaGreatDoor
open Go.RowKit

namespace NT
/-- the node with a path of any numbers -/
def getZ : NT → List Int → Option NT
  | n, [] => some n
  | n, i :: p => if h : 0 ≤ i ∧ i.toNat < n.kids.length then getZ (n.kids[i.toNat]'h.2) p else none
/-- its number -/
def numZ : NT → List Int → Option Nat
  | n, [] => some 0
  | n, i :: p => if h : 0 ≤ i ∧ i.toNat < n.kids.length then (numZ (n.kids[i.toNat]'h.2) p).map (· + (1 + cnts (n.kids.take i.toNat))) else none
theorem getZ_nat (p : List Nat) : ∀ n : NT, getZ n (p.map Int.ofNat) = getP n p := by
  induction p with
  | nil => intro n; rfl
  | cons i p ih =>
    intro n
    by_cases h : i < n.kids.length
    · simp [getZ, getP, h, ih]
    · simp [getZ, getP, h]
theorem numZ_nat (p : List Nat) : ∀ n : NT, numZ n (p.map Int.ofNat) = numP n p := by
  induction p with
  | nil => intro n; rfl
  | cons i p ih =>
    intro n
    by_cases h : i < n.kids.length
    · simp [numZ, numP, h, ih]
    · simp [numZ, numP, h]
theorem getZ_yes {n : NT} {i : Int} {p : List Int} (h0 : 0 ≤ i) (h : i.toNat < n.kids.length) : getZ n (i :: p) = getZ n.kids[i.toNat] p := by simp [getZ, h0, h]
theorem getZ_no {n : NT} {i : Int} {p : List Int} (h : ¬ (0 ≤ i ∧ i < (n.kids.length : Int))) : getZ n (i :: p) = none := by
  unfold getZ; rw [dif_neg (by omega)]
theorem numZ_yes {n : NT} {i : Int} {p : List Int} (h0 : 0 ≤ i) (h : i.toNat < n.kids.length) : numZ n (i :: p) = (numZ n.kids[i.toNat] p).map (· + (1 + cnts (n.kids.take i.toNat))) := by simp [numZ, h0, h]
theorem numZ_no {n : NT} {i : Int} {p : List Int} (h : ¬ (0 ≤ i ∧ i < (n.kids.length : Int))) : numZ n (i :: p) = none := by
  unfold numZ; rw [dif_neg (by omega)]
theorem cnts_split (l : List NT) (i : Nat) (h : i < l.length) : cnts (l.take i) + cnt l[i] ≤ cnts l := by
  have h1 := cnts_get h
  have h2 := cnts_take_le l (i + 1)
  omega
end NT

/-- a slice's address, nil or not, below block n₀, where these numbers lie -/
def IRow (n₀ : Nat) (w : World) (A : Option Addr) (l : List Int) : Prop :=
  0 < l.length → ∃ b off, A = some ⟨b, off, none⟩ ∧ b < n₀ ∧ ∀ (i : Nat) (h : i < l.length), w.cell? ⟨b, off + i, none⟩ = some (.int .i64 l[i])
theorem IRow.below {n₀ : Nat} {w w' : World} {A : Option Addr} {l : List Int} (h : IRow n₀ w A l) (hb : Below n₀ w w') : IRow n₀ w' A l := fun h0 => by
  obtain ⟨b, off, hA, hlt, hc⟩ := h h0
  exact ⟨b, off, hA, hlt, fun i hi => (hb.cell (p := ⟨b, off + i, none⟩) hlt).trans (hc i hi)⟩
theorem IRow.later {w w' : World} {A : Option Addr} {l : List Int} (h : IRow w.heap.size w A l) (hb : Below w.heap.size w w') : IRow w'.heap.size w' A l := fun h0 => by
  obtain ⟨b, off, hA, hlt, hc⟩ := h.below hb h0
  exact ⟨b, off, hA, by have := hb.size; omega, hc⟩
theorem IntRow.ints {n₀ : Nat} {w : World} {A : Option Addr} {l : List Nat} (h : IntRow n₀ w A l) : IRow n₀ w A (l.map Int.ofNat) := fun h0 => by
  obtain ⟨b, off, hA, hlt, hc⟩ := h (by simpa using h0)
  exact ⟨b, off, hA, hlt, fun i hi => by rw [List.getElem_map]; exact hc i (by simpa using hi)⟩

/-- a variable that holds a node -/
def NBox (w : World) (b : Nat) (n : NT) : Prop := w.heap[b]? = some (.cells #[.int .i64 n.kind, .string n.text, .int .i64 n.lo, .int .i64 n.hi, .slice n.A n.kids.length n.c] 24 (0, 0))
theorem NBox.cells {w : World} {b : Nat} {n : NT} (h : NBox w b n) : w.cell? ⟨b, 0, none⟩ = some (.int .i64 n.kind) ∧ w.cell? ⟨b, 1, none⟩ = some (.string n.text) ∧ w.cell? ⟨b, 2, none⟩ = some (.int .i64 n.lo) ∧ w.cell? ⟨b, 3, none⟩ = some (.int .i64 n.hi) ∧ w.cell? ⟨b, 4, none⟩ = some (.slice n.A n.kids.length n.c) :=
  ⟨Lib.cell_of_heap h 0, Lib.cell_of_heap h 1, Lib.cell_of_heap h 2, Lib.cell_of_heap h 3, Lib.cell_of_heap h 4⟩
theorem NBox.frozen {w : World} {b : Nat} {n : NT} (h : NBox w b n) (i : Nat) : w.frozen? ⟨b, i, none⟩ = false := by
  have h' : w.heap[b]? = some (.cells #[.int .i64 n.kind, .string n.text, .int .i64 n.lo, .int .i64 n.hi, .slice n.A n.kids.length n.c] 24 (0, 0)) := h
  simp [World.frozen?, h']
theorem NBox.below {w w' : World} {b B : Nat} {n : NT} (h : NBox w b n) (hb : Below B w w') (hlt : b < B) : NBox w' b n := (hb.block b hlt).trans h
theorem NBox.new (w : World) (n : NT) : NBox (w.alloc (.cells #[.int .i64 n.kind, .string n.text, .int .i64 n.lo, .int .i64 n.hi, .slice n.A n.kids.length n.c] 24)) w.heap.size n := heap_alloc_new w _

/-- a node stored into a variable -/
abbrev put5 (w : World) (b : Nat) (x : NT) : World := ((((w.setCell ⟨b, 0, none⟩ (.int .i64 x.kind)).setCell ⟨b, 1, none⟩ (.string x.text)).setCell ⟨b, 2, none⟩ (.int .i64 x.lo)).setCell ⟨b, 3, none⟩ (.int .i64 x.hi)).setCell ⟨b, 4, none⟩ (.slice x.A x.kids.length x.c)
abbrev putv (w : World) (b : Nat) (k t l h s : Value) : World := ((((w.setCell ⟨b, 0, none⟩ k).setCell ⟨b, 1, none⟩ t).setCell ⟨b, 2, none⟩ l).setCell ⟨b, 3, none⟩ h).setCell ⟨b, 4, none⟩ s
theorem set_same {w : World} {b i : Nat} {cs : Array Value} {t : TypeId} (hb : w.heap[b]? = some (.cells cs t (0, 0))) (v : Value) : (w.setCell ⟨b, i, none⟩ v).heap[b]? = some (.cells (cs.setIfInBounds i v) t (0, 0)) := by
  simp [World.setCell, Array.getElem?_modify, hb]
theorem NBox.put {w : World} {b : Nat} {m : NT} (h : NBox w b m) (x : NT) : NBox (put5 w b x) b x :=
  set_same (set_same (set_same (set_same (set_same h _) _) _) _) _
theorem put5_below {n₀ : Nat} {w W : World} {b : Nat} (h : Below n₀ w W) (hb : n₀ ≤ b) (x : NT) : Below n₀ w (put5 W b x) :=
  ((((h.setCell (p := ⟨b, 0, none⟩) hb _).setCell (p := ⟨b, 1, none⟩) hb _).setCell (p := ⟨b, 2, none⟩) hb _).setCell (p := ⟨b, 3, none⟩) hb _).setCell (p := ⟨b, 4, none⟩) hb _

theorem NBox.putv {w : World} {b : Nat} {m : NT} (h : NBox w b m) (k : Int) (t : ByteArray) (lo hi : Int) (A : Option Addr) (c : Nat) (ks : List NT) : NBox (putv w b (.int .i64 k) (.string t) (.int .i64 lo) (.int .i64 hi) (.slice A ks.length c)) b (.mk k t lo hi A c ks) :=
  set_same (set_same (set_same (set_same (set_same h _) _) _) _) _
theorem putv_below {n₀ : Nat} {w W : World} {b : Nat} (h : Below n₀ w W) (hb : n₀ ≤ b) (k t l hh s : Value) : Below n₀ w (putv W b k t l hh s) :=
  ((((h.setCell (p := ⟨b, 0, none⟩) hb _).setCell (p := ⟨b, 1, none⟩) hb _).setCell (p := ⟨b, 2, none⟩) hb _).setCell (p := ⟨b, 3, none⟩) hb _).setCell (p := ⟨b, 4, none⟩) hb _

end Go.Proofs.YtlpoeflbnpbmgaaGreatDoor
