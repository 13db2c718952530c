/- What is proved: plain facts on paths and numbers of nodes. -/
import Derived.Test.YtjikfdifcpdhhaaNt
set_option linter.unusedVariables false
namespace Go.Proofs.Ytjikfdifcpdhhaa.NT
open Go.RowKit

mutual
/-- the paths of all nodes, in the order of their numbers -/
def pths : NT → List (List Nat)
  | mk _ _ _ _ _ _ ks => [] :: pthss ks 0
def pthss : List NT → Nat → List (List Nat)
  | [], _ => []
  | k :: ks, i => (pths k).map (i :: ·) ++ pthss ks (i + 1)
end
theorem pths_eq (n : NT) : pths n = [] :: pthss n.kids 0 := by cases n; simp [pths, kids]

/-- the node with a path -/
def getP : NT → List Nat → Option NT
  | n, [] => some n
  | n, i :: p => if h : i < n.kids.length then getP n.kids[i] p else none
/-- the number of the node with a path -/
def numP : NT → List Nat → Option Nat
  | n, [] => some 0
  | n, i :: p => if h : i < n.kids.length then (numP n.kids[i] p).map (· + (1 + cnts (n.kids.take i))) else none

theorem pthss_len (l : List NT) (h : ∀ k ∈ l, (pths k).length = cnt k) : ∀ i, (pthss l i).length = cnts l := by
  induction l with
  | nil => intro i; simp [pthss, cnts]
  | cons x xs ih => intro i; simp [pthss, cnts, h x (by simp), ih (fun k hk => h k (by simp [hk]))]
theorem pths_len : ∀ n : NT, (pths n).length = cnt n := ind fun n ih => by
  rw [pths_eq, cnt_eq, List.length_cons, pthss_len _ ih]

/-- where among the paths below the kids from the i-th on a number stands -/
theorem pthss_get (l : List NT) : ∀ (i j : Nat) (m : Nat) (hm : m < l.length) (q : List Nat), (pths l[m])[j]? = some q → (pthss l i)[cnts (l.take m) + j]? = some ((i + m) :: q) := by
  intro i j m
  induction l generalizing i m with
  | nil => intro hm; simp at hm
  | cons x xs ih =>
    intro hm q hq
    cases m with
    | zero =>
      have hj : j < (pths x).length := (List.getElem?_eq_some_iff.1 hq).1
      simp only [pthss, List.take_zero, cnts, Nat.zero_add, Nat.add_zero]
      rw [List.getElem?_append_left (by simpa using hj)]
      simp only [List.getElem_cons_zero] at hq
      simp [hq]
    | succ m =>
      have h' := ih (i + 1) m (by simpa using hm) q (by simpa using hq)
      simp only [pthss, List.take_succ_cons, cnts]
      rw [List.getElem?_append_right (by simp [pths_len]; omega)]
      simp only [List.length_map, pths_len]
      rw [show cnt x + cnts (xs.take m) + j - cnt x = cnts (xs.take m) + j from by omega, h', show i + 1 + m = i + (m + 1) from by omega]

/-- a path that leads to a node stands at the node's number -/
theorem pths_num : ∀ (p : List Nat) (n : NT) (k : Nat), numP n p = some k → (pths n)[k]? = some p := by
  intro p
  induction p with
  | nil => intro n k h; simp [numP] at h; subst h; rw [pths_eq]; rfl
  | cons i p ih =>
    intro n k h
    unfold numP at h
    split at h
    · rename_i hi
      obtain ⟨j, hj, rfl⟩ := Option.map_eq_some_iff.1 h
      have h1 := ih _ _ hj
      have h2 := pthss_get n.kids 0 j i hi p h1
      rw [pths_eq, show j + (1 + cnts (n.kids.take i)) = (cnts (n.kids.take i) + j) + 1 from by omega, List.getElem?_cons_succ, h2]
      simp
    · simp at h
theorem numP_lt {n : NT} {p : List Nat} {k : Nat} (h : numP n p = some k) : k < cnt n := by
  have := pths_num p n k h
  rw [← pths_len]
  exact (List.getElem?_eq_some_iff.1 this).1

theorem pthss_mem (l : List NT) (i : Nat) (q : List Nat) (h : q ∈ pthss l i) : ∃ (m : Nat) (hm : m < l.length) (p : List Nat), p ∈ pths l[m] ∧ q = (i + m) :: p := by
  induction l generalizing i with
  | nil => simp [pthss] at h
  | cons x xs ih =>
    simp only [pthss, List.mem_append, List.mem_map] at h
    rcases h with ⟨p, hp, rfl⟩ | h
    · exact ⟨0, by simp, p, by simpa using hp, by simp⟩
    · obtain ⟨m, hm, p, hp, rfl⟩ := ih (i + 1) h
      exact ⟨m + 1, by simp; omega, p, by simpa using hp, by simp; omega⟩
/-- each path of the list leads to a node and has a number -/
theorem pths_some : ∀ (n : NT) (p : List Nat), p ∈ pths n → (∃ k, numP n p = some k) ∧ ∃ x, getP n p = some x := ind fun n ih p hp => by
  rw [pths_eq] at hp
  cases List.mem_cons.1 hp with
  | inl e => subst e; exact ⟨⟨0, rfl⟩, ⟨n, rfl⟩⟩
  | inr e =>
    obtain ⟨m, hm, q, hq, rfl⟩ := pthss_mem _ _ _ e
    obtain ⟨⟨k, hk⟩, ⟨x, hx⟩⟩ := ih _ (List.getElem_mem hm) q hq
    rw [Nat.zero_add]
    constructor
    · unfold numP; rw [dif_pos hm, hk]; exact ⟨_, rfl⟩
    · unfold getP; rw [dif_pos hm]; exact ⟨x, hx⟩
theorem pths_nodup_aux (n : NT) (i j : Nat) (p : List Nat) (hi : (pths n)[i]? = some p) (hk : numP n p = some j) (hu : ∀ (i j : Nat) (q : List Nat), (pths n)[i]? = some q → (pths n)[j]? = some q → i = j) : i = j := hu i j p hi (pths_num p n j hk)

theorem pthss_inj (l : List NT) (h : ∀ k ∈ l, ∀ (i j : Nat) (q : List Nat), (pths k)[i]? = some q → (pths k)[j]? = some q → i = j) :
    ∀ (b i j : Nat) (q : List Nat), (pthss l b)[i]? = some q → (pthss l b)[j]? = some q → i = j := by
  induction l with
  | nil => intro b i j q hi; simp [pthss] at hi
  | cons x xs ih =>
    intro b i j q hi hj
    have lenx := pths_len x
    have far : ∀ m : Nat, (pths x).length ≤ m → (pthss (x :: xs) b)[m]? = some q → ∃ r, q = r ∧ (pthss xs (b + 1))[m - (pths x).length]? = some q := by
      intro m hm h1
      simp only [pthss] at h1
      rw [List.getElem?_append_right (by simpa using hm)] at h1
      exact ⟨q, rfl, by simpa using h1⟩
    have near : ∀ m : Nat, m < (pths x).length → (pthss (x :: xs) b)[m]? = some q → ∃ r, q = b :: r ∧ (pths x)[m]? = some r := by
      intro m hm h1
      simp only [pthss] at h1
      rw [List.getElem?_append_left (by simpa using hm)] at h1
      simp only [List.getElem?_map] at h1
      obtain ⟨r, hr, rfl⟩ := Option.map_eq_some_iff.1 h1
      exact ⟨r, rfl, hr⟩
    have heads : ∀ m : Nat, (pthss xs (b + 1))[m]? = some q → ∃ c r, q = c :: r ∧ b < c := by
      intro m hm
      obtain ⟨u, hu, p, _, rfl⟩ := pthss_mem xs (b + 1) q (List.mem_of_getElem? hm)
      exact ⟨_, _, rfl, by omega⟩
    by_cases h1 : i < (pths x).length <;> by_cases h2 : j < (pths x).length
    · obtain ⟨r, e, hr⟩ := near i h1 hi
      obtain ⟨r', e', hr'⟩ := near j h2 hj
      rw [e] at e'
      simp only [List.cons.injEq, true_and] at e'
      subst e'
      exact h x (by simp) i j r hr hr'
    · obtain ⟨r, e, hr⟩ := near i h1 hi
      obtain ⟨_, _, hr'⟩ := far j (by omega) hj
      obtain ⟨c, r', e', hc⟩ := heads _ hr'
      rw [e] at e'
      simp at e'
      omega
    · obtain ⟨r, e, hr⟩ := near j h2 hj
      obtain ⟨_, _, hr'⟩ := far i (by omega) hi
      obtain ⟨c, r', e', hc⟩ := heads _ hr'
      rw [e] at e'
      simp at e'
      omega
    · obtain ⟨_, _, hr⟩ := far i (by omega) hi
      obtain ⟨_, _, hr'⟩ := far j (by omega) hj
      have := ih (fun k hk => h k (by simp [hk])) (b + 1) _ _ q hr hr'
      omega
theorem pths_inj : ∀ (n : NT) (i j : Nat) (q : List Nat), (pths n)[i]? = some q → (pths n)[j]? = some q → i = j := ind fun n ih i j q hi hj => by
  rw [pths_eq] at hi hj
  have nn : ∀ m : Nat, (pthss n.kids 0)[m]? = some q → q ≠ [] := by
    intro m hm
    obtain ⟨u, hu, p, _, rfl⟩ := pthss_mem n.kids 0 q (List.mem_of_getElem? hm)
    simp
  cases i with
  | zero =>
    cases j with
    | zero => rfl
    | succ j =>
      simp at hi hj
      exact (nn j hj (by simpa using hi.symm)).elim
  | succ i =>
    cases j with
    | zero =>
      simp at hi hj
      exact (nn i hi (by simpa using hj.symm)).elim
    | succ j =>
      simp at hi hj
      rw [pthss_inj n.kids ih 0 i j q hi hj]
/-- the path at a number has this number -/
theorem num_pths {n : NT} {k : Nat} {p : List Nat} (h : (pths n)[k]? = some p) : numP n p = some k := by
  obtain ⟨⟨j, hj⟩, _⟩ := pths_some n p (List.mem_of_getElem? h)
  rw [hj, pths_inj n k j p h (pths_num p n j hj)]

/-- one step of the path while one goes through the nodes -/
def stepP (P : List Nat) (v : Nat) : List Nat :=
  if v = 1 then P else if v = P.length + 2 then P ++ [0] else (P.take (v - 2)) ++ [(P.getD (v - 2) 0) + 1]
def track (P : List Nat) : List Nat → List (List Nat)
  | [] => []
  | v :: vs => stepP P v :: track (stepP P v) vs
theorem track_append (l m : List Nat) : ∀ P, track P (l ++ m) = track P l ++ track (l.foldl stepP P) m := by
  induction l with
  | nil => intro P; rfl
  | cons v vs ih => intro P; simp [track, ih]

theorem track_forest (l : List NT) (h : ∀ k ∈ l, ∀ (p P : List Nat), stepP P (p.length + 1) = p → track P ((wlk k (p.length + 1)).map (·.1)) = (pths k).map (p ++ ·) ∧ p <+: ((wlk k (p.length + 1)).map (·.1)).foldl stepP P) :
    ∀ (i : Nat) (b P : List Nat), ((i = 0 ∧ P = b) ∨ ∃ j, i = j + 1 ∧ (b ++ [j]) <+: P) →
      track P ((wlks l (b.length + 2)).map (·.1)) = (pthss l i).map (b ++ ·) ∧ b <+: ((wlks l (b.length + 2)).map (·.1)).foldl stepP P := by
  induction l with
  | nil =>
    intro i b P hP
    refine ⟨by simp [wlks, pthss, track], ?_⟩
    rcases hP with ⟨_, rfl⟩ | ⟨j, _, hj⟩
    · simp [wlks]
    · simp only [wlks, List.map_nil, List.foldl_nil]
      exact (List.prefix_append b [j]).trans hj
  | cons x xs ih =>
    intro i b P hP
    have hs : stepP P ((b ++ [i]).length + 1) = b ++ [i] := by
      rcases hP with ⟨rfl, rfl⟩ | ⟨j, rfl, r, rfl⟩
      · unfold stepP
        rw [if_neg (by simp), if_pos (by simp)]
      · unfold stepP
        rw [if_neg (by simp), if_neg (by simp)]
        have e : (b ++ [j + 1]).length + 1 - 2 = b.length := by simp
        rw [e]
        simp
    obtain ⟨h1, h2⟩ := h x (by simp) (b ++ [i]) P hs
    have hl : (b ++ [i]).length + 1 = b.length + 2 := by simp
    rw [hl] at h1 h2
    obtain ⟨g1, g2⟩ := ih (fun k hk => h k (by simp [hk])) (i + 1) b (((wlk x (b.length + 2)).map (·.1)).foldl stepP P) (.inr ⟨i, rfl, h2⟩)
    constructor
    · simp only [wlks, List.map_append, pthss]
      rw [track_append, h1, g1]
      simp [List.map_map, Function.comp_def]
    · simp only [wlks, List.map_append, List.foldl_append]
      exact g2
theorem track_node : ∀ (n : NT) (p P : List Nat), stepP P (p.length + 1) = p → track P ((wlk n (p.length + 1)).map (·.1)) = (pths n).map (p ++ ·) ∧ p <+: ((wlk n (p.length + 1)).map (·.1)).foldl stepP P := ind fun n ih p P hs => by
  obtain ⟨g1, g2⟩ := track_forest n.kids ih 0 p p (.inl ⟨rfl, rfl⟩)
  rw [wlk_eq, pths_eq]
  simp only [List.map_cons, track, List.foldl_cons, hs, List.append_nil]
  exact ⟨by rw [g1], g2⟩
/-- going through the levels of the nodes gives their paths -/
theorem track_root (n : NT) : track [] ((wlk n 1).map (·.1)) = pths n := by
  have h := (track_node n [] [] (by simp [stepP])).1
  simpa using h
theorem track_get (P : List Nat) (l : List Nat) : ∀ (k : Nat), k < l.length → (track P l)[k]? = some ((l.take (k + 1)).foldl stepP P) := by
  induction l generalizing P with
  | nil => intro k h; simp at h
  | cons v vs ih =>
    intro k h
    cases k with
    | zero => simp [track]
    | succ k => simpa [track] using ih (stepP P v) k (by simpa using h)
/-- a path's length is one less than its node's level -/
theorem wlks_pthss (l : List NT) (h : ∀ k ∈ l, ∀ v, (wlk k (v + 1)).map (·.1) = (pths k).map (·.length + (v + 1))) : ∀ (i v : Nat), (wlks l (v + 1)).map (·.1) = (pthss l i).map (·.length + v) := by
  induction l with
  | nil => intro i v; simp [wlks, pthss]
  | cons x xs ih =>
    intro i v
    simp only [wlks, pthss, List.map_append, List.map_map, Function.comp_def]
    rw [h x (by simp) v, ih (fun k hk => h k (by simp [hk])) (i + 1) v]
    simp [Nat.add_assoc, Nat.add_comm 1 v]
theorem wlk_pths : ∀ (n : NT) (v : Nat), (wlk n (v + 1)).map (·.1) = (pths n).map (·.length + (v + 1)) := ind fun n ih v => by
  rw [wlk_eq, pths_eq]
  simp only [List.map_cons, List.length_nil, Nat.zero_add]
  rw [wlks_pthss n.kids ih 0 (v + 1)]
end Go.Proofs.Ytjikfdifcpdhhaa.NT
