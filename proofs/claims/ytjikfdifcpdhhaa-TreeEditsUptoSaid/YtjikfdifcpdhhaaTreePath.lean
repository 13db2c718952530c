/- What is proved: Path returns the path of the node with a number. -/
import Derived.Test.YtjikfdifcpdhhaaTreeCount
import Derived.Test.YtjikfdifcpdhhaaPathPlain
import Derived.Maps.AppendAt
set_option linter.unusedVariables false
namespace Go.Proofs.Ytjikfdifcpdhhaa
open Go.RowKit Go.Shelf
attribute [local go_sem] Oper.semAt_some

/-- a list of numbers as cells -/
def icells (l : List Nat) : List Value := l.map fun k : Nat => .int .i64 (k : Int)
theorem icells_len (l : List Nat) : (icells l).length = l.length := by simp [icells]
theorem icells_one (l : List Nat) : ∀ u ∈ icells l, u.oneCell' = true := by
  intro u hu
  obtain ⟨k, _, rfl⟩ := List.mem_map.1 hu
  rfl
/-- a slice's address, nil or not, below block n₀, where these numbers lie -/
def IntRow (n₀ : Nat) (w : World) (A : Option Addr) (l : List Nat) : Prop :=
  0 < l.length → ∃ b off, A = some ⟨b, off, none⟩ ∧ b < n₀ ∧ ∀ (i : Nat) (h : i < l.length), w.cell? ⟨b, off + i, none⟩ = some (.int .i64 (l[i] : Int))
theorem IntRow.below {n₀ : Nat} {w w' : World} {A : Option Addr} {l : List Nat} (h : IntRow n₀ w A l) (hb : Below n₀ w w') : IntRow n₀ w' A l := fun h0 => by
  obtain ⟨b, off, hA, hlt, hc⟩ := h h0
  exact ⟨b, off, hA, hlt, fun i hi => (hb.cell (p := ⟨b, off + i, none⟩) hlt).trans (hc i hi)⟩
theorem IntRow.mono {n₀ n₁ : Nat} {w : World} {A : Option Addr} {l : List Nat} (h : IntRow n₀ w A l) (hn : n₀ ≤ n₁) : IntRow n₁ w A l := fun h0 => by
  obtain ⟨b, off, hA, hlt, hc⟩ := h h0
  exact ⟨b, off, hA, by omega, hc⟩
theorem ints_own {w : World} {B : Nat} {v : Value} {l : List Nat} (h : w.ownsRow B 3 1 v l.length (icells l)) : ∃ A c, v = .slice A l.length c ∧ IntRow w.heap.size w A l := by
  rcases Nat.eq_zero_or_pos l.length with h0 | h0
  · rcases h.2 with ⟨rfl, _⟩ | ⟨g, cap, cur, rfl, _⟩
    · exact ⟨none, 0, by rw [h0], fun hh => by omega⟩
    · exact ⟨_, _, rfl, fun hh => by omega⟩
  · obtain ⟨g, cap, hv, _, hlt⟩ := h.form h0
    refine ⟨some ⟨g, 0, none⟩, cap, hv, fun _ => ⟨g, 0, rfl, hlt, fun i hi => ?_⟩⟩
    have hc := h.cells (g := g) (by rw [hv]; rfl) i (.int .i64 (l[i] : Int)) (by simp [icells, List.getElem?_eq_getElem hi])
    rwa [addr_add] at hc
theorem own_frozen {w : World} {B g n m cap : Nat} {e : TypeId} {sz : Nat} {xs : List Value} (h : w.ownsRow B e sz (.slice (some ⟨g, 0, none⟩) n cap) m xs) (j : Nat) : w.frozen? ⟨g, j, none⟩ = false := by
  obtain ⟨hl, h0 | ⟨g', cap', cur, hv, hb, hg, hn, hc, hs, hx⟩⟩ := h
  · simp at h0
  · cases hv
    simp [World.frozen?, hg]
theorem own_cap {w : World} {B g n cap : Nat} {e : TypeId} {sz : Nat} {xs : List Value} (h : w.ownsRow B e sz (.slice (some ⟨g, 0, none⟩) n cap) n xs) : n ≤ cap ∧ cap ≤ maxLen := by
  obtain ⟨hl, h0 | ⟨g', cap', cur, hv, hb, hg, hn, hc, hs, hx⟩⟩ := h
  · simp at h0
  · cases hv
    exact ⟨hn, hc⟩
/-- a shorter part of a row of its own -/
theorem own_take {w : World} {B g n cap m : Nat} {e : TypeId} {xs : List Value} (h : w.ownsRow B e 1 (.slice (some ⟨g, 0, none⟩) n cap) n xs) (hm : m ≤ n) : w.ownsRow B e 1 (.slice (some ⟨g, 0, none⟩) m cap) m (xs.take m) := by
  obtain ⟨hl, h0 | ⟨g', cap', cur, hv, hb, hg, hn, hc, hs, hx⟩⟩ := h
  · simp at h0
  · cases hv
    refine ⟨by simp; omega, .inr ⟨g, cap, cur, rfl, hb, hg, by omega, hc, hs, ?_⟩⟩
    rw [← hx, List.take_take, Nat.mul_one, Nat.mul_one, Nat.min_eq_left hm]
/-- a store into a row of its own -/
theorem own_set {w : World} {B g n cap j : Nat} {e : TypeId} {xs : List Value} (h : w.ownsRow B e 1 (.slice (some ⟨g, 0, none⟩) n cap) n xs) (hj : j < n) (u : Value) : (w.setCell ⟨g, j, none⟩ u).ownsRow B e 1 (.slice (some ⟨g, 0, none⟩) n cap) n (xs.set j u) := by
  obtain ⟨hl, h0 | ⟨g', cap', cur, hv, hb, hg, hn, hc, hs, hx⟩⟩ := h
  · simp at h0
  · cases hv
    refine ⟨by simp; omega, .inr ⟨g, cap, cur.setIfInBounds j u, rfl, hb, ?_, hn, hc, by simpa using hs, ?_⟩⟩
    · simp [World.setCell, Array.getElem?_modify, hg]
    · rw [← hx, Array.toList_setIfInBounds, List.take_set]

theorem stepP_one (P : List Nat) : NT.stepP P 1 = P := by simp [NT.stepP]
theorem stepP_down (P : List Nat) : NT.stepP P (P.length + 2) = P ++ [0] := by simp [NT.stepP]
theorem stepP_on (P : List Nat) (v : Nat) (h1 : v ≠ 1) (h2 : v ≠ P.length + 2) : NT.stepP P v = P.take (v - 2) ++ [P.getD (v - 2) 0 + 1] := by simp [NT.stepP, h1, h2]

/-- along the nodes of a tree: where the next level is neither the root's nor one below the node before, the path is long enough -/
theorem level_ok (n : NT) (pre : List (Nat × NT)) (x : Nat × NT) (post : List (Nat × NT)) (h : NT.wlk n 1 = pre ++ x :: post) :
    NT.stepP ((pre.map (·.1)).foldl NT.stepP []) x.1 = (NT.pths n).getD pre.length [] ∧ x.1 = ((NT.pths n).getD pre.length []).length + 1 ∧ pre.length < NT.cnt n := by
  have hlen : pre.length < (NT.wlk n 1).length := by rw [h]; simp
  have hlen' : pre.length < (NT.pths n).length := by rw [NT.pths_len]; rwa [NT.wlk_len] at hlen
  have h1 := NT.track_root n
  have h2 := NT.track_get [] ((NT.wlk n 1).map (·.1)) pre.length (by simpa using hlen)
  have h3 := NT.wlk_pths n 0
  rw [h1, h] at h2
  have e : ((pre ++ x :: post).map (·.1)).take (pre.length + 1) = pre.map (·.1) ++ [x.1] := by
    rw [show pre ++ x :: post = (pre ++ [x]) ++ post by simp, List.map_append, List.take_left' (by simp)]
    simp
  rw [e, List.foldl_append] at h2
  have g : (NT.pths n).getD pre.length [] = NT.stepP ((pre.map (·.1)).foldl NT.stepP []) x.1 := by
    rw [List.getD_eq_getElem?_getD, h2]; rfl
  refine ⟨g.symm, ?_, by rwa [NT.wlk_len] at hlen⟩
  have h4 : ((NT.wlk n (0 + 1)).map (·.1))[pre.length]? = some x.1 := by rw [show (0 + 1 : Nat) = 1 from rfl, h]; simp
  rw [h3, List.getElem?_map, h2] at h4
  simp only [List.foldl_cons, List.foldl_nil] at h4
  simp only [Option.map_some, Option.some.injEq] at h4
  rw [g]
  omega

theorem pths_ents : ∀ (n : NT) (q : List Nat), q ∈ NT.pths n → ∀ x ∈ q, x ≤ NT.cnt n := NT.ind fun n ih q hq x hx => by
  rw [NT.pths_eq] at hq
  cases List.mem_cons.1 hq with
  | inl e => subst e; cases hx
  | inr e =>
    obtain ⟨m, hm, p, hp, rfl⟩ := NT.pthss_mem _ _ _ e
    have hk := NT.cnt_kid (List.getElem_mem hm)
    have hl := NT.kids_len n
    cases List.mem_cons.1 hx with
    | inl e => omega
    | inr e => have := ih _ (List.getElem_mem hm) p hp x e; omega

/-- the path of the node with a number, and whether there is one -/
def pathAt (n : NT) (k : Int) : List Nat := if 0 ≤ k then (NT.pths n).getD k.toNat [] else []
def isNum (n : NT) (k : Int) : Bool := decide (0 ≤ k ∧ k < (NT.cnt n : Int))

theorem path_start (w : World) (T : NT) (k : Int) : ∃ W : World, ((((((w.alloc (.cells #[.int .i64 T.kind, .string T.text, .int .i64 T.lo, .int .i64 T.hi, .slice T.A T.kids.length T.c] 24)).alloc (.cells #[.int .i64 k] 3)).alloc (.cells #[.slice none 0 0] 29)).alloc (.cells #[.bool false] 4)).alloc (.cells #[.slice none 0 0] 29)).alloc (.cells #[.int .i64 T.kind, .string T.text, .int .i64 T.lo, .int .i64 T.hi, .slice T.A T.kids.length T.c] 24)) = W ∧ W.heap.size = w.heap.size + 6 ∧ Below w.heap.size w W ∧
    Boxed W (w.heap.size + 1) 3 (.int .i64 k) ∧ Boxed W (w.heap.size + 1 + 1) 29 (.slice none 0 0) ∧ Boxed W (w.heap.size + 1 + 1 + 1) 4 (.bool false) ∧ Boxed W (w.heap.size + 1 + 1 + 1 + 1) 29 (.slice none 0 0) ∧ W.heap[w.heap.size + 1 + 1 + 1 + 1 + 1]? = some (.cells #[.int .i64 T.kind, .string T.text, .int .i64 T.lo, .int .i64 T.hi, .slice T.A T.kids.length T.c] 24 (0, 0)) := by
  have z0 := World.size_alloc w (.cells #[.int .i64 T.kind, .string T.text, .int .i64 T.lo, .int .i64 T.hi, .slice T.A T.kids.length T.c] 24)
  have b0 := (Below.refl w.heap.size w).alloc (Nat.le_refl _) (.cells #[.int .i64 T.kind, .string T.text, .int .i64 T.lo, .int .i64 T.hi, .slice T.A T.kids.length T.c] 24)
  generalize w.alloc (.cells #[.int .i64 T.kind, .string T.text, .int .i64 T.lo, .int .i64 T.hi, .slice T.A T.kids.length T.c] 24) = w1 at *
  have z1 := World.size_alloc w1 (.cells #[.int .i64 k] 3)
  have b1 := b0.alloc (by omega) (.cells #[.int .i64 k] 3)
  have q1 := Boxed.new w1 3 (.int .i64 k)
  rw [z0] at q1
  generalize w1.alloc (.cells #[.int .i64 k] 3) = w2 at *
  have z2 := World.size_alloc w2 (.cells #[.slice none 0 0] 29)
  have b2 := b1.alloc (by omega) (.cells #[.slice none 0 0] 29)
  have p1 := q1.alloc (.cells #[.slice none 0 0] 29)
  have q2 := Boxed.new w2 29 (.slice none 0 0)
  rw [z1, z0] at q2
  generalize w2.alloc (.cells #[.slice none 0 0] 29) = w3 at *
  have z3 := World.size_alloc w3 (.cells #[.bool false] 4)
  have b3 := b2.alloc (by omega) (.cells #[.bool false] 4)
  have p1 := p1.alloc (.cells #[.bool false] 4)
  have p2 := q2.alloc (.cells #[.bool false] 4)
  have q3 := Boxed.new w3 4 (.bool false)
  rw [z2, z1, z0] at q3
  generalize w3.alloc (.cells #[.bool false] 4) = w4 at *
  have z4 := World.size_alloc w4 (.cells #[.slice none 0 0] 29)
  have b4 := b3.alloc (by omega) (.cells #[.slice none 0 0] 29)
  have p1 := p1.alloc (.cells #[.slice none 0 0] 29)
  have p2 := p2.alloc (.cells #[.slice none 0 0] 29)
  have p3 := q3.alloc (.cells #[.slice none 0 0] 29)
  have q4 := Boxed.new w4 29 (.slice none 0 0)
  rw [z3, z2, z1, z0] at q4
  generalize w4.alloc (.cells #[.slice none 0 0] 29) = w5 at *
  have hk := heap_alloc_new w5 (.cells #[.int .i64 T.kind, .string T.text, .int .i64 T.lo, .int .i64 T.hi, .slice T.A T.kids.length T.c] 24)
  rw [z4, z3, z2, z1, z0] at hk
  exact ⟨_, rfl, by simp; omega, b4.alloc (by omega) _, p1.alloc _, p2.alloc _, p3.alloc _, q4.alloc _, hk⟩

/-- what the loop's cells hold when the nodes of pre have come -/
structure Way (w : World) (k : Int) (P : List Nat) (n : Nat) (M : Nat) (W : World) : Prop where
  num : ∃ q : Int, (q = k - n ∨ q = k - n + 18446744073709551616) ∧ -9223372036854775808 ≤ q ∧ q ≤ 9223372036854775807 ∧ Boxed W (w.heap.size + 1) 3 (.int .i64 q)
  res : Boxed W (w.heap.size + 1 + 1) 29 (.slice none 0 0)
  ok : Boxed W (w.heap.size + 1 + 1 + 1) 4 (.bool false)
  path : ∃ v, Boxed W (w.heap.size + 1 + 1 + 1 + 1) 29 v ∧ W.ownsRow (w.heap.size + 6) 3 1 v P.length (icells P) ∧ (∀ b, v.ownBlock = some b → b < M)
  below : Below w.heap.size w W
  len : P.length ≤ 1000000000
  ents : ∀ x ∈ P, x ≤ 1000000000
theorem Way.own {w : World} {k : Int} {P : List Nat} {n M B : Nat} (hB : w.heap.size + 6 ≤ B) {X Y : World} {row : Option Nat} (h : Way w k P n M X) (hg : X.grownBy Y row) (hr : ∀ r, row = some r → B ≤ r ∧ ∃ o : Obj, X.heap[r]? = some o ∧ o.isCells = false) : Way w k P n M Y := by
  have far : ∀ b, b < w.heap.size + 6 → some b ≠ row := fun b hb e => by have := (hr b e.symm).1; omega
  obtain ⟨q, h1, h2, h3, h4⟩ := h.num
  obtain ⟨v, g1, g2, g3⟩ := h.path
  refine ⟨⟨q, h1, h2, h3, h4.kept hg (far _ (by omega))⟩, h.res.kept hg (far _ (by omega)), h.ok.kept hg (far _ (by omega)), ⟨v, g1.kept hg (far _ (by omega)), g2.kept hg ?_, g3⟩, h.below.grown hg h.below.size (fun r e => by have := (hr r e).1; omega), h.len, h.ents⟩
  cases hv : v.ownBlock with
  | none => exact .inl rfl
  | some b =>
    refine .inr (fun e => ?_)
    obtain ⟨_, o, ho, hc⟩ := hr b e.symm
    rcases g2.2 with ⟨rfl, _⟩ | ⟨g, cap, cur, rfl, _, hgc, _⟩
    · simp [Value.ownBlock] at hv
    · simp [Value.ownBlock] at hv
      subst hv
      rw [hgc] at ho
      cases ho
      cases hc

theorem infoInt : (Try.prog.info? 3).map (fun i => (i.zero, i.size, i.bytes)) = some (some (.int .i64 0), 1, 8) := by kernel_rfl
/-- behind what a round does to the path -/
structure Mid (w W W1 : World) (M : Nat) (v : Value) (P : List Nat) : Prop where
  keeps : KeepsOthers W W1
  below : Below w.heap.size W W1
  stays : Stays M W W1
  boxes : ∀ b, b < w.heap.size + 4 → W1.heap[b]? = W.heap[b]?
  box : Boxed W1 (w.heap.size + 1 + 1 + 1 + 1) 29 v
  row : W1.ownsRow (w.heap.size + 6) 3 1 v P.length (icells P)
theorem Mid.start {w W : World} {k : Int} {P : List Nat} {n M : Nat} (h : Way w k P n M W) : ∃ v, Mid w W W M v P := by
  obtain ⟨v, g1, g2, g3⟩ := h.path
  exact ⟨v, KeepsOthers.refl W, Below.refl _ _, Stays.refl _ _, fun _ _ => rfl, g1, g2⟩
theorem row_ne {W : World} {B b : Nat} {e : TypeId} {sz n : Nat} {v : Value} {xs : List Value} (h : W.ownsRow B e sz v n xs) (hb : b < B) : v.ownBlock ≠ some b := fun e => by
  have := (h.lt b e).1
  omega
theorem Mid.longer {w W w1 : World} {M : Nat} {v v' : Value} {P : List Nat} {tmp : Obj} (g1 : Boxed W (w.heap.size + 1 + 1 + 1 + 1) 29 v) (g2 : W.ownsRow (w.heap.size + 6) 3 1 v P.length (icells P)) (g3 : ∀ b, v.ownBlock = some b → b < M) (hM : w.heap.size + 6 ≤ M) (hM2 : M ≤ W.heap.size)
    (hown : w1.ownsRow (w.heap.size + 6) 3 1 v' (P.length + 1) (icells P ++ [.int .i64 0])) (hgrow : (W.alloc tmp).grownBy w1 v.ownBlock) :
    Boxed w1 (w.heap.size + 1 + 1 + 1 + 1) 29 v ∧ Mid w W (w1.setCell ⟨w.heap.size + 1 + 1 + 1 + 1, 0, none⟩ v') M v' (P ++ [0]) := by
  have hne : ∀ b, b < w.heap.size + 6 → some b ≠ v.ownBlock := fun b hb => (row_ne g2 hb).symm
  have hb1 : Boxed w1 (w.heap.size + 1 + 1 + 1 + 1) 29 v := (g1.alloc tmp).kept hgrow (hne _ (by omega))
  have hz := hgrow.size
  simp at hz
  refine ⟨hb1, ?_, ?_, ?_, ?_, hb1.set v', ?_⟩
  · refine ((KeepsOthers.alloc W tmp).trans (KeepsOthers.of_grownBy hgrow fun j o ej hj => ?_)).trans (KeepsOthers.setCell _ _ _)
    rcases (g2.alloc tmp).2 with ⟨rfl, _⟩ | ⟨g, cap, cur, rfl, _, hgb, _⟩
    · simp [Value.ownBlock] at ej
    · obtain rfl : g = j := by simpa [Value.ownBlock] using ej
      rw [hgb] at hj
      cases hj
      rfl
  · exact (((Below.refl w.heap.size W).alloc (by omega) tmp).grown hgrow (by simp; omega) (fun j ej => by have := (g2.lt j ej).1; omega)).setCell (p := ⟨w.heap.size + 1 + 1 + 1 + 1, 0, none⟩) (by simp; omega) v'
  · refine Stays.set (fun b h1 h2 => ?_) _ _ _ (by omega)
    exact (hgrow.block b (by simp; omega) (fun e => by have := g3 b e.symm; omega)).trans (heap_alloc_old _ _ (by omega))
  · intro b hb
    exact ((Below.heap_setCell w1 ⟨w.heap.size + 1 + 1 + 1 + 1, 0, none⟩ v' b (by show b ≠ w.heap.size + 1 + 1 + 1 + 1; omega)).trans (hgrow.block b (by simp; omega) (hne b (by omega)))).trans (heap_alloc_old _ _ (by omega))
  · have e1 : (P ++ [0]).length = P.length + 1 := by simp
    have e2 : icells (P ++ [0]) = icells P ++ [.int .i64 0] := by simp [icells]
    rw [e1, e2]
    exact hown.kept (grownBy_setCell' w1 _ v') (.inr (row_ne hown (by omega)))
theorem Mid.on {w W : World} {M g cap m : Nat} {P : List Nat} (g1 : Boxed W (w.heap.size + 1 + 1 + 1 + 1) 29 (.slice (some ⟨g, 0, none⟩) P.length cap)) (g2 : W.ownsRow (w.heap.size + 6) 3 1 (.slice (some ⟨g, 0, none⟩) P.length cap) P.length (icells P)) (g3 : g < M) (hM : w.heap.size + 6 ≤ M) (hM2 : M ≤ W.heap.size) (hm : m < P.length) :
    Mid w W ((W.setCell ⟨w.heap.size + 1 + 1 + 1 + 1, 0, none⟩ (.slice (some ⟨g, 0, none⟩) (m + 1) cap)).setCell ⟨g, m, none⟩ (.int .i64 ((P[m] : Int) + 1))) M (.slice (some ⟨g, 0, none⟩) (m + 1) cap) (P.take m ++ [P.getD m 0 + 1]) := by
  have hg : w.heap.size + 6 ≤ g := (g2.lt g rfl).1
  have r1 := own_take g2 (show m + 1 ≤ P.length by omega)
  have r2 : (W.setCell ⟨w.heap.size + 1 + 1 + 1 + 1, 0, none⟩ (.slice (some ⟨g, 0, none⟩) (m + 1) cap)).ownsRow (w.heap.size + 6) 3 1 (.slice (some ⟨g, 0, none⟩) (m + 1) cap) (m + 1) ((icells P).take (m + 1)) := r1.kept (grownBy_setCell' W _ _) (.inr (row_ne r1 (by omega)))
  have r3 := own_set r2 (show m < m + 1 by omega) (.int .i64 ((P[m] : Int) + 1))
  refine ⟨(KeepsOthers.setCell _ _ _).trans (KeepsOthers.setCell _ _ _), ((Below.refl w.heap.size W).setCell (p := ⟨w.heap.size + 1 + 1 + 1 + 1, 0, none⟩) (by simp; omega) _).setCell (p := ⟨g, m, none⟩) (by simp; omega) _, Stays.set (Stays.set (Stays.refl _ _) _ _ _ (by omega)) _ _ _ g3, ?_, ?_, ?_⟩
  · intro b hb
    exact (Below.heap_setCell _ ⟨g, m, none⟩ _ b (by show b ≠ g; omega)).trans (Below.heap_setCell W ⟨w.heap.size + 1 + 1 + 1 + 1, 0, none⟩ _ b (by show b ≠ w.heap.size + 1 + 1 + 1 + 1; omega))
  · exact (Below.heap_setCell _ ⟨g, m, none⟩ _ _ (by show _ ≠ g; omega)).trans (g1.set _)
  · have e : (P.take m ++ [P.getD m 0 + 1]).length = m + 1 := by simp; omega
    have e2 : icells (P.take m ++ [P.getD m 0 + 1]) = ((icells P).take (m + 1)).set m (.int .i64 ((P[m] : Int) + 1)) := by
      apply List.ext_getElem?
      intro i
      simp only [icells, List.map_append, List.map_cons, List.map_nil, List.getElem?_set, List.getElem?_append, List.length_map, List.length_take, List.getElem?_map, List.getElem?_take]
      rcases Nat.lt_trichotomy i m with h | h | h
      · rw [if_pos (by omega), if_pos h, if_neg (by omega), if_pos (by omega)]
      · subst h
        rw [if_neg (by omega), if_pos rfl, if_pos (by omega), Nat.min_eq_left (by omega), Nat.sub_self]
        simp [List.getD_eq_getElem?_getD, List.getElem?_eq_getElem hm]
      · rw [if_neg (by omega), if_neg (by omega), if_neg (by omega), List.getElem?_eq_none (by simp; omega)]
    rw [e, e2]
    exact r3

theorem Mid.cells {w W W1 : World} {q : Int} {P' : List Nat} {M : Nat} {v : Value} (hm : Mid w W W1 M v P') (b0 : Boxed W (w.heap.size + 1) 3 (.int .i64 q)) (b1 : Boxed W (w.heap.size + 1 + 1) 29 (.slice none 0 0)) (b2 : Boxed W (w.heap.size + 1 + 1 + 1) 4 (.bool false)) :
    (W1.cell? ⟨w.heap.size + 1, 0, none⟩ = some (.int .i64 q) ∧ W1.frozen? ⟨w.heap.size + 1, 0, none⟩ = false) ∧ (W1.cell? ⟨w.heap.size + 1 + 1, 0, none⟩ = some (.slice none 0 0) ∧ W1.frozen? ⟨w.heap.size + 1 + 1, 0, none⟩ = false) ∧ (W1.cell? ⟨w.heap.size + 1 + 1 + 1, 0, none⟩ = some (.bool false) ∧ W1.frozen? ⟨w.heap.size + 1 + 1 + 1, 0, none⟩ = false) ∧ W1.cell? ⟨w.heap.size + 1 + 1 + 1 + 1, 0, none⟩ = some v := by
  have r0 : Boxed W1 (w.heap.size + 1) 3 (.int .i64 q) := (hm.boxes _ (by omega)).trans b0
  have r1 : Boxed W1 (w.heap.size + 1 + 1) 29 (.slice none 0 0) := (hm.boxes _ (by omega)).trans b1
  have r2 : Boxed W1 (w.heap.size + 1 + 1 + 1) 4 (.bool false) := (hm.boxes _ (by omega)).trans b2
  exact ⟨⟨r0.cell, r0.frozen⟩, ⟨r1.cell, r1.frozen⟩, ⟨r2.cell, r2.frozen⟩, hm.box.cell⟩
/-- a round that goes on -/
theorem Way.next {w W W1 : World} {k q' : Int} {P P' : List Nat} {n M : Nat} {v : Value} (h : Way w k P n M W) (hm : Mid w W W1 M v P') (hM : w.heap.size + 8 ≤ M) (hM2 : M ≤ W.heap.size) (hq : q' = k - (n + 1 : Nat) ∨ q' = k - (n + 1 : Nat) + 18446744073709551616) (h1 : -9223372036854775808 ≤ q') (h2 : q' ≤ 9223372036854775807) (hl : P'.length + 1 ≤ 1000000000 ∧ ∀ x ∈ P', x ≤ 1000000000) :
    KeepsOthers W (W1.setCell ⟨w.heap.size + 1, 0, none⟩ (.int .i64 q')) ∧ Below w.heap.size W (W1.setCell ⟨w.heap.size + 1, 0, none⟩ (.int .i64 q')) ∧ Stays M W (W1.setCell ⟨w.heap.size + 1, 0, none⟩ (.int .i64 q')) ∧ Way w k P' (n + 1) (W1.setCell ⟨w.heap.size + 1, 0, none⟩ (.int .i64 q')).heap.size (W1.setCell ⟨w.heap.size + 1, 0, none⟩ (.int .i64 q')) := by
  obtain ⟨q, _, _, _, b0⟩ := h.num
  have b1 : Boxed W1 (w.heap.size + 1) 3 (.int .i64 q) := (hm.boxes _ (by omega)).trans b0
  have r1 : Boxed W1 (w.heap.size + 1 + 1) 29 (.slice none 0 0) := (hm.boxes _ (by omega)).trans h.res
  have r2 : Boxed W1 (w.heap.size + 1 + 1 + 1) 4 (.bool false) := (hm.boxes _ (by omega)).trans h.ok
  have rr := hm.row.kept (grownBy_setCell' W1 (w.heap.size + 1) (.int .i64 q')) (.inr (row_ne hm.row (by omega)))
  refine ⟨hm.keeps.trans (KeepsOthers.setCell _ _ _), hm.below.setCell (p := ⟨w.heap.size + 1, 0, none⟩) (by simp) _, Stays.set hm.stays _ _ _ (by omega), ⟨q', hq, h1, h2, b1.set _⟩, r1.other (by omega) _, r2.other (by omega) _, ⟨v, hm.box.other (by omega) _, rr, fun b e => (rr.lt b e).2⟩, ?_, by omega, hl.2⟩
  exact (h.below.trans hm.below).setCell (p := ⟨w.heap.size + 1, 0, none⟩) (by simp) _
/-- a round in which the node was found -/
theorem Way.found {w W W1 : World} {k : Int} {P P' : List Nat} {n M : Nat} {v : Value} (h : Way w k P n M W) (hm : Mid w W W1 M v P') :
    KeepsOthers W ((W1.setCell ⟨w.heap.size + 1 + 1, 0, none⟩ v).setCell ⟨w.heap.size + 1 + 1 + 1, 0, none⟩ (.bool true)) ∧ Boxed ((W1.setCell ⟨w.heap.size + 1 + 1, 0, none⟩ v).setCell ⟨w.heap.size + 1 + 1 + 1, 0, none⟩ (.bool true)) (w.heap.size + 1 + 1) 29 v ∧
    ((W1.setCell ⟨w.heap.size + 1 + 1, 0, none⟩ v).setCell ⟨w.heap.size + 1 + 1 + 1, 0, none⟩ (.bool true)).ownsRow (w.heap.size + 6) 3 1 v P'.length (icells P') ∧ Boxed ((W1.setCell ⟨w.heap.size + 1 + 1, 0, none⟩ v).setCell ⟨w.heap.size + 1 + 1 + 1, 0, none⟩ (.bool true)) (w.heap.size + 1 + 1 + 1) 4 (.bool true) ∧ Below w.heap.size w ((W1.setCell ⟨w.heap.size + 1 + 1, 0, none⟩ v).setCell ⟨w.heap.size + 1 + 1 + 1, 0, none⟩ (.bool true)) := by
  have r1 : Boxed W1 (w.heap.size + 1 + 1) 29 (.slice none 0 0) := (hm.boxes _ (by omega)).trans h.res
  have r2 : Boxed W1 (w.heap.size + 1 + 1 + 1) 4 (.bool false) := (hm.boxes _ (by omega)).trans h.ok
  have rr := hm.row.kept (grownBy_setCell' W1 (w.heap.size + 1 + 1) v) (.inr (row_ne hm.row (by omega)))
  have rr2 := rr.kept (grownBy_setCell' (W1.setCell ⟨w.heap.size + 1 + 1, 0, none⟩ v) (w.heap.size + 1 + 1 + 1) (.bool true)) (.inr (row_ne rr (by omega)))
  exact ⟨(hm.keeps.trans (KeepsOthers.setCell _ _ _)).trans (KeepsOthers.setCell _ _ _), (r1.set v).other (by omega) _, rr2, (r2.other (by omega) v).set _, ((h.below.trans hm.below).setCell (p := ⟨w.heap.size + 1 + 1, 0, none⟩) (by simp; omega) _).setCell (p := ⟨w.heap.size + 1 + 1 + 1, 0, none⟩) (by simp; omega) _⟩

theorem num_step {k q : Int} {n : Nat} (hk1 : -9223372036854775808 ≤ k) (hk2 : k ≤ 9223372036854775807) (hq : q = k - n ∨ q = k - n + 18446744073709551616) (h1 : -9223372036854775808 ≤ q) (h2 : q ≤ 9223372036854775807) (hne : ∀ j : Nat, j < n → k ≠ j) (hn : n ≤ 1000000000) :
    (q = 0 → k = (n : Int)) ∧ (q ≠ 0 → (wrap64 (q - 1) = k - ((n + 1 : Nat) : Int) ∨ wrap64 (q - 1) = k - ((n + 1 : Nat) : Int) + 18446744073709551616) ∧ -9223372036854775808 ≤ wrap64 (q - 1) ∧ wrap64 (q - 1) ≤ 9223372036854775807 ∧ ∀ j : Nat, j < n + 1 → k ≠ j) := by
  refine ⟨fun h => by omega, fun h => ⟨?_, ?_, ?_, fun j hj => ?_⟩⟩
  · unfold wrap64; omega
  · unfold wrap64; omega
  · unfold wrap64; omega
  · rcases Nat.lt_or_ge j n with h' | h'
    · exact hne j h'
    · omega
set_option maxRecDepth 100000 in
set_option maxHeartbeats 4000000 in
theorem path_any (T : NT) (k : Int) (w : World) (hin : InT w.heap.size w T) (hc : NT.cnt T ≤ 1000000000) (hk1 : -9223372036854775808 ≤ k) (hk2 : k ≤ 9223372036854775807) :
    Calls Try.prog 22 #[.agg #[.int .i64 T.kind, .string T.text, .int .i64 T.lo, .int .i64 T.hi, .slice T.A T.kids.length T.c], .int .i64 k] w fun e w' => ∃ A c, e = .returned (.tuple #[.slice A (pathAt T k).length c, .bool (isNum T k)]) ∧ IntRow w'.heap.size w' A (pathAt T k) ∧ Below w.heap.size w w' := by
  have HI := Lib.hid hin
  have HL := Lib.hid (NT.wlk_len T 1)
  clear hin
  refine (callsIn_wide (n := 9)).1 ?_
  refine callsIn_of_wp_marks Try.func22 rfl trivial ?_ rfl
  simp only [Try.ntmps22, List.size_toArray, List.length_cons, List.length_nil, Nat.reduceAdd, Nat.reduceSub, Array.replicate_succ, Array.replicate_zero, List.push_toArray, List.append_toArray, List.nil_append, List.cons_append]
  gi_wp2_with (fail)
  refine ⟨trivial, (callsIn_wide.2 (walk_any T _)).mono ?_⟩
  rintro e w' ⟨rfl, rfl⟩
  gi_wp2_with (fail)
  obtain ⟨W6, e6, z6, b6, q1, q2, q3, q4, hk⟩ := path_start w T k
  rw [e6]
  clear e6
  refine wpIn_gives rfl (by decide) (gf := 66) (lb := #[.pointer (some ⟨w.heap.size + 1 + 1 + 1 + 1 + 1, 0, none⟩)]) rfl trivial (enters_of Try.func66 (by kernel_rfl) rfl)
    (walk1_in Fence.wide rfl _ trivial trivial rfl (w.heap.size + 1 + 1 + 1 + 1 + 1) w.heap.size T W6 (by omega) (by omega) (InT.below b6 T HI.out) hc hk) (by omega) (Below.refl _ _) (fun _ => rfl)
    (fun s W => Way w k ((s.1.map (·.1)).foldl NT.stepP []) s.1.length s.2 W ∧ (∀ j : Nat, j < s.1.length → k ≠ j))
    (fun c s W => c = .ret ∧ ∃ v, Boxed W (w.heap.size + 1 + 1) 29 v ∧ W.ownsRow (w.heap.size + 6) 3 1 v (pathAt T k).length (icells (pathAt T k)) ∧ Boxed W (w.heap.size + 1 + 1 + 1) 4 (.bool (isNum T k)) ∧ Below w.heap.size w W) ?own ?ownx
    ⟨⟨⟨k, .inl (by simp), hk1, hk2, q1⟩, q2, q3, ⟨_, q4, World.ownsRow_nil _ _ _ _, by simp [Value.ownBlock]⟩, b6, by simp, by simp⟩, by simp⟩
    (fun x a' W => a' = { tmps := #[.agg #[.int .i64 T.kind, .string T.text, .int .i64 T.lo, .int .i64 T.hi, .slice T.A T.kids.length T.c], .int .i64 k, .pointer (some ⟨w.heap.size, 0, none⟩), .pointer (some ⟨w.heap.size + 1, 0, none⟩), .pointer (some ⟨w.heap.size + 1 + 1, 0, none⟩), .pointer (some ⟨w.heap.size + 1 + 1 + 1, 0, none⟩), .pointer (some ⟨w.heap.size + 1 + 1 + 1 + 1, 0, none⟩), .int .i64 (x.1 : Int), .agg #[.int .i64 T.kind, .string T.text, .int .i64 T.lo, .int .i64 T.hi, .slice T.A T.kids.length T.c], .func (.func 66) #[] #[.pointer (some ⟨w.heap.size + 1 + 1 + 1 + 1 + 1, 0, none⟩)], .int .i64 (x.1 : Int), .agg #[.int .i64 (x.2).kind, .string (x.2).text, .int .i64 (x.2).lo, .int .i64 (x.2).hi, .slice (x.2).A (x.2).kids.length (x.2).c], undef, undef, undef, undef, undef, undef, undef, undef, undef, undef, undef, undef, undef, undef, undef, undef, undef, undef, undef, undef, undef, undef, undef, undef, undef, undef, undef, undef], defers := [] })
    (fun _ _ _ _ _ _ h _ _ => h) ?assign ?body ?done ?stop
  case own =>
    intro s A B row hs hg hr
    exact ⟨hs.1.own (by omega) hg hr, hs.2⟩
  case ownx =>
    rintro c s A B row ⟨h0, v, h1, h2, h3, h4⟩ hg hr
    have hw : Way w k [] 0 0 A → True := fun _ => trivial
    have far : ∀ b, b < w.heap.size + 6 → some b ≠ row := fun b hb e => by have := (hr b e.symm).1; omega
    refine ⟨h0, v, h1.kept hg (far _ (by omega)), h2.kept hg ?_, h3.kept hg (far _ (by omega)), h4.grown hg h4.size (fun r e => by have := (hr r e).1; omega)⟩
    cases hv : v.ownBlock with
    | none => exact .inl rfl
    | some b =>
      refine .inr (fun e => ?_)
      obtain ⟨_, o, ho, hcx⟩ := hr b e.symm
      rcases h2.2 with ⟨rfl, _⟩ | ⟨g, cap, cur, rfl, _, hgc, _⟩
      · simp [Value.ownBlock] at hv
      · simp [Value.ownBlock] at hv
        subst hv
        rw [hgc] at ho
        cases ho
        cases hcx
  case assign =>
    intro l pre x post M W K hL hi hM hK
    gi_wp2
    exact hK _ _ ⟨Nat.le_refl _, fun _ _ _ h _ => h⟩ (Below.refl _ _) (Stays.refl _ _) (Nat.le_refl _) hi rfl
  case body =>
    rintro l pre x post M a' W hL ⟨hw, hne⟩ hM hM2 rfl
    obtain ⟨g1, g2, g3⟩ := level_ok T pre x post hL
    have hlb : ((NT.pths T).getD pre.length []).length + 1 ≤ 1000000000 := by
      have h5 := mxl_wlk T
      rw [hL, show pre ++ x :: post = (pre ++ [x]) ++ post by simp, mxl_append, mxl_snoc] at h5
      have := NT.lev_le T
      omega
    have hle : ∀ y ∈ (NT.pths T).getD pre.length [], y ≤ 1000000000 := fun y hy => by
      rw [List.getD_eq_getElem?_getD, List.getElem?_eq_getElem (by rw [NT.pths_len]; exact g3)] at hy
      have := pths_ents T _ (List.getElem_mem _) y hy
      omega
    have hsn : ((pre ++ [x]).map (·.1)).foldl NT.stepP [] = NT.stepP ((pre.map (·.1)).foldl NT.stepP []) x.1 := by simp
    have hpl : (pre ++ [x]).length = pre.length + 1 := by simp
    have hat : k = (pre.length : Int) → pathAt T k = (NT.pths T).getD pre.length [] ∧ isNum T k = true := fun e => by
      subst e
      exact ⟨by simp [pathAt], by simp [isNum]; omega⟩
    generalize (NT.pths T).getD pre.length [] = P' at *
    simp only at hw hne
    generalize (pre.map (·.1)).foldl NT.stepP [] = P at *
    obtain ⟨lv, y⟩ := x
    simp only at g1 g2 hsn
    have HSN := Lib.hid (hsn.trans g1)
    have HPL := Lib.hid hpl
    have HAT := Lib.hid hat
    have HNE := Lib.hid hne
    have HW := Lib.hid hw
    obtain ⟨q, hq, hq1, hq2, bn⟩ := hw.num
    obtain ⟨v, bp, rp, gp⟩ := hw.path
    obtain ⟨A, c, rfl, _⟩ := ints_own rp
    have cn := bn.cell
    have fn := bn.frozen
    have cp := bp.cell
    have fp := bp.frozen
    have cr := hw.res.cell
    have fr := hw.res.frozen
    have co := hw.ok.cell
    have fo := hw.ok.frozen
    have hlp := hw.len
    have BP := Lib.hid bp
    have BN := Lib.hid bn
    have RP := Lib.hid rp
    have GP := Lib.hid gp
    clear hL hsn hpl hat hne hw bn bp rp gp
    have HQ := Lib.hid (num_step hk1 hk2 hq hq1 hq2 HNE.out (by omega))
    have hg2 : P'.length + 1 = lv := g2.symm
    have HPB := Lib.hid (show P'.length + 1 ≤ 1000000000 ∧ ∀ x ∈ P', x ≤ 1000000000 from ⟨hlb, hle⟩)
    clear hlb hle
    clear g2
    have HK := Lib.hid (And.intro hk1 hk2)
    clear hq hq1 hq2 hk1 hk2
    by_cases h1 : lv = 1
    · subst h1
      rw [stepP_one] at g1
      subst g1
      clear hg2
      have hl1 : (((1 : Nat) : Int) == 1) = true := rfl
      have HA1 := Lib.hid (show Mid w W W M (.slice A P.length c) P from ⟨KeepsOthers.refl W, Below.refl _ _, Stays.refl _ _, fun _ _ => rfl, BP.out, RP.out⟩)
      by_cases hq0 : q = 0
      · have hz0 : (q == 0) = true := by simpa using hq0
        have HA := Lib.hid (HAT.out (HQ.out.1 hq0))
        clear hq0
        gi_wp2_with (fail)
        obtain ⟨f1, f2, f3, f4, f5⟩ := Way.found HW.out HA1.out
        exact ⟨f1.from _, rfl, _, f2, by rw [HA.out.1]; exact f3, by rw [HA.out.2]; exact f4, f5⟩
      · have hz0 : (q == 0) = false := by simpa using hq0
        have HN2 := Lib.hid (HQ.out.2 hq0)
        clear hq0
        gi_wp2_with (fail)
        obtain ⟨f1, f2, f3, f4⟩ := Way.next HW.out HA1.out (by omega) hM2 HN2.out.1 HN2.out.2.1 HN2.out.2.2.1 HPB.out
        exact ⟨f1.from _, f2, f3, ⟨by rw [HSN.out, HPL.out]; exact f4, by rw [HPL.out]; exact HN2.out.2.2.2⟩⟩
    · have hl1 : ((lv : Int) == 1) = false := by simpa using (by omega : ¬ (lv : Int) = 1)
      by_cases h2 : lv = P.length + 2
      · subst h2
        rw [stepP_down] at g1
        subst g1
        have hpb : P.length ≤ 1000000000 := by have := HPB.out.1; simp at this; omega
        have hl2 : (((P.length + 2 : Nat) : Int) == (P.length : Int) + 2) = true := by simp
        obtain ⟨i0, hi0, hz0', hz1, hz2⟩ := info_parts infoInt
        clear hg2 h1
        by_cases hq0 : q = 0
        · have hz0 : (q == 0) = true := by simpa using hq0
          have HA := Lib.hid (HAT.out (HQ.out.1 hq0))
          clear hq0
          gi_wp2_with (gi_at_builtin; refine wpListIn_append_own _ rfl _ _ 29 rfl (w.heap.size + 6) 3 i0 _ 1 8 Try.underlying29 hi0 hz0' hz1 hz2 rfl (by decide) _ _ _ rfl (RP.out.alloc _) ⟨W.heap.size, 0, none⟩ 1 1 [.int .i64 0] rfl rfl (cell_one_new _ _ _) (by simp [Value.oneCell']) (by unfold maxLen; omega) (by omega) (by simp; omega) ?_; intro v' w1 hown' hgrow _; obtain ⟨g', cap', rfl⟩ := ownsRow_succ hown'; obtain ⟨hb1, hmid⟩ := Mid.longer BP.out RP.out GP.out (by omega) hM2 hown' hgrow; have hc1 := hb1.cell; have hf1 := hb1.frozen; obtain ⟨⟨m1, m2⟩, ⟨m3, m4⟩, ⟨m5, m6⟩, m7⟩ := hmid.cells BN.out HW.out.res HW.out.ok; have HMID := Lib.hid hmid; clear hmid hown' hgrow)
          obtain ⟨f1, f2, f3, f4, f5⟩ := Way.found HW.out HMID.out
          exact ⟨f1.from _, rfl, _, f2, by rw [HA.out.1]; exact f3, by rw [HA.out.2]; exact f4, f5⟩
        · have hz0 : (q == 0) = false := by simpa using hq0
          have HN2 := Lib.hid (HQ.out.2 hq0)
          clear hq0
          gi_wp2_with (gi_at_builtin; refine wpListIn_append_own _ rfl _ _ 29 rfl (w.heap.size + 6) 3 i0 _ 1 8 Try.underlying29 hi0 hz0' hz1 hz2 rfl (by decide) _ _ _ rfl (RP.out.alloc _) ⟨W.heap.size, 0, none⟩ 1 1 [.int .i64 0] rfl rfl (cell_one_new _ _ _) (by simp [Value.oneCell']) (by unfold maxLen; omega) (by omega) (by simp; omega) ?_; intro v' w1 hown' hgrow _; obtain ⟨g', cap', rfl⟩ := ownsRow_succ hown'; obtain ⟨hb1, hmid⟩ := Mid.longer BP.out RP.out GP.out (by omega) hM2 hown' hgrow; have hc1 := hb1.cell; have hf1 := hb1.frozen; obtain ⟨⟨m1, m2⟩, ⟨m3, m4⟩, ⟨m5, m6⟩, m7⟩ := hmid.cells BN.out HW.out.res HW.out.ok; have HMID := Lib.hid hmid; clear hmid hown' hgrow)
          obtain ⟨f1, f2, f3, f4⟩ := Way.next HW.out HMID.out (by omega) hM2 HN2.out.1 HN2.out.2.1 HN2.out.2.2.1 HPB.out
          exact ⟨f1.from _, f2, f3, ⟨by rw [HSN.out, HPL.out]; exact f4, by rw [HPL.out]; exact HN2.out.2.2.2⟩⟩
      · have hs := stepP_on P lv h1 h2
        rw [g1] at hs
        subst hs
        have hpb := HPB.out.1
        simp only [List.length_append, List.length_take, List.length_cons, List.length_nil] at hg2 hpb
        obtain ⟨m, rfl⟩ : ∃ m, lv = m + 2 := ⟨lv - 2, by omega⟩
        simp only [Nat.add_sub_cancel] at hg2 hpb HSN HAT HPB
        have hml : m < P.length := by omega
        have hpm : P[m] ≤ 1000000000 := HW.out.ents _ (List.getElem_mem hml)
        obtain ⟨g, cap, hv, _, hgl⟩ := RP.out.form (by omega)
        simp only [Value.slice.injEq] at hv
        obtain ⟨rfl, _, rfl⟩ := hv
        have hgM := GP.out g rfl
        have hmid := Mid.on BP.out RP.out hgM (by omega) hM2 hml
        obtain ⟨⟨m1, m2⟩, ⟨m3, m4⟩, ⟨m5, m6⟩, m7⟩ := hmid.cells BN.out HW.out.res HW.out.ok
        have HMID := Lib.hid hmid
        have hcm : W.cell? ⟨g, m, none⟩ = some (.int .i64 (P[m] : Int)) := by
          have := RP.out.cells (g := g) rfl m (.int .i64 (P[m] : Int)) (by simp [icells, List.getElem?_eq_getElem hml])
          rwa [addr_add, Nat.zero_add] at this
        have hl2 : (((m + 2 : Nat) : Int) == (P.length : Int) + 2) = false := by simpa using (by omega : ¬ (m : Int) + 2 = (P.length : Int) + 2)
        have hfm : W.frozen? ⟨g, m, none⟩ = false := own_frozen RP.out m
        have hi1 : (((m + 2 : Nat) : Int) - 1) = ((m + 1 : Nat) : Int) := by omega
        have hi2 : (((m + 2 : Nat) : Int) - 2) = (m : Int) := by omega
        have hlo : 0 ≤ ((m + 2 : Nat) : Int) - 1 := by omega
        have hcl : P.length ≤ c := (own_cap RP.out).1
        clear hg2 h1 h2 hmid
        by_cases hq0 : q = 0
        · have hz0 : (q == 0) = true := by simpa using hq0
          have HA := Lib.hid (HAT.out (HQ.out.1 hq0))
          clear hq0
          gi_wp2_with (fail)
          obtain ⟨f1, f2, f3, f4, f5⟩ := Way.found HW.out HMID.out
          exact ⟨f1.from _, rfl, _, f2, by rw [HA.out.1]; exact f3, by rw [HA.out.2]; exact f4, f5⟩
        · have hz0 : (q == 0) = false := by simpa using hq0
          have HN2 := Lib.hid (HQ.out.2 hq0)
          clear hq0
          gi_wp2_with (fail)
          obtain ⟨f1, f2, f3, f4⟩ := Way.next HW.out HMID.out (by omega) hM2 HN2.out.1 HN2.out.2.1 HN2.out.2.2.1 HPB.out
          exact ⟨f1.from _, f2, f3, ⟨by rw [HSN.out, HPL.out]; exact f4, by rw [HPL.out]; exact HN2.out.2.2.2⟩⟩
  case done =>
    rintro D M W hD ⟨hw, hne⟩ hK
    have hl := HL.out
    have HN := Lib.hid hne
    have HW := Lib.hid hw
    have cr := hw.res.cell
    have co := hw.ok.cell
    have fr := hw.res.frozen
    have fo := hw.ok.frozen
    clear hne hw
    gi_wp2
    have hD2 : w.heap.size + 6 ≤ D := by omega
    have hK2 : ((W.setCell ⟨w.heap.size + 1 + 1, 0, none⟩ (.slice none 0 0)).setCell ⟨w.heap.size + 1 + 1 + 1, 0, none⟩ (.bool false)).heap[D]? = some (.deferred (some [])) :=
      (Below.heap_setCell _ ⟨w.heap.size + 1 + 1 + 1, 0, none⟩ _ D (by show D ≠ w.heap.size + 1 + 1 + 1; omega)).trans ((Below.heap_setCell _ ⟨w.heap.size + 1 + 1, 0, none⟩ _ D (by show D ≠ w.heap.size + 1 + 1; omega)).trans hK)
    refine ⟨by simp, .inl ⟨_, _, rfl, run_takeDeferred hK2, ?_⟩⟩
    have v1 : Boxed ((W.setCell ⟨w.heap.size + 1 + 1, 0, none⟩ (.slice none 0 0)).setCell ⟨w.heap.size + 1 + 1 + 1, 0, none⟩ (.bool false)) (w.heap.size + 1 + 1) 29 (.slice none 0 0) := (HW.out.res.set _).other (by omega) _
    have v2 : Boxed ((W.setCell ⟨w.heap.size + 1 + 1, 0, none⟩ (.slice none 0 0)).setCell ⟨w.heap.size + 1 + 1 + 1, 0, none⟩ (.bool false)) (w.heap.size + 1 + 1 + 1) 4 (.bool false) := (HW.out.ok.other (by omega) _).set _
    have v3 := (HW.out.below.setCell (p := ⟨w.heap.size + 1 + 1, 0, none⟩) (by simp; omega) (.slice none 0 0)).setCell (p := ⟨w.heap.size + 1 + 1 + 1, 0, none⟩) (by simp; omega) (.bool false)
    have v4 := v3.trans (put_below (.deferred none) (by omega) hK2)
    have c1 := (v1.kept (grownBy_putObj' _ D (.deferred none)) (by simp; omega)).cell
    have c2 := (v2.kept (grownBy_putObj' _ D (.deferred none)) (by simp; omega)).cell
    have e1 : pathAt T k = [] ∧ isNum T k = false := by
      have hn : ¬ (0 ≤ k ∧ k < (NT.cnt T : Int)) := fun ⟨h1, h2⟩ => HN.out k.toNat (by omega) (by omega)
      refine ⟨?_, by simp [isNum]; omega⟩
      unfold pathAt
      split
      · rw [List.getD_eq_getElem?_getD, List.getElem?_eq_none (by rw [NT.pths_len]; omega)]
        rfl
      · rfl
    clear v1 v2 v3
    generalize (((W.setCell ⟨w.heap.size + 1 + 1, 0, none⟩ (.slice none 0 0)).setCell ⟨w.heap.size + 1 + 1 + 1, 0, none⟩ (.bool false)).putObj D (.deferred none)) = V at *
    refine ⟨.tuple #[.slice none 0 0, .bool false], by simp [results, Try.results22, go_sem, c1, c2], none, ⟨0, ?_⟩, ?_, v4⟩
    · rw [e1.1, e1.2]; rfl
    · rw [e1.1]; exact fun h => absurd h (by simp)
  case stop =>
    rintro D c pre W hD hpre ⟨rfl, v, h1, h2, h3, h4⟩ hK
    have hr := ints_own h2
    obtain ⟨A, c, rfl, hr⟩ := hr
    gi_wp2
    refine ⟨by simp, .inl ⟨_, _, rfl, run_takeDeferred hK, ?_⟩⟩
    have hD2 : w.heap.size + 6 ≤ D := by omega
    have hzD := (Array.getElem?_eq_some_iff.1 hK).1
    have c1 := (h1.kept (grownBy_putObj' _ D (.deferred none)) (by simp; omega)).cell
    have c2 := (h3.kept (grownBy_putObj' _ D (.deferred none)) (by simp; omega)).cell
    have v4 := h4.trans (put_below (.deferred none) (by omega) hK)
    have o4 := ints_own (ownsRow_putObj h2 (.deferred none) hK rfl)
    generalize W.putObj D (.deferred none) = V at *
    obtain ⟨A', c', e', hr'⟩ := o4
    simp only [Value.slice.injEq] at e'
    obtain ⟨rfl, _, rfl⟩ := e'
    exact ⟨.tuple #[.slice A (pathAt T k).length c, .bool (isNum T k)], by simp [results, Try.results22, go_sem, c1, c2], A, c, rfl, hr', v4⟩
end Go.Proofs.Ytjikfdifcpdhhaa
