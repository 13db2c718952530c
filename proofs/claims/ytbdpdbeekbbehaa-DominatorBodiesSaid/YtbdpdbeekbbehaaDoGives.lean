/- What is proved: a loop over an iterator that gives the elements of one list, in order: each round may know which element comes; a set Z of blocks stays. -/
import Derived.RangeFuncNested
import Derived.RangeFuncBound
import Derived.RangeFuncCalls
import Derived.RangeFuncLeaves
import Derived.WalkKit
import Derived.Below
set_option linter.unusedVariables false
namespace Go.Proofs.Ytbdpdbeekbbehaa
open Go.RowKit Go
variable {F : Fence} {n : Nat} {P : Program}

/-- the blocks from M on lie as they lay -/
def Stays (M : Nat) (W W' : World) : Prop := ∀ b, M ≤ b → b < W.heap.size → W'.heap[b]? = W.heap[b]?
theorem Stays.refl (M : Nat) (W : World) : Stays M W W := fun _ _ _ => rfl
theorem Stays.trans {M : Nat} {A B C : World} (h : Stays M A B) (hz : A.heap.size ≤ B.heap.size) (k : Stays M B C) : Stays M A C := fun b h1 h2 => (k b h1 (by omega)).trans (h b h1 h2)
theorem Stays.put {M l : Nat} {W : World} (o : Obj) (h : l < M) : Stays M W (W.putObj l o) := fun b h1 h2 => World.putObj_heap_other (by omega)
theorem Stays.alloc {M : Nat} {A B : World} (h : Stays M A B) (hz : A.heap.size ≤ B.heap.size) (o : Obj) : Stays M A (B.alloc o) := fun b h1 h2 => (heap_alloc_old _ _ _ (by omega)).trans (h b h1 h2)
theorem Stays.mono {M M' : Nat} {A B : World} (h : Stays M A B) (hm : M ≤ M') : Stays M' A B := fun b h1 h2 => h b (by omega) h2
theorem Stays.of_below {M n : Nat} {A B : World} (h : Below n A B) (hn : A.heap.size ≤ n) : Stays M A B := fun b h1 h2 => h.block b (by omega)

/-- a set of blocks stays -/
structure BelowZ (Z : Nat → Prop) (w w' : World) : Prop where
  os : w'.os = w.os
  tape : w'.tape = w.tape
  output : w'.output = w.output
  size : w.heap.size ≤ w'.heap.size
  block : ∀ k, Z k → w'.heap[k]? = w.heap[k]?
theorem BelowZ.refl (Z : Nat → Prop) (w : World) : BelowZ Z w w := ⟨rfl, rfl, rfl, Nat.le_refl _, fun _ _ => rfl⟩
theorem BelowZ.trans {Z : Nat → Prop} {a b c : World} (h : BelowZ Z a b) (k : BelowZ Z b c) : BelowZ Z a c := ⟨k.os.trans h.os, k.tape.trans h.tape, k.output.trans h.output, Nat.le_trans h.size k.size, fun i hi => (k.block i hi).trans (h.block i hi)⟩
theorem BelowZ.of {Z : Nat → Prop} {B : Nat} {a b : World} (h : Below B a b) (hB : ∀ k, Z k → k < B) : BelowZ Z a b := ⟨h.os, h.tape, h.output, h.size, fun i hi => h.block i (hB i hi)⟩
theorem BelowZ.set {Z : Nat → Prop} {a b : World} (h : BelowZ Z a b) {p : Addr} (hp : ¬ Z p.block) (v : Value) : BelowZ Z a (b.setCell p v) := ⟨h.os, h.tape, h.output, by simpa [World.setCell] using h.size, fun i hi => (Below.heap_setCell _ _ _ _ (fun e => hp (by rw [← e]; exact hi))).trans (h.block i hi)⟩

/-- an iterator value that hands over the elements of L, in order, as long as the rounds ask for more; M: where the heap ended behind the round before -/
def Gives {α : Type} (F : Fence) (n : Nat) (P : Program) (g : Nat) (lb : Array Value) (encs : α → Array Value) (Z : Nat → Prop) (L : List α) (w : World) : Prop :=
  ∀ (l : Nat) (J : List α × Nat → World → Prop) (Jx : List α → World → Prop) (W : World), Below w.heap.size w W → AbidesFrom W.heap.size J → AbidesFrom W.heap.size Jx →
    (∀ pre x post M W1, L = pre ++ x :: post → J (pre, M) W1 → M ≤ W1.heap.size → YieldAt F (n - 1) P l (encs x) W1 fun e W' =>
      (e = .returned (.bool true) ∧ J (pre ++ [x], W'.heap.size) W' ∧ BelowZ Z W1 W' ∧ Stays M W1 W') ∨ (e = .returned (.bool false) ∧ Jx (pre ++ [x]) W')) →
    J ([], W.heap.size) W →
    CallsIn F n P g (#[.func (.yield l) #[] #[]] ++ lb) W fun e W' => (∃ v, e = .returned v) ∧ ((∃ M, J (L, M) W') ∨ ∃ pre, pre <+: L ∧ Jx pre W')

/-- a round whose body has gone on, or has left the loop -/
def After {α : Type} (B : Nat) (Z : Nat → Prop) (M : Nat) (I : List α × Nat → World → Prop) (Ix : Code → List α → World → Prop) (xs : List α) (W : World) : Exit → Act → World → Prop
  | .normal, _, W' => KeepsFrom B W W' ∧ BelowZ Z W W' ∧ Stays M W W' ∧ I (xs, W'.heap.size) W'
  | .ret, _, W' => KeepsFrom B W W' ∧ Ix .ret xs W'
  | .exit id, _, W' => KeepsFrom B W W' ∧ Ix (.exit id) xs W'
  | .goto t, _, W' => KeepsFrom B W W' ∧ Ix (.goto t) xs W'
  | .panic _, _, _ => False
  | .outgrown, _, _ => False

theorem put_below {Z : Nat → Prop} {W : World} {l : Nat} {o : Obj} (o' : Obj) (hn : ¬ Z l) (h : W.heap[l]? = some o) : BelowZ Z W (W.putObj l o') :=
  ⟨rfl, rfl, rfl, by rw [World.putObj_size]; exact Nat.le_refl _, fun k hk => World.putObj_heap_other (fun e => hn (by rw [e] at hk; exact hk))⟩

theorem wpIn_gives {α : Type} {g : Operand} {ps : Array Tmp} {assign body : Code} {Q : Exit → Act → World → Prop} {a : Act} {w : World}
    (hro : F.round = none) (h1 : 1 ≤ n) {gf : Nat} {lb : Array Value} (hg : a.eval g = .func (.func gf) #[] lb) (hFg : F.fn gf) (eg : ∀ args w, (callFunc gf args).run P w = .ok (.enter gf args) w)
    {encs : α → Array Value} {Z : Nat → Prop} {L : List α} {w0 : World} (hseq : Gives F (n - 1) P gf lb encs Z L w0)
    (hZ : ∀ b, Z b → b < w.heap.size) (hb0 : Below w0.heap.size w0 w) (hps : ∀ x, (encs x).size = ps.size)
    (I : List α × Nat → World → Prop) (Ix : Code → List α → World → Prop) (hI : OwnFrom w.heap.size I) (hIx : ∀ c, OwnFrom w.heap.size (Ix c)) (h0 : I ([], w.heap.size + 2) w) (Ax : α → Act → World → Prop) (hAx : ∀ x a', OwnFrom w.heap.size (fun (_ : Unit) W => Ax x a' W))
    (hassign : ∀ (l : Nat) (pre : List α) (x : α) (post : List α) (M : Nat) (W : World) (K : Act → World → Prop), L = pre ++ x :: post → I (pre, M) W → M ≤ W.heap.size → (∀ a' W', KeepsFrom w.heap.size W W' → BelowZ Z W W' → Stays M W W' → W.heap.size ≤ W'.heap.size → I (pre, M) W' → Ax x a' W' → K a' W') →
      assign.wpIn (F.inRound l) (n - 1 - 1) P (Exit.then K (fun _ _ _ => False)) { tmps := (ps.zip (encs x)).foldl (fun t (p, v) => t.setIfInBounds p v) a.tmps, defers := [] } W)
    (hbody : ∀ (l : Nat) (pre : List α) (x : α) (post : List α) (M : Nat) (a' : Act) (W : World), L = pre ++ x :: post → I (pre, M) W → w.heap.size + 2 ≤ M → M ≤ W.heap.size → Ax x a' W → body.wpIn (F.inRound l) (n - 1 - 1) P (After w.heap.size Z M I Ix (pre ++ [x]) W) a' W)
    (hdone : ∀ (D M : Nat) (W : World), w.heap.size ≤ D → I (L, M) W → W.heap[D]? = some (.deferred (some [])) → Q .normal { a with defers := { target := .collected D, args := #[] } :: a.defers } W)
    (hstop : ∀ (D : Nat) (c : Code) (pre : List α) (W : World), w.heap.size ≤ D → pre <+: L → Ix c pre W → W.heap[D]? = some (.deferred (some [])) → c.wpIn F n P Q { a with defers := { target := .collected D, args := #[] } :: a.defers } W) :
    (Code.rangeFunc g ps assign body).wpIn F n P Q a w := by
  refine wpIn_rangeFunc ?_
  intro fn hfn
  rw [hro]
  obtain ⟨rec, hrec⟩ : ∃ rec : LoopState → Option Code → Loop, rec = fun st pe => { state := st, pending := pe, fn, tmps := a.tmps, params := ps, assign, body, defers := w.heap.size } := ⟨_, rfl⟩
  obtain ⟨W1, hW1⟩ : ∃ W1, (w.alloc (.deferred (some []))).alloc (.loop (rec .ready none)) = W1 := ⟨_, rfl⟩
  have hL1 : W1.heap[w.heap.size + 1]? = some (.loop (rec .ready none)) := by
    rw [← hW1]
    have h := World.alloc_heap_new (w.alloc (.deferred (some []))) (.loop (rec .ready none))
    rwa [World.size_alloc] at h
  have hK1 : W1.heap[w.heap.size]? = some (.deferred (some [])) := by
    rw [← hW1]
    exact (Below.heap_alloc _ _ _ (by simp)).trans (World.alloc_heap_new w _)
  have hI1 : I ([], W1.heap.size) W1 := by
    have e : W1.heap.size = w.heap.size + 2 := by rw [← hW1]; simp
    rw [e, ← hW1]
    exact hI.alloc _ (hI.alloc _ h0)
  have hb1 : Below w0.heap.size w0 W1 := by
    rw [← hW1]
    exact hb0.trans ((((Below.refl _ w).alloc (Nat.le_refl _) _).alloc (by simp) _).mono hb0.size)
  have hz1 : w.heap.size + 2 = W1.heap.size := by rw [← hW1]; simp
  refine ⟨w.heap.size + 1, [{ target := .collected w.heap.size, args := #[] }], W1, { target := .fn (.func gf) lb, args := #[.func (.yield (w.heap.size + 1)) #[] #[]] }, W1, gf,
    #[.func (.yield (w.heap.size + 1)) #[] #[]] ++ lb, W1, ?_, ?_, ?_, ?_, fun _ => h1, ?_⟩
  · rw [← hW1, hrec]
    exact run_enterLoop_outer _ _ _ _ _
  · simp only [resolve, hg]
    simp [go_sem]
  · intro f' hf'
    simp [Target.leads] at hf'
    subst hf'
    exact hFg
  · simp [invoke, go_sem, eg]
  have hnw : ∀ {A : World} {row : Option Nat}, (∀ r, row = some r → W1.heap.size ≤ r ∧ ∃ o : Obj, A.heap[r]? = some o ∧ o.isWalk = true) → (∀ r, row = some r → w.heap.size ≤ r ∧ ∃ o : Obj, A.heap[r]? = some o ∧ o.isCells = false) := fun hr r e => by
    obtain ⟨hB, o, ho, hw⟩ := hr r e
    exact ⟨by omega, o, ho, Obj.not_cells_of_walk hw⟩
  have call := hseq (w.heap.size + 1)
    (fun s W => I s W ∧ W.heap[w.heap.size + 1]? = some (.loop (rec .ready none)) ∧ W.heap[w.heap.size]? = some (.deferred (some [])) ∧ w.heap.size + 2 ≤ s.2)
    (fun pre W => ∃ c, Ix c pre W ∧ W.heap[w.heap.size + 1]? = some (.loop (rec .done (some c))) ∧ W.heap[w.heap.size]? = some (.deferred (some [])))
    W1 hb1
    (fun s A B row hs hg' hr => ⟨hI s A B row hs.1 hg' (hnw hr), (grownBy_keeps hg' (fun r e => (hr r e).2) hs.2.1 rfl).trans hs.2.1, (grownBy_keeps hg' (fun r e => (hr r e).2) hs.2.2.1 rfl).trans hs.2.2.1, hs.2.2.2⟩)
    (fun s A B row hs hg' hr => by
      obtain ⟨c, hc, hl, hk⟩ := hs
      exact ⟨c, hIx c s A B row hc hg' (hnw hr), (grownBy_keeps hg' (fun r e => (hr r e).2) hl rfl).trans hl, (grownBy_keeps hg' (fun r e => (hr r e).2) hk rfl).trans hk⟩)
  refine (call ?round ⟨hI1, hL1, hK1, by show w.heap.size + 2 ≤ W1.heap.size; omega⟩).mono ?behind
  case behind =>
    rintro e W2 ⟨⟨v, rfl⟩, (⟨M, hi, hl, hk, _⟩ | ⟨pre, hSp, c, hi, hl, hk⟩)⟩
    · have he := run_endLoop (P := P) hl (by rw [hrec]; simp)
      rw [hrec] at he
      exact ⟨none, _, he, hdone _ M _ (Nat.le_refl _) (hI.putObj _ hi (by omega) hl rfl) ((World.putObj_heap_other (by omega)).trans hk)⟩
    · have he := run_endLoop (P := P) hl (by rw [hrec]; simp)
      rw [hrec] at he
      exact ⟨some c, _, he, hstop _ c pre _ (Nat.le_refl _) hSp ((hIx c).putObj _ hi (by omega) hl rfl) ((World.putObj_heap_other (by omega)).trans hk)⟩
  case round =>
    rintro pre x post M W hL ⟨hi, hl, hk, hM⟩ hMW
    simp only at hM
    have hy := run_yield (P := P) (args := encs x) hl (by rw [hrec]; exact hps x)
    rw [hrec] at hy
    refine ⟨fn, _, assign, body, hy, roundIn_of_wpIn hfn (hassign _ pre x post M W _ hL hi hMW ?_)⟩
    clear hy
    intro a' V hkf hkb hst hsz hiv hax
    have hlV := hkf.same _ _ (by omega) hl rfl
    have hkV := hkf.same _ _ (Nat.le_refl _) hk rfl
    have hlt : w.heap.size + 1 < V.heap.size := (Array.getElem?_eq_some_iff.1 hlV).1
    refine ⟨_, run_beginRound hlV (by rw [hrec]), ?_⟩
    have hl2 : (V.putObj (w.heap.size + 1) (.loop { rec .ready none with state := .busy })).heap[w.heap.size + 1]? = some (.loop { rec .ready none with state := .busy }) := World.putObj_heap_same hlt
    have hk2 : (V.putObj (w.heap.size + 1) (.loop { rec .ready none with state := .busy })).heap[w.heap.size]? = some (.deferred (some [])) := (World.putObj_heap_other (by omega)).trans hkV
    have hb2 : BelowZ Z V (V.putObj (w.heap.size + 1) (.loop { rec .ready none with state := .busy })) := put_below _ (fun hz => by have := hZ _ hz; omega) hlV
    have hsp : (V.putObj (w.heap.size + 1) (.loop { rec .ready none with state := .busy })).heap.size = V.heap.size := World.putObj_size
    refine wpIn_mono (hbody _ pre x post M a' _ hL (hI.putObj _ hiv (by omega) hlV rfl) hM (by rw [World.putObj_size]; omega) ((hAx x a').putObj (s := ()) _ hax (by omega) hlV rfl)) ?_
    have fin : ∀ (jump : Option Code) (W3 : World), KeepsFrom w.heap.size (V.putObj (w.heap.size + 1) (.loop { rec .ready none with state := .busy })) W3 →
        (Instr.endRound (w.heap.size + 1) jump).run P W3 = .ok (.bool jump.isNone) (W3.putObj (w.heap.size + 1) (.loop (rec (if jump.isNone then .ready else .done) jump))) ∧
        W3.heap[w.heap.size + 1]? = some (.loop { rec .ready none with state := .busy }) ∧
        (W3.putObj (w.heap.size + 1) (.loop (rec (if jump.isNone then .ready else .done) jump))).heap[w.heap.size + 1]? = some (.loop (rec (if jump.isNone then .ready else .done) jump)) ∧
        (W3.putObj (w.heap.size + 1) (.loop (rec (if jump.isNone then .ready else .done) jump))).heap[w.heap.size]? = some (.deferred (some [])) := fun jump W3 hk3 => by
      have hl3 := hk3.same _ _ (by omega) hl2 rfl
      have he := run_endRound (P := P) jump hl3
      rw [hrec] at he ⊢
      exact ⟨he, by rw [hrec] at hl3; exact hl3, World.putObj_heap_same (Array.getElem?_eq_some_iff.1 hl3).1, (World.putObj_heap_other (by omega)).trans (hk3.same _ _ (Nat.le_refl _) hk2 rfl)⟩
    rintro e a3 W3 hp
    cases e with
    | normal =>
      obtain ⟨hk3, hb3, hs3, hi3⟩ := hp
      obtain ⟨hr, hl3, hl4, hk4⟩ := fin none W3 hk3
      have hz3 := hb3.size
      have hsq : (W3.putObj (w.heap.size + 1) (.loop (rec (if (none : Option Code).isNone then .ready else .done) none))).heap.size = W3.heap.size := World.putObj_size
      refine ⟨_, _, hr, .inl ⟨rfl, ⟨?_, hl4, hk4, ?_⟩, ((hkb.trans hb2).trans hb3).trans (put_below _ (fun hz => by have := hZ _ hz; omega) hl3), ?_⟩⟩
      · rw [hsq]; exact hI.putObj _ hi3 (by omega) hl3 rfl
      · show w.heap.size + 2 ≤ (W3.putObj _ _).heap.size
        rw [World.putObj_size] at hz3 ⊢
        omega
      · rw [World.putObj_size] at hz3
        exact (((hst.trans hsz (Stays.put _ (by omega))).trans (by rw [World.putObj_size]; omega) hs3).trans (by omega) (Stays.put _ (by omega)))
    | ret =>
      obtain ⟨hk3, hi3⟩ := hp
      obtain ⟨hr, hl3, hl4, hk4⟩ := fin (some .ret) W3 hk3
      exact ⟨_, _, hr, .inr ⟨rfl, .ret, (hIx _).putObj _ hi3 (by omega) hl3 rfl, hl4, hk4⟩⟩
    | exit id =>
      obtain ⟨hk3, hi3⟩ := hp
      obtain ⟨hr, hl3, hl4, hk4⟩ := fin (some (.exit id)) W3 hk3
      exact ⟨_, _, hr, .inr ⟨rfl, .exit id, (hIx _).putObj _ hi3 (by omega) hl3 rfl, hl4, hk4⟩⟩
    | goto t =>
      obtain ⟨hk3, hi3⟩ := hp
      obtain ⟨hr, hl3, hl4, hk4⟩ := fin (some (.goto t)) W3 hk3
      exact ⟨_, _, hr, .inr ⟨rfl, .goto t, (hIx _).putObj _ hi3 (by omega) hl3 rfl, hl4, hk4⟩⟩
    | panic ch => exact hp.elim
    | outgrown => exact hp.elim
end Go.Proofs.Ytbdpdbeekbbehaa
