/- What is proved: pieces of what change of the reference returns. -/
import Derived.Test.YtjikfdifcpdhhaaPutO
import Derived.Test.YtjikfdifcpdhhaaRefCopied
import Derived.Test.YtjikfdifcpdhhaaCat3
import Derived.Test.YtjikfdifcpdhhaaRepPlain
import Derived.Test.YtjikfdifcpdhhaaBare
set_option linter.unusedVariables false
namespace Go.Proofs.Ytjikfdifcpdhhaa
open Go.RowKit

theorem inS_avoid' {S : Nat → Prop} {w : World} {g : Nat} : ∀ n : NT, InS S w n → g ∉ NT.blks n → InS (fun b => S b ∧ b ≠ g) w n := NT.ind fun n ih h hg => by
  refine (inS_iff n).2 ⟨fun h0 => ?_, h.cap, fun k hk => ih k hk (h.kid hk) (fun hm => hg ?_)⟩
  · obtain ⟨a, off, hA, hS, hc, hb⟩ := blks_cons h h0
    rw [hb] at hg
    exact ⟨a, off, hA, ⟨hS, fun e => hg (by rw [← e]; simp)⟩, hc⟩
  · rw [NT.blks_eq]
    exact List.mem_append_right _ ((NT.mem_blkss _).2 ⟨k, hk, hm⟩)
/-- a row of its own that holds these nodes -/
def OwnL (w : World) (B : Nat) (v : Value) (l : List NT) : Prop := w.ownsRow B 24 5 v l.length (ncells l)
theorem run_append_row (w : World) (B : Nat) (v : Value) (l : List NT) (hown : OwnL w B v l) (A : Option Addr) (c n2 : Nat) (l2 : List NT) (hn : l2.length = n2) (hrow : Row w.heap.size w A l2) (hb : l.length + n2 ≤ 1000000000) (hB : B ≤ w.heap.size) :
    ∃ v' w' l', (Builtin.append_ #[22, 22] 22 #[v, .slice A n2 c]).run Try.prog w = .ok v' w' ∧ Hid (l' = l ++ l2) ∧ OwnL w' B v' l' ∧ w.grownBy w' v.ownBlock := by
  subst hn
  obtain ⟨i0, hi0, hz0, hz1, hz2⟩ := info_parts infoNode
  cases A with
  | none =>
    have hl : l2 = [] := by
      rcases Nat.eq_zero_or_pos l2.length with h0 | h0
      · exact List.eq_nil_of_length_eq_zero h0
      · obtain ⟨b, off, h1, _⟩ := hrow h0; cases h1
    subst hl
    obtain ⟨A', m', c', rfl, hm⟩ := own_form hown
    exact ⟨_, w, l, run_append_none w _ _ 24 i0 Try.underlying22 hi0 _ _ _ _ hm, by show l = l ++ []; simp, hown, ⟨rfl, rfl, rfl, Nat.le_refl _, fun _ _ _ => rfl⟩⟩
  | some ad =>
    obtain ⟨v', w', h1, h2, h3, _⟩ := run_append_own (P := Try.prog) w B 22 22 24 i0 _ 5 64 Try.underlying22 hi0 hz0 hz1 hz2 rfl (by decide) v l.length (ncells l) hown ad l2.length c (ncells l2) (ncells_len _) (fun j u hj => by
      have h0 : 0 < l2.length := by
        cases hs : l2 with
        | nil => rw [hs] at hj; simp [ncells] at hj
        | cons x xs => simp
      obtain ⟨b, off, h1, _, h2⟩ := hrow h0
      cases h1
      exact row_news h2 j u hj) (ncells_one _) (by unfold maxLen; omega) (by omega) hB
    refine ⟨v', w', l ++ l2, h1, rfl, ?_, h3⟩
    unfold OwnL
    rw [List.length_append, ncells_append]
    exact h2
/-- an empty slice that a literal makes -/
def emptyV (w : World) : Value := .slice (some ⟨w.heap.size, 0, none⟩) 0 0
theorem run_empty (W : World) : (Instr.buildSlice 22 0 #[]).run Try.prog W = .ok (emptyV W) (W.alloc (.cells #[] 24)) := by
  obtain ⟨i0, hi0, hz0, hz1, hz2⟩ := info_parts infoNode
  simp [Instr.buildSlice, Instr.fill, run_underlying Try.underlying22, sizeOf, typeInfo, hi0, newRow, emptyV]
  rw [show (Array.map (fun _ => (default : Value)) (Array.range 0)) = #[] from by simp [Array.range]]
/-- an empty slice that a literal makes: one step of the walk, its value a letter -/
theorem wpList_empty {ops : Array Oper} {rest : List Oper} {o : Oper} {a : Act} {w : World} {Q : Exit → Act → World → Prop} (hg : o.guard = none) (ho : o.op = .buildSlice 22 0 #[])
    (h : ∀ v, v = emptyV w → wpList Try.prog ops Q rest (a.put o.dst v) (w.alloc (.cells #[] 24))) : wpList Try.prog ops Q (o :: rest) a w :=
  wpList_plain hg fun _ hK => by
    have h1 := h _ rfl
    have hr := run_empty w
    unfold Oper.wp execOp
    simp only [ho, Sem.run_bind]
    simp only [Array.map_empty, hr, Result.andThen_ok]
    exact hK _ _ h1
theorem NBox.len' {W : World} {b : Nat} {k : Int} {t : ByteArray} {lo hi : Int} {A : Option Addr} {c : Nat} {l l' : List NT} (h : NBox W b (.mk k t lo hi A c l)) (e : l.length = l'.length) : NBox W b (.mk k t lo hi A c l') := by
  have h' : W.heap[b]? = some (.cells #[.int .i64 k, .string t, .int .i64 lo, .int .i64 hi, .slice A l.length c] 24 (0, 0)) := h
  rw [e] at h'
  exact h'
theorem IRow.mono' {n₀ n₁ : Nat} {w : World} {A : Option Addr} {l : List Int} (h : IRow n₀ w A l) (hn : n₀ ≤ n₁) : IRow n₁ w A l := fun h0 => by
  obtain ⟨b, off, hA, hlt, hc⟩ := h h0
  exact ⟨b, off, hA, by omega, hc⟩
/-- where the rest of a path lies -/
def restI (A : Option Addr) (c : Nat) : Option Addr := if c = 1 then A else A.map (·.add 1)
theorem run_slice_rest (A : Option Addr) (len c : Nat) (h : 1 ≤ len) (W : World) : (Instr.slice 29 (.slice A len c) (some (.int .i64 1)) none none).run Try.prog W = .ok (.slice (restI A c) (len - 1) (c - 1)) W := by
  obtain ⟨i0, hi0, hz0, hz1, hz2⟩ := info_parts infoInt
  have h1 : ¬ ((len : Int) < 1) := by omega
  simp [Instr.slice, run_underlying Try.underlying29, Instr.sliceBounds, Instr.sliceBound, asIntOf, h1, sizeOf, typeInfo, hi0, hz1, restI]
theorem irow_rest {n₀ : Nat} {w : World} {A : Option Addr} {i : Int} {p : List Int} {c : Nat} (h : IRow n₀ w A (i :: p)) (hc : p.length + 1 ≤ c) : IRow n₀ w (restI A c) p := fun h0 => by
  obtain ⟨b, off, hA, hlt, hcs⟩ := h (by simp)
  refine ⟨b, off + 1, ?_, hlt, fun k hk => ?_⟩
  · unfold restI
    rw [if_neg (by omega), hA]
    simp [Go.WideShapes.add_plain]
  · have := hcs (k + 1) (by simp; omega)
    rw [show off + 1 + k = off + (k + 1) from by omega]
    exact this
/-- one node stored into a row of nodes that don't use this row -/
theorem put_kids {w3 : World} {g off k : Nat} {l : List NT} {m : NT} {S : Nat → Prop} (hrow : ∀ (i : Nat) (hi : i < l.length), Cells5 w3 g (off + i * 5) l[i]) (hk : k < l.length) (hl : ∀ x ∈ l, InS S w3 x) (hm : InS S w3 m) (hg : ¬ S g) :
    (∀ (i : Nat) (hi : i < (l.set k m).length), Cells5 (putO w3 g (off + k * 5) m) g (off + i * 5) (l.set k m)[i]) ∧ ∀ x ∈ l.set k m, InS S (putO w3 g (off + k * 5) m) x := by
  have kp : ∀ y, InS S w3 y → InS S (putO w3 g (off + k * 5) m) y := fun y hy => InS.keep (fun b hb => putO_block w3 m (fun e => hg (by rw [← e]; exact hb))) y hy
  refine ⟨row_put hrow hk m, fun y hy => ?_⟩
  rcases List.mem_or_eq_of_mem_set hy with hy | hy
  · exact kp y (hl y hy)
  · rw [hy]; exact kp m hm

/-- what change gives: nodes of the list l, of blocks below B₀, and new ones -/
def ChgC (B0 F T : Nat) (AL : Option Addr) (cL : Nat) (L : List NT) (p : List Int) : Prop := ∀ (n x : NT) (A : Option Addr) (c N : Nat) (w : World), NT.getZ n p = some x → T ≤ x.kids.length → InT w.heap.size w n → IRow w.heap.size w A p → N = p.length → N ≤ c → Row B0 w AL L → (∀ k ∈ L, InT B0 w k) → B0 ≤ w.heap.size → NT.cnt n + NT.cnts L ≤ 1000000000 → p.length ≤ 1000000000 →
  Calls Try.prog 56 #[.agg #[.int .i64 n.kind, .string n.text, .int .i64 n.lo, .int .i64 n.hi, .slice n.A n.kids.length n.c], .slice A N c, .int .i64 (F : Int), .int .i64 (T : Int), .slice AL L.length cL] w fun e w' => ∃ m : NT, e = .returned (.agg #[.int .i64 m.kind, .string m.text, .int .i64 m.lo, .int .i64 m.hi, .slice m.A m.kids.length m.c]) ∧ NT.strip m = NT.strip (NT.setK none 0 (x.kids.take F ++ L ++ x.kids.drop T) p n) ∧ InS (fun b => (b < B0 ∨ w.heap.size ≤ b) ∧ b < w'.heap.size) w' m ∧ Below w.heap.size w w'

end Go.Proofs.Ytjikfdifcpdhhaa
