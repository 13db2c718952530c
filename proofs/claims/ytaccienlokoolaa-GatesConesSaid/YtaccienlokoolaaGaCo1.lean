/- What is proved: the closure of Cone; what a cone under way keeps; the numbers of nodes, as far as they are given. -/
import Derived.Test.YtaccienlokoolaaGaSp
set_option linter.unusedVariables false
set_option linter.unusedSimpArgs false
namespace Go.Proofs.Ytaccienlokoolaa
open Go.RowKit Go.Maps

set_option maxRecDepth 100000 in
theorem mv1_any (w : World) (nb sb N : Nat) (f : Nat → Int) (x : Int) (hx : 0 ≤ x) (hl : (x / 2).toNat < N) (hN : N ≤ 1000000) (hf : 0 ≤ f (x / 2).toNat ∧ f (x / 2).toNat ≤ 1000000) (hb : Bx w nb 48 (.slice (some ⟨sb, 0, none⟩) N N)) (ha : IArr w sb N f) :
    Calls Try.prog 50 #[.int .i64 x, .pointer (some ⟨nb, 0, none⟩)] w fun e w' => e = .returned (.int .i64 (2 * f (x / 2).toNat + x % 2)) ∧ w' = w := by
  have c0 := hb.cell
  have r0 := ha.cell hl
  obtain ⟨m, rfl⟩ : ∃ m : Nat, x = (m : Int) := ⟨x.toNat, by omega⟩
  have hk : ((m : Int) / 2).toNat = m / 2 := by omega
  rw [hk] at r0 hl hf ⊢
  generalize f (m / 2) = y at *
  have hw1 : IntKind.i64.wrap (2 * y) = 2 * y := IntWalk.i64_in _ (by omega)
  have hw2 : IntKind.i64.wrap (2 * y + (m : Int) % 2) = 2 * y + (m : Int) % 2 := IntWalk.i64_in _ (by omega)
  clear hb ha hk hx
  go_enter Try.func50, Try.ntmps50
  go_wp2_with (fail)
  go_ret
  exact ⟨rfl, rfl⟩

theorem ty_ne {w : World} {a b : Nat} {cs cs' : Array Value} {t t' : TypeId} {z z' : Nat × Nat} (h1 : w.heap[a]? = some (.cells cs t z)) (h2 : w.heap[b]? = some (.cells cs' t' z')) (ht : t ≠ t') : a ≠ b := fun e => by
  subst e
  rw [h1] at h2
  simp only [Option.some.injEq, Obj.cells.injEq] at h2
  exact ht h2.2.1
/-- a cone under way -/
structure CnS (w0 : World) (B cb rb kb nb sb lb N : Nat) (I : Int) (A : Option Addr) (n c : Nat) (fl : Nat → Bool) (v : Value) (cg : List Gt) (fn : Nat → Int) (w : World) : Prop where
  ck : CBx w cb I A n c
  rs : CBx w rb 0 none 0 0
  cn : w.heap[kb]? = some (.cells #[.int .i64 I, v] 30 (0, 0))
  nbx : Bx w nb 48 (.slice (some ⟨sb, 0, none⟩) N N)
  num : IArr w sb N fn
  lds : BArr w lb N fl
  own : GOwn w B v cg
  bel : Below w0.heap.size w0 w
  d1 : kb ≠ cb
  d2 : kb ≠ rb
  lo : w0.heap.size ≤ kb ∧ w0.heap.size ≤ sb ∧ w0.heap.size ≤ B ∧ w0.heap.size ≤ rb
  up : B ≤ w.heap.size
section
variable {w0 w w' : World} {B cb rb kb nb sb lb N : Nat} {I : Int} {A : Option Addr} {n c : Nat} {fl : Nat → Bool} {v : Value} {cg : List Gt} {fn : Nat → Int}
theorem CnS.later (h : CnS w0 B cb rb kb nb sb lb N I A n c fl v cg fn w) (hb : Below w.heap.size w w') : CnS w0 B cb rb kb nb sb lb N I A n c fl v cg fn w' :=
  ⟨h.ck.later hb, h.rs.later hb, (hb.block _ (hlt h.cn)).trans h.cn, h.nbx.later hb, h.num.later hb, h.lds.later hb, h.own.later hb, h.bel.trans (hb.mono h.bel.size), h.d1, h.d2, h.lo, Nat.le_trans h.up hb.size⟩
theorem CnS.ext {fn' : Nat → Int} (h : CnS w0 B cb rb kb nb sb lb N I A n c fl v cg fn w) (he : ∀ v, v < N → fn v = fn' v) : CnS w0 B cb rb kb nb sb lb N I A n c fl v cg fn' w :=
  ⟨h.ck, h.rs, h.cn, h.nbx, h.num.ext he, h.lds, h.own, h.bel, h.d1, h.d2, h.lo, h.up⟩
theorem CnS.ccells (h : CnS w0 B cb rb kb nb sb lb N I A n c fl v cg fn w) : w.cell? ⟨kb, 0, none⟩ = some (.int .i64 I) ∧ w.cell? ⟨kb, 1, none⟩ = some v ∧ w.frozen? ⟨kb, 1, none⟩ = false := ⟨Lib.cell_of_heap h.cn 0, Lib.cell_of_heap h.cn 1, hfrz h.cn 1⟩
theorem CnS.put (h : CnS w0 B cb rb kb nb sb lb N I A n c fl v cg fn w) {y : Nat} (hy : y < N) (x : Int) : CnS w0 B cb rb kb nb sb lb N I A n c fl v cg (setF fn y x) (w.setCell ⟨sb, y, none⟩ (.int .i64 x)) ∧ w.frozen? ⟨sb, y, none⟩ = false ∧ w.cell? ⟨sb, y, none⟩ = some (.int .i64 (fn y)) := by
  obtain ⟨cs, hs, _, _⟩ := h.num
  obtain ⟨cl, hl, _, _⟩ := h.lds
  have far : ∀ k, k ≠ sb → (w.setCell ⟨sb, y, none⟩ (.int .i64 x)).heap[k]? = w.heap[k]? := fun k hk => hfar (p := ⟨sb, y, none⟩) hk _
  refine ⟨⟨(far _ (ty_ne h.ck hs (by decide))).trans h.ck, (far _ (ty_ne h.rs hs (by decide))).trans h.rs, (far _ (ty_ne h.cn hs (by decide))).trans h.cn, (far _ (ty_ne h.nbx hs (by decide))).trans h.nbx, h.num.set hy x, h.lds.eq (far _ (ty_ne hl hs (by decide))), own_stays h.own fun b e => ?_, h.bel.setCell (p := ⟨sb, y, none⟩) h.lo.2.1 _, h.d1, h.d2, h.lo, by have := h.up; simp [World.setCell]; omega⟩, h.num.frz y, h.num.cell hy⟩
  obtain ⟨_, _, co, ho⟩ := own_block' h.own e
  exact far _ (ty_ne ho hs (by decide))
theorem CnS.grow {X : Option Addr} {m cap : Nat} {cg' : List Gt} (h : CnS w0 B cb rb kb nb sb lb N I A n c fl v cg fn w) (hgr : w.grownBy w' v.ownBlock) (ho : GOwn w' B (.slice X m cap) cg') :
    CnS w0 B cb rb kb nb sb lb N I A n c fl (.slice X m cap) cg' fn (w'.setCell ⟨kb, 1, none⟩ (.slice X m cap)) ∧ w'.frozen? ⟨kb, 1, none⟩ = false ∧ w'.cell? ⟨kb, 1, none⟩ = some v := by
  have keep : ∀ {k : Nat} {cs : Array Value} {t : TypeId}, w.heap[k]? = some (.cells cs t (0, 0)) → t ≠ 69 → w'.heap[k]? = w.heap[k]? := fun {k cs t} hk ht => hgr.block k (hlt hk) (fun e => by
    obtain ⟨_, _, co, hoo⟩ := own_block' h.own e.symm
    exact ty_ne hk hoo ht rfl)
  have hB8 : Below w0.heap.size w0 w' := h.bel.trans (grown_below hgr (fun b e => Nat.le_trans h.lo.2.2.1 (own_lo h.own b e)) h.bel.size)
  obtain ⟨cs, hs, _, _⟩ := h.num
  obtain ⟨cl, hl, _, _⟩ := h.lds
  have hcn := (keep h.cn (by decide)).trans h.cn
  have far : ∀ k, k ≠ kb → (w'.setCell ⟨kb, 1, none⟩ (.slice X m cap)).heap[k]? = w'.heap[k]? := fun k hk => hfar (p := ⟨kb, 1, none⟩) hk _
  refine ⟨⟨(far _ (fun e => h.d1 e.symm)).trans ((keep h.ck (by decide)).trans h.ck), (far _ (fun e => h.d2 e.symm)).trans ((keep h.rs (by decide)).trans h.rs), hset (i := 1) hcn _, (far _ (ty_ne h.nbx h.cn (by decide))).trans ((keep h.nbx (by decide)).trans h.nbx), h.num.eq ((far _ (ty_ne hs h.cn (by decide))).trans (keep hs (by decide))), h.lds.eq ((far _ (ty_ne hl h.cn (by decide))).trans (keep hl (by decide))), own_stays ho fun b e => ?_, hB8.setCell (p := ⟨kb, 1, none⟩) h.lo.1 _, h.d1, h.d2, h.lo, by have := h.up; have := hgr.size; simp [World.setCell]; omega⟩, hfrz hcn 1, Lib.cell_of_heap hcn 1⟩
  obtain ⟨_, _, co, hoo⟩ := own_block' ho e
  exact far _ (ty_ne hoo hcn (by decide))
end
/-- the numbers that are given: of the inputs, and of what leads -/
def nmP (f : Nat → Bool) (b v : Nat) : Int := if v < b ∨ f v = true then (num f b v : Int) else 0
def nmK (f : Nat → Bool) (b k v : Nat) : Int := if v < k then nmP f b v else 0
theorem nmK_zero (f : Nat → Bool) (b v : Nat) : (0 : Int) = nmK f b 0 v := by simp [nmK]
theorem nmK_put {f : Nat → Bool} {b k : Nat} (h : k < b ∨ f k = true) (v : Nat) : setF (nmK f b k) k (num f b k : Int) v = nmK f b (k + 1) v := by
  unfold setF nmK
  by_cases e : v = k
  · subst e
    rw [if_pos rfl, if_pos (by omega)]
    unfold nmP
    rw [if_pos h]
  · rw [if_neg e]
    by_cases e2 : v < k
    · rw [if_pos e2, if_pos (by omega)]
    · rw [if_neg e2, if_neg (by omega)]
theorem nmK_no {f : Nat → Bool} {b k : Nat} (h : ¬ (k < b ∨ f k = true)) (v : Nat) : nmK f b k v = nmK f b (k + 1) v := by
  unfold nmK
  by_cases e : v = k
  · subst e
    rw [if_neg (by omega), if_pos (by omega)]
    unfold nmP
    rw [if_neg h]
  · by_cases e2 : v < k
    · rw [if_pos e2, if_pos (by omega)]
    · rw [if_neg e2, if_neg (by omega)]
theorem nmK_at {f : Nat → Bool} {b k v : Nat} (hv : v < k) (h : v < b ∨ f v = true) : nmK f b k v = (num f b v : Int) := by
  unfold nmK nmP
  rw [if_pos hv, if_pos h]
theorem nmK_mv {f : Nat → Bool} {b k : Nat} {x : Int} (hv : (x / 2).toNat < k) (h : f (x / 2).toNat = true) : 2 * nmK f b k (x / 2).toNat + x % 2 = mvL f b x := by
  rw [nmK_at hv (.inr h)]
  rfl
theorem nmK_small (f : Nat → Bool) (b k v : Nat) (hv : v ≤ 1000000) : 0 ≤ nmK f b k v ∧ nmK f b k v ≤ 1000000 := by
  have := num_le f b v
  unfold nmK nmP
  split
  · split <;> omega
  · omega
end Go.Proofs.Ytaccienlokoolaa
