/- What is proved: what the reference's cone under way keeps; the list of numbers that it builds. -/
import Derived.Test.YtaccienlokoolaaGaCo2
set_option linter.unusedVariables false
set_option linter.unusedSimpArgs false
namespace Go.Proofs.Ytaccienlokoolaa
open Go.RowKit Go.Maps

/-- the number of a node there -/
def nmR (f : Nat → Bool) (b v : Nat) : Int := if v < b ∨ f v = true then (num f b v : Int) else (v : Int)
def mlK (f : Nat → Bool) (b k : Nat) : List Int := (List.range k).map (nmR f b)
theorem mlK_len (f : Nat → Bool) (b k : Nat) : (mlK f b k).length = k := by simp [mlK]
theorem mlK_no {f : Nat → Bool} {b k : Nat} (h : k < b ∨ f k = false) : mlK f b k ++ [(k : Int)] = mlK f b (k + 1) := by
  unfold mlK
  rw [List.range_succ, List.map_append]
  congr 1
  simp only [List.map_cons, List.map_nil, List.cons.injEq, and_true]
  unfold nmR
  rcases h with h | h
  · rw [if_pos (.inl h), num_low h]
  · by_cases hb : k < b
    · rw [if_pos (.inl hb), num_low hb]
    · rw [if_neg (by rw [h]; simp; omega)]
theorem mlK_yes {f : Nat → Bool} {b k : Nat} (h : f k = true) : (mlK f b k ++ [(k : Int)]).set k (num f b k : Int) = mlK f b (k + 1) := by
  have hl := mlK_len f b k
  rw [List.set_append_right _ _ (by omega), hl, Nat.sub_self]
  unfold mlK
  rw [List.range_succ, List.map_append]
  congr 1
  simp only [List.set_cons_zero, List.map_cons, List.map_nil, List.cons.injEq, and_true]
  unfold nmR
  rw [if_pos (.inr h)]
theorem mlK_at {f : Nat → Bool} {b k v : Nat} (hv : v < (mlK f b k).length) : (mlK f b k)[v] = nmR f b v := by simp [mlK]
theorem mlK_mv {f : Nat → Bool} {b : Nat} {x : Int} (h : f (x / 2).toNat = true) : 2 * nmR f b (x / 2).toNat + x % 2 = mvL f b x := by
  unfold nmR
  rw [if_pos (.inr h)]
  rfl
theorem nmR_small (f : Nat → Bool) (b v : Nat) : 0 ≤ nmR f b v ∧ nmR f b v ≤ v := by
  have := num_le f b v
  unfold nmR
  split <;> omega
/-- the reference's cone under way -/
structure CrS (w0 : World) (B cb rb kb lb N : Nat) (I : Int) (A : Option Addr) (n c : Nat) (fl : Nat → Bool) (v : Value) (cg : List Gt) (mv : Value) (ml : List Int) (w : World) : Prop where
  ck : CBx w cb I A n c
  rs : CBx w rb 0 none 0 0
  cn : w.heap[kb]? = some (.cells #[.int .i64 I, v] 30 (0, 0))
  lds : BArr w lb N fl
  own : GOwn w B v cg
  mvs : ZOwn w B mv ml
  bel : Below w0.heap.size w0 w
  d1 : kb ≠ cb
  d2 : kb ≠ rb
  lo : w0.heap.size ≤ kb ∧ w0.heap.size ≤ B ∧ w0.heap.size ≤ rb
  up : B ≤ w.heap.size
section
variable {w0 w w' : World} {B cb rb kb lb N : Nat} {I : Int} {A : Option Addr} {n c : Nat} {fl : Nat → Bool} {v : Value} {cg : List Gt} {mv : Value} {ml : List Int}
theorem CrS.later (h : CrS w0 B cb rb kb lb N I A n c fl v cg mv ml w) (hb : Below w.heap.size w w') : CrS w0 B cb rb kb lb N I A n c fl v cg mv ml w' :=
  ⟨h.ck.later hb, h.rs.later hb, (hb.block _ (hlt h.cn)).trans h.cn, h.lds.later hb, h.own.later hb, h.mvs.later hb, h.bel.trans (hb.mono h.bel.size), h.d1, h.d2, h.lo, Nat.le_trans h.up hb.size⟩
theorem CrS.ccells (h : CrS w0 B cb rb kb lb N I A n c fl v cg mv ml w) : w.cell? ⟨kb, 0, none⟩ = some (.int .i64 I) ∧ w.cell? ⟨kb, 1, none⟩ = some v ∧ w.frozen? ⟨kb, 1, none⟩ = false := ⟨Lib.cell_of_heap h.cn 0, Lib.cell_of_heap h.cn 1, hfrz h.cn 1⟩
theorem CrS.push {mv' : Value} {ml' : List Int} (h : CrS w0 B cb rb kb lb N I A n c fl v cg mv ml w) (hgr : w.grownBy w' mv.ownBlock) (ho : ZOwn w' B mv' ml') : CrS w0 B cb rb kb lb N I A n c fl v cg mv' ml' w' := by
  have keep : ∀ {k : Nat} {cs : Array Value} {t : TypeId}, w.heap[k]? = some (.cells cs t (0, 0)) → t ≠ 3 → w'.heap[k]? = w.heap[k]? := fun {k cs t} hk ht => hgr.block k (hlt hk) (fun e => by
    obtain ⟨_, _, co, hoo⟩ := own_block' h.mvs e.symm
    exact ty_ne hk hoo ht rfl)
  obtain ⟨cl, hl, _, _⟩ := h.lds
  refine ⟨(keep h.ck (by decide)).trans h.ck, (keep h.rs (by decide)).trans h.rs, (keep h.cn (by decide)).trans h.cn, h.lds.eq (keep hl (by decide)), own_stays h.own fun b e => ?_, ho, h.bel.trans (grown_below hgr (fun b e => Nat.le_trans h.lo.2.1 (own_lo h.mvs b e)) h.bel.size), h.d1, h.d2, h.lo, Nat.le_trans h.up hgr.size⟩
  obtain ⟨_, _, co, hoo⟩ := own_block' h.own e
  exact keep hoo (by decide)
theorem CrS.put {g m cap : Nat} (h : CrS w0 B cb rb kb lb N I A n c fl v cg (.slice (some ⟨g, 0, none⟩) m cap) ml w) (hm : m = ml.length) (i : Nat) (x : Int) : CrS w0 B cb rb kb lb N I A n c fl v cg (.slice (some ⟨g, 0, none⟩) m cap) (ml.set i x) (w.setCell ⟨g, i, none⟩ (.int .i64 x)) := by
  obtain ⟨hbg, _, co, hs⟩ := own_block' h.mvs (b := g) rfl
  obtain ⟨cl, hl, _, _⟩ := h.lds
  have far : ∀ k, k ≠ g → (w.setCell ⟨g, i, none⟩ (.int .i64 x)).heap[k]? = w.heap[k]? := fun k hk => hfar (p := ⟨g, i, none⟩) hk _
  have hput : ZOwn (w.setCell ⟨g, i, none⟩ (.int .i64 x)) B (.slice (some ⟨g, 0, none⟩) m cap) (ml.set i x) := by
    subst hm
    have h9 := h.mvs
    unfold ZOwn at h9 ⊢
    rw [List.length_set, show zcells (ml.set i x) = (zcells ml).set i (.int .i64 x) by unfold zcells; rw [List.map_set]]
    exact (h9.stored i (.int .i64 x)).1
  refine ⟨(far _ (ty_ne h.ck hs (by decide))).trans h.ck, (far _ (ty_ne h.rs hs (by decide))).trans h.rs, (far _ (ty_ne h.cn hs (by decide))).trans h.cn, h.lds.eq (far _ (ty_ne hl hs (by decide))), own_stays h.own fun b e => ?_, hput, h.bel.setCell (p := ⟨g, i, none⟩) (Nat.le_trans h.lo.2.1 hbg) _, h.d1, h.d2, h.lo, by have := h.up; simp [World.setCell]; omega⟩
  obtain ⟨_, _, coo, hoo⟩ := own_block' h.own e
  exact far _ (ty_ne hoo hs (by decide))
theorem CrS.grow {X : Option Addr} {m cap : Nat} {cg' : List Gt} (h : CrS w0 B cb rb kb lb N I A n c fl v cg mv ml w) (hgr : w.grownBy w' v.ownBlock) (ho : GOwn w' B (.slice X m cap) cg') :
    CrS w0 B cb rb kb lb N I A n c fl (.slice X m cap) cg' mv ml (w'.setCell ⟨kb, 1, none⟩ (.slice X m cap)) ∧ w'.frozen? ⟨kb, 1, none⟩ = false ∧ w'.cell? ⟨kb, 1, none⟩ = some v := by
  have keep : ∀ {k : Nat} {cs : Array Value} {t : TypeId}, w.heap[k]? = some (.cells cs t (0, 0)) → t ≠ 69 → w'.heap[k]? = w.heap[k]? := fun {k cs t} hk ht => hgr.block k (hlt hk) (fun e => by
    obtain ⟨_, _, co, hoo⟩ := own_block' h.own e.symm
    exact ty_ne hk hoo ht rfl)
  have hB8 : Below w0.heap.size w0 w' := h.bel.trans (grown_below hgr (fun b e => Nat.le_trans h.lo.2.1 (own_lo h.own b e)) h.bel.size)
  obtain ⟨cl, hl, _, _⟩ := h.lds
  have hcn := (keep h.cn (by decide)).trans h.cn
  have far : ∀ k, k ≠ kb → (w'.setCell ⟨kb, 1, none⟩ (.slice X m cap)).heap[k]? = w'.heap[k]? := fun k hk => hfar (p := ⟨kb, 1, none⟩) hk _
  refine ⟨⟨(far _ (fun e => h.d1 e.symm)).trans ((keep h.ck (by decide)).trans h.ck), (far _ (fun e => h.d2 e.symm)).trans ((keep h.rs (by decide)).trans h.rs), hset (i := 1) hcn _, h.lds.eq ((far _ (ty_ne hl h.cn (by decide))).trans (keep hl (by decide))), own_stays ho fun b e => ?_, own_stays h.mvs fun b e => ?_, hB8.setCell (p := ⟨kb, 1, none⟩) h.lo.1 _, h.d1, h.d2, h.lo, by have := h.up; have := hgr.size; simp [World.setCell]; omega⟩, hfrz hcn 1, Lib.cell_of_heap hcn 1⟩
  · obtain ⟨_, _, co, hoo⟩ := own_block' ho e
    exact far _ (ty_ne hoo hcn (by decide))
  · obtain ⟨_, _, co, hoo⟩ := own_block' h.mvs e
    exact (far _ (ty_ne hoo h.cn (by decide))).trans (keep hoo (by decide))
theorem cr_app (h : CrS w0 B cb rb kb lb N I A n c fl v cg mv ml w) (hcg : cg.length ≤ 5000) (g : Gt) {P : World → Prop} (hP : ∀ w9 : World, (∀ k, k < w.heap.size → v.ownBlock ≠ some k → k ≠ kb → w9.heap[k]? = w.heap[k]?) → P w9) :
    ∃ X cap w8, (Builtin.append_ #[28, 28] 28 #[v, .slice (some ⟨w.heap.size, 0, none⟩) 1 1]).run Try.prog (w.alloc (.cells #[.int .i64 g.x, .int .i64 g.y] 69)) = .ok (.slice X (cg.length + 1) cap) w8 ∧
      ∀ w9, Hid (w9 = w8) → (w9.cell? ⟨kb, 1, none⟩ = some v ∧ w9.frozen? ⟨kb, 1, none⟩ = false) ∧ P w9 ∧ P (w9.setCell ⟨kb, 1, none⟩ (.slice X (cg.length + 1) cap)) ∧ Hid (CrS w0 B cb rb kb lb N I A n c fl (.slice X (cg.length + 1) cap) (cg ++ [g]) mv ml (w9.setCell ⟨kb, 1, none⟩ (.slice X (cg.length + 1) cap))) := by
  have hba := (Below.refl w.heap.size w).alloc (Nat.le_refl _) (.cells #[.int .i64 g.x, .int .i64 g.y] 69)
  have h1 := h.later hba
  obtain ⟨X, cap, w8, g1, g2, g3⟩ := g_append (w := w.alloc (.cells #[.int .i64 g.x, .int .i64 g.y] 69)) B cg.length v cg h1.own rfl (some ⟨w.heap.size, 0, none⟩) 1 1 [g] rfl (GRow.one w g) (by omega) h1.up
  refine ⟨X, cap, w8, g1, fun w9 h9 => ?_⟩
  obtain rfl := h9.out
  obtain ⟨k1, k2, k3⟩ := h1.grow g3 g2
  have st : ∀ k, k < w.heap.size → v.ownBlock ≠ some k → w9.heap[k]? = w.heap[k]? := fun k hk hne => (g3.block k (Nat.lt_of_lt_of_le hk hba.size) (fun e => hne e.symm)).trans (hba.block k hk)
  exact ⟨⟨k3, k2⟩, hP _ fun k hk hne _ => st k hk hne, hP _ fun k hk hne hk2 => (hfar (p := ⟨kb, 1, none⟩) hk2 _).trans (st k hk hne), Lib.hid k1⟩
end
end Go.Proofs.Ytaccienlokoolaa
