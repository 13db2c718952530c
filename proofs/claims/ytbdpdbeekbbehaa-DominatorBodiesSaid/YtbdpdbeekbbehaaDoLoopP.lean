/- What is proved: the body of a loop, as mathematics, and a slice of loops in memory. -/
import Derived.Test.YtbdpdbeekbbehaaDoTails
import Derived.Test.YtbdpdbeekbbehaaDoSort
import Derived.Test.YtbdpdbeekbbehaaDoDel
import Derived.Test.YtbdpdbeekbbehaaDoSrch
set_option linter.unusedVariables false
namespace Go.Proofs.Ytbdpdbeekbbehaa
open Go.RowKit Go.Shelf

/-- c is in the body of the loop with the head h -/
def LpP (E : Nat → List Nat) (h c : Nat) : Prop := c = h ∨ Rea E 0 c ∧ ∃ b, h ∈ E b ∧ Dom E 0 h b ∧ Rch E (fun x => x ≠ h) c b
/-- the reversed edges, but none behind h -/
def upE (B : Nat → List Nat) (h p : Nat) : List Nat := if p = h then [] else B p
section
variable {E B : Nat → List Nat} {h : Nat}
theorem up_rea (hB : ∀ q x, q ∈ B x ↔ x ∈ E q) {x v : Nat} (hr : Rea (upE B h) x v) : v = h ∨ Rch E (fun x => x ≠ h) v x := by
  induction hr with
  | here _ =>
    by_cases e : x = h
    · exact .inl e
    · exact .inr (.here e)
  | @step b c _ h1 _ ih =>
    unfold upE at h1
    split at h1
    · simp at h1
    · rename_i hb
      rcases ih with e | ih
      · exact absurd e hb
      · by_cases e : c = h
        · exact .inl e
        · exact .inr (Rch.cons e ((hB _ _).1 h1) ih)
theorem rea_up (hB : ∀ q x, q ∈ B x ↔ x ∈ E q) {x v : Nat} (hr : Rch E (fun x => x ≠ h) v x) : Rea (upE B h) x v := by
  induction hr with
  | here _ => exact .here trivial
  | step _ h1 h2 ih =>
    refine Rch.cons trivial ?_ ih
    unfold upE
    rw [if_neg h2]
    exact (hB _ _).2 h1
theorem past_head {b : Nat} (hr : Rea E 0 b) : Rch E (fun x => x ≠ h) 0 b ∨ Rea E 0 h ∧ (b = h ∨ ∃ y, y ∈ E h ∧ Rch E (fun x => x ≠ h) y b) := by
  induction hr with
  | here _ =>
    by_cases e : 0 = h
    · exact .inr ⟨e ▸ .here trivial, .inl e⟩
    · exact .inl (.here e)
  | @step b c hp h1 _ ih =>
    by_cases e : c = h
    · exact .inr ⟨e ▸ .step hp h1 trivial, .inl e⟩
    · rcases ih with ih | ⟨hh, ih | ⟨y, hy, ih⟩⟩
      · exact .inl (.step ih h1 e)
      · exact .inr ⟨hh, .inr ⟨c, ih ▸ h1, .here e⟩⟩
      · exact .inr ⟨hh, .inr ⟨y, hy, .step ih h1 e⟩⟩
theorem vis_mem {n : Nat} {l L : List Nat} {sn' : Nat → Bool} (hv : Vis E n (fun _ => false) l L sn') (v : Nat) : v ∈ L ↔ ∃ x ∈ l, Rea E x v := by
  refine ⟨fun hm => (hv.new v hm).2.2, ?_⟩
  rintro ⟨x, hx, hr⟩
  have hs : ∀ u, sn' u = decide (u ∈ L) := fun u => by rw [hv.seen u]; simp
  induction hr with
  | here _ =>
    have := hv.all x hx
    rw [hs] at this
    simpa using this
  | step _ h1 _ ih =>
    have := hv.cl _ ih _ h1
    rw [hs] at this
    simpa using this
/-- what a loop's body is made of -/
theorem loop_mem {dm : Nat → Nat → Bool} (hdm : ∀ h u, dm h u = true ↔ Dom E 0 h u) (hB : ∀ q x, q ∈ B x ↔ x ∈ E q) {n : Nat} (hn : ∀ q x, x ∈ E q → q < n) (ht : tlL E dm n h ≠ []) {L : List Nat} {sn' : Nat → Bool} (hv : Vis (upE B h) n (fun _ => false) (tlL E dm n h) L sn')
    {r : Nat → Bool} (hr : ∀ v, r v = true ↔ Rea E 0 v) {lp : Nat → Bool} (hl : ∀ c, lp c = true ↔ LpP E h c) (x : Nat) : x ∈ L.filter r ↔ x < n ∧ lp x = true := by
  rw [List.mem_filter, hl, hr]
  obtain ⟨t, htm⟩ := List.exists_mem_of_ne_nil _ ht
  obtain ⟨_, hht, hdt⟩ := tlL_mem.1 htm
  have hdt := (hdm h t).1 hdt
  have hin : h ∈ L ∧ Rea E 0 h := by
    rcases past_head (h := h) hdt.1 with g | ⟨g1, g2⟩
    · exact absurd g hdt.2
    · refine ⟨(vis_mem hv h).2 ⟨t, htm, ?_⟩, g1⟩
      rcases g2 with e | ⟨y, hy, g⟩
      · exact e ▸ .here trivial
      · refine .step (rea_up hB g) ?_ trivial
        unfold upE
        rw [if_neg g.first]
        exact (hB _ _).2 hy
  constructor
  · rintro ⟨h1, h2⟩
    refine ⟨(hv.new x h1).2.1, ?_⟩
    obtain ⟨b, hb, g⟩ := (vis_mem hv x).1 h1
    obtain ⟨_, b1, b2⟩ := tlL_mem.1 hb
    rcases up_rea hB g with e | g
    · exact .inl e
    · exact .inr ⟨h2, b, b1, (hdm h b).1 b2, g⟩
  · rintro ⟨_, e | ⟨h2, b, b1, b2, g⟩⟩
    · exact e ▸ hin
    · exact ⟨(vis_mem hv x).2 ⟨b, tlL_mem.2 ⟨hn _ _ b1, b1, (hdm h b).2 b2⟩, rea_up hB g⟩, h2⟩
theorem filter_zl (L : List Nat) (r : Nat → Bool) : (zl L).filter (fun i => !(!(r i.toNat))) = zl (L.filter r) := by
  unfold zl
  rw [List.filter_map]
  congr 1
  apply List.filter_congr
  intro x _
  simp
end

/-- a loop's head, and where its body is -/
structure LpV where
  head : Nat
  A : Option Addr
  c : Nat
def lpcells (F : Nat → List Nat) (bs : List LpV) : List Value := bs.flatMap fun t => [.int .i64 (t.head : Int), .slice t.A (F t.head).length t.c]
theorem lpcells_len (F : Nat → List Nat) : ∀ bs, (lpcells F bs).length = bs.length * 2
  | [] => rfl
  | t :: bs => by
    have := lpcells_len F bs
    unfold lpcells at *
    rw [List.flatMap_cons, List.length_append, this]
    simp [Nat.succ_mul]
    omega
/-- a slice of loops -/
structure LpRow (W : World) (B : Nat) (v : Value) (bs : List LpV) (F : Nat → List Nat) : Prop where
  row : W.ownsRow B 36 2 v bs.length (lpcells F bs)
  body : ∀ t ∈ bs, ZOwn W B (.slice t.A (F t.head).length t.c) (zl (F t.head))
theorem LpRow.later {W W' : World} {B : Nat} {v : Value} {bs : List LpV} {F : Nat → List Nat} (h : LpRow W B v bs F) (hb : Below W.heap.size W W') : LpRow W' B v bs F :=
  ⟨own_stays h.row fun b e => hb.block b (own_block' h.row e).2.1, fun t ht => (h.body t ht).later hb⟩
theorem LpRow.nil (W : World) (B : Nat) (F : Nat → List Nat) : LpRow W B (.slice none 0 0) [] F := ⟨World.ownsRow_nil _ _ _ _, by simp⟩
theorem LpRow.mono {W : World} {B B' : Nat} {v : Value} {bs : List LpV} {F : Nat → List Nat} (h : LpRow W B v bs F) (hb : B' ≤ B) : LpRow W B' v bs F := ⟨own_down h.row hb, fun t ht => own_down (h.body t ht) hb⟩
/-- one loop more -/
theorem LpRow.more {W W' : World} {B : Nat} {v v' : Value} {bs : List LpV} {F : Nat → List Nat} (h : LpRow W B v bs F) {t : LpV} (ht : ZOwn W B (.slice t.A (F t.head).length t.c) (zl (F t.head))) {o : Obj} (hg : (W.alloc o).grownBy W' v.ownBlock)
    (hown : W'.ownsRow B 36 2 v' (bs.length + 1) (lpcells F bs ++ [.int .i64 (t.head : Int), .slice t.A (F t.head).length t.c])) : LpRow W' B v' (bs ++ [t]) F := by
  have key : ∀ u : LpV, ZOwn W B (.slice u.A (F u.head).length u.c) (zl (F u.head)) → ZOwn W' B (.slice u.A (F u.head).length u.c) (zl (F u.head)) := fun u hu => own_stays hu fun b e => by
    obtain ⟨_, hlt, cs, hcs⟩ := own_block' hu e
    refine (hg.block b (by simp; omega) (fun e2 => ?_)).trans (heap_alloc_old _ _ hlt)
    obtain ⟨_, _, cs2, hcs2⟩ := own_block' h.row e2.symm
    rw [hcs] at hcs2
    cases hcs2
  refine ⟨?_, fun u hu => ?_⟩
  · rw [List.length_append]
    unfold lpcells at hown ⊢
    rw [List.flatMap_append]
    exact hown
  · rcases List.mem_append.1 hu with hu | hu
    · exact key u (h.body u hu)
    · rw [List.mem_singleton.1 hu]
      exact key t ht
end Go.Proofs.Ytbdpdbeekbbehaa
