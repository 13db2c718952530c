/- What is proved: words of literals in memory; what the methods of a builder give, said of all circuits that follow. -/
import Derived.Test.YtbcabnbgkicfdaaGaMth
import Derived.Test.YtbcabnbgkicfdaaBlP
set_option linter.unusedVariables false
namespace Go.Proofs.Ytbcabnbgkicfdaa
open Go.RowKit Go.Maps

/-- a slice of numbers, in a block of numbers below n (if there are any) -/
def WRow (n : Nat) (w : World) (A : Option Addr) (l : List Int) : Prop :=
  0 < l.length → ∃ b off cs, A = some ⟨b, off, none⟩ ∧ b < n ∧ w.heap[b]? = some (.cells cs 3 (0, 0)) ∧ ∀ (i : Nat) (h : i < l.length), cs[off + i]? = some (.int .i64 l[i])
section
variable {n : Nat} {w w' : World} {A : Option Addr} {l : List Int}
theorem WRow.nil (n : Nat) (w : World) (A : Option Addr) : WRow n w A [] := fun h => by simp at h
theorem WRow.stays (h : WRow n w A l) (hb : ∀ b cs, b < n → w.heap[b]? = some (.cells cs 3 (0, 0)) → w'.heap[b]? = w.heap[b]?) : WRow n w' A l := fun h0 => by
  obtain ⟨b, off, cs, h1, h2, h3, h4⟩ := h h0
  exact ⟨b, off, cs, h1, h2, (hb b cs h2 h3).trans h3, h4⟩
theorem WRow.mono {m : Nat} (h : WRow n w A l) (hn : n ≤ m) : WRow m w A l := fun h0 => by
  obtain ⟨b, off, cs, h1, h2, h3, h4⟩ := h h0
  exact ⟨b, off, cs, h1, Nat.lt_of_lt_of_le h2 hn, h3, h4⟩
theorem WRow.here (h : WRow n w A l) : WRow w.heap.size w A l := fun h0 => by
  obtain ⟨b, off, cs, h1, h2, h3, h4⟩ := h h0
  exact ⟨b, off, cs, h1, hlt h3, h3, h4⟩
theorem WRow.below {m : Nat} (h : WRow n w A l) (hb : Below m w w') (hn : n ≤ m) : WRow n w' A l := h.stays fun b cs h1 _ => hb.block b (by omega)
theorem WRow.later (h : WRow n w A l) (hb : Below w.heap.size w w') : WRow n w' A l := h.stays fun b cs h1 h2 => hb.block b (hlt h2)
theorem WRow.at (h : WRow n w A l) {i : Nat} (hi : i < l.length) : ∃ b off, A = some ⟨b, off, none⟩ ∧ w.cell? ⟨b, off + i, none⟩ = some (.int .i64 l[i]) := by
  obtain ⟨b, off, cs, h1, h2, h3, h4⟩ := h (by omega)
  exact ⟨b, off, h1, (Lib.cell_of_heap h3 (off + i)).trans (h4 i hi)⟩
theorem WRow.zrow (h : WRow n w A l) : ZRow n w A l := fun h0 => by
  obtain ⟨b, off, cs, h1, h2, h3, h4⟩ := h h0
  exact ⟨b, off, h1, h2, fun i hi => (Lib.cell_of_heap h3 (off + i)).trans (h4 i hi)⟩
theorem WRow.grown {row : Option Nat} (h : WRow n w A l) (hg : w.grownBy w' row) (hr : ∀ b, row = some b → n ≤ b) : WRow n w' A l := h.stays fun b cs h1 h2 => hg.block b (hlt h2) (fun e => by have := hr b e.symm; omega)
theorem WRow.pre {m : List Int} (h : WRow n w A (l ++ m)) : WRow n w A l := fun h0 => by
  obtain ⟨b, off, cs, h1, h2, h3, h4⟩ := h (by simp; omega)
  exact ⟨b, off, cs, h1, h2, h3, fun i hi => by have := h4 i (by simp; omega); rw [List.getElem_append_left hi] at this; exact this⟩
theorem WRow.taken (h : WRow n w A l) (k : Nat) : WRow n w A (l.take k) := by
  rw [← List.take_append_drop k l] at h
  exact h.pre
theorem ZOwn.wrow {B c m : Nat} (h : ZOwn w B (.slice A m c) l) : m = l.length ∧ l.length ≤ c ∧ WRow w.heap.size w A l := by
  obtain ⟨e1, e2, _⟩ := h.row
  refine ⟨e1, e2, fun h0 => ?_⟩
  rcases h.2 with ⟨_, h1⟩ | ⟨g, cap, cur, hv, hB, hg, hn, _⟩
  · omega
  · injection hv with hv1 _ _
    subst hv1
    have hb : (Value.slice (some ⟨g, 0, none⟩) m c).ownBlock = some g := rfl
    refine ⟨g, 0, _, rfl, hlt hg, hg, fun i hi => ?_⟩
    have a := World.ownsRow.cells h hb _ _ (zcells_get l i hi)
    rw [do_add, Lib.cell_of_heap hg] at a
    rw [Nat.zero_add]
    exact a
theorem z_fresh (w : World) (l : List Int) (B c : Nat) (hB : B ≤ w.heap.size) (hc : c = l.length) (hl : l.length ≤ 1000000) : ZOwn (w.alloc (.cells (zcells l).toArray 3)) B (.slice (some ⟨w.heap.size, 0, none⟩) l.length c) l :=
  ⟨(zcells_len l).trans (Nat.mul_one _).symm, .inr ⟨w.heap.size, c, (zcells l).toArray, rfl, hB, heap_alloc_new w _, by omega, by unfold maxLen; omega, by rw [Nat.mul_one, hc]; simpa using zcells_len l, by rw [← zcells_len l]; simp⟩⟩
end

/-- what a number of steps of a builder leave -/
structure Stp (n₀ bb mb : Nat) (rv : Value) (I : Int) (gs : List Gt) (n : Nat) (w w' : World) (rv' : Value) (gs' : List Gt) : Prop where
  res : BdRes n₀ bb mb rv I gs' 0 w w' rv'
  pre : gs <+: gs'
  len : gs'.length ≤ gs.length + n
section
variable {n₀ bb mb : Nat} {rv rv1 rv2 : Value} {I : Int} {gs gs1 gs2 : List Gt} {n m : Nat} {w w1 w2 : World}
theorem Stp.tab (h : Stp n₀ bb mb rv I gs n w w1 rv1 gs1) : Bld w1 n₀ bb mb rv1 I gs1 0 := h.res.tab
theorem Stp.grow (h : Stp n₀ bb mb rv I gs n w w1 rv1 gs1) : gs.length ≤ gs1.length := h.pre.length_le
theorem Stp.size (h : Stp n₀ bb mb rv I gs n w w1 rv1 gs1) : w.heap.size ≤ w1.heap.size := h.res.fr.size
theorem Stp.refl (h : Bld w n₀ bb mb rv I gs 0) : Stp n₀ bb mb rv I gs 0 w w rv gs := ⟨BdRes.same h (Below.refl _ _), List.prefix_refl _, by omega⟩
theorem Stp.mono (h : Stp n₀ bb mb rv I gs n w w1 rv1 gs1) (hn : n ≤ m) : Stp n₀ bb mb rv I gs m w w1 rv1 gs1 := ⟨h.res, h.pre, by have := h.len; omega⟩
theorem Stp.trans (h : Stp n₀ bb mb rv I gs n w w1 rv1 gs1) (k : Stp n₀ bb mb rv1 I gs1 m w1 w2 rv2 gs2) (ht : Bld w n₀ bb mb rv I gs 0) : Stp n₀ bb mb rv I gs (n + m) w w2 rv2 gs2 :=
  ⟨h.res.trans k.res (ht.lt (.inl rfl)).2 (ht.lt (.inr (.inl rfl))).2, h.pre.trans k.pre, by have := h.len; have := k.len; omega⟩
theorem Stp.later (h : Stp n₀ bb mb rv I gs n w w1 rv1 gs1) (hb : Below w1.heap.size w1 w2) (ht : Bld w n₀ bb mb rv I gs 0) : Stp n₀ bb mb rv I gs n w w2 rv1 gs1 :=
  ⟨h.res.trans (BdRes.same h.tab hb) (ht.lt (.inl rfl)).2 (ht.lt (.inr (.inl rfl))).2, h.pre, h.len⟩
theorem Stp.ahead (hb : Below w.heap.size w w1) (k : Stp n₀ bb mb rv I gs n w1 w2 rv2 gs2) : Stp n₀ bb mb rv I gs n w w2 rv2 gs2 := ⟨k.res.ahead hb, k.pre, k.len⟩
/-- a block of numbers is none of the builder's -/
theorem int_own (ht : Bld w n₀ bb mb rv I gs 0) {b : Nat} {cs : Array Value} (h : w.heap[b]? = some (.cells cs 3 (0, 0))) : ¬ Own bb mb rv b := fun ho => by
  rcases ho with rfl | rfl | ho
  · have := ht.box
    rw [h] at this
    simp only [Option.some.injEq, Obj.cells.injEq] at this
    exact absurd this.2.1 (by decide)
  · obtain ⟨es, clock, hm0, _⟩ := ht.map
    rw [h] at hm0
    cases hm0
  · obtain ⟨_, _, cs2, hc⟩ := own_block' ht.row ho
    rw [h] at hc
    simp only [Option.some.injEq, Obj.cells.injEq] at hc
    exact absurd hc.2.1 (by decide)
theorem WRow.stp {A : Option Addr} {l : List Int} {k : Nat} (h : WRow k w A l) (ht : Bld w n₀ bb mb rv I gs 0) (hs : Stp n₀ bb mb rv I gs n w w1 rv1 gs1) : WRow k w1 A l :=
  h.stays fun b cs h1 h2 => hs.res.fr.block b (hlt h2) (int_own ht h2)
theorem ZOwn.stp {B : Nat} {v : Value} {l : List Int} (h : ZOwn w B v l) (ht : Bld w n₀ bb mb rv I gs 0) (hs : Stp n₀ bb mb rv I gs n w w1 rv1 gs1) : ZOwn w1 B v l :=
  own_stays h fun b e => by
    obtain ⟨_, h1, cs, hc⟩ := own_block' h e
    exact hs.res.fr.block b h1 (int_own ht hc)
theorem Bld.grown {B : Nat} {v : Value} {l : List Int} (ht : Bld w n₀ bb mb rv I gs 0) (hz : ZOwn w B v l) (hg : w.grownBy w1 v.ownBlock) : Bld w1 n₀ bb mb rv I gs 0 :=
  ht.stays fun k hk => hg.block k (ht.lt hk).2 fun e => by
    obtain ⟨_, _, cs, hc⟩ := own_block' hz e.symm
    exact int_own ht hc hk
theorem Stp.grown {B : Nat} {v : Value} {l : List Int} (h : Stp n₀ bb mb rv I gs n w w1 rv1 gs1) (hz : ZOwn w1 B v l) (hB : w.heap.size ≤ B) (hg : w1.grownBy w2 v.ownBlock) : Stp n₀ bb mb rv I gs n w w2 rv1 gs1 :=
  ⟨⟨h.tab.grown hz hg, ⟨hg.os.trans h.res.fr.os, hg.tape.trans h.res.fr.tape, hg.output.trans h.res.fr.output, Nat.le_trans h.size hg.size, fun k hk hno => (hg.block k (Nat.lt_of_lt_of_le hk h.size) fun e => by
    have := own_lo hz k e.symm
    omega).trans (h.res.fr.block k hk hno)⟩, h.res.new⟩, h.pre, h.len⟩
/-- a word that grows while gates are built -/
structure Acc (n₀ bb mb : Nat) (rv : Value) (I : Int) (gs : List Gt) (w : World) (n : Nat) (w' : World) (v : Value) (z : List Int) (rv' : Value) (gs' : List Gt) : Prop where
  st : Stp n₀ bb mb rv I gs n w w' rv' gs'
  own : ZOwn w' w.heap.size v z
  lts : Lts I gs' z
theorem Acc.start (h : Bld w n₀ bb mb rv I gs 0) : Acc n₀ bb mb rv I gs w 0 w (.slice none 0 0) [] rv gs := ⟨.refl h, World.ownsRow_nil _ _ _ _, Lts.nil⟩
theorem Acc.go {v : Value} {z : List Int} (h : Acc n₀ bb mb rv I gs w n w1 v z rv1 gs1) (k : Stp n₀ bb mb rv1 I gs1 m w1 w2 rv2 gs2) (ht : Bld w n₀ bb mb rv I gs 0) : Acc n₀ bb mb rv I gs w (n + m) w2 v z rv2 gs2 :=
  ⟨h.st.trans k ht, h.own.stp h.st.tab k, h.lts.more k.grow⟩
theorem Acc.later {v : Value} {z : List Int} (h : Acc n₀ bb mb rv I gs w n w1 v z rv1 gs1) (hb : Below w1.heap.size w1 w2) (ht : Bld w n₀ bb mb rv I gs 0) : Acc n₀ bb mb rv I gs w n w2 v z rv1 gs1 :=
  ⟨h.st.later hb ht, h.own.later hb, h.lts⟩
theorem Acc.mono {v : Value} {z : List Int} (h : Acc n₀ bb mb rv I gs w n w1 v z rv1 gs1) (hn : n ≤ m) : Acc n₀ bb mb rv I gs w m w1 v z rv1 gs1 := ⟨h.st.mono hn, h.own, h.lts⟩
theorem Acc.ahead {w0 : World} {v : Value} {z : List Int} (hb : Below w0.heap.size w0 w) (h : Acc n₀ bb mb rv I gs w n w1 v z rv1 gs1) : Acc n₀ bb mb rv I gs w0 n w1 v z rv1 gs1 := ⟨h.st.ahead hb, own_down h.own hb.size, h.lts⟩
theorem Acc.over {w0 : World} {gs0 : List Gt} {rv0 : Value} {v : Value} {z : List Int} (h0 : Stp n₀ bb mb rv0 I gs0 m w0 w rv gs) (ht : Bld w0 n₀ bb mb rv0 I gs0 0) (h : Acc n₀ bb mb rv I gs w n w1 v z rv1 gs1) : Acc n₀ bb mb rv0 I gs0 w0 (m + n) w1 v z rv1 gs1 := ⟨h0.trans h.st ht, own_down h.own h0.size, h.lts⟩
theorem Acc.form {v : Value} {z : List Int} (h : Acc n₀ bb mb rv I gs w n w1 v z rv1 gs1) : ∃ A c, v = .slice A z.length c ∧ z.length ≤ c ∧ WRow w1.heap.size w1 A z := by
  obtain ⟨A, c, rfl, hc, _⟩ := h.own.form
  exact ⟨A, c, rfl, hc, h.own.wrow.2.2⟩
/-- a literal more -/
theorem Acc.push {v : Value} {z : List Int} (h : Acc n₀ bb mb rv I gs w n w1 v z rv1 gs1) (ht : Bld w n₀ bb mb rv I gs 0) (hz : z.length ≤ 1000) {x : Int} (hx : isLit I gs1 x) :
    ∃ X cap w3, (Builtin.append_ #[47, 47] 47 #[v, .slice (some ⟨w1.heap.size, 0, none⟩) 1 1]).run Try.prog (w1.alloc (.cells #[.int .i64 x] 3)) = .ok (.slice X (z.length + 1) cap) w3 ∧ Acc n₀ bb mb rv I gs w n w3 (.slice X (z.length + 1) cap) (z ++ [x]) rv1 gs1 := by
  have hba := (Below.refl w1.heap.size w1).alloc (Nat.le_refl _) (.cells #[.int .i64 x] 3)
  have ho := h.own.later hba
  have hsz := Nat.le_trans h.st.size hba.size
  obtain ⟨X, cap, w3, hrun, hown, hgr⟩ := z_append (w := w1.alloc (.cells #[.int .i64 x] 3)) w.heap.size z.length v z ho rfl (some ⟨w1.heap.size, 0, none⟩) 1 1 [x] rfl (ZRow.one w1 x) (by omega) hsz
  exact ⟨X, cap, w3, hrun, ⟨(h.st.later hba ht).grown ho (Nat.le_refl _) hgr, hown, h.lts.snoc hx⟩⟩
end

/-- what a literal is that a method of a builder gives -/
def OneG (n₀ bb mb : Nat) (rv : Value) (I : Int) (gs : List Gt) (n : Nat) (w : World) (φ : Int → (Int → Bool) → (Int → Prop) → Prop) (e : Ending) (w' : World) : Prop :=
  ∃ z rv' gs', e = .returned (.int .i64 z) ∧ Stp n₀ bb mb rv I gs n w w' rv' gs' ∧ isLit I gs' z ∧ Hol I gs' (φ z)
section
variable {n₀ bb mb : Nat} {rv : Value} {I : Int} {gs : List Gt} {w : World}
theorem lit_yes {I : Int} {gs : List Gt} {x : Int} (h : isLit I gs x) : litB I gs.length x = true := litB_iff.2 h
theorem a_And (x y : Int) (h : Bld w n₀ bb mb rv I gs 0) (hx : isLit I gs x) (hy : isLit I gs y) (hf : gs.length + 1 ≤ 5000) :
    Calls Try.prog 46 #[.pointer (some ⟨bb, 0, none⟩), .int .i64 x, .int .i64 y] w (OneG n₀ bb mb rv I gs 1 w (fun z v d => v z = (v x && v y) ∧ (d x → d y → d z))) := by
  have r := and_ok h.ck hx hy
  have k := and_hol h.ck hx hy
  refine (m_And x y 0 h hf).mono ?_
  rintro e w1 ⟨rfl, rv', hr⟩
  obtain ⟨e1, e2, e3⟩ := op_yes (andN I gs x y) gs (andL gs x y)
  rw [lit_yes hx, lit_yes hy, Bool.and_self, e2, e3] at hr
  rw [lit_yes hx, lit_yes hy, Bool.and_self, e1]
  exact ⟨_, rv', _, rfl, ⟨hr, r.pre, r.len⟩, r.lit, k⟩
theorem a_Or (x y : Int) (h : Bld w n₀ bb mb rv I gs 0) (hx : isLit I gs x) (hy : isLit I gs y) (hf : gs.length + 1 ≤ 5000) :
    Calls Try.prog 55 #[.pointer (some ⟨bb, 0, none⟩), .int .i64 x, .int .i64 y] w (OneG n₀ bb mb rv I gs 1 w (fun z v d => v z = (v x || v y) ∧ (d x → d y → d z))) := by
  have r := or_ok h.ck hx hy
  have k := or_hol h.ck hx hy
  refine (m_Or x y 0 h hf).mono ?_
  rintro e w1 ⟨rfl, rv', hr⟩
  obtain ⟨e1, e2, e3⟩ := op_yes (orN I gs x y) gs (orL gs x y)
  rw [lit_yes hx, lit_yes hy, Bool.and_self, e2, e3] at hr
  rw [lit_yes hx, lit_yes hy, Bool.and_self, e1]
  exact ⟨_, rv', _, rfl, ⟨hr, r.pre, r.len⟩, r.lit, k⟩
theorem a_Mux (c x y : Int) (h : Bld w n₀ bb mb rv I gs 0) (hc : isLit I gs c) (hx : isLit I gs x) (hy : isLit I gs y) (hf : gs.length + 3 ≤ 5000) :
    Calls Try.prog 56 #[.pointer (some ⟨bb, 0, none⟩), .int .i64 c, .int .i64 x, .int .i64 y] w (OneG n₀ bb mb rv I gs 3 w (fun z v d => v z = (if v c then v x else v y) ∧ (d c → d x → d y → d z))) := by
  have r := mux_ok h.ck hc hx hy
  have k := mux_hol h.ck hc hx hy
  refine (m_Mux c x y 0 h hf).mono ?_
  rintro e w1 ⟨rfl, rv', hr⟩
  obtain ⟨e1, e2, e3⟩ := op_yes (muxN I gs c x y) gs (muxL I gs c x y)
  simp only [lit_yes hc, lit_yes hx, lit_yes hy, Bool.and_self, e2, e3] at hr
  simp only [lit_yes hc, lit_yes hx, lit_yes hy, Bool.and_self, e1]
  exact ⟨_, rv', _, rfl, ⟨hr, r.pre, r.len⟩, r.lit, k⟩
theorem a_Xor (x y : Int) (h : Bld w n₀ bb mb rv I gs 0) (hx : isLit I gs x) (hy : isLit I gs y) (hf : gs.length + 3 ≤ 5000) :
    Calls Try.prog 47 #[.pointer (some ⟨bb, 0, none⟩), .int .i64 x, .int .i64 y] w (OneG n₀ bb mb rv I gs 3 w (fun z v d => v z = (v x != v y) ∧ (d x → d y → d z))) := by
  have r := mux_ok h.ck hx hy.not hy
  have k := (mux_hol h.ck hx hy.not hy).mp (ψ := fun v d => v (muxN I gs x (notP y) y) = (v x != v y) ∧ (d x → d y → d (muxN I gs x (notP y) y))) fun v d ho ⟨a, b⟩ => ⟨by rw [a, ho.not]; cases v x <;> cases v y <;> rfl, fun h1 h2 => b h1 ((ho.dnot _).2 h2) h2⟩
  refine (m_Xor x y 0 h hf).mono ?_
  rintro e w1 ⟨rfl, rv', hr⟩
  obtain ⟨e1, e2, e3⟩ := op_yes (muxN I gs x (notP y) y) gs (muxL I gs x (notP y) y)
  simp only [lit_yes hx, lit_yes hy, Bool.and_self, e2, e3] at hr
  simp only [lit_yes hx, lit_yes hy, Bool.and_self, e1]
  exact ⟨_, rv', _, rfl, ⟨hr, r.pre, r.len⟩, r.lit, k⟩
end
end Go.Proofs.Ytbcabnbgkicfdaa
