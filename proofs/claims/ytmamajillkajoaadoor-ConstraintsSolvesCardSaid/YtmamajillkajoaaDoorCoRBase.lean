/- What is proved: what lies in memory while the reference solves constraints: chains, the best chain, types; and what stays while types are stored. -/
import Derived.Test.YtmamajillkajoaaDoorCoWayC
import Derived.Test.YtmamajillkajoaaDoorCoBefC
import Derived.Test.YtmamajillkajoaaDoorCoKeep
import Derived.Test.YtmamajillkajoaaDoorCoFits
import Derived.Test.YtmamajillkajoaaDoorCoLists
set_option linter.unusedVariables false
namespace Go.Proofs.YtmamajillkajoaaDoor
open Go.RowKit Go.Shelf

/-- blocks that hold neither types nor truth values stay -/
def Fz (w w' : World) : Prop := ∀ (b : Nat) (cs : Array Value) (t : TypeId), w.heap[b]? = some (.cells cs t (0, 0)) → t ≠ 39 → t ≠ 4 → w'.heap[b]? = some (.cells cs t (0, 0))
theorem Fz.refl (w : World) : Fz w w := fun _ _ _ h _ _ => h
theorem Fz.trans {w w' w'' : World} (h : Fz w w') (g : Fz w' w'') : Fz w w'' := fun b cs t e h1 h2 => g b cs t (h b cs t e h1 h2) h1 h2
theorem Fz.below {w w' : World} (h : Below w.heap.size w w') : Fz w w' := fun b cs t e _ _ => (h.block _ (Array.getElem?_eq_some_iff.1 e).1).trans e
theorem Fz.set {w : World} {p : Addr} {cs : Array Value} {t : TypeId} (hb : w.heap[p.block]? = some (.cells cs t (0, 0))) (ht : t = 39 ∨ t = 4) (v : Value) : Fz w (w.setCell p v) := fun b ds u e h1 h2 => by
  have hne : b ≠ p.block := by
    rintro rfl
    rw [hb] at e
    simp only [Option.some.injEq, Obj.cells.injEq] at e
    rcases ht with h | h
    · exact h1 (by rw [← e.2.1]; exact h)
    · exact h2 (by rw [← e.2.1]; exact h)
  exact (Below.heap_setCell _ _ _ _ hne).trans e
theorem Fz.setT {w : World} {tb n v : Nat} {f : Nat → TyV} (h : TArr w tb n f) (t : TyV) : Fz w (setT w tb v t) := fun b ds u e h1 h2 => by
  have hne : b ≠ tb := h.ne e h1
  exact (setT_heap w tb v t b hne).trans e
/-- integers in a block -/
def IS (w : World) (X : Option Addr) (l : List Nat) : Prop :=
  0 < l.length → ∃ b cs, X = some ⟨b, 0, none⟩ ∧ w.heap[b]? = some (.cells cs 3 (0, 0)) ∧ ∀ (i : Nat) (h : i < l.length), cs[i]? = some (.int .i64 ((l[i] : Nat) : Int))
theorem IS.nil (w : World) (X : Option Addr) : IS w X [] := fun h => by simp at h
theorem IS.fz {w w' : World} {X : Option Addr} {l : List Nat} (h : IS w X l) (hf : Fz w w') : IS w' X l := fun h0 => by
  obtain ⟨b, cs, h1, h2, h3⟩ := h h0
  exact ⟨b, cs, h1, hf b cs _ h2 (by decide) (by decide), h3⟩
theorem IS.later {w w' : World} {X : Option Addr} {l : List Nat} (h : IS w X l) (hb : Below w.heap.size w w') : IS w' X l := h.fz (Fz.below hb)
theorem IS.of_own {w : World} {B c n : Nat} {X : Option Addr} {l : List Nat} (h : IOwn w B (.slice X n c) l) (hn : l.length = n) : IS w X l := fun h0 => by
  rcases h.2 with ⟨h1, h2⟩ | ⟨b, cap, cur, h1, h2, h3, h4, h5, h6, h7⟩
  · omega
  · cases h1
    refine ⟨b, cur, rfl, h3, fun i hi => ?_⟩
    have e : (ints l)[i]? = some (.int .i64 ((l[i] : Nat) : Int)) := by simp [ints, hi]
    rw [← h7, List.getElem?_take] at e
    split at e
    · rw [← e]; simp
    · cases e
theorem IS.irow {w : World} {X : Option Addr} {l : List Nat} (h : IS w X l) : IRow w.heap.size w X l := fun h0 => by
  obtain ⟨b, cs, h1, h2, h3⟩ := h h0
  exact ⟨b, 0, h1, (Array.getElem?_eq_some_iff.1 h2).1, fun i hi => by rw [← h3 i hi, Nat.zero_add]; exact Lib.cell_of_heap h2 i⟩
theorem IArr.fz {w w' : World} {b n : Nat} {f : Nat → Int} (h : IArr w b n f) (hf : Fz w w') : IArr w' b n f := by
  obtain ⟨cs, h1, h2, h3⟩ := h
  exact ⟨cs, hf b cs _ h1 (by decide) (by decide), h2, h3⟩
/-- chains in a row that the call owns -/
def ChOwn (w : World) (B : Nat) (v : Value) (L : List (List Nat)) : Prop :=
  ∃ vals : List Value, vals.length = L.length ∧ w.ownsRow B 23 1 v L.length vals ∧ (∀ u ∈ vals, u.oneCell' = true) ∧ ∀ (i : Nat) (h : i < L.length), ∃ X c, vals[i]? = some (.slice X L[i].length c) ∧ IS w X L[i] ∧ L[i].length ≤ c
theorem ChOwn.fz {w w' : World} {B : Nat} {v : Value} {L : List (List Nat)} (h : ChOwn w B v L) (hf : Fz w w') : ChOwn w' B v L := by
  obtain ⟨vals, h1, h2, h3, h4⟩ := h
  refine ⟨vals, h1, own_stays h2 fun b e => ?_, h3, fun i hi => by obtain ⟨X, c, e1, e2, e3⟩ := h4 i hi; exact ⟨X, c, e1, e2.fz hf, e3⟩⟩
  obtain ⟨q1, q2, cs, q3⟩ := own_block' h2 e
  rw [hf b cs _ q3 (by decide) (by decide), q3]
theorem ChOwn.later {w w' : World} {B : Nat} {v : Value} {L : List (List Nat)} (h : ChOwn w B v L) (hb : Below w.heap.size w w') : ChOwn w' B v L := h.fz (Fz.below hb)
theorem ChOwn.lrow {w : World} {B c : Nat} {A : Option Addr} {L : List (List Nat)} (h : ChOwn w B (.slice A L.length c) L) : LRow w A L := fun h0 => by
  obtain ⟨vals, h1, h2, h3, h4⟩ := h
  rcases h2.2 with ⟨g1, g2⟩ | ⟨b, cap, cur, g1, g2, g3, g4, g5, g6, g7⟩
  · omega
  · cases g1
    refine ⟨b, 0, rfl, (Array.getElem?_eq_some_iff.1 g3).1, fun i hi => ?_⟩
    obtain ⟨X, c', e1, e2, e3⟩ := h4 i hi
    refine ⟨X, c', ?_, e2.irow, e3⟩
    rw [Nat.zero_add, ← e1, ← g7, List.getElem?_take, if_pos (by omega)]
    simpa using Lib.cell_of_heap g3 i
/-- one more chain -/
theorem ChOwn.push {w' : World} {B : Nat} {v' : Value} {L : List (List Nat)} (vals : List Value) (h1 : vals.length = L.length) (h3 : ∀ u ∈ vals, u.oneCell' = true) (h4 : ∀ (i : Nat) (h : i < L.length), ∃ X c, vals[i]? = some (.slice X L[i].length c) ∧ IS w' X L[i] ∧ L[i].length ≤ c) {X : Option Addr} {c : Nat} {x : List Nat} (hx : IS w' X x) (hc : x.length ≤ c)
    (hown : w'.ownsRow B 23 1 v' (L.length + 1) (vals ++ [.slice X x.length c])) : ChOwn w' B v' (L ++ [x]) := by
  refine ⟨vals ++ [.slice X x.length c], by simp [h1], by rw [List.length_append]; exact hown, fun u hu => ?_, fun i hi => ?_⟩
  · rcases List.mem_append.1 hu with hu | hu
    · exact h3 u hu
    · have : u = .slice X x.length c := by simpa using hu
      rw [this]; rfl
  · by_cases e : i < L.length
    · obtain ⟨X', c', e1, e2, e3⟩ := h4 i e
      refine ⟨X', c', ?_, ?_, ?_⟩
      · rw [List.getElem?_append_left (by omega), e1, List.getElem_append_left e]
      · rw [List.getElem_append_left e]; exact e2
      · rw [List.getElem_append_left e]; exact e3
    · have e2 : i = L.length := by simp at hi; omega
      subst e2
      refine ⟨X, c, ?_, ?_, ?_⟩
      · rw [show (L ++ [x])[L.length] = x from by simp, show (vals ++ [Value.slice X x.length c])[L.length]? = some (Value.slice X x.length c) from by rw [← h1]; simp]
      · simpa using hx
      · simpa using hc
/-- a type in a variable -/
def Tb (w : World) (xb : Nat) (t : TyV) : Prop := w.heap[xb]? = some (.cells #[.int .i64 t.kind, .int .i64 t.len, .string t.nm] 39 (0, 0))
theorem Tb.later {w w' : World} {xb : Nat} {t : TyV} (h : Tb w xb t) (hb : Below w.heap.size w w') : Tb w' xb t := (hb.block _ (Array.getElem?_eq_some_iff.1 h).1).trans h
theorem Tb.tarr {w : World} {xb : Nat} {t : TyV} (h : Tb w xb t) : TArr w xb 1 (fun _ => t) := ⟨_, h, rfl, fun v hv => by
  obtain rfl : v = 0 := by omega
  exact ⟨rfl, rfl, rfl⟩⟩
theorem Tb.set {w : World} {xb : Nat} {t : TyV} (h : Tb w xb t) (u : TyV) : Tb (((w.setCell ⟨xb, 0, none⟩ (.int .i64 u.kind)).setCell ⟨xb, 1, none⟩ (.int .i64 u.len)).setCell ⟨xb, 2, none⟩ (.string u.nm)) xb u := by
  have h1 := hset (i := 0) h (.int .i64 u.kind)
  have h2 := hset (i := 1) h1 (.int .i64 u.len)
  have h3 := hset (i := 2) h2 (.string u.nm)
  exact h3
theorem Tb.cells {w : World} {xb : Nat} {t : TyV} (h : Tb w xb t) : w.cell? ⟨xb, 0, none⟩ = some (.int .i64 t.kind) ∧ w.cell? ⟨xb, 1, none⟩ = some (.int .i64 t.len) ∧ w.cell? ⟨xb, 2, none⟩ = some (.string t.nm) :=
  ⟨Lib.cell_of_heap h 0, Lib.cell_of_heap h 1, Lib.cell_of_heap h 2⟩
/-- append of a slice of integers onto one that the call owns -/
theorem i_append (w : World) (B n : Nat) (v : Value) (l : List Nat) (hown : IOwn w B v l) (hn : l.length = n) (A : Option Addr) (c n2 : Nat) (l2 : List Nat) (hn2 : l2.length = n2) (hrow : IRow w.heap.size w A l2) (hb : n + n2 ≤ 1000000000) (hB : B ≤ w.heap.size) :
    ∃ X cap w', (Builtin.append_ #[23, 23] 23 #[v, .slice A n2 c]).run Tryd.prog w = .ok (.slice X (n + n2) cap) w' ∧ IOwn w' B (.slice X (n + n2) cap) (l ++ l2) ∧ w.grownBy w' v.ownBlock := by
  subst hn
  subst hn2
  obtain ⟨i0, hi0, hz0, hz1, hz2⟩ := info_parts infoIn2
  have hform : ∃ X cap, v = .slice X l.length cap ∧ l.length ≤ cap := by
    rcases hown.2 with ⟨h1, h2⟩ | ⟨b, cap, cur, h1, h2, h3, h4, _⟩
    · exact ⟨none, 0, by rw [h1, h2], by omega⟩
    · exact ⟨_, cap, h1, h4⟩
  obtain ⟨X, cap, rfl, hcap⟩ := hform
  rcases Nat.eq_zero_or_pos l2.length with h0 | h0
  · have hl : l2 = [] := List.eq_nil_of_length_eq_zero h0
    subst hl
    refine ⟨X, cap, w, co_append_empty 23 _ 3 i0 Tryd.underlying23 hi0 _ _ _ _ _ hcap, by rw [List.append_nil]; exact hown, ⟨rfl, rfl, rfl, Nat.le_refl _, fun _ _ _ => rfl⟩⟩
  · obtain ⟨b, off, h1, h2, h3⟩ := hrow h0
    subst h1
    obtain ⟨v', w', g1, g2, g3⟩ := run_append_own (P := Tryd.prog) w B 23 23 3 i0 _ 1 8 Tryd.underlying23 hi0 hz0 hz1 hz2 rfl (by decide) _ l.length (ints l) hown ⟨b, off, none⟩ l2.length c (ints l2) (by rw [ints_len, Nat.mul_one]) (fun j u hj => by
      have hjl : j < l2.length := by rw [← ints_len]; exact (List.getElem?_eq_some_iff.1 hj).1
      have e : (ints l2)[j]? = some (.int .i64 ((l2[j] : Nat) : Int)) := by simp [ints, hjl]
      rw [hj] at e
      rw [Go.WideShapes.add_plain, h3 j hjl, e]) (ints_one _) (by unfold maxLen; omega) (by omega) hB
    have hf : ∃ X' cap', v' = .slice X' (l.length + l2.length) cap' := by
      rcases g2.2 with ⟨_, e⟩ | ⟨g, cp, cur, e, _⟩
      · omega
      · exact ⟨_, cp, e⟩
    obtain ⟨X', cap', rfl⟩ := hf
    refine ⟨X', cap', w', g1, ?_, g3.1⟩
    unfold IOwn
    rw [List.length_append, ints_append]
    exact g2
end Go.Proofs.YtmamajillkajoaaDoor
