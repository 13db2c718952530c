/- What is proved: the laws' isChain says true of a chain. -/
import Derived.Test.YtmamajillkajoaaDoorCoAwake
import Derived.Test.YtmamajillkajoaaDoorCoWay
set_option linter.unusedVariables false
namespace Go.Proofs.YtmamajillkajoaaDoor
open Go.RowKit Go.Shelf

/-- what the laws call a chain -/
structure IsCh (l : List Con) (ch : List Nat) (m q : Nat) (es : List Nat) (cm cq : Con) : Prop where
  form : ch = m :: (es ++ [q])
  lt : m < q
  gm : l[m]? = some cm
  gq : l[q]? = some cq
  km : cm.kind = 0
  kq : cq.kind = 0
  excl : exclB cm.mark cq.mark = true
  leads : wlk l cm.a es = some cq.a
theorem markAt_some {l : List Con} {m : Nat} {c : Con} (h : l[m]? = some c) : markAt l m = c.mark := by unfold markAt; rw [h]
theorem ChOk.isCh {l : List Con} {ch : List Nat} {m q : Nat} {es : List Nat} (h : ChOk l ch m q es) : ∃ cm cq, IsCh l ch m q es cm cq ∧ cm.a = (vertAt l m : Int) := by
  obtain ⟨_, cm, g1, k1, a1⟩ := mrk_mem h.m_in
  obtain ⟨_, cq, g2, k2, a2⟩ := mrk_mem h.q_in
  refine ⟨cm, cq, ⟨h.form, h.lt, g1, g2, by simpa using k1, by simpa using k2, ?_, ?_⟩, a1⟩
  · rw [← markAt_some g1, ← markAt_some g2]; exact h.excl
  · rw [a1, a2]; exact h.leads
theorem wlk_step {l : List Con} {a b : Int} {i : Nat} {is : List Nat} (h : wlk l a (i :: is) = some b) : ∃ c, l[i]? = some c ∧ c.kind = 1 ∧ ((c.a = a ∧ wlk l c.b is = some b) ∨ (c.a ≠ a ∧ c.b = a ∧ wlk l c.a is = some b)) := by
  rw [wlk] at h
  cases hc : l[i]? with
  | none => rw [hc] at h; cases h
  | some c =>
    rw [hc] at h
    dsimp only at h
    cases h1 : (c.kind == 1) with
    | false => rw [h1] at h; cases h
    | true =>
      rw [h1, if_pos rfl] at h
      refine ⟨c, rfl, by simpa using h1, ?_⟩
      cases h2 : (c.a == a) with
      | true =>
        rw [h2, if_pos rfl] at h
        exact .inl ⟨by simpa using h2, h⟩
      | false =>
        rw [h2, if_neg (by decide)] at h
        cases h3 : (c.b == a) with
        | true =>
          rw [h3, if_pos rfl] at h
          exact .inr ⟨by simpa using h2, by simpa using h3, h⟩
        | false => rw [h3] at h; cases h
theorem wlk_lt {l : List Con} : ∀ {is : List Nat} {a b : Int}, wlk l a is = some b → ∀ i ∈ is, i < l.length
  | [], _, _, _, i, hi => by simp at hi
  | j :: js, a, b, h, i, hi => by
    obtain ⟨c, h1, _, h2⟩ := wlk_step h
    rcases List.mem_cons.1 hi with rfl | hi
    · exact (List.getElem?_eq_some_iff.1 h1).1
    · rcases h2 with ⟨_, h2⟩ | ⟨_, _, h2⟩ <;> exact wlk_lt h2 i hi
theorem IsCh.lts {l : List Con} {ch : List Nat} {m q : Nat} {es : List Nat} {cm cq : Con} (h : IsCh l ch m q es cm cq) : ∀ i ∈ ch, i < l.length := fun i hi => by
  rw [h.form] at hi
  rcases List.mem_cons.1 hi with rfl | hi
  · exact (List.getElem?_eq_some_iff.1 h.gm).1
  · rcases List.mem_append.1 hi with hi | hi
    · exact wlk_lt h.leads i hi
    · have : i = q := by simpa using hi
      rw [this]; exact (List.getElem?_eq_some_iff.1 h.gq).1

/-- a constraint in a variable of its own -/
abbrev cBox (x : Con) : Obj := .cells #[.int .i64 x.kind, .int .i64 x.a, .int .i64 x.b, .int .i64 x.mark.kind, .int .i64 x.mark.len, .string x.mark.nm, .int .i64 x.lo, .int .i64 x.hi] 41
theorem CRow.get {n₀ : Nat} {w : World} {b off : Nat} {l : List Con} (h : CRow n₀ w (some ⟨b, off, none⟩) l) {i : Nat} {c : Con} (hi : l[i]? = some c) : CCells w b (off + i * 8) c := by
  obtain ⟨hlt, rfl⟩ := List.getElem?_eq_some_iff.1 hi
  obtain ⟨b', off', e, _, hc⟩ := h (by omega)
  cases e
  exact hc i hlt

theorem two_boxes (W1 : World) (x y : Con) : ∃ W5, W5 = ((W1.alloc (cBox x)).alloc (cBox y)).drew ∧ W5.heap[W1.heap.size]? = some (.cells #[.int .i64 x.kind, .int .i64 x.a, .int .i64 x.b, .int .i64 x.mark.kind, .int .i64 x.mark.len, .string x.mark.nm, .int .i64 x.lo, .int .i64 x.hi] 41 (0, 0)) ∧ W5.heap[W1.heap.size + 1]? = some (.cells #[.int .i64 y.kind, .int .i64 y.a, .int .i64 y.b, .int .i64 y.mark.kind, .int .i64 y.mark.len, .string y.mark.nm, .int .i64 y.lo, .int .i64 y.hi] 41 (0, 0)) := by
  refine ⟨_, rfl, ?_, ?_⟩
  · exact (heap_alloc_old (W1.alloc (cBox x)) (cBox y) (by simp)).trans (heap_alloc_new W1 (cBox x))
  · have h := heap_alloc_new (W1.alloc (cBox x)) (cBox y)
    rw [World.size_alloc] at h
    exact h
abbrev zBox : Obj := .cells #[.int .i64 0, .int .i64 0, .int .i64 0, .int .i64 0, .int .i64 0, .string ⟨#[]⟩, .int .i64 0, .int .i64 0] 41
end Go.Proofs.YtmamajillkajoaaDoor
