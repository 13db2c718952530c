/- What is proved: the map of what constraints have said: it answers whether a constraint was said before. -/
import Derived.Test.YtmamajillkajoaaDoorCoMem
set_option linter.unusedVariables false
set_option maxRecDepth 100000
namespace Go.Proofs.YtmamajillkajoaaDoor
open Go.RowKit Go.Maps Go.WideMaps

theorem dup_succ {l : List Con} {k : Nat} (h : k < l.length) (c : Con) : dupB l (k + 1) c = (dupB l k c || sayB l[k] c) := by
  unfold dupB
  rw [List.take_succ_eq_append_getElem h, List.any_append]
  simp
theorem dup_say {l : List Con} {k : Nat} {x c : Con} (h : sayB x c = true) : dupB l k x = dupB l k c := by
  rw [sayB_iff] at h
  unfold dupB
  congr 1
  funext d
  unfold sayB
  rw [h]
/-- the keys of the first k constraints -/
def mapD (l : List Con) : Nat → DataW Unit
  | 0 => .map []
  | k + 1 => match l[k]? with
    | none => mapD l k
    | some c => if dupB l k c then mapD l k else (mapD l k).put (keyC c) (.lit (.bool true))
theorem mapD_succ {l : List Con} {k : Nat} (h : k < l.length) : mapD l (k + 1) = if dupB l k l[k] then mapD l k else (mapD l k).put (keyC l[k]) (.lit (.bool true)) := by
  simp only [mapD, List.getElem?_eq_getElem h]
theorem mapD_map (l : List Con) : ∀ k, IsMap (mapD l k) := by
  intro k
  induction k with
  | zero => exact isMap_empty
  | succ k ih =>
    simp only [mapD]
    split
    · exact ih
    · split
      · exact ih
      · exact ih.put _ _
theorem mapD_at {l : List Con} (hok : ∀ x ∈ l, ConOk x) {c : Con} (hc : ConOk c) : ∀ k, k ≤ l.length → (mapD l k).atKey (keyC c) (.lit (.bool false)) = .lit (.bool (dupB l k c)) := by
  intro k
  induction k with
  | zero => intro _; rfl
  | succ k ih =>
    intro hk
    have hlt : k < l.length := by omega
    rw [mapD_succ hlt, dup_succ hlt]
    have hx := hok _ (List.getElem_mem hlt)
    cases hd : dupB l k l[k] with
    | true =>
      rw [if_pos rfl, ih (by omega)]
      cases hs : sayB l[k] c with
      | false => simp
      | true => rw [← dup_say hs, hd]; rfl
    | false =>
      rw [if_neg (by simp)]
      cases hs : sayB l[k] c with
      | true =>
        have e : keyC l[k] = keyC c := by
          rw [sayB_iff] at hs
          unfold keyC
          rw [hs]
        rw [e, Maps.atKey_put_same (mapD_map l k) (factLaw.key (keyC_keyOf hc))]
        simp
      | false =>
        have e : keyC c ≠ keyC l[k] := by
          intro e
          have := keyC_inj hc hx e
          rw [(sayB_iff _ _).2 this.symm] at hs
          cases hs
        rw [Maps.atKey_put_other e, ih (by omega)]
        simp
theorem co_bool_inv {v : Value} {z : DataW Unit × List MemPlace} (h : plainElem (H := Unit) Tryd.prog 4 v = some z) : ∃ x, v = .bool x ∧ z = (.lit (.bool x), []) := by
  unfold plainElem at h
  rw [Tryd.underlying4] at h
  cases v <;> simp at h
  exact ⟨_, rfl, h.symm⟩
/-- the map in block b -/
def Said (w : World) (b : Nat) (l : List Con) (k : Nat) : Prop := ∃ m, m ≤ k ∧ w.ownsMap Tryd.prog 68 (plainElem (H := Unit) Tryd.prog 4) b m (mapD l k)
theorem Said.made (w : World) (l : List Con) : Said (w.alloc (.map #[] 0)) w.heap.size l 0 := ⟨0, Nat.le_refl _, World.ownsMap_made w Tryd.prog 68 (plainElem (H := Unit) Tryd.prog 4)⟩
theorem Said.stays {w w' : World} {b k : Nat} {l : List Con} (h : Said w b l k) (hb : w'.heap[b]? = w.heap[b]?) : Said w' b l k := by
  obtain ⟨m, hm, es, clock, hb0, F, hs, hD⟩ := h
  exact ⟨m, hm, es, clock, hb.trans hb0, F, hs, hD⟩
theorem Said.look {w : World} {b k : Nat} {l : List Con} (h : Said w b l k) (hok : ∀ x ∈ l, ConOk x) {c : Con} (hc : ConOk c) (hk : k ≤ l.length) (p x y q n : Int) (s : ByteArray) (hp : p = (factK c).1) (hx : x = (factK c).2.1) (hy : y = (factK c).2.2.1) (hq : q = (factK c).2.2.2.kind) (hn : n = (factK c).2.2.2.len) (hs : s = (factK c).2.2.2.nm) :
    (Instr.lookup 66 (.map (some b)) (.agg #[.int .i64 p, .int .i64 x, .int .i64 y, .int .i64 q, .int .i64 n, .string s]) false).run Tryd.prog w = .ok (.bool (dupB l k c)) w := by
  subst hp hx hy hq hn hs
  obtain ⟨m, hm, ho⟩ := h
  obtain ⟨v, ps, hrun, hv⟩ := World.ownsMap.lookup ho factLaw Tryd.underlying66 (coBool w) (zd := .lit (.bool false)) (zp := []) (plainElem_bool Tryd.underlying4 false) (keyC_keyOf hc)
  obtain ⟨u, rfl, hu⟩ := co_bool_inv hv
  rw [mapD_at hok hc k hk] at hu
  have e : u = dupB l k c := by simp at hu; exact hu.1.symm
  rw [hrun, e]
/-- a constraint that was not said before is said -/
theorem Said.put {w : World} {b k m : Nat} {l : List Con} (hk : k < l.length) (hm : m ≤ k) (hd : dupB l k l[k] = false) (h : w.ownsMap Tryd.prog 68 (plainElem (H := Unit) Tryd.prog 4) b (m + 1) ((mapD l k).put (keyC l[k]) (.lit (.bool true)))) : Said w b l (k + 1) :=
  ⟨m + 1, by omega, by rw [mapD_succ hk, hd, if_neg (by simp)]; exact h⟩
theorem Said.same {w : World} {b k : Nat} {l : List Con} (h : Said w b l k) (hk : k < l.length) (hd : dupB l k l[k] = true) : Said w b l (k + 1) := by
  obtain ⟨m, hm, ho⟩ := h
  exact ⟨m, by omega, by rw [mapD_succ hk, hd, if_pos rfl]; exact ho⟩
end Go.Proofs.YtmamajillkajoaaDoor
