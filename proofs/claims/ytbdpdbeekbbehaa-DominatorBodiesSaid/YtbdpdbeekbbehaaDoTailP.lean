/- What is proved: the tails of back edges, as mathematics, and a map of them in memory. -/
import Derived.Test.YtbdpdbeekbbehaaDoDom2
import Derived.Maps.OwnRows
import Derived.Maps.Views
set_option linter.unusedVariables false
namespace Go.Proofs.Ytbdpdbeekbbehaa
open Go.RowKit Go.Shelf Go.Maps Go.ChangeShapes Go.WideElems

/-- the points from which back edges lead to h, among the first k -/
def tlL (E : Nat → List Nat) (dm : Nat → Nat → Bool) (k h : Nat) : List Nat := (List.range k).flatMap fun u => ((E u).filter (fun t => t == h && dm h u)).map fun _ => u
def tlP (E : Nat → List Nat) (dm : Nat → Nat → Bool) (k j h : Nat) : List Nat := tlL E dm k h ++ (((E k).take j).filter (fun t => t == h && dm h k)).map fun _ => k
section
variable {E : Nat → List Nat} {dm : Nat → Nat → Bool}
theorem tlL_mem {k h u : Nat} : u ∈ tlL E dm k h ↔ u < k ∧ h ∈ E u ∧ dm h u = true := by
  unfold tlL
  simp only [List.mem_flatMap, List.mem_range, List.mem_map, List.mem_filter, beq_iff_eq, Bool.and_eq_true]
  constructor
  · rintro ⟨v, h1, x, ⟨h2, rfl, h3⟩, rfl⟩
    exact ⟨h1, h2, h3⟩
  · rintro ⟨h1, h2, h3⟩
    exact ⟨u, h1, h, ⟨h2, rfl, h3⟩, rfl⟩
theorem tlP_zero (k : Nat) : tlP E dm k 0 = tlL E dm k := by
  funext v
  simp [tlP]
theorem tlP_all (k : Nat) : tlP E dm k (E k).length = tlL E dm (k + 1) := by
  funext v
  unfold tlP tlL
  rw [List.take_length, List.range_succ, List.flatMap_append]
  simp
theorem tlP_skip {k j x : Nat} (h : j < (E k).length) (hx : (E k)[j] = x) (hd : dm x k = false) : tlP E dm k (j + 1) = tlP E dm k j := by
  funext v
  unfold tlP
  rw [List.take_succ_eq_append_getElem h, List.filter_append, List.map_append, hx]
  by_cases e : v = x
  · subst e; simp [hd]
  · have : (x == v) = false := by simp; exact fun h => e h.symm
    simp [this]
theorem tlP_more {k j x : Nat} (h : j < (E k).length) (hx : (E k)[j] = x) (hd : dm x k = true) (v : Nat) : tlP E dm k (j + 1) v = if v = x then tlP E dm k j x ++ [k] else tlP E dm k j v := by
  unfold tlP
  rw [List.take_succ_eq_append_getElem h, List.filter_append, List.map_append, hx]
  by_cases e : v = x
  · subst e; simp [hd]
  · have : (x == v) = false := by simp; exact fun h => e h.symm
    simp [this, e]
theorem tlL_none {k : Nat} (h : ∀ x, dm x k = false) : tlL E dm (k + 1) = tlL E dm k := by
  funext v
  unfold tlL
  rw [List.range_succ, List.flatMap_append]
  simp [h]
theorem tlL_len {D : Nat} (hD : ∀ u, (E u).length ≤ D) (v : Nat) : ∀ k, (tlL E dm k v).length ≤ k * D
  | 0 => by simp [tlL]
  | k + 1 => by
    have ih := tlL_len hD v k
    have e : tlL E dm (k + 1) v = tlL E dm k v ++ ((E k).filter (fun t => t == v && dm v k)).map fun _ => k := by
      unfold tlL
      rw [List.range_succ, List.flatMap_append]
      simp
    rw [e, List.length_append, List.length_map]
    have h1 := List.length_filter_le (fun t => t == v && dm v k) (E k)
    have h2 := hD k
    rw [Nat.succ_mul]
    omega
end

/-- what a row of the map reads as -/
def rowD (l : List Nat) : DataW Unit := if l = [] then .nil else .slice (lits .i64 (zl l)) []
/-- a map of rows of numbers -/
def Grp (w : World) (b base n : Nat) (F : Nat → List Nat) : Prop := ∃ D : DataW Unit, w.ownsGroups Try.prog 3 base 3 .i64 b n D ∧ IsMap D ∧ ∀ h : Nat, D.atKey (.int .i64 (h : Int)) .nil = rowD (F h)
theorem mapLaw : Keyed Try.prog 3 := int_keyed Try.underlying3
theorem zeroSl (w : World) : (zeroValue 29).run Try.prog w = .ok (.slice none 0 0) w := by kernel_rfl
theorem keyInt {x : Nat} (h : x ≤ 1000000) : keyOf Try.prog 3 (.int .i64 (x : Int)) = some (.int .i64 (x : Int)) := keyOf_int_mk Try.underlying3 (WalkArith.wf_i64 (by omega))
theorem lits_inj {zs zs' : List Int} (h : lits (H := Unit) .i64 zs = lits .i64 zs') : zs = zs' := by
  unfold lits at h
  exact (List.map_inj_right (fun a b hab => by cases hab; rfl)).1 h
theorem rowD_inj {w : World} {base : Nat} {v : Value} {zs : List Int} {l : List Nat} (h : rowD l = rowDatum .i64 v zs) (ho : w.ownsInts base 3 .i64 v zs) : zs = zl l := by
  unfold rowD at h
  rcases ho.datum (H := Unit) with ⟨h1, h2⟩ | h1
  · subst h2
    rw [h1] at h
    split at h
    · rename_i e; rw [e]; rfl
    · cases h
  · rw [h1] at h
    split at h
    · cases h
    · simp only [DataW.slice.injEq] at h
      exact (lits_inj h.1).symm
/-- what lies at a key, and the way back -/
theorem Grp.at {w : World} {b base n : Nat} {F : Nat → List Nat} (h : Grp w b base n F) (hn : n ≤ 1000000) {x : Nat} (hx : x ≤ 1000000) :
    ∃ v, (Instr.lookup 64 (.map (some b)) (.int .i64 (x : Int)) false).run Try.prog w = .ok v w ∧ ZOwn w base v (zl (F x)) ∧ (F x).length ≤ n ∧
      (∀ (w1 : World) (v' : Value) (y : Nat), w.grownBy w1 v.ownBlock → y ≤ 1000000 → ZOwn w1 base v' (zl (F x ++ [y])) → (v'.ownBlock = v.ownBlock ∨ ∃ g, v'.ownBlock = some g ∧ w.heap.size ≤ g) →
        ∃ w2, (Instr.mapUpdate 64 (.map (some b)) (.int .i64 (x : Int)) v').run Try.prog w1 = .ok () w2 ∧ Grp w2 b base (n + 1) (fun u => if u = x then F x ++ [y] else F u) ∧ w1.grownBy w2 (some b)) := by
  obtain ⟨D, hg, hm, hD⟩ := h
  obtain ⟨v, zs, hrun, hat, hoi, hzl, hback⟩ := hg.at mapLaw Try.underlying64 (zeroSl w) (by unfold maxLen; omega) (keyInt hx)
  rw [hD x] at hat
  have hzs := rowD_inj hat hoi
  subst hzs
  refine ⟨v, hrun, hoi.1, by rw [zl_len] at hzl; exact hzl, fun w1 v' y hgr hy hown hloc => ?_⟩
  have hlen : (zl (F x ++ [y])).length = (zl (F x)).length + 1 := by rw [zl_len, zl_len]; simp
  have ho' : w1.ownsInts base 3 .i64 v' (zl (F x) ++ [(y : Int)]) := hoi.appended (by
    have h := hown
    unfold ZOwn at h
    rw [hlen, zl_append] at h
    simpa [zcells, zl] using h) (WalkArith.wf_i64 (by omega))
  obtain ⟨w2, h1, h2, h3⟩ := hback w1 v' _ hgr ho' (by simp; omega) hloc
  refine ⟨w2, h1, ⟨_, h2, hm.put _ _, fun u => ?_⟩, h3⟩
  by_cases e : u = x
  · subst e
    rw [atKey_put_same hm (mapLaw.key (keyInt hx))]
    show _ = rowD (if u = u then F u ++ [y] else F u)
    rw [if_pos rfl]
    rw [ho'.datum_pos (by simp)]
    unfold rowD
    rw [if_neg (by simp)]
    simp [zl]
  · rw [atKey_put_other (by simp; omega), hD u]
    show _ = rowD (if u = x then F x ++ [y] else F u)
    rw [if_neg e]
theorem Grp.made (w : World) (hs : w.heap.size = w.heap.size) : Grp (w.alloc (.map #[] 0)) w.heap.size (w.heap.size + 1) 0 (fun _ => []) :=
  ⟨.map [], World.ownsGroups_made _ _ _ _ _, isMap_empty, fun h => rfl⟩
end Go.Proofs.Ytbdpdbeekbbehaa
