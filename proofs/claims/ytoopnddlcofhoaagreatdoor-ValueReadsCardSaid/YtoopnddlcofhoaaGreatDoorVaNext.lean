/- What is proved: Next of value answers what the plain function says. -/
import Derived.Test.YtoopnddlcofhoaaGreatDoorVaRow
import Derived.Deep.Onto
set_option linter.unusedVariables false
namespace Go.Proofs.YtoopnddlcofhoaaGreatDoor
open Go.RowKit

/-- the last of the first k places where a list can grow -/
def gw (hi l : List Int) : Nat → Int
  | 0 => -1
  | k + 1 => if l.getD k 0 < hi.getD k 0 then (k : Int) else gw hi l k
/-- the first k elements are in their ranges -/
def inR (lo hi l : List Int) (k : Nat) : Prop := ∀ i, i < k → lo.getD i 0 ≤ l.getD i 0 ∧ l.getD i 0 ≤ hi.getD i 0
theorem inR_succ {lo hi l : List Int} {k : Nat} (h : inR lo hi l k) (h1 : lo.getD k 0 ≤ l.getD k 0) (h2 : l.getD k 0 ≤ hi.getD k 0) : inR lo hi l (k + 1) := fun i hi => by
  rcases Nat.lt_or_ge i k with h' | h'
  · exact h i h'
  · obtain rfl : i = k := by omega
    exact ⟨h1, h2⟩
theorem gw_range (hi l : List Int) : ∀ k : Nat, -1 ≤ gw hi l k ∧ gw hi l k < k := by
  intro k
  induction k with
  | zero => simp [gw]
  | succ k ih =>
    unfold gw
    split <;> omega
theorem gw_last (hi l : List Int) (g : Nat) : ∀ n : Nat, g < n → l.getD g 0 < hi.getD g 0 → (∀ j, g < j → j < n → ¬ l.getD j 0 < hi.getD j 0) → gw hi l n = g := by
  intro n
  induction n with
  | zero => intro h; omega
  | succ n ih =>
    intro h h1 h2
    unfold gw
    by_cases e : g = n
    · subst e
      rw [if_pos h1]
    · rw [if_neg (h2 n (by omega) (by omega))]
      exact ih (by omega) h1 (fun j a b => h2 j a (by omega))
theorem gw_none (hi l : List Int) : ∀ n : Nat, (∀ j, j < n → ¬ l.getD j 0 < hi.getD j 0) → gw hi l n = -1 := by
  intro n
  induction n with
  | zero => intro _; rfl
  | succ n ih =>
    intro h
    unfold gw
    rw [if_neg (h n (by omega))]
    exact ih (fun j a => h j (by omega))
theorem gw_lt (hi l : List Int) (g : Nat) : ∀ n : Nat, gw hi l n = g → l.getD g 0 < hi.getD g 0 := by
  intro n
  induction n with
  | zero => intro h; simp [gw] at h
  | succ n ih =>
    intro h
    unfold gw at h
    split at h
    · obtain rfl : n = g := by omega
      assumption
    · exact ih h
/-- a list whose place g grows -/
def bump (lo l : List Int) (g : Nat) : List Int := l.take g ++ (l.getD g 0 + 1) :: lo.drop (g + 1)
def nxtP (lo hi l : List Int) : Option (List Int) :=
  if lo.length = l.length ∧ hi.length = l.length ∧ (List.range l.length).all (fun i => decide (lo.getD i 0 ≤ l.getD i 0) && decide (l.getD i 0 ≤ hi.getD i 0)) = true ∧ 0 ≤ gw hi l l.length then some (bump lo l (gw hi l l.length).toNat) else none
theorem inR_all {lo hi l : List Int} {n : Nat} : (List.range n).all (fun i => decide (lo.getD i 0 ≤ l.getD i 0) && decide (l.getD i 0 ≤ hi.getD i 0)) = true ↔ inR lo hi l n := by
  rw [List.all_eq_true]
  constructor
  · intro h i hi
    have := h i (List.mem_range.2 hi)
    simpa using this
  · intro h i hi
    simpa using h i (List.mem_range.1 hi)
theorem nxt_some {lo hi l : List Int} {g : Nat} (h1 : lo.length = l.length) (h2 : hi.length = l.length) (h3 : inR lo hi l l.length) (h4 : gw hi l l.length = g) : nxtP lo hi l = some (bump lo l g) := by
  unfold nxtP
  rw [if_pos ⟨h1, h2, inR_all.2 h3, by omega⟩, h4]
  rfl
theorem nxt_end {lo hi l : List Int} (h4 : gw hi l l.length = -1) : nxtP lo hi l = none := by
  unfold nxtP
  rw [if_neg (fun h => by omega)]
theorem nxt_len {lo hi l : List Int} (h : lo.length ≠ l.length ∨ hi.length ≠ l.length) : nxtP lo hi l = none := by
  unfold nxtP
  rw [if_neg (fun h' => by omega)]
theorem nxt_out {lo hi l : List Int} {k : Nat} (hk : k < l.length) (h : l.getD k 0 < lo.getD k 0 ∨ hi.getD k 0 < l.getD k 0) : nxtP lo hi l = none := by
  unfold nxtP
  rw [if_neg (fun h' => by have := inR_all.1 h'.2.2.1 k hk; omega)]
theorem bump_length {lo l : List Int} {g : Nat} (h1 : lo.length = l.length) (hg : g < l.length) : (bump lo l g).length = l.length := by
  unfold bump
  rw [List.length_append, List.length_cons, List.length_take, List.length_drop]
  omega

theorem getD_of {l : List Int} {k : Nat} (h : k < l.length) : l.getD k 0 = l[k] := by
  rw [List.getD_eq_getElem?_getD, List.getElem?_eq_getElem h]
  rfl

theorem zcat2 (w6 W2 : World) (A1 A2 : Option Addr) (c1 c2 : Nat) (l1 l2 : List Int) (n1 n2 : Nat) (h1 : l1.length = n1) (h2 : l2.length = n2) (r1 : ZRow w6.heap.size w6 A1 l1) (r2 : ZRow w6.heap.size w6 A2 l2) (htot : n1 + n2 ≤ 1000000000) (hba : Below w6.heap.size w6 W2) (hnew : W2.heap[w6.heap.size]? = some (.cells #[.slice A1 n1 c1, .slice A2 n2 c2] 25 (0, 0))) (hz : W2.heap.size = w6.heap.size + 1) :
    Calls Tryz.prog 44 #[.slice (some ⟨w6.heap.size, 0, none⟩) 2 2] W2 fun e w' => ∃ v, e = .returned v ∧ w'.ownsRow (w6.heap.size + 1) 3 1 v (l1 ++ l2).length (zcells (l1 ++ l2)) ∧ Below w6.heap.size w6 w' := by
  subst h1
  subst h2
  have hfl : flat [⟨A1, c1, l1⟩, ⟨A2, c2, l2⟩] = l1 ++ l2 := by simp [flat]
  have hlen : (flat [⟨A1, c1, l1⟩, ⟨A2, c2, l2⟩]).length ≤ 1000000000 := by rw [hfl]; simp; omega
  have H := zconcat_any w6.heap.size [⟨A1, c1, l1⟩, ⟨A2, c2, l2⟩] W2 (by omega) (by simp)
    (fun k h => by
      rw [Lib.cell_of_heap hnew k]
      match k, h with
      | 0, _ => rfl
      | 1, _ => rfl)
    (fun k h => by
      rw [hz]
      match k, h with
      | 0, _ => exact (r1.below hba).mono (by omega)
      | 1, _ => exact (r2.below hba).mono (by omega)) hlen
  refine H.mono ?_
  rintro e w' ⟨v, rfl, hown, hb⟩
  rw [hfl, hz] at hown
  exact ⟨v, rfl, hown, hba.trans (hb.mono (by omega))⟩

theorem zadd_zero (a : Addr) : a.add 0 = a := by unfold Addr.add; simp
theorem zslice_to (A : Option Addr) (len c F : Nat) (h : F ≤ c) (hF : F ≤ 1000000000) (W : World) : (Instr.slice 25 (.slice A len c) none (some (.int .i64 (F : Int))) none).run Tryz.prog W = .ok (.slice A F c) W := by
  obtain ⟨i0, hi0, hz0, hz1, hz2⟩ := info_parts infoInt
  have e : (if c = 0 then A else Option.map (fun a => a.add 0) A) = A := by
    split
    · rfl
    · cases A <;> simp [zadd_zero]
  simp [Instr.slice, run_underlying Tryz.underlying25, Instr.sliceBounds, Instr.sliceBound, asIntOf, h, sizeOf, typeInfo, hi0, e]
/-- where the rest of a slice lies -/
def zrestA (A : Option Addr) (c T : Nat) : Option Addr := if c = T then A else A.map (·.add T)
theorem zslice_from (A : Option Addr) (len c T : Nat) (h : T ≤ len) (W : World) : (Instr.slice 25 (.slice A len c) (some (.int .i64 (T : Int))) none none).run Tryz.prog W = .ok (.slice (zrestA A c T) (len - T) (c - T)) W := by
  obtain ⟨i0, hi0, hz0, hz1, hz2⟩ := info_parts infoInt
  simp [Instr.slice, run_underlying Tryz.underlying25, Instr.sliceBounds, Instr.sliceBound, asIntOf, h, sizeOf, typeInfo, hi0, hz1, zrestA]
theorem z_take {n₀ : Nat} {w : World} {A : Option Addr} {l : List Int} (h : ZRow n₀ w A l) (F : Nat) : ZRow n₀ w A (l.take F) := fun h0 => by
  rw [List.length_take] at h0
  obtain ⟨b, off, hA, hlt, hc⟩ := h (by omega)
  exact ⟨b, off, hA, hlt, fun i hi => by rw [List.getElem_take]; exact hc i (by rw [List.length_take] at hi; omega)⟩
theorem z_drop {n₀ : Nat} {w : World} {A : Option Addr} {l : List Int} {c : Nat} (h : ZRow n₀ w A l) (T : Nat) (hc : l.length ≤ c) : ZRow n₀ w (zrestA A c T) (l.drop T) := fun h0 => by
  rw [List.length_drop] at h0
  obtain ⟨b, off, hA, hlt, hcs⟩ := h (by omega)
  refine ⟨b, off + T, ?_, hlt, fun i hi => ?_⟩
  · unfold zrestA
    rw [if_neg (by omega), hA]
    simp [Go.WideShapes.add_plain]
  · rw [List.getElem_drop, show off + T + i = off + (T + i) from by omega]
    exact hcs (T + i) (by rw [List.length_drop] at hi; omega)

/-- the list whose place is to grow, as the call owns it -/
theorem bump_own {w : World} {B m : Nat} {v : Value} {lo l : List Int} (hm : m < l.length) (h : w.ownsRow B 3 1 v (l.take (m + 1) ++ lo.drop (m + 1)).length (zcells (l.take (m + 1) ++ lo.drop (m + 1)))) :
    ∃ (c g n : Nat) (r : List Int), v = .slice (some ⟨g, 0, none⟩) n c ∧ m < n ∧ Hid (n = r.length) ∧ Hid (r = l.take (m + 1) ++ lo.drop (m + 1)) ∧ Hid (w.ownsRow B 3 1 (.slice (some ⟨g, 0, none⟩) n c) n (zcells r)) ∧ B ≤ g ∧ w.cell? ⟨g, m, none⟩ = some (.int .i64 (l.getD m 0)) ∧ w.frozen? ⟨g, m, none⟩ = false := by
  have hl : m < (l.take (m + 1) ++ lo.drop (m + 1)).length := by rw [List.length_append, List.length_take]; omega
  obtain ⟨A, c, rfl, hc, h1⟩ := z_own h
  obtain ⟨g, rfl, hv, hB, _, hcs⟩ := h1 (by omega)
  refine ⟨c, g, _, _, rfl, hl, Lib.hid rfl, Lib.hid rfl, Lib.hid h, hB, ?_, h.frozenAt m⟩
  rw [hcs m hl, getD_of hm, List.getElem_append_left (by rw [List.length_take]; omega), List.getElem_take]
/-- it has grown -/
theorem bump_done {w : World} {B m c g n : Nat} {lo l r : List Int} (hm : m < l.length) (hn : n = r.length) (hr : r = l.take (m + 1) ++ lo.drop (m + 1)) (h : w.ownsRow B 3 1 (.slice (some ⟨g, 0, none⟩) n c) n (zcells r)) :
    n = (bump lo l m).length ∧ (w.setCell ⟨g, m, none⟩ (.int .i64 (l.getD m 0 + 1))).ownsRow B 3 1 (.slice (some ⟨g, 0, none⟩) n c) n (zcells (bump lo l m)) := by
  have h2 := (h.stored m (.int .i64 (l.getD m 0 + 1))).1
  have e : bump lo l m = r.set m (l.getD m 0 + 1) := by
    rw [hr]
    unfold bump
    rw [List.take_succ_eq_append_getElem hm, List.append_assoc, List.set_append_right _ _ (by rw [List.length_take]; omega), List.length_take, show m - min m l.length = 0 by omega]
    rfl
  have e2 : (zcells r).set m (.int .i64 (l.getD m 0 + 1)) = zcells (bump lo l m) := by
    rw [e]
    unfold zcells
    rw [List.map_set]
  rw [e2] at h2
  exact ⟨by rw [hn, e, List.length_set], h2⟩
end Go.Proofs.YtoopnddlcofhoaaGreatDoor
set_option linter.unusedVariables false
namespace Go.Proofs.YtoopnddlcofhoaaGreatDoor
open Go.RowKit

/-- what Next gives: the list in new memory, or none -/
def NxtRes (r : Option (List Int)) (w : World) : Ending → World → Prop := fun e w' => ∃ v, e = .returned (.tuple #[v, .bool r.isSome]) ∧ w'.ownsRow w.heap.size 3 1 v (r.getD []).length (zcells (r.getD [])) ∧ Below w.heap.size w w'
theorem NxtRes.none_ {r : Option (List Int)} {w w' : World} (h : r = none) (hb : Below w.heap.size w w') : NxtRes r w (.returned (.tuple #[.slice none 0 0, .bool false])) w' := by
  subst h
  exact ⟨_, rfl, World.ownsRow_nil _ _ _ _, hb⟩
theorem NxtRes.some_ {r : Option (List Int)} {x : List Int} {v : Value} {w w' : World} (h : r = some x) (ho : w'.ownsRow w.heap.size 3 1 v x.length (zcells x)) (hb : Below w.heap.size w w') : NxtRes r w (.returned (.tuple #[v, .bool true])) w' := by
  subst h
  exact ⟨_, rfl, ho, hb⟩

set_option maxRecDepth 100000 in
set_option maxHeartbeats 4000000 in
theorem next_any (A B C : Option Addr) (ca cb cc : Nat) (lo hi l : List Int) (w : World) (ha : ZRow w.heap.size w A lo) (hb : ZRow w.heap.size w B hi) (hc : ZRow w.heap.size w C l) (hca : lo.length ≤ ca) (hcc : l.length ≤ cc) (hl : lo.length ≤ 1000000) (hl2 : hi.length ≤ 1000000) (hl3 : l.length ≤ 1000000) (hwf : ∀ i, -9223372036854775808 ≤ l.getD i 0 ∧ hi.getD i 0 ≤ 9223372036854775807) :
    Calls Tryz.prog 22 #[.slice A lo.length ca, .slice B hi.length cb, .slice C l.length cc] w (NxtRes (nxtP lo hi l) w) := by
  have HA := Lib.hid ha
  have HB := Lib.hid hb
  have HC := Lib.hid hc
  have HWF := Lib.hid hwf
  clear ha hb hc hwf
  by_cases hlen : ¬ (lo.length = l.length ∧ hi.length = l.length)
  · have HN := Lib.hid (nxt_len (lo := lo) (hi := hi) (l := l) (by omega))
    by_cases h1 : lo.length = l.length
    · have h2 : ((hi.length : Int) != (l.length : Int)) = true := by simp; omega
      have h3 : ((lo.length : Int) != (l.length : Int)) = false := by simp; omega
      have H1 := Lib.hid h1
      clear h1 hlen
      go_enter Tryz.func22, Tryz.ntmps22
      go_wp2_with (fail)
      go_ret2
      exact NxtRes.none_ HN.out (Below.refl _ _)
    · have h3 : ((lo.length : Int) != (l.length : Int)) = true := by simp; omega
      clear h1 hlen
      go_enter Tryz.func22, Tryz.ntmps22
      go_wp2_with (fail)
      go_ret2
      exact NxtRes.none_ HN.out (Below.refl _ _)
  obtain ⟨h1, h2⟩ := Classical.not_not.1 hlen
  have h3 : ((lo.length : Int) != (l.length : Int)) = false := by simp; omega
  have h4 : ((hi.length : Int) != (l.length : Int)) = false := by simp; omega
  have HL1 := Lib.hid h1
  have HL2 := Lib.hid h2
  clear h1 h2 hlen
  go_enter Tryz.func22, Tryz.ntmps22
  go_wp2_with (fail)
  clear h3 h4
  go_loop [8, 26] (fun v i => ∃ (k : Nat) (g : Int), k ≤ l.length ∧ i = .int .i64 (k : Int) ∧ v = .int .i64 g ∧ Hid (inR lo hi l k) ∧ Hid (gw hi l k = g)) (fun _ i => l.length - (intOf i).toNat)
  case atStart => exact ⟨0, -1, Nat.zero_le _, rfl, rfl, Lib.hid (fun i h => absurd h (by omega)), Lib.hid rfl⟩
  case round =>
    obtain ⟨k, g, hk, rfl, rfl, hin, hg⟩ := hrel
    by_cases hlt : k < l.length
    · have hk1 : k < lo.length := by have := HL1.out; omega
      have hk2 : k < hi.length := by have := HL2.out; omega
      obtain ⟨b1, o1, hA, _, hc1⟩ := HA.out (by omega)
      obtain ⟨b2, o2, hB, _, hc2⟩ := HB.out (by omega)
      obtain ⟨b3, o3, hC, _, hc3⟩ := HC.out (by omega)
      have c1 := hc1 k hk1
      have c2 := hc2 k hk2
      have c3 := hc3 k hlt
      have HX := Lib.hid (getD_of hlt)
      have HXL := Lib.hid (getD_of hk1)
      have HXH := Lib.hid (getD_of hk2)
      rw [hA, hB, hC]
      clear hc1 hc2 hc3
      obtain ⟨x, hx⟩ : ∃ x, l[k] = x := ⟨_, rfl⟩
      obtain ⟨y, hy⟩ : ∃ y, lo[k] = y := ⟨_, rfl⟩
      obtain ⟨z, hz⟩ : ∃ z, hi[k] = z := ⟨_, rfl⟩
      rw [hx] at c3 HX
      rw [hy] at c1 HXL
      rw [hz] at c2 HXH
      clear hx hy hz
      have HGS := Lib.hid (show gw hi l (k + 1) = if x < z then (k : Int) else g by unfold gw; rw [HX.out, HXH.out, hg.out])
      by_cases q1 : x < y
      · have HN := Lib.hid (nxt_out (lo := lo) (hi := hi) hlt (by rw [HX.out, HXL.out]; exact .inl q1))
        have q1' : decide (x < y) = true := by simpa using q1
        go_wp2_with (fail)
        go_ret2
        exact NxtRes.none_ HN.out (Below.refl _ _)
      · have q1' : decide (x < y) = false := by simpa using q1
        by_cases q2 : z < x
        · have HN := Lib.hid (nxt_out (lo := lo) (hi := hi) hlt (by rw [HX.out, HXH.out]; exact .inr q2))
          have q2' : decide (z < x) = true := by simpa using q2
          go_wp2_with (fail)
          go_ret2
          exact NxtRes.none_ HN.out (Below.refl _ _)
        · have q2' : decide (z < x) = false := by simpa using q2
          have HIN := Lib.hid (inR_succ hin.out (by rw [HX.out, HXL.out]; omega) (by rw [HX.out, HXH.out]; omega))
          by_cases q3 : x < z
          · have HG := Lib.hid (HGS.out.trans (if_pos q3))
            go_wp2_with (fail)
            exact ⟨⟨k + 1, (k : Int), by omega, by go_num, rfl, HIN, HG⟩, by simp [intOf]; omega⟩
          · have HG := Lib.hid (HGS.out.trans (if_neg q3))
            go_wp2_with (fail)
            exact ⟨⟨k + 1, g, by omega, by go_num, rfl, HIN, HG⟩, by simp [intOf]; omega⟩
    · obtain rfl : k = l.length := by omega
      by_cases hg0 : g < 0
      · have HN := Lib.hid (nxt_end (lo := lo) (hi := hi) (l := l) (by have := gw_range hi l l.length; have := hg.out; omega))
        go_wp2_with (fail)
        go_ret2
        exact NxtRes.none_ HN.out (Below.refl _ _)
      · obtain ⟨m, rfl⟩ : ∃ m : Nat, g = m := ⟨g.toNat, by omega⟩
        have HN := Lib.hid (nxt_some HL1.out HL2.out hin.out hg.out)
        have hml : m < l.length := by have := gw_range hi l l.length; have := hg.out; omega
        have HML := Lib.hid hml
        have hs1 : ∀ W : World, (Instr.slice 25 (.slice C l.length cc) none (some (.int .i64 ((m : Int) + 1))) none).run Tryz.prog W = .ok (.slice C (m + 1) cc) W := fun W => zslice_to C l.length cc (m + 1) (by omega) (by omega) W
        have hs2 : ∀ W : World, (Instr.slice 25 (.slice A lo.length ca) (some (.int .i64 ((m : Int) + 1))) none none).run Tryz.prog W = .ok (.slice (zrestA A ca (m + 1)) (lo.length - (m + 1)) (ca - (m + 1))) W := fun W => zslice_from A lo.length ca (m + 1) (by have := HL1.out; omega) W
        have HCAT := Lib.hid (zcat2 w (w.alloc (.cells #[.slice C (m + 1) cc, .slice (zrestA A ca (m + 1)) (lo.length - (m + 1)) (ca - (m + 1))] 25)).drew C (zrestA A ca (m + 1)) cc (ca - (m + 1)) (l.take (m + 1)) (lo.drop (m + 1)) (m + 1) (lo.length - (m + 1)) (by rw [List.length_take]; omega) (by rw [List.length_drop]) (z_take HC.out (m + 1)) (z_drop HA.out (m + 1) hca) (by omega) ((Below.refl w.heap.size w).alloc (Nat.le_refl _) _).drew (heap_alloc_new w _) (by simp))
        have hy1 : IntKind.i64.wrap (l.getD m 0 + 1) = l.getD m 0 + 1 := by
          have h1 := gw_lt hi l m l.length hg.out
          have h2 := HWF.out m
          simp [IntKind.wrap, IntKind.bits, IntKind.signed]
          simp at h1 h2
          omega
        obtain ⟨y, HY⟩ : ∃ y, Hid (l.getD m 0 = y) := ⟨_, Lib.hid rfl⟩
        rw [HY.out] at hy1
        have hm1 : IntKind.i64.wrap ((m : Int) + 1) = (m : Int) + 1 := by simp [IntKind.wrap, IntKind.bits, IntKind.signed]; omega
        clear hlt hk hg0
        go_wp2_with (fail)
        go_region_law (go_simp; go_at_call 44; refine HCAT.out.mono ?_; rintro e w2 ⟨v, rfl, hown, hb2⟩; obtain ⟨c2, g2, n2, r2, rfl, hmn, HN2, HR2, HO, hgb, hx, hfz⟩ := bump_own hml hown; have HB2 := Lib.hid hb2; have HGB := Lib.hid hgb; clear hown hb2 hgb)
        rw [HY.out] at hx
        go_simp
        go_wp2_with (fail)
        go_ret2
        have hd := bump_done HML.out HN2.out HR2.out HO.out
        rw [HY.out] at hd
        have hs := HB2.out.setCell (p := ⟨g2, m, none⟩) (by have := HGB.out; show w.heap.size ≤ g2; omega) (.int .i64 (y + 1))
        refine NxtRes.some_ (v := .slice (some ⟨g2, 0, none⟩) n2 c2) HN.out ?_ hs
        rw [← hd.1]
        exact World.ownsRow.mono hd.2 (by omega)
end Go.Proofs.YtoopnddlcofhoaaGreatDoor
