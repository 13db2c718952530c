/- What is proved: slices of numbers; slices.Grow of nil and slices.Concat of slices of numbers; Ints of the reference. -/
import Derived.Test.YtoopnddlcofhoaaGreatDoorTyScal
import Derived.IntWalk
import Derived.Deep.Draws
set_option linter.unusedVariables false
namespace Go.Proofs.YtoopnddlcofhoaaGreatDoor
open Go.RowKit

theorem infoInt : (Tryz.prog.info? 3).map (fun i => (i.zero, i.size, i.bytes)) = some (some (.int .i64 0), 1, 8) := by kernel_rfl
/-- a slice's address, nil or not, below block n₀, where these numbers lie -/
def ZRow (n₀ : Nat) (w : World) (A : Option Addr) (l : List Int) : Prop :=
  0 < l.length → ∃ b off, A = some ⟨b, off, none⟩ ∧ b < n₀ ∧ ∀ (i : Nat) (h : i < l.length), w.cell? ⟨b, off + i, none⟩ = some (.int .i64 l[i])
theorem ZRow.below {n₀ : Nat} {w w' : World} {A : Option Addr} {l : List Int} (h : ZRow n₀ w A l) (hb : Below n₀ w w') : ZRow n₀ w' A l := fun h0 => by
  obtain ⟨b, off, hA, hlt, hc⟩ := h h0
  exact ⟨b, off, hA, hlt, fun i hi => (hb.cell (p := ⟨b, off + i, none⟩) hlt).trans (hc i hi)⟩
theorem ZRow.mono {n₀ n₁ : Nat} {w : World} {A : Option Addr} {l : List Int} (h : ZRow n₀ w A l) (hn : n₀ ≤ n₁) : ZRow n₁ w A l := fun h0 => by
  obtain ⟨b, off, hA, hlt, hc⟩ := h h0
  exact ⟨b, off, hA, by omega, hc⟩
theorem ZRow.later {w w' : World} {A : Option Addr} {l : List Int} (h : ZRow w.heap.size w A l) (hb : Below w.heap.size w w') : ZRow w'.heap.size w' A l := (h.below hb).mono hb.size
/-- their cells -/
def zcells (l : List Int) : List Value := l.map (fun x => Value.int .i64 x)
theorem zcells_len (l : List Int) : (zcells l).length = l.length := by simp [zcells]
theorem zcells_append (l m : List Int) : zcells (l ++ m) = zcells l ++ zcells m := by simp [zcells]
theorem zcells_one (l : List Int) : ∀ u ∈ zcells l, u.oneCell' = true := by
  intro u hu
  obtain ⟨x, _, rfl⟩ := List.mem_map.1 hu
  rfl
theorem zcells_get (l : List Int) (k : Nat) (h : k < l.length) : (zcells l)[k]? = some (.int .i64 l[k]) := by
  unfold zcells
  rw [List.getElem?_map, List.getElem?_eq_getElem h]
  rfl
/-- a row that the call owns, read -/
theorem z_own {w : World} {B : Nat} {v : Value} {l : List Int} (h : w.ownsRow B 3 1 v l.length (zcells l)) : ∃ A c, v = .slice A l.length c ∧ l.length ≤ c ∧ (0 < l.length → ∃ b, A = some ⟨b, 0, none⟩ ∧ v.ownBlock = some b ∧ B ≤ b ∧ b < w.heap.size ∧ ∀ (i : Nat) (h : i < l.length), w.cell? ⟨b, i, none⟩ = some (.int .i64 l[i])) := by
  rcases Nat.eq_zero_or_pos l.length with h0 | h0
  · rcases h.2 with ⟨rfl, _⟩ | ⟨g, cap, cur, rfl, _, _, hn, _⟩
    · exact ⟨none, 0, by rw [h0], by omega, fun hh => by omega⟩
    · exact ⟨_, _, rfl, hn, fun hh => by omega⟩
  · rcases h.2 with ⟨_, h1⟩ | ⟨g, cap, cur, hv, hB, hg, hn, _⟩
    · omega
    · have hb : v.ownBlock = some g := by rw [hv]; rfl
      refine ⟨some ⟨g, 0, none⟩, cap, hv, hn, fun _ => ⟨g, rfl, hb, (h.lt g hb).1, (h.lt g hb).2, fun i hi => ?_⟩⟩
      have a := h.cells hb _ _ (zcells_get l i hi)
      rw [Go.WideShapes.add_plain] at a
      simpa using a
theorem z_row {w : World} {B : Nat} {v : Value} {l : List Int} (h : w.ownsRow B 3 1 v l.length (zcells l)) : ∃ A c, v = .slice A l.length c ∧ l.length ≤ c ∧ ZRow w.heap.size w A l := by
  obtain ⟨A, c, hv, hc, h1⟩ := z_own h
  refine ⟨A, c, hv, hc, fun h0 => ?_⟩
  obtain ⟨b, hA, _, _, hb, hcs⟩ := h1 h0
  exact ⟨b, 0, hA, hb, fun i hi => by rw [Nat.zero_add]; exact hcs i hi⟩

section
variable {P : Program} (w : World)
theorem run_append_made (t u ty e : TypeId) (i : TypeInfo) (z : Value) (ht : P.underlying t = some (.slice e)) (hu : P.underlying u = some (.int .i64)) (hi : P.info? e = some i) (hz : i.zero = some z)
    (m : Nat) (h0 : 0 < m) (hzs : z.cells.size = i.size) (hsz : 0 < i.size) (h63 : (m : Int) ≤ 140737488355328) (h48 : m * i.bytes ≤ 281474976710656) :
    (Builtin.append_ #[t, u] ty #[.slice none 0 0, .int .i64 (m : Int)]).run P w =
      .ok (.slice (some ⟨w.heap.size, 0, none⟩) m (grownCap w m 0 e))
        (w.drew.alloc (.cells (Builtin.zeroCells z.cells m ++ Builtin.zeroCells z.cells (grownCap w m 0 e - m)) e)) := by
  have hn : m ≠ 0 := by omega
  have hneg : ¬ ((m : Int) < 0) := by omega
  have hw : IntKind.i64.wrap (m : Int) = (m : Int) := IntWalk.i64_in _ (by omega)
  have h63' : ¬ (9223372036854775807 < (m : Int)) := by omega
  have hb : ((m * i.bytes : Nat) : Int) ≤ 281474976710656 := by omega
  rw [Int.natCast_mul] at hb
  have h48a : ¬ (281474976710656 < (m : Int) * (i.bytes : Int)) := by omega
  have h48' : ¬ (281474976710656 < Builtin.nextslicecap m 0 * i.bytes) := by rw [nextslicecap_zero h0]; omega
  simp [Builtin.append_, run_underlying ht, run_underlying hu, sizeOf, typeInfo, zeroValue, hi, hz, asInt, asIntOf, hw, hneg, hn, h63', h48', h48a, Builtin.firstCells, Question.forced, newRow, grownCap]
  intro h
  exfalso
  rcases Nat.mul_eq_zero.1 h with h | h <;> omega
theorem run_append_none0 (t ty e : TypeId) (i : TypeInfo) (ht : P.underlying t = some (.slice e)) (hi : P.info? e = some i) (b : Option Addr) (n cap c : Nat) (hn : n ≤ cap) :
    (Builtin.append_ #[t, t] ty #[.slice b n cap, .slice none 0 c]).run P w = .ok (.slice b n cap) w := by
  cases b with
  | none => simp [Builtin.append_, run_underlying ht, sizeOf, typeInfo, hi, Builtin.lenOf, Builtin.firstCells, hn]
  | some a => simp [Builtin.append_, run_underlying ht, sizeOf, typeInfo, hi, Builtin.lenOf, Builtin.firstCells, hn, storeCells]
/-- append, by what its run is -/
theorem wpList_append_by0 {ops : Array Oper} {rest : List Oper} {o : Oper} {a : Act} {Q : Exit → Act → World → Prop} (hgd : o.guard = none) (s x : Operand) (t u : TypeId)
    (ho : o.op = .call { callee := .builtin .append, args := #[s, x], argTypes := #[t, u] }) (sv xv : Value) (hs : a.eval s = sv) (hx : a.eval x = xv) (v : Value) (w' : World)
    (hr : (Builtin.append_ #[t, u] o.type #[sv, xv]).run P w = .ok v w') (h : wpList P ops Q rest (a.put o.dst v) w') : wpList P ops Q (o :: rest) a w :=
  wpList_plain hgd fun _ hK => by
    unfold Oper.wp execOp
    simp only [ho, resolve, invoke, builtin, Sem.run_bind, Sem.run_pure, Result.andThen_ok, List.map_toArray, List.map_cons, List.map_nil, hs, hx, hr]
    exact hK _ _ h
end

set_option maxHeartbeats 1000000 in
theorem zgrow_any (m : Nat) (w : World) (hm : m ≤ 1000000000) :
    Calls Tryz.prog 69 #[.slice none 0 0, .int .i64 (m : Int)] w fun e w' => ∃ v, e = .returned v ∧ w'.ownsRow w.heap.size 3 1 v 0 [] ∧ Below w.heap.size w w' := by
  obtain ⟨i0, hi0, hz0, hz1, hz2⟩ := info_parts infoInt
  rcases Nat.eq_zero_or_pos m with h0 | h0
  · subst h0
    go_enter Tryz.func69, Tryz.ntmps69
    go_wp2_with (fail)
    go_ret
    exact ⟨_, rfl, World.ownsRow_nil _ _ _ _, Below.refl _ _⟩
  · have HAP := Lib.hid (fun W : World => run_append_made (P := Tryz.prog) W 25 3 25 3 i0 _ Tryz.underlying25 Tryz.underlying3 hi0 hz0 m h0 (by rw [hz1]; rfl) (by omega) (by omega) (by rw [hz2]; omega))
    clear hi0 hz0 hz1 hz2
    go_enter Tryz.func69, Tryz.ntmps69
    go_wp2_with (at_builtin; refine wpList_append_by0 _ rfl _ _ 25 3 rfl _ _ rfl rfl _ _ (HAP.out _) ?_)
    go_ret
    refine ⟨_, rfl, World.ownsRow_made w _ _ (Nat.le_refl _) (grownCap_le_maxLen w m 0 _ (by unfold maxLen; omega)) ?_, ((Below.refl w.heap.size w).alloc (Nat.le_refl _) _).drew⟩
    have h1 := grownCap_ge w m 0 3
    simp only [Array.size_append, size_zeroCells, List.size_toArray, List.length_cons, List.length_nil]
    omega

theorem zrow_news {w : World} {b off : Nat} {l : List Int} (h : ∀ (i : Nat) (hi : i < l.length), w.cell? ⟨b, off + i, none⟩ = some (.int .i64 l[i])) : ∀ j u, (zcells l)[j]? = some u → w.cell? ((⟨b, off, none⟩ : Addr).add j) = some u := by
  intro j u hj
  have hjl : j < l.length := by rw [← zcells_len]; exact (List.getElem?_eq_some_iff.1 hj).1
  rw [zcells_get l j hjl] at hj
  rw [Go.WideShapes.add_plain, h j hjl, hj]
theorem own_formZ {w : World} {B E sz n : Nat} {v : Value} {xs : List Value} (h : w.ownsRow B E sz v n xs) : ∃ (A : Option Addr) (m c : Nat), v = .slice A m c ∧ m ≤ c := by
  rcases h.2 with ⟨h1, _⟩ | ⟨g, cap, cur, h1, _, _, h2, _⟩
  · exact ⟨none, 0, 0, h1, Nat.le_refl _⟩
  · exact ⟨_, _, cap, h1, h2⟩
/-- a slice of numbers -/
structure Sl where
  A : Option Addr
  c : Nat
  l : List Int
def flat : List Sl → List Int
  | [] => []
  | s :: r => s.l ++ flat r
theorem flat_append (a b : List Sl) : flat (a ++ b) = flat a ++ flat b := by
  induction a with
  | nil => rfl
  | cons x xs ih => simp [flat, ih]
theorem flat_get {L : List Sl} {k : Nat} (h : k < L.length) : flat (L.take (k + 1)) = flat (L.take k) ++ L[k].l := by
  rw [List.take_succ_eq_append_getElem h, flat_append]; simp [flat]
theorem flat_take_le (L : List Sl) (k : Nat) : (flat (L.take k)).length ≤ (flat L).length := by
  have h := flat_append (L.take k) (L.drop k)
  rw [List.take_append_drop] at h
  rw [h, List.length_append]; omega

set_option maxHeartbeats 2000000 in
set_option maxRecDepth 100000 in
theorem zconcat_any (B : Nat) (L : List Sl) (w : World) (hB : B < w.heap.size) (hL : L.length ≤ 1000) (hcell : ∀ (k : Nat) (h : k < L.length), w.cell? ⟨B, k, none⟩ = some (.slice L[k].A L[k].l.length L[k].c)) (hrow : ∀ (k : Nat) (h : k < L.length), ZRow w.heap.size w L[k].A L[k].l) (htot : (flat L).length ≤ 1000000000) :
    Calls Tryz.prog 44 #[.slice (some ⟨B, 0, none⟩) L.length L.length] w fun e w' => ∃ v, e = .returned v ∧ w'.ownsRow w.heap.size 3 1 v (flat L).length (zcells (flat L)) ∧ Below w.heap.size w w' := by
  obtain ⟨i0, hi0, hz0, hz1, hz2⟩ := info_parts infoInt
  have HCE := Lib.hid hcell
  have HRW := Lib.hid hrow
  clear hcell hrow
  go_enter Tryz.func44, Tryz.ntmps44
  go_wp2_with (fail)
  go_loop [3, 11] (fun x i => ∃ k : Nat, k ≤ L.length ∧ i = .int .i64 (k : Int) ∧ x = .int .i64 ((flat (L.take k)).length : Int)) (fun _ i => L.length - (intOf i).toNat)
  case atStart => exact ⟨0, Nat.zero_le _, rfl, rfl⟩
  case round =>
    obtain ⟨k, hk, rfl, rfl⟩ := hrel
    have hle := flat_take_le L k
    by_cases hlt : k < L.length
    · have ck := HCE.out k hlt
      have HG := Lib.hid (flat_get hlt)
      have hle2 := flat_take_le L (k + 1)
      have hg2 := congrArg List.length (flat_get hlt)
      rw [List.length_append] at hg2
      generalize L[k] = s at *
      go_wp2_with (fail)
      exact ⟨⟨k + 1, by omega, by go_num, by rw [hg2]; go_num⟩, by simp [intOf]; omega⟩
    · have e : L.take k = L := List.take_of_length_le (by omega)
      rw [e]
      clear e hle
      go_wp2_with (fail)
      refine (zgrow_any (flat L).length w htot).mono ?_
      rintro e w2 ⟨v, rfl, hown, hb2⟩
      have HB2 := Lib.hid hb2
      have HO2 := Lib.hid hown
      obtain ⟨A0, n0, cc0, rfl, hnc0⟩ := own_formZ hown
      clear hown hb2
      go_wp2_with (fail)
      go_loopw [6, 27] (fun v i wq => ∃ (k : Nat) (A' : Option Addr) (n' c' : Nat), k ≤ L.length ∧ i = .int .i64 (k : Int) ∧ v = .slice A' n' c' ∧ n' ≤ c' ∧ Hid (wq.ownsRow w.heap.size 3 1 (.slice A' n' c') (flat (L.take k)).length (zcells (flat (L.take k)))) ∧ Hid (Below w.heap.size w wq)) (fun _ i _ => L.length - (intOf i).toNat)
      case atStart => exact ⟨0, A0, n0, cc0, Nat.zero_le _, rfl, rfl, hnc0, HO2, HB2⟩
      case round =>
        obtain ⟨k, A', n', c', hk, rfl, rfl, hn', hown, hbq⟩ := hrel
        have hle := flat_take_le L k
        have hzq := hbq.out.size
        by_cases hlt : k < L.length
        · have ck := (hbq.out.cell (p := ⟨B, k, none⟩) hB).trans (HCE.out k hlt)
          have HG := Lib.hid (flat_get hlt)
          have hle2 := flat_take_le L (k + 1)
          have hg2 := congrArg List.length (flat_get hlt)
          rw [List.length_append] at hg2
          have HRK := Lib.hid ((HRW.out k hlt).below hbq.out)
          generalize L[k] = s at *
          cases hA : s.A with
          | none =>
            have hl0 : s.l = [] := by
              rcases Nat.eq_zero_or_pos s.l.length with h0 | h0
              · exact List.eq_nil_of_length_eq_zero h0
              · obtain ⟨b, off, h1, _⟩ := HRK.out h0
                rw [hA] at h1; cases h1
            rw [hA, hl0] at ck
            have HG2 := Lib.hid (show flat (L.take (k + 1)) = flat (L.take k) by rw [HG.out, hl0, List.append_nil])
            clear hA hl0
            go_wp2_with (at_builtin; refine wpList_append_by0 _ rfl _ _ 25 25 rfl _ _ rfl rfl _ _ (run_append_none0 _ _ _ 3 i0 Tryz.underlying25 hi0 _ _ _ _ hn') ?_)
            exact ⟨⟨k + 1, A', n', c', by omega, by go_num, rfl, hn', by rw [HG2.out]; exact hown, hbq⟩, by simp [intOf]; omega⟩
          | some ad =>
            rw [hA] at ck
            have HCS := Lib.hid (show ∀ j u, (zcells s.l)[j]? = some u → wr.cell? (ad.add j) = some u from fun j u hj => by
              have h0 : 0 < s.l.length := by
                cases hs : s.l with
                | nil => rw [hs] at hj; simp [zcells] at hj
                | cons x xs => simp
              obtain ⟨b, off, h1, _, h2⟩ := HRK.out h0
              rw [hA] at h1
              cases h1
              exact zrow_news h2 j u hj)
            clear hA
            go_wp2_with (at_builtin; refine wpList_append_own _ rfl _ _ 25 rfl w.heap.size 3 i0 _ 1 8 Tryz.underlying25 hi0 hz0 hz1 hz2 rfl (by decide) _ _ _ rfl hown.out ad s.l.length s.c (zcells s.l) rfl (by rw [zcells_len, Nat.mul_one]) ?c1 ?c2 ?c3 ?c4 ?c5 ?_)
            case c1 => exact HCS.out
            case c2 => exact zcells_one _
            case c3 => unfold maxLen; omega
            case c4 => omega
            case c5 => omega
            intro v' w3 hown' hgrow _
            have B3 := Lib.hid (hbq.out.grown hgrow (by omega) (fun j ej => (hown.out.lt j ej).1))
            have O3 : Hid (w3.ownsRow w.heap.size 3 1 v' (flat (L.take (k + 1))).length (zcells (flat (L.take (k + 1))))) := by
              rw [HG.out, zcells_append, List.length_append]
              exact hown'
            obtain ⟨A3, n3, c3, rfl, hn3⟩ := own_formZ hown'
            clear hown' hgrow
            go_wp2_with (fail)
            exact ⟨⟨k + 1, A3, n3, c3, by omega, by go_num, rfl, hn3, O3, B3⟩, by simp [intOf]; omega⟩
        · have e : L.take k = L := List.take_of_length_le (by omega)
          rw [e] at hown
          clear e
          go_wp2_with (fail)
          go_ret
          exact ⟨_, rfl, hown.out, hbq.out⟩

set_option maxHeartbeats 1000000 in
theorem zEq_any (A B : Option Addr) (c d : Nat) (l m : List Int) (w : World) (ha : ZRow w.heap.size w A l) (hb : ZRow w.heap.size w B m) (hl : l.length ≤ 1000000000) (hm : m.length ≤ 1000000000) :
    Calls Tryz.prog 13 #[.slice A l.length c, .slice B m.length d] w fun e w' => e = .returned (.bool (decide (l = m))) ∧ ∃ n, w' = w.drewN n := by
  have H1 := Lib.hid ha
  have H2 := Lib.hid hb
  clear ha hb
  go_enter Tryz.func13, Tryz.ntmps13
  by_cases hlm : l.length = m.length
  · have hne : ((l.length : Int) != (m.length : Int)) = false := by simp; omega
    have HLM := Lib.hid hlm
    clear hlm
    go_wp2_with (fail)
    go_loopw [5] (fun i wr => ∃ k n : Nat, k ≤ l.length ∧ i = .int .i64 (k : Int) ∧ Hid (l.take k = m.take k) ∧ wr = w.drewN n) (fun i _ => l.length - (intOf i).toNat)
    case atStart => exact ⟨0, 0, Nat.zero_le _, rfl, Lib.hid (by simp), rfl⟩
    case round =>
      obtain ⟨k, n, hk, rfl, heq, rfl⟩ := hrel
      by_cases hlt : k < l.length
      · have hlt2 : k < m.length := by have := HLM.out; omega
        obtain ⟨b1, o1, rfl, _, hc1⟩ := H1.out (by omega)
        obtain ⟨b2, o2, rfl, _, hc2⟩ := H2.out (by omega)
        have c1 := hc1 k hlt
        have c2 := hc2 k hlt2
        have HT1 := Lib.hid (show l.take (k + 1) = l.take k ++ [l[k]] from List.take_succ_eq_append_getElem hlt)
        have HT2 := Lib.hid (show m.take (k + 1) = m.take k ++ [m[k]] from List.take_succ_eq_append_getElem hlt2)
        have HNE := Lib.hid (show l[k] ≠ m[k] → decide (l = m) = false from fun h => by
          have : l ≠ m := fun e => by subst e; exact h rfl
          simpa using this)
        clear hc1 hc2
        generalize l[k] = x at *
        generalize m[k] = y at *
        by_cases hxy : x = y
        · have c3 : (x != y) = false := by simp [hxy]
          have HE := Lib.hid (show l.take (k + 1) = m.take (k + 1) from by rw [HT1.out, HT2.out, heq.out, hxy])
          clear hxy
          go_wp2_with (fail)
          go_quiet (fail)
          go_wp2_with (fail)
          exact ⟨⟨k + 1, n + nq, by omega, by go_num, HE, rfl⟩, by simp [intOf]; omega⟩
        · have c3 : (x != y) = true := by simpa using hxy
          have HF := Lib.hid (HNE.out hxy)
          clear hxy
          go_wp2_with (fail)
          go_quiet (fail)
          go_wp2_with (fail)
          go_ret
          exact ⟨by rw [HF.out]; rfl, n + nq, by simp⟩
      · have HF := Lib.hid (show decide (l = m) = true from by
          have h := heq.out
          rw [List.take_of_length_le (by omega), List.take_of_length_le (by have := HLM.out; omega)] at h
          simpa using h)
        go_wp2_with (fail)
        go_ret
        exact ⟨by rw [HF.out]; rfl, n, rfl⟩
  · have hne : ((l.length : Int) != (m.length : Int)) = true := by simpa using (by omega : ¬ (l.length : Int) = (m.length : Int))
    have HF := Lib.hid (show decide (l = m) = false from by
      have : l ≠ m := fun e => hlm (by rw [e])
      simpa using this)
    go_wp2_with (fail)
    go_ret
    exact ⟨by rw [HF.out]; rfl, 0, rfl⟩
end Go.Proofs.YtoopnddlcofhoaaGreatDoor
