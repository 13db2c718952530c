/- What is proved: slices.Grow of nil and slices.Concat of slices of nodes: the nodes of all, in new memory. -/
import Derived.Test.YtjikfdifcpdhhaaInS
import Derived.Test.YtjikfdifcpdhhaaTreeNum
set_option linter.unusedVariables false
namespace Go.Proofs.Ytjikfdifcpdhhaa
open Go.RowKit

section
variable {P : Program} (w : World)
theorem run_append_made (t u ty e : TypeId) (i : TypeInfo) (z : Value) (ht : P.underlying t = some (.slice e)) (hu : P.underlying u = some (.int .i64)) (hi : P.info? e = some i) (hz : i.zero = some z)
    (m : Nat) (h0 : 0 < m) (hzs : z.cells.size = i.size) (hsz : 0 < i.size) (h63 : (m : Int) ≤ 140737488355328) (h48 : m * i.bytes ≤ 281474976710656) :
    (Builtin.append_ #[t, u] ty #[.slice none 0 0, .int .i64 (m : Int)]).run P w =
      .ok (.slice (some ⟨w.heap.size, 0, none⟩) m (grownCap w m 0 e))
        (w.drew.alloc (.cells (Builtin.zeroCells z.cells m ++ Builtin.zeroCells z.cells (grownCap w m 0 e - m)) e)) := by
  have hn : m ≠ 0 := by omega
  have hneg : ¬ ((m : Int) < 0) := by omega
  have hw : IntKind.i64.wrap (m : Int) = (m : Int) := IntWalk.i64_in _ (by omega)
  have h63' : ¬ (9223372036854775807 < (m : Int)) := by omega
  have hb : ((m * i.bytes : Nat) : Int) ≤ 281474976710656 := by omega
  rw [Int.natCast_mul] at hb
  have h48a : ¬ (281474976710656 < (m : Int) * (i.bytes : Int)) := by omega
  have h48' : ¬ (281474976710656 < Builtin.nextslicecap m 0 * i.bytes) := by rw [nextslicecap_zero h0]; omega
  simp [Builtin.append_, run_underlying ht, run_underlying hu, sizeOf, typeInfo, zeroValue, hi, hz, asInt, asIntOf, hw, hneg, hn, h63', h48', h48a, Builtin.firstCells, Question.forced, newRow, grownCap]
  intro h
  exfalso
  rcases Nat.mul_eq_zero.1 h with h | h <;> omega
theorem run_append_none (t ty e : TypeId) (i : TypeInfo) (ht : P.underlying t = some (.slice e)) (hi : P.info? e = some i) (b : Option Addr) (n cap c : Nat) (hn : n ≤ cap) :
    (Builtin.append_ #[t, t] ty #[.slice b n cap, .slice none 0 c]).run P w = .ok (.slice b n cap) w := by
  cases b with
  | none => simp [Builtin.append_, run_underlying ht, sizeOf, typeInfo, hi, Builtin.lenOf, Builtin.firstCells, hn]
  | some a => simp [Builtin.append_, run_underlying ht, sizeOf, typeInfo, hi, Builtin.lenOf, Builtin.firstCells, hn, storeCells]
/-- append, by what its run is -/
theorem wpList_append_by {ops : Array Oper} {rest : List Oper} {o : Oper} {a : Act} {Q : Exit → Act → World → Prop} (hgd : o.guard = none) (s x : Operand) (t u : TypeId)
    (ho : o.op = .call { callee := .builtin .append, args := #[s, x], argTypes := #[t, u] }) (sv xv : Value) (hs : a.eval s = sv) (hx : a.eval x = xv) (v : Value) (w' : World)
    (hr : (Builtin.append_ #[t, u] o.type #[sv, xv]).run P w = .ok v w') (h : wpList P ops Q rest (a.put o.dst v) w') : wpList P ops Q (o :: rest) a w :=
  wpList_plain hgd fun _ hK => by
    unfold Oper.wp execOp
    simp only [ho, resolve, invoke, builtin, Sem.run_bind, Sem.run_pure, Result.andThen_ok, List.map_toArray, List.map_cons, List.map_nil, hs, hx, hr]
    exact hK _ _ h
end

set_option maxHeartbeats 1000000 in
theorem grow_any (m : Nat) (w : World) (hm : m ≤ 1000000000) :
    Calls Try.prog 68 #[.slice none 0 0, .int .i64 (m : Int)] w fun e w' => ∃ v, e = .returned v ∧ w'.ownsRow w.heap.size 24 5 v 0 [] ∧ Below w.heap.size w w' := by
  obtain ⟨i0, hi0, hz0, hz1, hz2⟩ := info_parts infoNode
  rcases Nat.eq_zero_or_pos m with h0 | h0
  · subst h0
    go_enter Try.func68, Try.ntmps68
    go_wp2_with (fail)
    go_ret
    exact ⟨_, rfl, World.ownsRow_nil _ _ _ _, Below.refl _ _⟩
  · have HAP := Lib.hid (fun W : World => run_append_made (P := Try.prog) W 22 3 22 24 i0 _ Try.underlying22 Try.underlying3 hi0 hz0 m h0 (by rw [hz1]; rfl) (by omega) (by omega) (by rw [hz2]; omega))
    clear hi0 hz0 hz1 hz2
    go_enter Try.func68, Try.ntmps68
    go_wp2_with (at_builtin; refine wpList_append_by _ rfl _ _ 22 3 rfl _ _ rfl rfl _ _ (HAP.out _) ?_)
    go_ret
    refine ⟨_, rfl, World.ownsRow_made w _ _ (Nat.le_refl _) (grownCap_le_maxLen w m 0 _ (by unfold maxLen; omega)) ?_, ((Below.refl w.heap.size w).alloc (Nat.le_refl _) _).drew⟩
    have h1 := grownCap_ge w m 0 24
    simp only [Array.size_append, size_zeroCells, List.size_toArray, List.length_cons, List.length_nil]
    omega

/-- the cells of a row of nodes -/
theorem row_news {w : World} {b off : Nat} {l : List NT} (h : ∀ (i : Nat) (hi : i < l.length), Cells5 w b (off + i * 5) l[i]) : ∀ j u, (ncells l)[j]? = some u → w.cell? ((⟨b, off, none⟩ : Addr).add j) = some u := by
  intro j u hj
  have hjl : j < (ncells l).length := (List.getElem?_eq_some_iff.1 hj).1
  rw [ncells_len] at hjl
  have hi : j / 5 < l.length := by omega
  obtain ⟨c0, c1, c2, c3, c4⟩ := h (j / 5) hi
  obtain ⟨e0, e1, e2, e3, e4⟩ := ncells_get l (j / 5) hi
  rw [Go.WideShapes.add_plain]
  have hr : j = j / 5 * 5 ∨ j = j / 5 * 5 + 1 ∨ j = j / 5 * 5 + 2 ∨ j = j / 5 * 5 + 3 ∨ j = j / 5 * 5 + 4 := by omega
  have key : ∀ (k : Nat) (v : Value), j = k → w.cell? ⟨b, off + k, none⟩ = some v → (ncells l)[k]? = some v → w.cell? ⟨b, off + j, none⟩ = some u := fun k v hk hc he => by
    subst hk
    rw [hj] at he
    rw [hc, he]
  rcases hr with hr | hr | hr | hr | hr
  · exact key _ _ hr c0 e0
  · exact key _ _ hr (by rw [← Nat.add_assoc]; exact c1) e1
  · exact key _ _ hr (by rw [← Nat.add_assoc]; exact c2) e2
  · exact key _ _ hr (by rw [← Nat.add_assoc]; exact c3) e3
  · exact key _ _ hr (by rw [← Nat.add_assoc]; exact c4) e4

/-- a slice of nodes -/
structure Sl where
  A : Option Addr
  c : Nat
  l : List NT
def flat : List Sl → List NT
  | [] => []
  | s :: r => s.l ++ flat r
theorem flat_append (a b : List Sl) : flat (a ++ b) = flat a ++ flat b := by
  induction a with
  | nil => rfl
  | cons x xs ih => simp [flat, ih]
theorem flat_get {L : List Sl} {k : Nat} (h : k < L.length) : flat (L.take (k + 1)) = flat (L.take k) ++ L[k].l := by
  rw [List.take_succ_eq_append_getElem h, flat_append]; simp [flat]
theorem flat_take_le (L : List Sl) (k : Nat) : (flat (L.take k)).length ≤ (flat L).length := by
  have h := flat_append (L.take k) (L.drop k)
  rw [List.take_append_drop] at h
  rw [h, List.length_append]; omega

theorem own_form {w : World} {B E sz n : Nat} {v : Value} {xs : List Value} (h : w.ownsRow B E sz v n xs) : ∃ (A : Option Addr) (m c : Nat), v = .slice A m c ∧ m ≤ c := by
  rcases h.2 with ⟨h1, _⟩ | ⟨g, cap, cur, h1, _, _, h2, _⟩
  · exact ⟨none, 0, 0, h1, Nat.le_refl _⟩
  · exact ⟨_, _, cap, h1, h2⟩

set_option maxHeartbeats 2000000 in
set_option maxRecDepth 100000 in
theorem concat_any (B : Nat) (L : List Sl) (w : World) (hB : B < w.heap.size) (hL : L.length ≤ 1000) (hcell : ∀ (k : Nat) (h : k < L.length), w.cell? ⟨B, k, none⟩ = some (.slice L[k].A L[k].l.length L[k].c)) (hrow : ∀ (k : Nat) (h : k < L.length), Row w.heap.size w L[k].A L[k].l) (htot : (flat L).length ≤ 1000000000) :
    Calls Try.prog 54 #[.slice (some ⟨B, 0, none⟩) L.length L.length] w fun e w' => ∃ v, e = .returned v ∧ w'.ownsRow w.heap.size 24 5 v (flat L).length (ncells (flat L)) ∧ Below w.heap.size w w' := by
  obtain ⟨i0, hi0, hz0, hz1, hz2⟩ := info_parts infoNode
  have HCE := Lib.hid hcell
  have HRW := Lib.hid hrow
  clear hcell hrow
  go_enter Try.func54, Try.ntmps54
  go_wp2_with (fail)
  go_loop [3, 11] (fun x i => ∃ k : Nat, k ≤ L.length ∧ i = .int .i64 (k : Int) ∧ x = .int .i64 ((flat (L.take k)).length : Int)) (fun _ i => L.length - (intOf i).toNat)
  case atStart => exact ⟨0, Nat.zero_le _, rfl, rfl⟩
  case round =>
    obtain ⟨k, hk, rfl, rfl⟩ := hrel
    have hle := flat_take_le L k
    by_cases hlt : k < L.length
    · have ck := HCE.out k hlt
      have HG := Lib.hid (flat_get hlt)
      have hle2 := flat_take_le L (k + 1)
      have hg2 := congrArg List.length (flat_get hlt)
      rw [List.length_append] at hg2
      generalize L[k] = s at *
      go_wp2_with (fail)
      exact ⟨⟨k + 1, by omega, by go_num, by rw [hg2]; go_num⟩, by simp [intOf]; omega⟩
    · have e : L.take k = L := List.take_of_length_le (by omega)
      rw [e]
      clear e hle
      go_wp2_with (fail)
      refine (grow_any (flat L).length w htot).mono ?_
      rintro e w2 ⟨v, rfl, hown, hb2⟩
      have HB2 := Lib.hid hb2
      have HO2 := Lib.hid hown
      obtain ⟨A0, n0, cc0, rfl, hnc0⟩ := own_form hown
      clear hown hb2
      go_wp2_with (fail)
      go_loopw [6, 27] (fun v i wq => ∃ (k : Nat) (A' : Option Addr) (n' c' : Nat), k ≤ L.length ∧ i = .int .i64 (k : Int) ∧ v = .slice A' n' c' ∧ n' ≤ c' ∧ Hid (wq.ownsRow w.heap.size 24 5 (.slice A' n' c') (flat (L.take k)).length (ncells (flat (L.take k)))) ∧ Hid (Below w.heap.size w wq)) (fun _ i _ => L.length - (intOf i).toNat)
      case atStart => exact ⟨0, A0, n0, cc0, Nat.zero_le _, rfl, rfl, hnc0, HO2, HB2⟩
      case round =>
        obtain ⟨k, A', n', c', hk, rfl, rfl, hn', hown, hbq⟩ := hrel
        have hle := flat_take_le L k
        have hzq := hbq.out.size
        by_cases hlt : k < L.length
        · have ck := (hbq.out.cell (p := ⟨B, k, none⟩) hB).trans (HCE.out k hlt)
          have HG := Lib.hid (flat_get hlt)
          have hle2 := flat_take_le L (k + 1)
          have hg2 := congrArg List.length (flat_get hlt)
          rw [List.length_append] at hg2
          have HRK := Lib.hid ((HRW.out k hlt).below hbq.out)
          generalize L[k] = s at *
          cases hA : s.A with
          | none =>
            have hl0 : s.l = [] := by
              rcases Nat.eq_zero_or_pos s.l.length with h0 | h0
              · exact List.eq_nil_of_length_eq_zero h0
              · obtain ⟨b, off, h1, _⟩ := HRK.out h0
                rw [hA] at h1; cases h1
            rw [hA, hl0] at ck
            have HG2 := Lib.hid (show flat (L.take (k + 1)) = flat (L.take k) by rw [HG.out, hl0, List.append_nil])
            clear hA hl0
            go_wp2_with (at_builtin; refine wpList_append_by _ rfl _ _ 22 22 rfl _ _ rfl rfl _ _ (run_append_none _ _ _ 24 i0 Try.underlying22 hi0 _ _ _ _ hn') ?_)
            exact ⟨⟨k + 1, A', n', c', by omega, by go_num, rfl, hn', by rw [HG2.out]; exact hown, hbq⟩, by simp [intOf]; omega⟩
          | some ad =>
            rw [hA] at ck
            have HCS := Lib.hid (show ∀ j u, (ncells s.l)[j]? = some u → wr.cell? (ad.add j) = some u from fun j u hj => by
              have h0 : 0 < s.l.length := by
                cases hs : s.l with
                | nil => rw [hs] at hj; simp [ncells] at hj
                | cons x xs => simp
              obtain ⟨b, off, h1, _, h2⟩ := HRK.out h0
              rw [hA] at h1
              cases h1
              exact row_news h2 j u hj)
            clear hA
            go_wp2_with (at_builtin; refine wpList_append_own _ rfl _ _ 22 rfl w.heap.size 24 i0 _ 5 64 Try.underlying22 hi0 hz0 hz1 hz2 rfl (by decide) _ _ _ rfl hown.out ad s.l.length s.c (ncells s.l) rfl (ncells_len _) ?c1 ?c2 ?c3 ?c4 ?c5 ?_)
            case c1 => exact HCS.out
            case c2 => exact ncells_one _
            case c3 => unfold maxLen; omega
            case c4 => omega
            case c5 => omega
            intro v' w3 hown' hgrow _
            have B3 := Lib.hid (hbq.out.grown hgrow (by omega) (fun j ej => (hown.out.lt j ej).1))
            have O3 : Hid (w3.ownsRow w.heap.size 24 5 v' (flat (L.take (k + 1))).length (ncells (flat (L.take (k + 1))))) := by
              rw [HG.out, ncells_append, List.length_append]
              exact hown'
            obtain ⟨A3, n3, c3, rfl, hn3⟩ := own_form hown'
            clear hown' hgrow
            go_wp2_with (fail)
            exact ⟨⟨k + 1, A3, n3, c3, by omega, by go_num, rfl, hn3, O3, B3⟩, by simp [intOf]; omega⟩
        · have e : L.take k = L := List.take_of_length_le (by omega)
          rw [e] at hown
          clear e
          go_wp2_with (fail)
          go_ret
          exact ⟨_, rfl, hown.out, hbq.out⟩
end Go.Proofs.Ytjikfdifcpdhhaa
