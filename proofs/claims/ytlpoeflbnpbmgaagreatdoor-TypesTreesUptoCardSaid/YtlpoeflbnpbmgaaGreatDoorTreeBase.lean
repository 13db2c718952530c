/- What is proved: small facts on trees in memory, for: the reference's Count and Levels return what the plain functions say. -/
import Derived.Test.YtlpoeflbnpbmgaaGreatDoorTyScalar
import Derived.Laws.CopyRow
import Derived.Laws.IdiomCopy
import Derived.Laws.CopyOwn
import Derived.Laws.MakeOwn
import Derived.Laws.OwnMore
import Derived.Deep.AppendLies
import Derived.Test.YtlpoeflbnpbmgaaGreatDoorTyWr
import Derived.WalkKit
import Derived.OwnWalk
import Derived.Outline
import Derived.WalkLawsBesides
import Derived.IntWalk
import Derived.Lib.Hide
import Derived.LoopTactic
import Derived.Deep.QuietTactic
import Derived.BigQuiet
set_option linter.unusedVariables false
namespace Go.Proofs.YtlpoeflbnpbmgaaGreatDoor
open Go.RowKit

section
variable {P : Program} (w : World)
theorem run_copy_rowN (dT sT ty elem : TypeId) (g o dLen dCap : Nat) (a : Addr) (sLen sCap q : Nat) (cur : Array Value) (t : TypeId) (cs : List Value)
    (hu : P.underlying dT = some (.slice elem)) (hs : (P.info? elem).map (·.size) = some q)
    (hg : w.heap[g]? = some (.cells cur t (0, 0))) (hn : cs.length = Nat.min sLen dLen * q)
    (hsrc : ∀ j v, cs[j]? = some v → w.cell? (a.add j) = some v) (hfit : o + cs.length ≤ cur.size) (h1 : ∀ v ∈ cs, v.oneCell' = true) :
    (Builtin.copy_ #[dT, sT] ty #[.slice (some ⟨g, o, none⟩) dLen dCap, .slice (some a) sLen sCap]).run P w =
      .ok (goInt (Nat.min sLen dLen)) (w.setRow g (cur.toList.take o ++ cs ++ cur.toList.drop (o + cs.length)).toArray) := by
  have hl := run_loadCells_list (P := P) w a cs hsrc
  have hst := run_storeCells_at P g o t cs 0 cur w hg (by simpa using hfit) h1
  cases hq : P.info? elem with
  | none => simp [hq] at hs
  | some i =>
    have hi : i.size = q := by simpa [hq] using hs
    rw [hn] at hl
    simp [Builtin.copy_, run_underlying hu, Builtin.lenOf, Builtin.firstCells, sizeOf, typeInfo, hq, hi, hl, hst]
theorem wpList_copy_by {ops : Array Oper} {rest : List Oper} {o : Oper} {a : Act} {Q : Exit → Act → World → Prop} (hgd : o.guard = none) (s x : Operand) (t u : TypeId)
    (ho : o.op = .call { callee := .builtin .copy, args := #[s, x], argTypes := #[t, u] }) (sv xv : Value) (hs : a.eval s = sv) (hx : a.eval x = xv) (v : Value) (w' : World)
    (hr : (Builtin.copy_ #[t, u] o.type #[sv, xv]).run P w = .ok v w') (h : wpList P ops Q rest (a.put o.dst v) w') : wpList P ops Q (o :: rest) a w :=
  wpList_plain hgd fun _ hK => by
    unfold Oper.wp execOp
    simp only [ho, resolve, invoke, builtin, Sem.run_bind, Sem.run_pure, Result.andThen_ok, List.map_toArray, List.map_cons, List.map_nil, hs, hx, hr]
    exact hK _ _ h
theorem step_copy_by {ops : Array Oper} {o : Oper} {a : Act} {K : Act → World → Prop} {Q : Exit → Act → World → Prop} {E : Prop} (hgd : o.guard = none) (s x : Operand) (t u : TypeId)
    (ho : o.op = .call { callee := .builtin .copy, args := #[s, x], argTypes := #[t, u] }) (sv xv : Value) (hs : a.eval s = sv) (hx : a.eval x = xv) (v : Value) (w' : World)
    (hr : (Builtin.copy_ #[t, u] o.type #[sv, xv]).run P w = .ok v w') (h : K (a.put o.dst v) w') :
    if Region.wanted o (yielded ops a.tmps) = true then Oper.wp P o a w K Q else E := by
  have hw : Region.wanted o (yielded ops a.tmps) = true := by simp [Region.wanted, hgd]
  rw [if_pos hw]
  unfold Oper.wp execOp
  simp only [ho, resolve, invoke, builtin, Sem.run_bind, Sem.run_pure, Result.andThen_ok, List.map_toArray, List.map_cons, List.map_nil, hs, hx, hr]
  exact h
end

/-- an int's cells, the zero type's -/
def pat : List Value := [.int .i64 1, .int .i64 0, .string ⟨#[]⟩]
def zer : List Value := [.int .i64 0, .int .i64 0, .string ⟨#[]⟩]
def pats (n : Nat) : List Value := (List.replicate n pat).flatten
def zers (n : Nat) : List Value := (List.replicate n zer).flatten
theorem pats_len (n : Nat) : (pats n).length = n * 3 := by unfold pats; simp [List.length_flatten, List.map_replicate, pat]
theorem zers_len (n : Nat) : (zers n).length = n * 3 := by unfold zers; simp [List.length_flatten, List.map_replicate, zer]
theorem pats_add (a b : Nat) : pats (a + b) = pats a ++ pats b := by unfold pats; rw [← List.replicate_append_replicate, List.flatten_append]
theorem zers_add (a b : Nat) : zers (a + b) = zers a ++ zers b := by unfold zers; rw [← List.replicate_append_replicate, List.flatten_append]
theorem pats_one (n : Nat) : ∀ v ∈ pats n, v.oneCell' = true := by
  intro v hv
  unfold pats at hv
  rw [List.mem_flatten] at hv
  obtain ⟨l, hl, hv⟩ := hv
  rw [(List.mem_replicate.1 hl).2] at hv
  unfold pat at hv
  simp at hv
  rcases hv with rfl | rfl | rfl <;> rfl
/-- the row with k of n elements written -/
def rowK (k n : Nat) : List Value := pats k ++ zers (n - k)
theorem rowK_len (k n : Nat) (h : k ≤ n) : (rowK k n).length = n * 3 := by unfold rowK; rw [List.length_append, pats_len, zers_len]; omega
theorem rowK_splice (k m n : Nat) (h : k + m ≤ n) : (rowK k n).take (k * 3) ++ pats m ++ (rowK k n).drop (k * 3 + (pats m).length) = rowK (k + m) n := by
  have hk := pats_len k
  have hm := pats_len m
  have e1 : (rowK k n).take (k * 3) = pats k := by
    unfold rowK
    rw [List.take_append_of_le_length (by omega), List.take_of_length_le (by omega)]
  have e2 : (rowK k n).drop (k * 3 + (pats m).length) = zers (n - (k + m)) := by
    unfold rowK
    rw [List.drop_append, List.drop_of_length_le (by omega), List.nil_append, show n - k = m + (n - (k + m)) from by omega, zers_add, show k * 3 + (pats m).length - (pats k).length = (zers m).length from by rw [hk, hm, zers_len]; omega, List.drop_left]
  rw [e1, e2]
  unfold rowK
  rw [pats_add]
theorem rowK_src (k m n : Nat) (h : m ≤ k) (j : Nat) (v : Value) (hj : (pats m)[j]? = some v) : (rowK k n)[j]? = some v := by
  have hm := pats_len m
  have hjl : j < (pats m).length := (List.getElem?_eq_some_iff.1 hj).1
  unfold rowK
  obtain ⟨d, rfl⟩ := Nat.exists_eq_add_of_le h
  rw [pats_add, List.append_assoc, List.getElem?_append_left hjl, hj]
end Go.Proofs.YtlpoeflbnpbmgaaGreatDoor
set_option linter.unusedVariables false
namespace Go.Proofs.YtlpoeflbnpbmgaaGreatDoor
open Go.RowKit

set_option maxRecDepth 100000 in
theorem mul64_any (n : Nat) (hn : n ≤ 8) (w : World) : Calls Tryz.prog 76 #[.int .u64 1, .int .u64 (n : Int)] w fun e w' => e = .returned (.tuple #[.int .u64 0, .int .u64 (n : Int)]) ∧ w = w' := by
  have h : n = 0 ∨ n = 1 ∨ n = 2 ∨ n = 3 ∨ n = 4 ∨ n = 5 ∨ n = 6 ∨ n = 7 ∨ n = 8 := by omega
  rcases h with rfl | rfl | rfl | rfl | rfl | rfl | rfl | rfl | rfl
  all_goals
    go_enter Tryz.func76, Tryz.ntmps76
    go_wp2_with (fail)
    go_ret2
    exact ⟨rfl, rfl⟩
theorem mul_any (n : Nat) (hn : n ≤ 8) (w : World) : Calls Tryz.prog 54 #[.int .u64 1, .int .u64 (n : Int)] w fun e w' => e = .returned (.tuple #[.int .u64 0, .int .u64 (n : Int)]) ∧ w = w' := by
  go_enter Tryz.func54, Tryz.ntmps54
  go_wp2_with (fail)
  refine (mul64_any n hn w).mono ?_
  rintro e w' ⟨rfl, rfl⟩
  go_wp2_with (fail)
  go_ret2
  exact ⟨rfl, rfl⟩
end Go.Proofs.YtlpoeflbnpbmgaaGreatDoor
set_option linter.unusedVariables false
namespace Go.Proofs.YtlpoeflbnpbmgaaGreatDoor
open Go.RowKit

theorem infoType : (Tryz.prog.info? 31).map (fun i => (i.zero, i.size, i.bytes)) = some (some (.agg #[.int .i64 0, .int .i64 0, .string ⟨#[]⟩]), 3, 32) := by kernel_rfl
theorem info_parts {x : Option TypeInfo} {z : Value} {s b : Nat} (h : x.map (fun i => (i.zero, i.size, i.bytes)) = some (some z, s, b)) : ∃ i, x = some i ∧ i.zero = some z ∧ i.size = s ∧ i.bytes = b := by
  cases x with
  | none => cases h
  | some i =>
    simp only [Option.map_some, Option.some.injEq, Prod.mk.injEq] at h
    exact ⟨i, rfl, h.1, h.2.1, h.2.2⟩
theorem made_0 : madeCells #[.int .i64 0, .int .i64 0, .string ⟨#[]⟩] (0 * 3) = (zers 0).toArray := by kernel_rfl
theorem made_1 : madeCells #[.int .i64 0, .int .i64 0, .string ⟨#[]⟩] (1 * 3) = (zers 1).toArray := by kernel_rfl
theorem made_2 : madeCells #[.int .i64 0, .int .i64 0, .string ⟨#[]⟩] (2 * 3) = (zers 2).toArray := by kernel_rfl
theorem made_3 : madeCells #[.int .i64 0, .int .i64 0, .string ⟨#[]⟩] (3 * 3) = (zers 3).toArray := by kernel_rfl
theorem made_4 : madeCells #[.int .i64 0, .int .i64 0, .string ⟨#[]⟩] (4 * 3) = (zers 4).toArray := by kernel_rfl
theorem made_5 : madeCells #[.int .i64 0, .int .i64 0, .string ⟨#[]⟩] (5 * 3) = (zers 5).toArray := by kernel_rfl
theorem made_6 : madeCells #[.int .i64 0, .int .i64 0, .string ⟨#[]⟩] (6 * 3) = (zers 6).toArray := by kernel_rfl
theorem made_7 : madeCells #[.int .i64 0, .int .i64 0, .string ⟨#[]⟩] (7 * 3) = (zers 7).toArray := by kernel_rfl
theorem made_8 : madeCells #[.int .i64 0, .int .i64 0, .string ⟨#[]⟩] (8 * 3) = (zers 8).toArray := by kernel_rfl
theorem made_zers (n : Nat) (hn : n ≤ 8) : madeCells #[.int .i64 0, .int .i64 0, .string ⟨#[]⟩] (n * 3) = (zers n).toArray := by
  have h : n = 0 ∨ n = 1 ∨ n = 2 ∨ n = 3 ∨ n = 4 ∨ n = 5 ∨ n = 6 ∨ n = 7 ∨ n = 8 := by omega
  rcases h with rfl | rfl | rfl | rfl | rfl | rfl | rfl | rfl | rfl
  · exact made_0
  · exact made_1
  · exact made_2
  · exact made_3
  · exact made_4
  · exact made_5
  · exact made_6
  · exact made_7
  · exact made_8
theorem run_make_types (n : Nat) (hn : n ≤ 8) (W : World) : (Instr.makeSlice 49 (.int .i64 (n : Int)) (.int .i64 (n : Int))).run Tryz.prog W = .ok (.slice (some ⟨W.heap.size, 0, none⟩) n n) (W.alloc (.cells (rowK 0 n).toArray 31)) := by
  obtain ⟨i0, hi0, hz0, hz1, hz2⟩ := info_parts infoType
  have h := run_make (P := Tryz.prog) W 49 31 i0 _ Tryz.underlying49 hi0 hz0 .i64 .i64 n n (by omega) (by omega) (by rw [hz2]; omega) (by omega)
  rw [hz1, Int.toNat_natCast] at h
  rw [h]
  have e := made_zers n hn
  rw [show rowK 0 n = zers n from by simp [rowK, pats], ← e]
  rfl
theorem run_slice_to (A : Option Addr) (len c F : Nat) (h : F ≤ c) (hF : F ≤ 1000000000) (W : World) : (Instr.slice 49 (.slice A len c) none (some (.int .i64 (F : Int))) none).run Tryz.prog W = .ok (.slice A F c) W := by
  obtain ⟨i0, hi0, hz0, hz1, hz2⟩ := info_parts infoType
  have e : (if c = 0 then A else Option.map (fun a => a.add 0) A) = A := by
    split
    · rfl
    · cases A <;> simp [Addr.add]
  simp [Instr.slice, run_underlying Tryz.underlying49, Instr.sliceBounds, Instr.sliceBound, asIntOf, h, sizeOf, typeInfo, hi0, e]
theorem run_slice_from (b len c T : Nat) (h : T ≤ len) (hc : c ≠ T) (W : World) : (Instr.slice 49 (.slice (some ⟨b, 0, none⟩) len c) (some (.int .i64 (T : Int))) none none).run Tryz.prog W = .ok (.slice (some ⟨b, T * 3, none⟩) (len - T) (c - T)) W := by
  obtain ⟨i0, hi0, hz0, hz1, hz2⟩ := info_parts infoType
  simp [Instr.slice, run_underlying Tryz.underlying49, Instr.sliceBounds, Instr.sliceBound, asIntOf, h, sizeOf, typeInfo, hi0, hz1, hc, Addr.add]
  intro h; omega
theorem infoSize : (Tryz.prog.info? 31).map (·.size) = some 3 := by kernel_rfl

theorem copy_row (W w0 : World) (g k m n b o sLen sCap B : Nat) (hg : W.heap[g]? = some (.cells (rowK k n).toArray 31 (0, 0))) (hk : k + m ≤ n) (hm : Nat.min sLen (n - k) = m)
    (hsrc : ∀ j v, (pats m)[j]? = some v → W.cell? ((⟨b, o, none⟩ : Addr).add j) = some v) (hb : Below B w0 W) (hBg : B ≤ g) :
    ∃ w', (Builtin.copy_ #[49, 49] 3 #[.slice (some ⟨g, k * 3, none⟩) (n - k) (n - k), .slice (some ⟨b, o, none⟩) sLen sCap]).run Tryz.prog W = .ok (.int .i64 (m : Int)) w' ∧ w'.heap[g]? = some (.cells (rowK (k + m) n).toArray 31 (0, 0)) ∧ Below B w0 w' := by
  have h := run_copy_rowN (P := Tryz.prog) W 49 49 3 31 g (k * 3) (n - k) (n - k) ⟨b, o, none⟩ sLen sCap 3 (rowK k n).toArray 31 (pats m) Tryz.underlying49 infoSize hg (by rw [pats_len, hm]) hsrc
    (by rw [pats_len, List.size_toArray, rowK_len _ _ (by omega)]; omega) (pats_one m)
  rw [hm, List.toList_toArray, rowK_splice k m n hk] at h
  exact ⟨_, h, setRow_heap W g _ _ _ _ hg, below_setRow hb hBg _⟩

set_option maxRecDepth 100000 in
set_option maxHeartbeats 2000000 in
theorem repeat_any (b n : Nat) (h1 : 1 ≤ n) (h8 : n ≤ 8) (w : World) (hs : TCells w b 0 (bsc 1)) (hb : b < w.heap.size) :
    Calls Tryz.prog 41 #[.slice (some ⟨b, 0, none⟩) 1 1, .int .i64 (n : Int)] w fun e w' => e = .returned (.slice (some ⟨w.heap.size, 0, none⟩) n n) ∧ w'.heap[w.heap.size]? = some (.cells (rowK n n).toArray 31 (0, 0)) ∧ Below w.heap.size w w' := by
  have HS := Lib.hid hs
  have HMK := Lib.hid (fun W => run_make_types n h8 W)
  clear hs
  go_enter Tryz.func41, Tryz.ntmps41
  go_wp2_with (fail)
  refine (mul_any n h8 w).mono ?_
  rintro e w' ⟨rfl, rfl⟩
  have hmk := HMK.out w
  have hng : decide ((9223372036854775807 : Int) < (n : Int)) = false := by simp; omega
  have hsn : (0 : Int) < (n : Int) := by omega
  have hb0 := (Below.refl w.heap.size w).alloc (Nat.le_refl _) (.cells (rowK 0 n).toArray 31)
  obtain ⟨w2, hc2, hg2, hb2⟩ := copy_row (w.alloc (.cells (rowK 0 n).toArray 31)) w w.heap.size 0 1 n b 0 1 1 w.heap.size (heap_alloc_new w _) (by omega) (by show min 1 (n - 0) = 1; omega)
    (fun j v hj => by
      have hcs := HS.out.below hb0 hb
      have hadd : (⟨b, 0, none⟩ : Addr).add j = ⟨b, j, none⟩ := by unfold Addr.add; split <;> simp_all
      rw [hadd]
      match j, hj with
      | 0, hj => cases hj; exact hcs.1
      | 1, hj => cases hj; exact hcs.2.1
      | 2, hj => cases hj; exact hcs.2.2) hb0 (Nat.le_refl _)
  rw [Nat.zero_mul, Nat.sub_zero] at hc2
  have HC2 := Lib.hid hc2
  have HG2 := Lib.hid hg2
  have HB2 := Lib.hid hb2
  clear hc2 hg2 hb2 hb0
  go_wp2_with (refine wpList_copy_by _ (by rfl) (.tmp 31) (.tmp 32) 49 49 (by rfl) _ _ (by rfl) (by rfl) _ _ HC2.out ?_)
  clear hmk
  go_loopw [8] (fun i wr => ∃ k : Nat, 1 ≤ k ∧ k ≤ n ∧ i = .int .i64 (k : Int) ∧ Hid (wr.heap[w.heap.size]? = some (.cells (rowK k n).toArray 31 (0, 0))) ∧ Hid (Below w.heap.size w wr)) (fun i _ => n - (intOf i).toNat)
  case atStart => exact ⟨1, Nat.le_refl _, h1, rfl, HG2, HB2⟩
  case round =>
    obtain ⟨k, hk1, hkn, rfl, hgr, hbr⟩ := hrel
    by_cases hlt : k < n
    · obtain ⟨m, HM⟩ : ∃ m, Hid (Nat.min k (n - k) = m) := ⟨_, Lib.hid rfl⟩
      have hm1 : 1 ≤ m := by rw [← HM.out]; show 1 ≤ min k (n - k); omega
      have hm2 : k + m ≤ n := by rw [← HM.out]; show k + min k (n - k) ≤ n; omega
      have hm3 : m ≤ k := by rw [← HM.out]; show min k (n - k) ≤ k; omega
      obtain ⟨w3, hc3, hg3, hb3⟩ := copy_row wr.drew w w.heap.size k m n w.heap.size 0 k n w.heap.size hgr.out hm2 HM.out
        (fun j v hj => by
          have hadd : (⟨w.heap.size, 0, none⟩ : Addr).add j = ⟨w.heap.size, j, none⟩ := by unfold Addr.add; split <;> simp_all
          have hj' := rowK_src k m n hm3 j v hj
          rw [hadd]
          show wr.cell? ⟨w.heap.size, j, none⟩ = some v
          rw [Lib.cell_of_heap hgr.out j]
          simpa using hj') hbr.out.drew (Nat.le_refl _)
      have HC3 := Lib.hid hc3
      have HG3 := Lib.hid hg3
      have HB3 := Lib.hid hb3
      have hsf := fun W => run_slice_from w.heap.size n n k hkn (by omega) W
      have hst := fun W => run_slice_to (some ⟨w.heap.size, 0, none⟩) n n k hkn (by omega) W
      have hwr : IntKind.i64.wrap ((k : Int) + (m : Int)) = (k : Int) + (m : Int) := IntWalk.i64_in _ (by omega)
      have HK := Lib.hid (show w3.cell? ⟨b, 0, none⟩ = some (.int .i64 1) from (HS.out.below hb3 hb).1)
      have c0 : wr.cell? ⟨b, 0, none⟩ = some (.int .i64 1) := (HS.out.below hbr.out hb).1
      clear hc3 hg3 hb3
      go_wp2_with (fail)
      go_region_held3 (fun w' => w'.cell? ⟨b, 0, none⟩ = some (.int .i64 1)) (first | (with_reducible exact HK.out) | go_keep) ((refine step_copy_by _ (by rfl) (.tmp 41) (.tmp 44) 49 49 (by rfl) _ _ (by rfl) (by rfl) _ _ HC3.out ?_))
      all_goals
        go_wp2_with (fail)
        exact ⟨⟨k + m, by omega, hm2, by go_num, HG3, HB3⟩, by simp [intOf]; omega⟩
    · obtain rfl : k = n := by omega
      go_wp2_with (fail)
      go_ret
      exact ⟨rfl, hgr.out, hbr.out⟩
end Go.Proofs.YtlpoeflbnpbmgaaGreatDoor
set_option linter.unusedVariables false
namespace Go.Proofs.YtlpoeflbnpbmgaaGreatDoor
open Go.RowKit

/-- the cells of types -/
def tcells : List TyV → List Value
  | [] => []
  | t :: ts => .int .i64 t.kind :: .int .i64 t.len :: .string t.nm :: tcells ts
theorem tcells_append (l m : List TyV) : tcells (l ++ m) = tcells l ++ tcells m := by
  induction l with
  | nil => rfl
  | cons r rs ih => simp [tcells, ih]
theorem tcells_len (l : List TyV) : (tcells l).length = l.length * 3 := by
  induction l with
  | nil => rfl
  | cons r rs ih => simp [tcells, ih]; omega
theorem tcells_one (l : List TyV) : ∀ u ∈ tcells l, u.oneCell' = true := by
  induction l with
  | nil => simp [tcells]
  | cons r rs ih =>
    intro u hu
    simp only [tcells, List.mem_cons] at hu
    rcases hu with rfl | rfl | rfl | hu
    · rfl
    · rfl
    · rfl
    · exact ih u hu
theorem tcells_get (l : List TyV) : ∀ (i : Nat) (h : i < l.length), (tcells l)[i * 3]? = some (.int .i64 l[i].kind) ∧ (tcells l)[i * 3 + 1]? = some (.int .i64 l[i].len) ∧ (tcells l)[i * 3 + 2]? = some (.string l[i].nm) := by
  induction l with
  | nil => intro i h; simp at h
  | cons r rs ih =>
    intro i h
    cases i with
    | zero => simp [tcells]
    | succ i =>
      have h' := ih i (by simpa using h)
      rw [show (i + 1) * 3 = i * 3 + 3 from by omega]
      simpa [tcells] using h'
theorem tcells_pats (n : Nat) : rowK n n = tcells (List.replicate n (bsc 1)) := by
  have e : ∀ n, pats n = tcells (List.replicate n (bsc 1)) := by
    intro n
    induction n with
    | zero => rfl
    | succ n ih =>
      unfold pats at *
      rw [List.replicate_succ, List.flatten_cons, ih, List.replicate_succ]
      rfl
  unfold rowK
  rw [Nat.sub_self, e]
  simp [zers]
theorem ty_addr_add (g k : Nat) : (⟨g, 0, none⟩ : Addr).add k = ⟨g, 0 + k, none⟩ := by
  unfold Addr.add
  by_cases hk : k = 0
  · simp [hk]
  · simp [hk]
/-- a row of its own that holds types reads as they -/
theorem types_own {w : World} {B : Nat} {v : Value} {l : List TyV} (h : w.ownsRow B 31 3 v l.length (tcells l)) : ∃ A c, v = .slice A l.length c ∧ TRow w.heap.size w A l := by
  rcases Nat.eq_zero_or_pos l.length with h0 | h0
  · rcases h.2 with ⟨rfl, _⟩ | ⟨g, cap, cur, rfl, _⟩
    · exact ⟨none, 0, by rw [h0], fun hh => by omega⟩
    · exact ⟨_, _, rfl, fun hh => by omega⟩
  · obtain ⟨g, cap, hv, _, hlt⟩ := h.form h0
    refine ⟨some ⟨g, 0, none⟩, cap, hv, fun _ => ⟨g, 0, rfl, hlt, fun i hi => ?_⟩⟩
    have hc := h.cells (g := g) (by rw [hv]; rfl)
    obtain ⟨e1, e2, e3⟩ := tcells_get l i hi
    have a1 := hc _ _ e1
    have a2 := hc _ _ e2
    have a3 := hc _ _ e3
    rw [ty_addr_add] at a1 a2 a3
    exact ⟨a1, a2, a3⟩
theorem ty_own_below {w w' : World} {B n sz : Nat} {E : TypeId} {v : Value} {xs : List Value} (h : w.ownsRow B E sz v n xs) (hb : Below w.heap.size w w') : w'.ownsRow B E sz v n xs :=
  h.kept (row := none) ⟨hb.os, hb.tape, hb.output, hb.size, fun k hk _ => hb.block k hk⟩ (by
    cases hv : v.ownBlock with
    | none => exact .inl rfl
    | some g => exact .inr (by simp))
theorem ty_own_base {w : World} {B B' n sz : Nat} {E : TypeId} {v : Value} {xs : List Value} (hB : B' ≤ B) (h : w.ownsRow B E sz v n xs) : w.ownsRow B' E sz v n xs := by
  refine ⟨h.1, ?_⟩
  rcases h.2 with h0 | ⟨g, cap, cur, hv, hb, hr⟩
  · exact .inl h0
  · exact .inr ⟨g, cap, cur, hv, by omega, hr⟩
/-- a block of n new elements is a row of n types -/
theorem own_block {w : World} {g : Nat} (l : List TyV) (hg : w.heap[g]? = some (.cells (tcells l).toArray 31 (0, 0))) (B : Nat) (hB : B ≤ g) (hl : l.length ≤ 1000000) : w.ownsRow B 31 3 (.slice (some ⟨g, 0, none⟩) l.length l.length) l.length (tcells l) :=
  ⟨tcells_len l, .inr ⟨g, l.length, (tcells l).toArray, rfl, hB, hg, Nat.le_refl _, by unfold maxLen; omega, by rw [List.size_toArray, tcells_len], by have h : (tcells l).length ≤ l.length * 3 := (by rw [tcells_len]; exact Nat.le_refl _); simpa using List.take_of_length_le h⟩⟩

section
variable {P : Program} (w : World)
theorem run_append_none (t ty e : TypeId) (i : TypeInfo) (ht : P.underlying t = some (.slice e)) (hi : P.info? e = some i) (b : Option Addr) (n cap c : Nat) (hn : n ≤ cap) :
    (Builtin.append_ #[t, t] ty #[.slice b n cap, .slice none 0 c]).run P w = .ok (.slice b n cap) w := by
  cases b with
  | none => simp [Builtin.append_, run_underlying ht, sizeOf, typeInfo, hi, Builtin.lenOf, Builtin.firstCells, hn]
  | some a => simp [Builtin.append_, run_underlying ht, sizeOf, typeInfo, hi, Builtin.lenOf, Builtin.firstCells, hn, storeCells]
end
end Go.Proofs.YtlpoeflbnpbmgaaGreatDoor
set_option linter.unusedVariables false
namespace Go.Proofs.YtlpoeflbnpbmgaaGreatDoor
open Go.RowKit

/-- a field's type, by the word of its kid -/
def scK (t : NT) : TyV := if t.text.toList == [98, 111, 111, 108] then bsc 2 else bsc 1
def scF (f : NT) : TyV := match f.kids[0]? with | some t => scK t | none => bsc 0
def recF (k : NT) : List FldV := k.kids.map (fun f => ⟨f.text, scF f⟩)
def recL (ks : List NT) : List (ByteArray × List FldV) := (ks.filter (fun k => k.kind == 3)).map (fun k => (k.text, recF k))
theorem recL_succ {ks : List NT} {k : Nat} (h : k < ks.length) : recL (ks.take (k + 1)) = recL (ks.take k) ++ (if ks[k].kind == 3 then [(ks[k].text, recF ks[k])] else []) := by
  unfold recL
  rw [List.take_succ_eq_append_getElem h, List.filter_append, List.map_append]
  cases hk : (ks[k].kind == 3) <;> simp [List.filter, hk]
/-- what a program's shape says of its records -/
def FieldsOK (n : NT) : Prop := ∀ k ∈ n.kids, (k.kind == 3) = true → ∀ f ∈ k.kids, ∃ t, f.kids[0]? = some t ∧ (t.kind == 9) = true ∧ ((t.text.toList == [105, 110, 116]) = true ∨ (t.text.toList == [105, 110, 116]) = false ∧ (t.text.toList == [98, 111, 111, 108]) = true)
theorem wrT_basic {nv : ByteArray → Nat} {t : NT} (h9 : (t.kind == 9) = true) (h : (t.text.toList == [105, 110, 116]) = true ∨ (t.text.toList == [105, 110, 116]) = false ∧ (t.text.toList == [98, 111, 111, 108]) = true) : wrT nv t = scK t ∧ (scK t = bsc 1 ∨ scK t = bsc 2) := by
  rcases h with h1 | ⟨h1, h2⟩
  · have e : t.text.toList = [105, 110, 116] := by simpa using h1
    have h2 : (t.text.toList == [98, 111, 111, 108]) = false := by rw [e]; rfl
    exact ⟨by unfold wrT scK; rw [h9, h1, h2]; rfl, .inl (by unfold scK; rw [h2]; rfl)⟩
  · exact ⟨by unfold wrT scK; rw [h9, h1, h2]; rfl, .inr (by unfold scK; rw [h2]; rfl)⟩

/-- the cells of fields, of records -/
def fcells : List FldV → List Value
  | [] => []
  | f :: fs => .string f.name :: .int .i64 f.ty.kind :: .int .i64 f.ty.len :: .string f.ty.nm :: fcells fs
theorem fcells_append (l m : List FldV) : fcells (l ++ m) = fcells l ++ fcells m := by
  induction l with
  | nil => rfl
  | cons r rs ih => simp [fcells, ih]
theorem fcells_len (l : List FldV) : (fcells l).length = l.length * 4 := by
  induction l with
  | nil => rfl
  | cons r rs ih => simp [fcells, ih]; omega
theorem fcells_one (l : List FldV) : ∀ u ∈ fcells l, u.oneCell' = true := by
  induction l with
  | nil => simp [fcells]
  | cons r rs ih =>
    intro u hu
    simp only [fcells, List.mem_cons] at hu
    rcases hu with rfl | rfl | rfl | rfl | hu
    · rfl
    · rfl
    · rfl
    · rfl
    · exact ih u hu
theorem fcells_get (l : List FldV) : ∀ (i : Nat) (h : i < l.length), (fcells l)[i * 4]? = some (.string l[i].name) ∧ (fcells l)[i * 4 + 1]? = some (.int .i64 l[i].ty.kind) ∧ (fcells l)[i * 4 + 2]? = some (.int .i64 l[i].ty.len) ∧ (fcells l)[i * 4 + 3]? = some (.string l[i].ty.nm) := by
  induction l with
  | nil => intro i h; simp at h
  | cons r rs ih =>
    intro i h
    cases i with
    | zero => simp [fcells]
    | succ i =>
      have h' := ih i (by simpa using h)
      rw [show (i + 1) * 4 = i * 4 + 4 from by omega]
      simpa [fcells] using h'
theorem flds_own {w : World} {B : Nat} {A : Option Addr} {n c : Nat} {l : List FldV} (h : w.ownsRow B 58 4 (.slice A n c) n (fcells l)) (hn : l.length = n) : FRow w.heap.size w A l := fun h0 => by
  obtain ⟨g, cap, hv, _, hlt⟩ := h.form (by omega)
  cases hv
  have hc := h.cells (g := g) rfl
  refine ⟨g, 0, rfl, hlt, fun i hi => ?_⟩
  obtain ⟨e1, e2, e3, e4⟩ := fcells_get l i hi
  have a1 := hc _ _ e1
  have a2 := hc _ _ e2
  have a3 := hc _ _ e3
  have a4 := hc _ _ e4
  rw [ty_addr_add] at a1 a2 a3 a4
  exact ⟨a1, a2, a3, a4⟩
def rcells : List RcV → List Value
  | [] => []
  | r :: rs => .string r.name :: .slice r.A r.flds.length r.c :: rcells rs
theorem rcells_append (l m : List RcV) : rcells (l ++ m) = rcells l ++ rcells m := by
  induction l with
  | nil => rfl
  | cons r rs ih => simp [rcells, ih]
theorem rcells_len (l : List RcV) : (rcells l).length = l.length * 2 := by
  induction l with
  | nil => rfl
  | cons r rs ih => simp [rcells, ih]; omega
theorem rcells_one (l : List RcV) : ∀ u ∈ rcells l, u.oneCell' = true := by
  induction l with
  | nil => simp [rcells]
  | cons r rs ih =>
    intro u hu
    simp only [rcells, List.mem_cons] at hu
    rcases hu with rfl | rfl | hu
    · rfl
    · rfl
    · exact ih u hu
theorem rcells_get (l : List RcV) : ∀ (i : Nat) (h : i < l.length), (rcells l)[i * 2]? = some (.string l[i].name) ∧ (rcells l)[i * 2 + 1]? = some (.slice l[i].A l[i].flds.length l[i].c) := by
  induction l with
  | nil => intro i h; simp at h
  | cons r rs ih =>
    intro i h
    cases i with
    | zero => simp [rcells]
    | succ i =>
      have h' := ih i (by simpa using h)
      rw [show (i + 1) * 2 = i * 2 + 2 from by omega]
      simpa [rcells] using h'
/-- a row of records that the call owns, whose fields lie in rows of their own -/
def RecsOwn (w : World) (B : Nat) (v : Value) (rs : List RcV) : Prop :=
  w.ownsRow B 39 2 v rs.length (rcells rs) ∧ ∀ r ∈ rs, w.ownsRow B 58 4 (.slice r.A r.flds.length r.c) r.flds.length (fcells r.flds) ∧ r.flds.length ≤ 1000000000
theorem recs_row {w : World} {B : Nat} {v : Value} {rs : List RcV} (h : RecsOwn w B v rs) : ∃ A c, v = .slice A rs.length c ∧ RRow w.heap.size w A rs := by
  rcases Nat.eq_zero_or_pos rs.length with h0 | h0
  · rcases h.1.2 with ⟨rfl, _⟩ | ⟨g, cap, cur, rfl, _⟩
    · exact ⟨none, 0, by rw [h0], fun hh => by omega⟩
    · exact ⟨_, _, rfl, fun hh => by omega⟩
  · obtain ⟨g, cap, hv, _, hlt⟩ := h.1.form h0
    refine ⟨some ⟨g, 0, none⟩, cap, hv, fun _ => ⟨g, 0, rfl, hlt, fun i hi => ?_⟩⟩
    have hc := h.1.cells (g := g) (by rw [hv]; rfl)
    obtain ⟨e1, e2⟩ := rcells_get rs i hi
    have a1 := hc _ _ e1
    have a2 := hc _ _ e2
    rw [ty_addr_add] at a1 a2
    have h2 := h.2 _ (List.getElem_mem hi)
    exact ⟨a1, a2, flds_own h2.1 rfl, h2.2⟩
theorem RecsOwn.below {w w' : World} {B : Nat} {v : Value} {rs : List RcV} (h : RecsOwn w B v rs) (hb : Below w.heap.size w w') : RecsOwn w' B v rs :=
  ⟨ty_own_below h.1 hb, fun r hr => ⟨ty_own_below (h.2 r hr).1 hb, (h.2 r hr).2⟩⟩
theorem infoFld : (Tryz.prog.info? 58).map (fun i => (i.zero, i.size, i.bytes)) = some (some (.agg #[.string ⟨#[]⟩, .int .i64 0, .int .i64 0, .string ⟨#[]⟩]), 4, 48) := by kernel_rfl
theorem infoRc : (Tryz.prog.info? 39).map (fun i => (i.zero, i.size, i.bytes)) = some (some (.agg #[.string ⟨#[]⟩, .slice none 0 0]), 2, 40) := by kernel_rfl
end Go.Proofs.YtlpoeflbnpbmgaaGreatDoor
set_option linter.unusedVariables false
namespace Go.Proofs.YtlpoeflbnpbmgaaGreatDoor
open Go.RowKit

theorem InT.later {w W : World} {n : NT} (h : InT w.heap.size w n) (hb : Below w.heap.size w W) : InT W.heap.size W n := InT.mono hb.size n (InT.below hb n h)
theorem InT.kidAt {n₀ : Nat} {w : World} {n : NT} (h : InT n₀ w n) {i : Nat} (hi : i < n.kids.length) : InT n₀ w n.kids[i] := h.kid (List.getElem_mem hi)
theorem box_cells (w : World) (a b c d e : Value) (t : TypeId) : (w.alloc (.cells #[a, b, c, d, e] t)).cell? ⟨w.heap.size, 0, none⟩ = some a ∧ (w.alloc (.cells #[a, b, c, d, e] t)).cell? ⟨w.heap.size, 1, none⟩ = some b ∧ (w.alloc (.cells #[a, b, c, d, e] t)).cell? ⟨w.heap.size, 2, none⟩ = some c ∧ (w.alloc (.cells #[a, b, c, d, e] t)).cell? ⟨w.heap.size, 3, none⟩ = some d ∧ (w.alloc (.cells #[a, b, c, d, e] t)).cell? ⟨w.heap.size, 4, none⟩ = some e := by
  have h : (w.alloc (.cells #[a, b, c, d, e] t)).heap[w.heap.size]? = some (.cells #[a, b, c, d, e] t (0, 0)) := heap_alloc_new w _
  exact ⟨Lib.cell_of_heap h 0, Lib.cell_of_heap h 1, Lib.cell_of_heap h 2, Lib.cell_of_heap h 3, Lib.cell_of_heap h 4⟩

end Go.Proofs.YtlpoeflbnpbmgaaGreatDoor
