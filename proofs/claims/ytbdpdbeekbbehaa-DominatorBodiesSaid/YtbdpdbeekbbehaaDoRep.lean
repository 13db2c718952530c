/- What is proved: Repeat of one number. -/
import Derived.Test.YtbdpdbeekbbehaaDoBase
import Derived.Laws.CopyRow
import Derived.Laws.IdiomCopy
import Derived.Laws.CopyOwn
import Derived.Laws.OwnMore
set_option linter.unusedVariables false
namespace Go.Proofs.Ytbdpdbeekbbehaa
open Go.RowKit

set_option maxRecDepth 100000 in
theorem mul64_any (n : Nat) (hn : n ≤ 30) (w : World) : Calls Try.prog 89 #[.int .u64 1, .int .u64 (n : Int)] w fun e w' => e = .returned (.tuple #[.int .u64 0, .int .u64 (n : Int)]) ∧ w = w' := by
  have h : n = 0 ∨ n = 1 ∨ n = 2 ∨ n = 3 ∨ n = 4 ∨ n = 5 ∨ n = 6 ∨ n = 7 ∨ n = 8 ∨ n = 9 ∨ n = 10 ∨ n = 11 ∨ n = 12 ∨ n = 13 ∨ n = 14 ∨ n = 15 ∨ n = 16 ∨ n = 17 ∨ n = 18 ∨ n = 19 ∨ n = 20 ∨ n = 21 ∨ n = 22 ∨ n = 23 ∨ n = 24 ∨ n = 25 ∨ n = 26 ∨ n = 27 ∨ n = 28 ∨ n = 29 ∨ n = 30 := by omega
  rcases h with rfl | rfl | rfl | rfl | rfl | rfl | rfl | rfl | rfl | rfl | rfl | rfl | rfl | rfl | rfl | rfl | rfl | rfl | rfl | rfl | rfl | rfl | rfl | rfl | rfl | rfl | rfl | rfl | rfl | rfl | rfl
  all_goals
    go_enter Try.func89, Try.ntmps89
    go_wp2_with (fail)
    go_ret2
    exact ⟨rfl, rfl⟩
theorem mul_any (n : Nat) (hn : n ≤ 30) (w : World) : Calls Try.prog 75 #[.int .u64 1, .int .u64 (n : Int)] w fun e w' => e = .returned (.tuple #[.int .u64 0, .int .u64 (n : Int)]) ∧ w = w' := by
  go_enter Try.func75, Try.ntmps75
  go_wp2_with (fail)
  refine (mul64_any n hn w).mono ?_
  rintro e w' ⟨rfl, rfl⟩
  go_wp2_with (fail)
  go_ret2
  exact ⟨rfl, rfl⟩
section
variable {P : Program} (w : World)
theorem run_copy_rowN (dT sT ty elem : TypeId) (g o dLen dCap : Nat) (a : Addr) (sLen sCap q : Nat) (cur : Array Value) (t : TypeId) (cs : List Value)
    (hu : P.underlying dT = some (.slice elem)) (hs : (P.info? elem).map (·.size) = some q)
    (hg : w.heap[g]? = some (.cells cur t (0, 0))) (hn : cs.length = Nat.min sLen dLen * q)
    (hsrc : ∀ j v, cs[j]? = some v → w.cell? (a.add j) = some v) (hfit : o + cs.length ≤ cur.size) (h1 : ∀ v ∈ cs, v.oneCell' = true) :
    (Builtin.copy_ #[dT, sT] ty #[.slice (some ⟨g, o, none⟩) dLen dCap, .slice (some a) sLen sCap]).run P w =
      .ok (goInt (Nat.min sLen dLen)) (w.setRow g (cur.toList.take o ++ cs ++ cur.toList.drop (o + cs.length)).toArray) := by
  have hl := run_loadCells_list (P := P) w a cs hsrc
  have hst := run_storeCells_at P g o t cs 0 cur w hg (by simpa using hfit) h1
  cases hq : P.info? elem with
  | none => simp [hq] at hs
  | some i =>
    have hi : i.size = q := by simpa [hq] using hs
    rw [hn] at hl
    simp [Builtin.copy_, run_underlying hu, Builtin.lenOf, Builtin.firstCells, sizeOf, typeInfo, hq, hi, hl, hst]
theorem wpList_copy_by {ops : Array Oper} {rest : List Oper} {o : Oper} {a : Act} {Q : Exit → Act → World → Prop} (hgd : o.guard = none) (s x : Operand) (t u : TypeId)
    (ho : o.op = .call { callee := .builtin .copy, args := #[s, x], argTypes := #[t, u] }) (sv xv : Value) (hs : a.eval s = sv) (hx : a.eval x = xv) (v : Value) (w' : World)
    (hr : (Builtin.copy_ #[t, u] o.type #[sv, xv]).run P w = .ok v w') (h : wpList P ops Q rest (a.put o.dst v) w') : wpList P ops Q (o :: rest) a w :=
  wpList_plain hgd fun _ hK => by
    unfold Oper.wp execOp
    simp only [ho, resolve, invoke, builtin, Sem.run_bind, Sem.run_pure, Result.andThen_ok, List.map_toArray, List.map_cons, List.map_nil, hs, hx, hr]
    exact hK _ _ h
theorem step_copy_by {ops : Array Oper} {o : Oper} {a : Act} {K : Act → World → Prop} {Q : Exit → Act → World → Prop} {E : Prop} (hgd : o.guard = none) (s x : Operand) (t u : TypeId)
    (ho : o.op = .call { callee := .builtin .copy, args := #[s, x], argTypes := #[t, u] }) (sv xv : Value) (hs : a.eval s = sv) (hx : a.eval x = xv) (v : Value) (w' : World)
    (hr : (Builtin.copy_ #[t, u] o.type #[sv, xv]).run P w = .ok v w') (h : K (a.put o.dst v) w') :
    if Region.wanted o (yielded ops a.tmps) = true then Oper.wp P o a w K Q else E := by
  have hw : Region.wanted o (yielded ops a.tmps) = true := by simp [Region.wanted, hgd]
  rw [if_pos hw]
  unfold Oper.wp execOp
  simp only [ho, resolve, invoke, builtin, Sem.run_bind, Sem.run_pure, Result.andThen_ok, List.map_toArray, List.map_cons, List.map_nil, hs, hx, hr]
  exact h
end


/-- the row with k of n numbers written -/
def rowI (x : Int) (k n : Nat) : List Value := List.replicate k (.int .i64 x) ++ List.replicate (n - k) (.int .i64 0)
theorem rowI_len (x : Int) (k n : Nat) (h : k ≤ n) : (rowI x k n).length = n := by unfold rowI; simp; omega
theorem rowI_splice (x : Int) (k m n : Nat) (h : k + m ≤ n) : (rowI x k n).take k ++ List.replicate m (.int .i64 x) ++ (rowI x k n).drop (k + m) = rowI x (k + m) n := by
  unfold rowI
  rw [List.take_append_of_le_length (by simp), List.take_of_length_le (by simp), List.drop_append, List.drop_of_length_le (by simp), List.nil_append, List.drop_replicate, List.replicate_append_replicate]
  congr 2
  simp
  omega
theorem rowI_src (x : Int) (k n : Nat) (j : Nat) (hj : j < k) : (rowI x k n)[j]? = some (.int .i64 x) := by
  unfold rowI
  rw [List.getElem?_append_left (by simpa using hj)]
  simp [hj]
theorem hdr_row (n : Nat) : hdr (fun _ => .int .i64 0) n = (rowI 0 0 n).toArray := by
  unfold hdr rowI
  congr 1
  rw [List.replicate_zero, List.nil_append, Nat.sub_zero]
  rw [List.map_const']
  simp
theorem rowI_zero (x : Int) (n : Nat) : rowI x 0 n = rowI 0 0 n := rfl
theorem infoSize : (Try.prog.info? 3).map (·.size) = some 1 := by kernel_rfl
theorem run_int_to (A : Option Addr) (len c F : Nat) (h : F ≤ c) (W : World) : (Instr.slice 29 (.slice A len c) none (some (.int .i64 (F : Int))) none).run Try.prog W = .ok (.slice A F c) W := by
  obtain ⟨i0, hi0, hz0, hz1, hz2⟩ := info_parts infoInt
  have e : (if c = 0 then A else Option.map (fun a => a.add 0) A) = A := by
    split
    · rfl
    · cases A <;> simp [Addr.add]
  simp [Instr.slice, run_underlying Try.underlying29, Instr.sliceBounds, Instr.sliceBound, asIntOf, h, sizeOf, typeInfo, hi0, e]
theorem run_int_from (b len c T : Nat) (h : T ≤ len) (hc : c ≠ T) (W : World) : (Instr.slice 29 (.slice (some ⟨b, 0, none⟩) len c) (some (.int .i64 (T : Int))) none none).run Try.prog W = .ok (.slice (some ⟨b, T, none⟩) (len - T) (c - T)) W := by
  obtain ⟨i0, hi0, hz0, hz1, hz2⟩ := info_parts infoInt
  simp [Instr.slice, run_underlying Try.underlying29, Instr.sliceBounds, Instr.sliceBound, asIntOf, h, sizeOf, typeInfo, hi0, hz1, hc, Addr.add]
  intro h; omega
theorem setRow_heap (w : World) (g : Nat) (cur row : Array Value) (t : TypeId) (fr : Nat × Nat) (h : w.heap[g]? = some (.cells cur t fr)) : (w.setRow g row).heap[g]? = some (.cells row t fr) := by
  simp [World.setRow, Array.getElem?_modify, h]
theorem below_setRow {B : Nat} {w0 w : World} (h : Below B w0 w) {g : Nat} (hg : B ≤ g) (row : Array Value) : Below B w0 (w.setRow g row) := by
  refine h.trans ⟨rfl, rfl, rfl, by simp [World.setRow], fun k hk => ?_⟩
  simp only [World.setRow, Array.getElem?_modify]
  rw [if_neg (by omega)]
theorem copy_int (W w0 : World) (x : Int) (g k m n b o sLen sCap B : Nat) (hg : W.heap[g]? = some (.cells (rowI x k n).toArray 3 (0, 0))) (hk : k + m ≤ n) (hm : Nat.min sLen (n - k) = m)
    (hsrc : ∀ j, j < m → W.cell? ⟨b, o + j, none⟩ = some (.int .i64 x)) (hb : Below B w0 W) (hBg : B ≤ g) :
    ∃ w', (Builtin.copy_ #[29, 29] 3 #[.slice (some ⟨g, k, none⟩) (n - k) (n - k), .slice (some ⟨b, o, none⟩) sLen sCap]).run Try.prog W = .ok (.int .i64 (m : Int)) w' ∧ w'.heap[g]? = some (.cells (rowI x (k + m) n).toArray 3 (0, 0)) ∧ Below B w0 w' := by
  have h := run_copy_rowN (P := Try.prog) W 29 29 3 3 g k (n - k) (n - k) ⟨b, o, none⟩ sLen sCap 1 (rowI x k n).toArray 3 (List.replicate m (.int .i64 x)) Try.underlying29 infoSize hg (by rw [List.length_replicate, hm, Nat.mul_one]) (fun j v hj => by
      obtain ⟨h1, h2⟩ := List.getElem?_eq_some_iff.1 hj
      simp at h1 h2
      rw [← h2, Go.WideShapes.add_plain]
      exact hsrc j h1)
    (by rw [List.length_replicate, List.size_toArray, rowI_len _ _ _ (by omega)]; omega) (fun v hv => by rw [(List.mem_replicate.1 hv).2]; rfl)
  rw [hm, List.toList_toArray, List.length_replicate, rowI_splice x k m n hk] at h
  exact ⟨_, h, setRow_heap W g _ _ _ _ hg, below_setRow hb hBg _⟩

set_option maxRecDepth 100000 in
set_option maxHeartbeats 2000000 in
theorem repeat_any (x : Int) (b n : Nat) (h1 : 1 ≤ n) (h8 : n ≤ 30) (w : World) (hs : w.cell? ⟨b, 0, none⟩ = some (.int .i64 x)) (hb : b < w.heap.size) :
    Calls Try.prog 67 #[.slice (some ⟨b, 0, none⟩) 1 1, .int .i64 (n : Int)] w fun e w' => e = .returned (.slice (some ⟨w.heap.size, 0, none⟩) n n) ∧ w'.heap[w.heap.size]? = some (.cells (rowI x n n).toArray 3 (0, 0)) ∧ Below w.heap.size w w' := by
  have HS := Lib.hid hs
  have HMK := Lib.hid (fun W => do_make_in n (by omega) W)
  clear hs
  go_enter Try.func67, Try.ntmps67
  go_wp2_with (fail)
  refine (mul_any n h8 w).mono ?_
  rintro e w' ⟨rfl, rfl⟩
  have hmk := HMK.out w
  have hng : decide ((9223372036854775807 : Int) < (n : Int)) = false := by simp; omega
  have hsn : (0 : Int) < (n : Int) := by omega
  have hb0 := (Below.refl w.heap.size w).alloc (Nat.le_refl _) (.cells (hdr (fun _ => .int .i64 0) n) 3)
  obtain ⟨w2, hc2, hg2, hb2⟩ := copy_int (w.alloc (.cells (hdr (fun _ => .int .i64 0) n) 3)) w x w.heap.size 0 1 n b 0 1 1 w.heap.size (by rw [rowI_zero, ← hdr_row]; exact heap_alloc_new w _) (by omega) (by show min 1 (n - 0) = 1; omega)
    (fun j hj => by
      obtain rfl : j = 0 := by omega
      exact (hb0.cell (p := ⟨b, 0, none⟩) hb).trans HS.out) hb0 (Nat.le_refl _)
  rw [Nat.sub_zero] at hc2
  have HC2 := Lib.hid hc2
  have HG2 := Lib.hid hg2
  have HB2 := Lib.hid hb2
  clear hc2 hg2 hb2 hb0
  go_wp2_with (refine wpList_copy_by _ (by rfl) (.tmp 31) (.tmp 32) 29 29 (by rfl) _ _ (by rfl) (by rfl) _ _ HC2.out ?_)
  clear hmk
  go_loopw [8] (fun i wr => ∃ k : Nat, 1 ≤ k ∧ k ≤ n ∧ i = .int .i64 (k : Int) ∧ Hid (wr.heap[w.heap.size]? = some (.cells (rowI x k n).toArray 3 (0, 0))) ∧ Hid (Below w.heap.size w wr)) (fun i _ => n - (intOf i).toNat)
  case atStart => exact ⟨1, Nat.le_refl _, h1, rfl, HG2, HB2⟩
  case round =>
    obtain ⟨k, hk1, hkn, rfl, hgr, hbr⟩ := hrel
    by_cases hlt : k < n
    · obtain ⟨m, HM⟩ : ∃ m, Hid (Nat.min k (n - k) = m) := ⟨_, Lib.hid rfl⟩
      have hm1 : 1 ≤ m := by rw [← HM.out]; show 1 ≤ min k (n - k); omega
      have hm2 : k + m ≤ n := by rw [← HM.out]; show k + min k (n - k) ≤ n; omega
      have hm3 : m ≤ k := by rw [← HM.out]; show min k (n - k) ≤ k; omega
      obtain ⟨w3, hc3, hg3, hb3⟩ := copy_int wr.drew w x w.heap.size k m n w.heap.size 0 k n w.heap.size hgr.out hm2 HM.out
        (fun j hj => by
          show wr.cell? ⟨w.heap.size, 0 + j, none⟩ = some (.int .i64 x)
          rw [Nat.zero_add, Lib.cell_of_heap hgr.out j]
          simpa using rowI_src x k n j (by omega)) hbr.out.drew (Nat.le_refl _)
      have HC3 := Lib.hid hc3
      have HG3 := Lib.hid hg3
      have HB3 := Lib.hid hb3
      have hsf := fun W => run_int_from w.heap.size n n k hkn (by omega) W
      have hst := fun W => run_int_to (some ⟨w.heap.size, 0, none⟩) n n k hkn W
      have hwr : IntKind.i64.wrap ((k : Int) + (m : Int)) = (k : Int) + (m : Int) := IntWalk.i64_in _ (by omega)
      have HK := Lib.hid (show w3.cell? ⟨b, 0, none⟩ = some (.int .i64 x) from (hb3.cell (p := ⟨b, 0, none⟩) hb).trans HS.out)
      have c0 : wr.cell? ⟨b, 0, none⟩ = some (.int .i64 x) := (hbr.out.cell (p := ⟨b, 0, none⟩) hb).trans HS.out
      clear hc3 hg3 hb3
      go_wp2_with (fail)
      go_region_held3 (fun w' => w'.cell? ⟨b, 0, none⟩ = some (.int .i64 x)) (first | (with_reducible exact HK.out) | go_keep) ((refine step_copy_by _ (by rfl) (.tmp 41) (.tmp 44) 29 29 (by rfl) _ _ (by rfl) (by rfl) _ _ HC3.out ?_))
      all_goals
        go_wp2_with (fail)
        exact ⟨⟨k + m, by omega, hm2, by go_num, HG3, HB3⟩, by simp [intOf]; omega⟩
    · obtain rfl : k = n := by omega
      go_wp2_with (fail)
      go_ret
      exact ⟨rfl, hgr.out, hbr.out⟩
end Go.Proofs.Ytbdpdbeekbbehaa
