/- What is proved: Repeat of one int, a small number of times. -/
import Derived.Test.YtoopnddlcofhoaaGreatDoorTyCopy
import Derived.Test.YtoopnddlcofhoaaGreatDoorTyMul
set_option linter.unusedVariables false
namespace Go.Proofs.YtoopnddlcofhoaaGreatDoor
open Go.RowKit

theorem infoType : (Tryz.prog.info? 23).map (fun i => (i.zero, i.size, i.bytes)) = some (some (.agg #[.int .i64 0, .int .i64 0, .string ⟨#[]⟩]), 3, 32) := by kernel_rfl
theorem info_parts {x : Option TypeInfo} {z : Value} {s b : Nat} (h : x.map (fun i => (i.zero, i.size, i.bytes)) = some (some z, s, b)) : ∃ i, x = some i ∧ i.zero = some z ∧ i.size = s ∧ i.bytes = b := by
  cases x with
  | none => cases h
  | some i =>
    simp only [Option.map_some, Option.some.injEq, Prod.mk.injEq] at h
    exact ⟨i, rfl, h.1, h.2.1, h.2.2⟩
theorem made_0 : madeCells #[.int .i64 0, .int .i64 0, .string ⟨#[]⟩] (0 * 3) = (zers 0).toArray := by kernel_rfl
theorem made_1 : madeCells #[.int .i64 0, .int .i64 0, .string ⟨#[]⟩] (1 * 3) = (zers 1).toArray := by kernel_rfl
theorem made_2 : madeCells #[.int .i64 0, .int .i64 0, .string ⟨#[]⟩] (2 * 3) = (zers 2).toArray := by kernel_rfl
theorem made_3 : madeCells #[.int .i64 0, .int .i64 0, .string ⟨#[]⟩] (3 * 3) = (zers 3).toArray := by kernel_rfl
theorem made_4 : madeCells #[.int .i64 0, .int .i64 0, .string ⟨#[]⟩] (4 * 3) = (zers 4).toArray := by kernel_rfl
theorem made_5 : madeCells #[.int .i64 0, .int .i64 0, .string ⟨#[]⟩] (5 * 3) = (zers 5).toArray := by kernel_rfl
theorem made_6 : madeCells #[.int .i64 0, .int .i64 0, .string ⟨#[]⟩] (6 * 3) = (zers 6).toArray := by kernel_rfl
theorem made_7 : madeCells #[.int .i64 0, .int .i64 0, .string ⟨#[]⟩] (7 * 3) = (zers 7).toArray := by kernel_rfl
theorem made_8 : madeCells #[.int .i64 0, .int .i64 0, .string ⟨#[]⟩] (8 * 3) = (zers 8).toArray := by kernel_rfl
theorem made_zers (n : Nat) (hn : n ≤ 8) : madeCells #[.int .i64 0, .int .i64 0, .string ⟨#[]⟩] (n * 3) = (zers n).toArray := by
  have h : n = 0 ∨ n = 1 ∨ n = 2 ∨ n = 3 ∨ n = 4 ∨ n = 5 ∨ n = 6 ∨ n = 7 ∨ n = 8 := by omega
  rcases h with rfl | rfl | rfl | rfl | rfl | rfl | rfl | rfl | rfl
  · exact made_0
  · exact made_1
  · exact made_2
  · exact made_3
  · exact made_4
  · exact made_5
  · exact made_6
  · exact made_7
  · exact made_8
theorem run_make_types (n : Nat) (hn : n ≤ 8) (W : World) : (Instr.makeSlice 46 (.int .i64 (n : Int)) (.int .i64 (n : Int))).run Tryz.prog W = .ok (.slice (some ⟨W.heap.size, 0, none⟩) n n) (W.alloc (.cells (rowK 0 n).toArray 23)) := by
  obtain ⟨i0, hi0, hz0, hz1, hz2⟩ := info_parts infoType
  have h := run_make (P := Tryz.prog) W 46 23 i0 _ Tryz.underlying46 hi0 hz0 .i64 .i64 n n (by omega) (by omega) (by rw [hz2]; omega) (by omega)
  rw [hz1, Int.toNat_natCast] at h
  rw [h]
  have e := made_zers n hn
  rw [show rowK 0 n = zers n from by simp [rowK, pats], ← e]
  rfl
theorem run_slice_to (A : Option Addr) (len c F : Nat) (h : F ≤ c) (hF : F ≤ 1000000000) (W : World) : (Instr.slice 46 (.slice A len c) none (some (.int .i64 (F : Int))) none).run Tryz.prog W = .ok (.slice A F c) W := by
  obtain ⟨i0, hi0, hz0, hz1, hz2⟩ := info_parts infoType
  have e : (if c = 0 then A else Option.map (fun a => a.add 0) A) = A := by
    split
    · rfl
    · cases A <;> simp [Addr.add]
  simp [Instr.slice, run_underlying Tryz.underlying46, Instr.sliceBounds, Instr.sliceBound, asIntOf, h, sizeOf, typeInfo, hi0, e]
theorem run_slice_from (b len c T : Nat) (h : T ≤ len) (hc : c ≠ T) (W : World) : (Instr.slice 46 (.slice (some ⟨b, 0, none⟩) len c) (some (.int .i64 (T : Int))) none none).run Tryz.prog W = .ok (.slice (some ⟨b, T * 3, none⟩) (len - T) (c - T)) W := by
  obtain ⟨i0, hi0, hz0, hz1, hz2⟩ := info_parts infoType
  simp [Instr.slice, run_underlying Tryz.underlying46, Instr.sliceBounds, Instr.sliceBound, asIntOf, h, sizeOf, typeInfo, hi0, hz1, hc, Addr.add]
  intro h; omega
theorem infoSize : (Tryz.prog.info? 23).map (·.size) = some 3 := by kernel_rfl

theorem copy_row (W w0 : World) (g k m n b o sLen sCap B : Nat) (hg : W.heap[g]? = some (.cells (rowK k n).toArray 23 (0, 0))) (hk : k + m ≤ n) (hm : Nat.min sLen (n - k) = m)
    (hsrc : ∀ j v, (pats m)[j]? = some v → W.cell? ((⟨b, o, none⟩ : Addr).add j) = some v) (hb : Below B w0 W) (hBg : B ≤ g) :
    ∃ w', (Builtin.copy_ #[46, 46] 3 #[.slice (some ⟨g, k * 3, none⟩) (n - k) (n - k), .slice (some ⟨b, o, none⟩) sLen sCap]).run Tryz.prog W = .ok (.int .i64 (m : Int)) w' ∧ w'.heap[g]? = some (.cells (rowK (k + m) n).toArray 23 (0, 0)) ∧ Below B w0 w' := by
  have h := run_copy_rowN (P := Tryz.prog) W 46 46 3 23 g (k * 3) (n - k) (n - k) ⟨b, o, none⟩ sLen sCap 3 (rowK k n).toArray 23 (pats m) Tryz.underlying46 infoSize hg (by rw [pats_len, hm]) hsrc
    (by rw [pats_len, List.size_toArray, rowK_len _ _ (by omega)]; omega) (pats_one m)
  rw [hm, List.toList_toArray, rowK_splice k m n hk] at h
  exact ⟨_, h, setRow_heap W g _ _ _ _ hg, below_setRow hb hBg _⟩

set_option maxRecDepth 100000 in
set_option maxHeartbeats 2000000 in
theorem repeat_any (b n : Nat) (h1 : 1 ≤ n) (h8 : n ≤ 8) (w : World) (hs : TCells w b 0 (bsc 1)) (hb : b < w.heap.size) :
    Calls Tryz.prog 53 #[.slice (some ⟨b, 0, none⟩) 1 1, .int .i64 (n : Int)] w fun e w' => e = .returned (.slice (some ⟨w.heap.size, 0, none⟩) n n) ∧ w'.heap[w.heap.size]? = some (.cells (rowK n n).toArray 23 (0, 0)) ∧ Below w.heap.size w w' := by
  have HS := Lib.hid hs
  have HMK := Lib.hid (fun W => run_make_types n h8 W)
  clear hs
  go_enter Tryz.func53, Tryz.ntmps53
  go_wp2_with (fail)
  refine (mul_any n h8 w).mono ?_
  rintro e w' ⟨rfl, rfl⟩
  have hmk := HMK.out w
  have hng : decide ((9223372036854775807 : Int) < (n : Int)) = false := by simp; omega
  have hsn : (0 : Int) < (n : Int) := by omega
  have hb0 := (Below.refl w.heap.size w).alloc (Nat.le_refl _) (.cells (rowK 0 n).toArray 23)
  obtain ⟨w2, hc2, hg2, hb2⟩ := copy_row (w.alloc (.cells (rowK 0 n).toArray 23)) w w.heap.size 0 1 n b 0 1 1 w.heap.size (heap_alloc_new w _) (by omega) (by show min 1 (n - 0) = 1; omega)
    (fun j v hj => by
      have hcs := HS.out.below hb0 hb
      have hadd : (⟨b, 0, none⟩ : Addr).add j = ⟨b, j, none⟩ := by unfold Addr.add; split <;> simp_all
      rw [hadd]
      match j, hj with
      | 0, hj => cases hj; exact hcs.1
      | 1, hj => cases hj; exact hcs.2.1
      | 2, hj => cases hj; exact hcs.2.2) hb0 (Nat.le_refl _)
  rw [Nat.zero_mul, Nat.sub_zero] at hc2
  have HC2 := Lib.hid hc2
  have HG2 := Lib.hid hg2
  have HB2 := Lib.hid hb2
  clear hc2 hg2 hb2 hb0
  go_wp2_with (refine wpList_copy_by _ (by rfl) (.tmp 31) (.tmp 32) 46 46 (by rfl) _ _ (by rfl) (by rfl) _ _ HC2.out ?_)
  clear hmk
  go_loopw [8] (fun i wr => ∃ k : Nat, 1 ≤ k ∧ k ≤ n ∧ i = .int .i64 (k : Int) ∧ Hid (wr.heap[w.heap.size]? = some (.cells (rowK k n).toArray 23 (0, 0))) ∧ Hid (Below w.heap.size w wr)) (fun i _ => n - (intOf i).toNat)
  case atStart => exact ⟨1, Nat.le_refl _, h1, rfl, HG2, HB2⟩
  case round =>
    obtain ⟨k, hk1, hkn, rfl, hgr, hbr⟩ := hrel
    by_cases hlt : k < n
    · obtain ⟨m, HM⟩ : ∃ m, Hid (Nat.min k (n - k) = m) := ⟨_, Lib.hid rfl⟩
      have hm1 : 1 ≤ m := by rw [← HM.out]; show 1 ≤ min k (n - k); omega
      have hm2 : k + m ≤ n := by rw [← HM.out]; show k + min k (n - k) ≤ n; omega
      have hm3 : m ≤ k := by rw [← HM.out]; show min k (n - k) ≤ k; omega
      obtain ⟨w3, hc3, hg3, hb3⟩ := copy_row wr.drew w w.heap.size k m n w.heap.size 0 k n w.heap.size hgr.out hm2 HM.out
        (fun j v hj => by
          have hadd : (⟨w.heap.size, 0, none⟩ : Addr).add j = ⟨w.heap.size, j, none⟩ := by unfold Addr.add; split <;> simp_all
          have hj' := rowK_src k m n hm3 j v hj
          rw [hadd]
          show wr.cell? ⟨w.heap.size, j, none⟩ = some v
          rw [Lib.cell_of_heap hgr.out j]
          simpa using hj') hbr.out.drew (Nat.le_refl _)
      have HC3 := Lib.hid hc3
      have HG3 := Lib.hid hg3
      have HB3 := Lib.hid hb3
      have hsf := fun W => run_slice_from w.heap.size n n k hkn (by omega) W
      have hst := fun W => run_slice_to (some ⟨w.heap.size, 0, none⟩) n n k hkn (by omega) W
      have hwr : IntKind.i64.wrap ((k : Int) + (m : Int)) = (k : Int) + (m : Int) := IntWalk.i64_in _ (by omega)
      have HK := Lib.hid (show w3.cell? ⟨b, 0, none⟩ = some (.int .i64 1) from (HS.out.below hb3 hb).1)
      have c0 : wr.cell? ⟨b, 0, none⟩ = some (.int .i64 1) := (HS.out.below hbr.out hb).1
      clear hc3 hg3 hb3
      go_wp2_with (fail)
      go_region_held3 (fun w' => w'.cell? ⟨b, 0, none⟩ = some (.int .i64 1)) (first | (with_reducible exact HK.out) | go_keep) ((refine step_copy_by _ (by rfl) (.tmp 41) (.tmp 44) 46 46 (by rfl) _ _ (by rfl) (by rfl) _ _ HC3.out ?_))
      all_goals
        go_wp2_with (fail)
        exact ⟨⟨k + m, by omega, hm2, by go_num, HG3, HB3⟩, by simp [intOf]; omega⟩
    · obtain rfl : k = n := by omega
      go_wp2_with (fail)
      go_ret
      exact ⟨rfl, hgr.out, hbr.out⟩
end Go.Proofs.YtoopnddlcofhoaaGreatDoor
