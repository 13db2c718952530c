/- What is proved: the example of the laws of value answers true. -/
import Derived.Test.YtoopnddlcofhoaaGreatDoorVaFmt
import Derived.Test.YtoopnddlcofhoaaGreatDoorVaNext
import Derived.Test.YtoopnddlcofhoaaGreatDoorVaBin
set_option linter.unusedVariables false
namespace Go.Proofs.YtoopnddlcofhoaaGreatDoor
open Go.RowKit

theorem bin_e1 : binV (binP 4 (opN (⟨#[47]⟩ : ByteArray).data.toList) (-8) (-1)) = .tuple #[.int .i64 (-8), .int .i64 0, .int .i64 0] := by kernel_rfl
theorem bin_e2 : binV (binP 4 (opN (⟨#[37]⟩ : ByteArray).data.toList) (-8) (-1)) = .tuple #[.int .i64 0, .int .i64 0, .int .i64 0] := by kernel_rfl
theorem bin_e3 : binV (binP 4 (opN (⟨#[47]⟩ : ByteArray).data.toList) (-7) 2) = .tuple #[.int .i64 (-3), .int .i64 0, .int .i64 0] := by kernel_rfl
theorem bin_e4 : binV (binP 4 (opN (⟨#[37]⟩ : ByteArray).data.toList) (-7) 2) = .tuple #[.int .i64 (-1), .int .i64 0, .int .i64 0] := by kernel_rfl
theorem wrp_e : wrpP 4 9 = -7 := by decide
theorem nxt_e : nxtP [0, 0] [1, 2] [0, 2] = some [1, 0] := by kernel_rfl

abbrev exO1 : Obj := .cells #[.string ⟨#[112, 120]⟩, .int .i64 1, .int .i64 0, .string ⟨#[]⟩, .string ⟨#[112, 98]⟩, .int .i64 2, .int .i64 0, .string ⟨#[]⟩] 55
abbrev exO2 (b : Nat) : Obj := .cells #[.string ⟨#[112, 111, 105, 110, 116]⟩, .slice (some ⟨b, 0, none⟩) 2 2] 43
abbrev exZ (x y : Int) : Obj := .cells #[.int .i64 x, .int .i64 y] 3
theorem zrow_new (W : World) (x y : Int) (w' : World) (h : w'.heap[W.heap.size]? = some (.cells #[.int .i64 x, .int .i64 y] 3 (0, 0))) (hs : W.heap.size < w'.heap.size) : ZRow w'.heap.size w' (some ⟨W.heap.size, 0, none⟩) [x, y] := fun _ =>
  ⟨W.heap.size, 0, rfl, hs, fun i hi => by
    have c0 := Lib.cell_of_heap h i
    rw [Nat.zero_add, c0]
    match i, hi with
    | 0, _ => rfl
    | 1, _ => rfl⟩
/-- the example's memory -/
theorem ex_mem (W : World) : ∃ W5, ((((W.alloc exO1).alloc (exO2 W.heap.size)).alloc (exZ 0 0)).alloc (exZ 1 2)).alloc (exZ 0 2) = W5 ∧ Below W.heap.size W W5 ∧ W5.heap.size = W.heap.size + 5 ∧
    RRow W5.heap.size W5 (some ⟨W.heap.size + 1, 0, none⟩) [ptR (some ⟨W.heap.size, 0, none⟩) 2] ∧ ZRow W5.heap.size W5 (some ⟨W.heap.size + 1 + 1, 0, none⟩) [0, 0] ∧ ZRow W5.heap.size W5 (some ⟨W.heap.size + 1 + 1 + 1, 0, none⟩) [1, 2] ∧ ZRow W5.heap.size W5 (some ⟨W.heap.size + 1 + 1 + 1 + 1, 0, none⟩) [0, 2] := by
  have al := fun (X : World) (o : Obj) => (Below.refl X.heap.size X).alloc (Nat.le_refl _) o
  have n1 := heap_alloc_new W exO1
  have z1 := World.size_alloc W exO1
  have b1 := al W exO1
  generalize W.alloc exO1 = W1 at *
  have n2 := heap_alloc_new W1 (exO2 W.heap.size)
  have z2 := World.size_alloc W1 (exO2 W.heap.size)
  have b2 := al W1 (exO2 W.heap.size)
  rw [z1] at n2
  generalize W1.alloc (exO2 W.heap.size) = W2 at *
  have n3 := heap_alloc_new W2 (exZ 0 0)
  have z3 := World.size_alloc W2 (exZ 0 0)
  have b3 := al W2 (exZ 0 0)
  generalize W2.alloc (exZ 0 0) = W3 at *
  have n4 := heap_alloc_new W3 (exZ 1 2)
  have z4 := World.size_alloc W3 (exZ 1 2)
  have b4 := al W3 (exZ 1 2)
  generalize W3.alloc (exZ 1 2) = W4 at *
  have n5 := heap_alloc_new W4 (exZ 0 2)
  have z5 := World.size_alloc W4 (exZ 0 2)
  have b5 := al W4 (exZ 0 2)
  generalize W4.alloc (exZ 0 2) = W5 at *
  have c1 := (b2.trans (b3.mono (by omega))).trans ((b4.trans (b5.mono (by omega))).mono (by omega))
  have c2 := b3.trans ((b4.trans (b5.mono (by omega))).mono (by omega))
  have c3 := b4.trans (b5.mono (by omega))
  have m1 := (c1.block W.heap.size (by omega)).trans n1
  have m2 := (c2.block (W.heap.size + 1) (by omega)).trans n2
  have m3 := (c3.block W2.heap.size (by omega)).trans n3
  have m4 := (b5.block W3.heap.size (by omega)).trans n4
  have r3 := zrow_new W2 0 0 W5 m3 (by omega)
  have r4 := zrow_new W3 1 2 W5 m4 (by omega)
  have r5 := zrow_new W4 0 2 W5 n5 (by omega)
  have e2 : W2.heap.size = W.heap.size + 1 + 1 := by omega
  have e3 : W3.heap.size = W.heap.size + 1 + 1 + 1 := by omega
  have e4 : W4.heap.size = W.heap.size + 1 + 1 + 1 + 1 := by omega
  rw [e2] at r3
  rw [e3] at r4
  rw [e4] at r5
  refine ⟨W5, rfl, b1.trans (c1.mono (by omega)), by omega, fun _ => ⟨W.heap.size + 1, 0, rfl, by omega, fun i hi => ?_⟩, r3, r4, r5⟩
  obtain rfl : i = 0 := by simpa using hi
  refine ⟨Lib.cell_of_heap m2 0, Lib.cell_of_heap m2 1, fun _ => ⟨W.heap.size, 0, rfl, by omega, fun j hj => ?_⟩, by simp [ptR]⟩
  have q := fun k => Lib.cell_of_heap m1 k
  match j, hj with
  | 0, _ => exact ⟨q 0, q 1, q 2, q 3⟩
  | 1, _ => exact ⟨q 4, q 5, q 6, q 7⟩

set_option maxRecDepth 100000 in
set_option maxHeartbeats 4000000 in
theorem va_awake (w : World) : Calls Tryz.prog 7 #[] w fun e w' => e = .returned (.bool true) ∧ Below w.heap.size w w' := by
  have HA1 := Lib.hid (fun W => binary_any 4 (-8) (-1) ⟨#[47]⟩ (by decide) (by unfold maxLen; decide) W)
  have HA2 := Lib.hid (fun W => binary_any 4 (-8) (-1) ⟨#[37]⟩ (by decide) (by unfold maxLen; decide) W)
  have HA3 := Lib.hid (fun W => binary_any 4 (-7) 2 ⟨#[47]⟩ (by decide) (by unfold maxLen; decide) W)
  have HA4 := Lib.hid (fun W => binary_any 4 (-7) 2 ⟨#[37]⟩ (by decide) (by unfold maxLen; decide) W)
  rw [bin_e1] at HA1
  rw [bin_e2] at HA2
  rw [bin_e3] at HA3
  rw [bin_e4] at HA4
  go_enter Tryz.func7, Tryz.ntmps7
  go_wp2_with (fail)
  refine (HA1.out _).mono ?_
  rintro e w1 ⟨rfl, hb1⟩
  have HB1 := Lib.hid hb1
  clear hb1
  go_wp2_with (fail)
  refine (HA2.out _).mono ?_
  rintro e w2 ⟨rfl, hb2⟩
  have HB2 := Lib.hid (HB1.out.trans (hb2.mono HB1.out.size))
  clear hb2
  go_wp2_with (fail)
  refine (HA3.out _).mono ?_
  rintro e w3 ⟨rfl, hb3⟩
  have HB3 := Lib.hid (HB2.out.trans (hb3.mono HB2.out.size))
  clear hb3
  go_wp2_with (fail)
  refine (HA4.out _).mono ?_
  rintro e w4 ⟨rfl, hb4⟩
  have HB4 := Lib.hid (HB3.out.trans (hb4.mono HB3.out.size))
  clear hb4 HA1 HA2 HA3 HA4 HB1 HB2 HB3
  obtain ⟨W5, HW5, hb5, hz5, hr5, hq1, hq2, hq3⟩ := ex_mem w4
  have HB5 := Lib.hid (HB4.out.trans (hb5.mono HB4.out.size))
  have HR5 := Lib.hid hr5
  have HN5 := Lib.hid (next_any (some ⟨w4.heap.size + 1 + 1, 0, none⟩) (some ⟨w4.heap.size + 1 + 1 + 1, 0, none⟩) (some ⟨w4.heap.size + 1 + 1 + 1 + 1, 0, none⟩) 2 2 2 [0, 0] [1, 2] [0, 2] W5 hq1 hq2 hq3 (by simp) (by simp) (by simp) (by simp) (by simp) (fun i => by
    match i with
    | 0 => decide
    | 1 => decide
    | n + 2 => simp))
  rw [nxt_e] at HN5
  clear hb5 hz5 hr5 hq1 hq2 hq3
  go_wp2_with (fail)
  clear HW5
  refine HN5.out.mono ?_
  rintro e w6 ⟨v6, rfl, hown6, hb6⟩
  obtain ⟨A6, c6, rfl, hc6, hz6⟩ := z_row (l := [1, 0]) hown6
  have HB6 := Lib.hid (HB5.out.trans (hb6.mono HB5.out.size))
  have HR6 := Lib.hid (HR5.out.later hb6)
  have HZ6 := Lib.hid hz6
  clear hown6 hb6 hz6 hc6 HN5 HR5
  have HW := Lib.hid (wrap_any 4 9 (by decide) w6)
  rw [wrp_e] at HW
  have hba := (Below.refl w6.heap.size w6).alloc (Nat.le_refl _) (exZ 1 0)
  have hna := heap_alloc_new w6 (exZ 1 0)
  have HF := Lib.hid (format_pt (some ⟨w4.heap.size + 1, 0, none⟩) (some ⟨w6.heap.size, 0, none⟩) (some ⟨w4.heap.size, 0, none⟩) 1 2 2 (w6.alloc (exZ 1 0)) (HR6.out.later hba) (zrow_new w6 1 0 _ hna (by simp)))
  have HBA := Lib.hid hba
  clear hba hna
  go_wp2_with (fail)
  refine HW.out.mono ?_
  rintro e w7 ⟨rfl, rfl⟩
  go_wp2_with (fail)
  refine HF.out.mono ?_
  rintro e w8 ⟨rfl, hb8⟩
  have HB8 := Lib.hid (HBA.out.trans (hb8.mono HBA.out.size))
  clear hb8
  have hbc := (Below.refl w8.heap.size w8).alloc (Nat.le_refl _) (exZ 1 0)
  have hnc := heap_alloc_new w8 (exZ 1 0)
  have HE := Lib.hid (zEq_any A6 (some ⟨w8.heap.size, 0, none⟩) c6 2 [1, 0] [1, 0] (w8.alloc (exZ 1 0)) ((HZ6.out.later HB8.out).later hbc) (zrow_new w8 1 0 _ hnc (by simp)) (by simp) (by simp))
  rw [show decide (([1, 0] : List Int) = [1, 0]) = true from rfl] at HE
  have HB9 := Lib.hid (HB6.out.trans ((HB8.out.trans (hbc.mono HB8.out.size)).mono HB6.out.size))
  clear hbc hnc HF HW
  go_wp2_with (fail)
  refine HE.out.mono ?_
  rintro e w9 ⟨rfl, n, rfl⟩
  go_wp2_with (fail)
  go_ret
  exact ⟨rfl, HB9.out.trans ((drewN_below _ n).mono HB9.out.size)⟩
end Go.Proofs.YtoopnddlcofhoaaGreatDoor
