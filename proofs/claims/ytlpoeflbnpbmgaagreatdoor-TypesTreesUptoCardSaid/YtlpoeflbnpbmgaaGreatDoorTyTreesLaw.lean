/- What is proved: the law TypesTrees answers true, over the example's contract. -/
import Derived.Test.YtlpoeflbnpbmgaaGreatDoorTyRRecords
import Derived.Test.YtlpoeflbnpbmgaaGreatDoorTyEqs
import Derived.Test.YtlpoeflbnpbmgaaGreatDoorTyFewW
import Derived.Test.YtlpoeflbnpbmgaaGreatDoorRefShape
import Derived.Test.YtlpoeflbnpbmgaaGreatDoorValid
import Derived.Test.YtlpoeflbnpbmgaaGreatDoorInS
import Derived.Test.YtlpoeflbnpbmgaaGreatDoorLxName
import Derived.Test.YtlpoeflbnpbmgaaGreatDoorLxRefName
set_option linter.unusedVariables false
namespace Go.Proofs.YtlpoeflbnpbmgaaGreatDoor
open Go.RowKit

theorem shaped_sh (p : NT → Bool) (n : NT) : shapedB p n = (p n && sh n) := rfl
set_option maxRecDepth 100000 in
theorem r_valid_f (n : NT) (w : World) (hin : InT w.heap.size w n) (hc : NT.cnt n ≤ 4096) : Calls Tryz.prog 25 #[.agg #[.int .i64 n.kind, .string n.text, .int .i64 n.lo, .int .i64 n.hi, .slice n.A n.kids.length n.c]] w fun e w' => e = .returned (.bool (shapedB (kindB [2]) n)) ∧ Below w.heap.size w w' := by
  have HBX := Lib.hid ((Below.refl w.heap.size w).alloc (Nat.le_refl _) (.cells #[.int .i64 n.kind, .string n.text, .int .i64 n.lo, .int .i64 n.hi, .slice n.A n.kids.length n.c] 24))
  have HX := Lib.hid (r_shape_any n _ (InT.later hin HBX.out) hc)
  clear hin
  have he := shaped_sh (kindB [2]) n
  cases ht : (n.kind == 2) with
  | false =>
    have hv := Lib.hid (show shapedB (kindB [2]) n = false from by rw [he]; rw [kind1]; rw [ht]; rfl)
    clear he
    go_enter Tryz.func25, Tryz.ntmps25
    go_wp2_with (fail)
    go_ret
    exact ⟨retB hv.out, HBX.out⟩
  | true =>
    have hv := Lib.hid (show shapedB (kindB [2]) n = sh n from by rw [he]; rw [kind1]; rw [ht]; rfl)
    clear he
    go_enter Tryz.func25, Tryz.ntmps25
    go_wp2_with (fail)
    refine HX.out.mono ?_
    rintro e w2 ⟨rfl, hb⟩
    go_wp2_with (fail)
    go_ret
    exact ⟨retB hv.out, HBX.out.trans (hb.mono HBX.out.size)⟩

/-- the example's contract -/
def Awakes : Prop := ∀ w : World, Calls Tryz.prog 6 #[] w fun e w' => e = .returned (.bool true) ∧ Below w.heap.size w w'
/-- the law's answer -/
def Yes (w : World) (e : Ending) (w' : World) : Prop := e = .returned (.bool true) ∧ Below w.heap.size w w'

/-- a program of the right shape: the fields of its records write int or bool -/
theorem fields_ok {n : NT} (h : shapedB (kindB [2]) n = true) : FieldsOK n := by
  rw [shaped_sh, Bool.and_eq_true] at h
  have h2 := h.2
  rw [sh_eq, Bool.and_eq_true, List.all_eq_true] at h2
  intro k hk hk3 f hf
  have hk4 : k.kind = 3 := by simpa using hk3
  have hsk := h2.2 k hk
  rw [sh_eq, Bool.and_eq_true, List.all_eq_true] at hsk
  have hsf := hsk.2 f hf
  have hnk := hsk.1
  unfold nodeB at hnk
  rw [hk4, Bool.and_eq_true] at hnk
  have hm : manyB 1 (kindB [4]) k.kids = true := hnk.2
  unfold manyB at hm
  rw [Bool.and_eq_true, List.all_eq_true] at hm
  have hf4 : f.kind = 4 := by have := hm.2 f hf; simpa [kindB] using this
  rw [sh_eq, Bool.and_eq_true] at hsf
  have hnf := hsf.1
  unfold nodeB at hnf
  rw [hf4, Bool.and_eq_true] at hnf
  have hr : rowB [basicB] f.kids = true := hnf.2
  cases hks : f.kids with
  | nil => rw [hks] at hr; cases hr
  | cons t ts =>
    rw [hks] at hr
    simp only [rowB, Bool.and_eq_true] at hr
    have hb := hr.1
    unfold basicB at hb
    rw [Bool.and_eq_true] at hb
    refine ⟨t, by simp, hb.1, ?_⟩
    have hb2 := hb.2
    cases h1 : (t.text.toList == [105, 110, 116]) with
    | true => exact .inl rfl
    | false =>
      rw [h1, Bool.false_or] at hb2
      exact .inr ⟨rfl, hb2⟩
theorem same_rcs {l m : List RcV} (h : l.map (fun r => (r.name, r.flds)) = m.map (fun r => (r.name, r.flds))) : SameRcs l m := by
  have hlen : l.length = m.length := by simpa using congrArg List.length h
  refine ⟨hlen, fun i h1 h2 => ?_⟩
  have e : (l.map (fun r => (r.name, r.flds)))[i]? = (m.map (fun r => (r.name, r.flds)))[i]? := by rw [h]
  rw [List.getElem?_map, List.getElem?_map, List.getElem?_eq_getElem h1, List.getElem?_eq_getElem h2] at e
  simp only [Option.map_some, Option.some.injEq, Prod.mk.injEq] at e
  exact e
/-- the tree in its variable, the records -/
structure TN (w : World) (n : NT) (W : World) : Prop where
  below : Below w.heap.size w W
  box : NBox W w.heap.size n
theorem TN.later {w : World} {n : NT} {W W' : World} (h : TN w n W) (hb : Below W.heap.size W W') : TN w n W' :=
  ⟨h.below.trans (hb.mono h.below.size), h.box.below hb (Array.getElem?_eq_some_iff.1 h.box).1⟩
theorem TN.cells {w : World} {n : NT} {w' : World} (h : TN w n w') : w'.cell? ⟨w.heap.size, 0, none⟩ = some (.int .i64 n.kind) ∧ w'.cell? ⟨w.heap.size, 1, none⟩ = some (.string n.text) ∧ w'.cell? ⟨w.heap.size, 2, none⟩ = some (.int .i64 n.lo) ∧ w'.cell? ⟨w.heap.size, 3, none⟩ = some (.int .i64 n.hi) ∧ w'.cell? ⟨w.heap.size, 4, none⟩ = some (.slice n.A n.kids.length n.c) := h.box.cells

theorem recs_len {n : NT} {v : Bool} {rs : List RcV} (h : rs.map (fun r => (r.name, r.flds)) = if v then recL n.kids else []) (hk : n.kids.length ≤ 1000000) : rs.length ≤ 1000000000 := by
  cases v with
  | false =>
    have e : (rs.map (fun r => (r.name, r.flds))).length = 0 := by rw [h]; rfl
    rw [List.length_map] at e
    omega
  | true =>
    have e : (rs.map (fun r => (r.name, r.flds))).length = (recL n.kids).length := by rw [h]; rfl
    have h2 : (recL n.kids).length ≤ n.kids.length := by
      unfold recL
      rw [List.length_map]
      exact List.length_filter_le _ _
    rw [List.length_map] at e
    omega
theorem small_cnt {n : NT} (h : smallB n 150 = true) : NT.cnt n ≤ 150 := by
  unfold smallB at h
  rw [Bool.and_eq_true] at h
  have := of_decide_eq_true h.2
  omega
theorem cnt_kids {n : NT} : n.kids.length ≤ NT.cnt n := by
  have h := NT.cnts_len n.kids
  rw [NT.cnt_eq]
  omega
theorem cnt_kidL {n k : NT} (h : k ∈ n.kids) : NT.cnt k ≤ NT.cnt n := by
  have h1 := NT.cnts_mem h
  rw [NT.cnt_eq (n := n)]
  omega

set_option maxHeartbeats 8000000 in
set_option maxRecDepth 100000 in
theorem typesTrees_any (HAW : Awakes) (n : NT) (A : Option Addr) (c : Nat) (l : List RcV) (w : World) (hin : InT w.heap.size w n) (hc : NT.cnt n ≤ 1000000000) (hwf : ∀ x ∈ NT.nds n, I64 x.kind) (hl : l.length ≤ 9223372036854775807) (hr : RRowW w.heap.size w A l) :
    Calls Tryz.prog 3 #[.agg #[.int .i64 n.kind, .string n.text, .int .i64 n.lo, .int .i64 n.hi, .slice n.A n.kids.length n.c], .slice A l.length c] w (Yes w) := by
  have HI := Lib.hid hin
  have HF := Lib.hid hwf
  have HR := Lib.hid hr
  have HAWH := Lib.hid HAW
  clear hin hwf hr HAW
  go_enter Tryz.func3, Tryz.ntmps3
  go_wp2_with (fail)
  have hb0 := (Below.refl w.heap.size w).alloc (Nat.le_refl _) (.cells #[.int .i64 n.kind, .string n.text, .int .i64 n.lo, .int .i64 n.hi, .slice n.A n.kids.length n.c] 24)
  have hn0 := NBox.new w n
  have hz0 : w.heap.size < (w.alloc (.cells #[.int .i64 n.kind, .string n.text, .int .i64 n.lo, .int .i64 n.hi, .slice n.A n.kids.length n.c] 24)).heap.size := by simp
  generalize (w.alloc (.cells #[.int .i64 n.kind, .string n.text, .int .i64 n.lo, .int .i64 n.hi, .slice n.A n.kids.length n.c] 24)) = w1 at *
  refine (r_small_any n 150 w1 (InT.later HI.out hb0) hc).mono ?_
  rintro e w2 ⟨rfl, hb2⟩
  have HT2 : Hid (TN w n w2) := ⟨hb0.trans (hb2.mono hb0.size), hn0.below hb2 hz0⟩
  clear hb0 hn0 hz0 hb2
  obtain ⟨c0, c1, c2, c3, c4⟩ := HT2.out.cells
  cases hs : smallB n 150 with
  | false =>
    clear hs
    go_wp2_with (fail)
    refine (HAWH.out w2).mono ?_
    rintro e w3 ⟨rfl, hb3⟩
    have HB3 := Lib.hid (HT2.out.below.trans (hb3.mono HT2.out.below.size))
    clear hb3
    go_wp2_with (fail)
    go_ret
    exact ⟨rfl, HB3.out⟩
  | true =>
    have hc2 : NT.cnt n ≤ 150 := small_cnt hs
    clear hs
    go_wp2_with (fail)
    refine (fewW_any A c l w2 hl (HR.out.later HT2.out.below)).mono ?_
    rintro e w3 ⟨rfl, rfl⟩
    cases hf : fewB l with
    | false =>
      clear hf
      go_wp2_with (fail)
      refine (HAWH.out w2).mono ?_
      rintro e w3 ⟨rfl, hb3⟩
      have HB3 := Lib.hid (HT2.out.below.trans (hb3.mono HT2.out.below.size))
      clear hb3
      go_wp2_with (fail)
      go_ret
      exact ⟨rfl, HB3.out⟩
    | true =>
      have HRR := Lib.hid (HR.out.few hf)
      have hl9 : l.length ≤ 1000000000 := by have := few_len hf; omega
      clear hf
      go_wp2_with (fail)
      refine (r_nodes_any n w2 (InT.later HI.out HT2.out.below) hc).mono ?_
      rintro e w3 ⟨AN, cN, rfl, hrow3, hb3⟩
      have HT3 := Lib.hid (HT2.out.later hb3)
      have HRN := Lib.hid hrow3
      have hnl := NT.nds_len n
      have HNL := Lib.hid hnl
      clear hrow3 hb3 hnl c0 c1 c2 c3 c4
      go_wp2_with (fail)
      go_loopw [23] (fun i wr => ∃ k : Nat, k ≤ NT.cnt n ∧ i = .int .i64 (k : Int) ∧ Hid (Below w3.heap.size w3 wr)) (fun i _ => NT.cnt n - (intOf i).toNat)
      case atStart => exact ⟨0, Nat.zero_le _, rfl, Lib.hid (Below.refl _ _)⟩
      case round =>
        obtain ⟨k, hk, rfl, hbr⟩ := hrel
        by_cases hlt : k < NT.cnt n
        · have hkl : k < (NT.nds n).length := by have := HNL.out; omega
          obtain ⟨b, off, rfl, hb, hcs⟩ := HRN.out.below hbr.out (by omega)
          obtain ⟨c0, c1, c2, c3, c4⟩ := hcs k hkl
          clear hcs hb
          obtain ⟨x, HX⟩ : ∃ x, Hid ((NT.nds n)[k] = x) := ⟨_, Lib.hid rfl⟩
          rw [HX.out] at c0 c1 c2 c3 c4
          have HTR := Lib.hid (HT3.out.later hbr.out)
          obtain ⟨v, HV⟩ : ∃ v, Hid (validB (wrT Lx.numV x) l = v) := ⟨_, Lib.hid rfl⟩
          obtain ⟨u, HU⟩ : ∃ u, Hid (u = if v then wrT Lx.numV x else ⟨0, 0, ⟨#[]⟩⟩) := ⟨_, Lib.hid rfl⟩
          have hvv : (v != v) = false := by simp
          have hzr := hbr.out.size
          go_wp2_with (fail)
          clear c0 c1 c2 c3 c4
          have hba := (Below.refl wr.heap.size wr).alloc (Nat.le_refl _) (.cells #[.int .i64 x.kind, .string x.text, .int .i64 x.lo, .int .i64 x.hi, .slice x.A x.kids.length x.c] 24)
          have hnx := NBox.new wr x
          have hzx : (wr.alloc (.cells #[.int .i64 x.kind, .string x.text, .int .i64 x.lo, .int .i64 x.hi, .slice x.A x.kids.length x.c] 24)).heap.size = wr.heap.size + 1 := by simp
          generalize (wr.alloc (.cells #[.int .i64 x.kind, .string x.text, .int .i64 x.lo, .int .i64 x.hi, .slice x.A x.kids.length x.c] 24)) = w4 at *
          refine (wr_any Lx.number_any x A c l w4 _ rfl (HRR.out.later (HTR.out.below.trans (hba.mono HTR.out.below.size))) hl9 v HV.out u HU.out).mono ?_
          rintro e w5 ⟨rfl, hb5⟩
          have hnx5 := hnx.below hb5 (by omega)
          have HB5 := Lib.hid (hba.trans (hb5.mono (by omega)))
          have HZ5 := Lib.hid (show wr.heap.size < w5.heap.size by have := hb5.size; omega)
          have HNX5 := Lib.hid hnx5
          clear hba hnx hzx hb5 hnx5
          have hbu := (Below.refl w5.heap.size w5).alloc (Nat.le_refl _) (.cells #[.int .i64 u.kind, .int .i64 u.len, .string u.nm] 31)
          have hnu := heap_alloc_new w5 (.cells #[.int .i64 u.kind, .int .i64 u.len, .string u.nm] 31)
          have hzu : (w5.alloc (.cells #[.int .i64 u.kind, .int .i64 u.len, .string u.nm] 31)).heap.size = w5.heap.size + 1 := by simp
          have hnx6 := HNX5.out.below hbu HZ5.out
          obtain ⟨c0, c1, c2, c3, c4⟩ := hnx6.cells
          have HB6 := Lib.hid (HB5.out.trans (hbu.mono HB5.out.size))
          have HNU := Lib.hid hnu
          have HZU := Lib.hid hzu
          clear hbu hnu hzu hnx6
          go_wp2_with (fail)
          clear c0 c1 c2 c3 c4
          generalize (w5.alloc (.cells #[.int .i64 u.kind, .int .i64 u.len, .string u.nm] 31)) = w6 at *
          refine (r_wr_any Lx.r_number_any x A c l w6 _ rfl (HRR.out.later (HTR.out.below.trans (HB6.out.mono HTR.out.below.size))) hl9 v HV.out u HU.out).mono ?_
          rintro e w7 ⟨rfl, hb7⟩
          have HB7 := Lib.hid (HB6.out.trans (hb7.mono HB6.out.size))
          have hnu7 := (hb7.block w5.heap.size (by have := HZU.out; omega)).trans HNU.out
          have HZ7 := Lib.hid (show w5.heap.size < w7.heap.size by have := hb7.size; have := HZU.out; omega)
          clear hb7
          have HNU7 := Lib.hid hnu7
          clear hnu7
          have hnu8 := (heap_alloc_old w7 (.cells #[.int .i64 u.kind, .int .i64 u.len, .string u.nm] 31) HZ7.out).trans HNU7.out
          have hnv8 := heap_alloc_new w7 (.cells #[.int .i64 u.kind, .int .i64 u.len, .string u.nm] 31)
          have HB8 := Lib.hid (HB7.out.alloc HB7.out.size (.cells #[.int .i64 u.kind, .int .i64 u.len, .string u.nm] 31))
          have d0 := Lib.cell_of_heap hnu8 0
          have d1 := Lib.cell_of_heap hnu8 1
          have d2 := Lib.cell_of_heap hnu8 2
          have e0 := Lib.cell_of_heap hnv8 0
          have e1 := Lib.cell_of_heap hnv8 1
          have e2 := Lib.cell_of_heap hnv8 2
          clear hnu8 hnv8
          have q0 : (u.kind == u.kind) = true := by simp
          have q1 : (u.len == u.len) = true := by simp
          go_wp2_with (fail)
          exact ⟨⟨k + 1, by omega, by go_num, Lib.hid (hbr.out.trans (HB8.out.mono hzr))⟩, by simp [intOf]; omega⟩
        · obtain rfl : k = NT.cnt n := by omega
          have HTR := Lib.hid (HT3.out.later hbr.out)
          have hks : n.kids.length ≤ 1000000 := by have := @cnt_kids n; omega
          have HKK := Lib.hid (show ∀ y ∈ n.kids, y.kids.length ≤ 1000000 from fun y hy => by have := @cnt_kids y; have := cnt_kidL hy; omega)
          obtain ⟨v, HV⟩ : ∃ v, Hid (shapedB (kindB [2]) n = v) := ⟨_, Lib.hid rfl⟩
          have HV1 := Lib.hid (fun W h => by have q := valid_f n W h hc HF.out; rw [HV.out] at q; exact q)
          have HV2 := Lib.hid (fun W h => by have q := r_valid_f n W h (by omega); rw [HV.out] at q; exact q)
          have HFO := Lib.hid (fun (h : v = true) => fields_ok (HV.out.trans h))
          clear hk hlt
          go_wp2_with (fail)
          have HD := Lib.hid (show TN w n wr.drew from HTR.out.later (Below.refl wr.heap.size wr).drew)
          obtain ⟨c0, c1, c2, c3, c4⟩ := HTR.out.cells
          go_region_held3 (fun w' => w'.cell? ⟨w.heap.size, 0, none⟩ = some (.int .i64 n.kind) ∧ w'.cell? ⟨w.heap.size, 1, none⟩ = some (.string n.text) ∧ w'.cell? ⟨w.heap.size, 2, none⟩ = some (.int .i64 n.lo) ∧ w'.cell? ⟨w.heap.size, 3, none⟩ = some (.int .i64 n.hi) ∧ w'.cell? ⟨w.heap.size, 4, none⟩ = some (.slice n.A n.kids.length n.c)) (first | exact HS6.out | exact HS5.out | exact HS4.out | exact HS3.out | go_keep) ((first | (go_at_call 11; refine (records_any Lx.number_any n v _ (InT.later HI.out HD.out.below) hks HKK.out HV1.out HFO.out _ rfl).mono ?_; rintro e w4 ⟨v1, rs1, rfl, ho, hm, hb⟩; obtain ⟨A1, k1, rfl, hw⟩ := recs_row ho; have HA4 := Lib.hid (HD.out.later hb); have HS3 := Lib.hid HA4.out.cells; have HW1 := Lib.hid hw; have HM1 := Lib.hid hm; clear hb ho hw hm) | (go_at_call 12; refine (r_records_any n v w4 (InT.later HI.out HA4.out.below) hks HKK.out HV2.out HFO.out _ rfl).mono ?_; rintro e w5 ⟨v2, rs2, rfl, ho, hm, hb⟩; obtain ⟨A2, k2, rfl, hw⟩ := recs_row ho; have HA5 := Lib.hid (HA4.out.later hb); have HS4 := Lib.hid HA5.out.cells; have HW2 := Lib.hid hw; have HW3 := Lib.hid (HW1.out.later hb); have HM2 := Lib.hid hm; clear hb ho hw hm) | (go_at_call 10; refine (equals_any A1 A2 k1 k2 rs1 rs2 w5 HW3.out HW2.out (same_rcs (HM1.out.trans HM2.out.symm)) (recs_len HM1.out hks)).mono ?_; rintro e w6 ⟨rfl, hb⟩; have HA6 := Lib.hid (HA5.out.later hb); have HS5 := Lib.hid HA6.out.cells; clear hb) | (go_at_call 6; refine (HAWH.out w6).mono ?_; rintro e w7 ⟨rfl, hb⟩; have HA7 := Lib.hid (HA6.out.later hb); have HS6 := Lib.hid HA7.out.cells; clear hb)))
          all_goals
            go_wp2_with (fail)
            go_ret
            exact ⟨rfl, HA7.out.below⟩
end Go.Proofs.YtlpoeflbnpbmgaaGreatDoor
