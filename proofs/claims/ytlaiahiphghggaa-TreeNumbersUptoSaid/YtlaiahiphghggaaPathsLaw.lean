/- What is proved: TreePaths answers true. -/
import Derived.Test.YtlaiahiphghggaaTreeAwake
import Derived.Test.YtlaiahiphghggaaRefNodes
set_option linter.unusedVariables false
namespace Go.Proofs.Ytlaiahiphghggaa
open Go.RowKit Go.Shelf

theorem pth_at {n : NT} {k : Nat} (hk : k < NT.cnt n) : ∃ p : List Nat, pathAt n (k : Int) = p ∧ isNum n (k : Int) = true ∧ NT.numP n p = some k ∧ (∃ x, NT.getP n p = some x) ∧ mxl ((NT.wlk n 1).take (k + 1)) = max (mxl ((NT.wlk n 1).take k)) (p.length + 1) ∧ mxl ((NT.wlk n 1).take (k + 1)) ≤ NT.cnt n := by
  have h1 : k < (NT.pths n).length := by rw [NT.pths_len]; exact hk
  have h2 : k < (NT.wlk n 1).length := by rw [NT.wlk_len]; exact hk
  refine ⟨(NT.pths n)[k], ?_, ?_, ?_, ?_, ?_, ?_⟩
  · simp [pathAt, List.getD_eq_getElem?_getD, List.getElem?_eq_getElem h1]
  · simp [isNum]; omega
  · exact NT.num_pths (List.getElem?_eq_getElem h1)
  · exact (NT.pths_some n _ (List.getElem_mem h1)).2
  · rw [List.take_succ_eq_append_getElem h2, mxl_snoc]
    have h3 := congrArg (fun l : List Nat => l[k]?) (NT.wlk_pths n 0)
    simp only [List.getElem?_map, List.getElem?_eq_getElem h2, List.getElem?_eq_getElem h1, Option.map_some, Option.some.injEq] at h3
    rw [h3]
  · have h4 := mxl_append ((NT.wlk n 1).take (k + 1)) ((NT.wlk n 1).drop (k + 1))
    rw [List.take_append_drop, mxl_wlk] at h4
    have := NT.lev_le n
    omega

theorem number_path (n : NT) (A : Option Addr) (c : Nat) (p : List Nat) (w : World) (hin : InT w.heap.size w n) (hp : IRow w.heap.size w A (p.map Int.ofNat)) (hcn : NT.cnt n ≤ 1000000000) (hpl : p.length ≤ 1000000000) :
    Calls Try.prog 24 #[.agg #[.int .i64 n.kind, .string n.text, .int .i64 n.lo, .int .i64 n.hi, .slice n.A n.kids.length n.c], .slice A p.length c] w fun e w' => e = .returned (.tuple #[.int .i64 (((NT.numP n p).getD 0 : Nat) : Int), .bool (NT.numP n p).isSome]) ∧ Below w.heap.size w w' := by
  have h := number_any n A c (p.map Int.ofNat) w hin hp hcn (by rw [List.length_map]; exact hpl)
  rw [List.length_map, NT.numZ_nat] at h
  exact h
theorem get_path (n : NT) (A : Option Addr) (c : Nat) (p : List Nat) (w : World) (hin : InT w.heap.size w n) (hp : IRow w.heap.size w A (p.map Int.ofNat)) (hcn : NT.cnt n ≤ 1000000000) (hpl : p.length ≤ 1000000000) :
    Calls Try.prog 20 #[.agg #[.int .i64 n.kind, .string n.text, .int .i64 n.lo, .int .i64 n.hi, .slice n.A n.kids.length n.c], .slice A p.length c] w fun e w' => ∃ m : NT, e = .returned (.tuple #[.agg #[.int .i64 m.kind, .string m.text, .int .i64 m.lo, .int .i64 m.hi, .slice m.A m.kids.length m.c], .bool (NT.getP n p).isSome]) ∧ GetRes (NT.getP n p) w w' m ∧ Below w.heap.size w w' := by
  have h := get_any n A c (p.map Int.ofNat) w hin hp hcn (by rw [List.length_map]; exact hpl)
  rw [List.length_map, NT.getZ_nat] at h
  exact h
theorem path_len {n : NT} {p : List Nat} (h : ∃ k, NT.numP n p = some k) : p.length + 1 ≤ NT.cnt n := by
  obtain ⟨k, hk⟩ := h
  have h1 := NT.pths_num p n k hk
  have hlt := NT.numP_lt hk
  have h2 : k < (NT.wlk n 1).length := by rw [NT.wlk_len]; exact hlt
  have h3 := congrArg (fun l : List Nat => l[k]?) (NT.wlk_pths n 0)
  simp only [List.getElem?_map, List.getElem?_eq_getElem h2, h1, Option.map_some, Option.some.injEq] at h3
  obtain ⟨_, _, _, _, _, h4, h5⟩ := pth_at hlt
  rw [List.take_succ_eq_append_getElem h2, mxl_snoc, h3] at h5
  omega

set_option maxHeartbeats 4000000 in
set_option maxRecDepth 100000 in
theorem treePaths_any (n : NT) (w : World) (hin : InT w.heap.size w n) (hc : NT.cnt n ≤ 1000000000) :
    Calls Try.prog 6 #[.agg #[.int .i64 n.kind, .string n.text, .int .i64 n.lo, .int .i64 n.hi, .slice n.A n.kids.length n.c]] w fun e w' => e = .returned (.bool true) ∧ Below w.heap.size w w' := by
  have HI := Lib.hid hin
  clear hin
  go_enter Try.func6, Try.ntmps6
  go_wp2_with (fail)
  have hb0 := (Below.refl w.heap.size w).alloc (Nat.le_refl _) (.cells #[.int .i64 n.kind, .string n.text, .int .i64 n.lo, .int .i64 n.hi, .slice n.A n.kids.length n.c] 24)
  have hn0 := NBox.new w n
  have hz0 : w.heap.size < (w.alloc (.cells #[.int .i64 n.kind, .string n.text, .int .i64 n.lo, .int .i64 n.hi, .slice n.A n.kids.length n.c] 24)).heap.size := by simp
  generalize (w.alloc (.cells #[.int .i64 n.kind, .string n.text, .int .i64 n.lo, .int .i64 n.hi, .slice n.A n.kids.length n.c] 24)) = w1 at *
  refine (r_small_any n 100 w1 (InT.mono hb0.size n (InT.below hb0 n HI.out)) hc).mono ?_
  rintro e w2 ⟨rfl, hb2⟩
  have HB2 := Lib.hid (hb0.trans (hb2.mono hb0.size))
  have HN2 := Lib.hid (hn0.below hb2 hz0)
  clear hb0 hn0 hz0 hb2
  obtain ⟨c0, c1, c2, c3, c4⟩ := HN2.out.cells
  cases hs : smallB n 100 with
  | false =>
    clear hs
    go_wp2_with (fail)
    refine (awake_any w2).mono ?_
    rintro e w3 ⟨rfl, hb3⟩
    have HB3 := Lib.hid (HB2.out.trans (hb3.mono HB2.out.size))
    clear hb3
    go_wp2_with (fail)
    go_ret
    exact ⟨rfl, HB3.out⟩
  | true =>
    have hcn : NT.cnt n ≤ 100 := by
      unfold smallB at hs
      simp only [Bool.and_eq_true, decide_eq_true_eq] at hs
      omega
    clear hs
    go_wp2_with (fail)
    refine (count_any n w2 (InT.mono HB2.out.size n (InT.below HB2.out n HI.out)) hc).mono ?_
    rintro e w3 ⟨rfl, hb3⟩
    have hz2 : w.heap.size < w2.heap.size := (Array.getElem?_eq_some_iff.1 HN2.out).1
    have HB3 := Lib.hid (HB2.out.trans (hb3.mono HB2.out.size))
    have HN3 := Lib.hid (HN2.out.below hb3 hz2)
    clear hb3 c0 c1 c2 c3 c4 hz2
    go_wp2_with (fail)
    go_loopw [3, 21] (fun d i wr => ∃ (k D : Nat), k ≤ NT.cnt n ∧ i = .int .i64 (k : Int) ∧ d = .int .i64 (D : Int) ∧ D ≤ 100 ∧ Hid (D = mxl ((NT.wlk n 1).take k)) ∧ Hid (NBox wr w.heap.size n) ∧ Hid (Below w.heap.size w wr)) (fun _ i _ => NT.cnt n - (intOf i).toNat)
    case atStart => exact ⟨0, 0, Nat.zero_le _, rfl, rfl, by omega, Lib.hid (by simp [mxl]), HN3, HB3⟩
    case round =>
      obtain ⟨k, D, hk, rfl, rfl, hD, hmx, hnb, hbw⟩ := hrel
      have hzr : w.heap.size < wr.heap.size := (Array.getElem?_eq_some_iff.1 hnb.out).1
      obtain ⟨c0, c1, c2, c3, c4⟩ := hnb.out.cells
      have HIr := Lib.hid (InT.mono hbw.out.size n (InT.below hbw.out n HI.out))
      by_cases hlt : k < NT.cnt n
      · obtain ⟨p, hp1, hp2, hp3, ⟨x, hp4⟩, hp5, hp6⟩ := pth_at hlt
        have hpl := path_len ⟨k, hp3⟩
        have HP1 := Lib.hid hp1
        have HP2 := Lib.hid hp2
        have HP3 := Lib.hid hp3
        have HP4 := Lib.hid hp4
        have HP5 := Lib.hid hp5
        have hpc : max D (p.length + 1) ≤ 100 := by rw [hmx.out, ← hp5]; omega
        clear hp1 hp2 hp3 hp4 hp5 hp6
        go_wp2_with (fail)
        refine (path_any n (k : Int) wr HIr.out hc (by omega) (by omega)).mono ?_
        rintro e w4 ⟨A, c, rfl, hr, hb⟩
        rw [HP1.out] at hr
        rw [HP1.out, HP2.out]
        have HR := Lib.hid hr.ints
        have HB4 := Lib.hid (hbw.out.trans (hb.mono hbw.out.size))
        have HN4 := Lib.hid (hnb.out.below hb hzr)
        have hz4 : w.heap.size < w4.heap.size := (Array.getElem?_eq_some_iff.1 HN4.out).1
        clear hr hb c0 c1 c2 c3 c4
        obtain ⟨c0, c1, c2, c3, c4⟩ := HN4.out.cells
        go_wp2_with (fail)
        refine (number_path n A c p w4 (InT.mono HB4.out.size n (InT.below HB4.out n HI.out)) HR.out hc (by omega)).mono ?_
        rintro e w5 ⟨rfl, hb⟩
        rw [HP3.out]
        have HR5 := Lib.hid (IRow.later HR.out hb)
        have HB5 := Lib.hid (HB4.out.trans (hb.mono HB4.out.size))
        have HN5 := Lib.hid (HN4.out.below hb hz4)
        have hz5 : w.heap.size < w5.heap.size := (Array.getElem?_eq_some_iff.1 HN5.out).1
        clear hb c0 c1 c2 c3 c4
        obtain ⟨c0, c1, c2, c3, c4⟩ := HN5.out.cells
        simp only [Option.getD_some, Option.isSome_some]
        go_wp2_with (fail)
        refine (get_path n A c p w5 (InT.mono HB5.out.size n (InT.below HB5.out n HI.out)) HR5.out hc (by omega)).mono ?_
        rintro e w6 ⟨m, rfl, _, hb⟩
        rw [HP4.out]
        have HB6 := Lib.hid (HB5.out.trans (hb.mono HB5.out.size))
        have HN6 := Lib.hid (HN5.out.below hb hz5)
        clear hb c0 c1 c2 c3 c4
        simp only [Option.isSome_some]
        have HB7 := Lib.hid (HB6.out.alloc HB6.out.size (.cells #[.int .i64 m.kind, .string m.text, .int .i64 m.lo, .int .i64 m.hi, .slice m.A m.kids.length m.c] 24))
        have HN7 := Lib.hid (nbox_alloc HN6.out (.cells #[.int .i64 m.kind, .string m.text, .int .i64 m.lo, .int .i64 m.hi, .slice m.A m.kids.length m.c] 24))
        have hkk : ((k : Int) != (k : Int)) = false := by simp
        go_wp2_with (fail)
        all_goals refine ⟨⟨k + 1, max D (p.length + 1), by omega, by go_num, ?_, hpc, Lib.hid (by rw [HP5.out, ← hmx.out]), HN7, HB7⟩, by simp [intOf]; omega⟩
        all_goals (congr 1; omega)
      · have HDV := Lib.hid (show D = NT.lev n from by rw [hmx.out, List.take_of_length_le (by rw [NT.wlk_len]; omega), mxl_wlk])
        have HPN := Lib.hid (show pathAt n (-1) = [] ∧ isNum n (-1) = false from ⟨rfl, by simp [isNum]⟩)
        have HPC := Lib.hid (show pathAt n (NT.cnt n : Int) = [] ∧ isNum n (NT.cnt n : Int) = false from ⟨by simp [pathAt, List.getD_eq_getElem?_getD, List.getElem?_eq_none (show (NT.pths n).length ≤ NT.cnt n by rw [NT.pths_len]; omega)], by simp [isNum]⟩)
        go_wp2_with (fail)
        refine (path_any n (-1) wr HIr.out hc (by decide) (by decide)).mono ?_
        rintro e w4 ⟨A, c, rfl, _, hb⟩
        rw [HPN.out.1, HPN.out.2]
        have HB4 := Lib.hid (hbw.out.trans (hb.mono hbw.out.size))
        have HN4 := Lib.hid (hnb.out.below hb hzr)
        have hz4 : w.heap.size < w4.heap.size := (Array.getElem?_eq_some_iff.1 HN4.out).1
        clear hb c0 c1 c2 c3 c4
        obtain ⟨c0, c1, c2, c3, c4⟩ := HN4.out.cells
        simp only [List.length_nil]
        go_wp2_with (fail)
        have HBD := Lib.hid (show Below w.heap.size w w4.drew from HB4.out.drew)
        have HND := Lib.hid (show NBox w4.drew w.heap.size n from HN4.out)
        go_region_held3 (fun w' => w'.cell? ⟨w.heap.size, 0, none⟩ = some (.int .i64 n.kind) ∧ w'.cell? ⟨w.heap.size, 1, none⟩ = some (.string n.text) ∧ w'.cell? ⟨w.heap.size, 2, none⟩ = some (.int .i64 n.lo) ∧ w'.cell? ⟨w.heap.size, 3, none⟩ = some (.int .i64 n.hi) ∧ w'.cell? ⟨w.heap.size, 4, none⟩ = some (.slice n.A n.kids.length n.c)) (first | exact HS6.out | exact HS5.out | go_keep) ((first | (go_at_call 28; refine (count_any n _ (InT.mono HBD.out.size n (InT.below HBD.out n HI.out)) hc).mono ?_; rintro e w5 ⟨rfl, hb⟩; have HB5 := Lib.hid (HBD.out.trans (hb.mono HBD.out.size)); have HN5 := Lib.hid (HND.out.below hb (Array.getElem?_eq_some_iff.1 HND.out).1); have HS5 := Lib.hid HN5.out.cells; clear hb) | (go_at_call 22; refine (path_any n (NT.cnt n : Int) _ (InT.mono HB5.out.size n (InT.below HB5.out n HI.out)) hc (by omega) (by omega)).mono ?_; rintro e w6 ⟨A2, k2, rfl, _, hb⟩; rw [HPC.out.1, HPC.out.2]; have HB6 := Lib.hid (HB5.out.trans (hb.mono HB5.out.size)); have HN6 := Lib.hid (HN5.out.below hb (Array.getElem?_eq_some_iff.1 HN5.out).1); have HS6 := Lib.hid HN6.out.cells; clear hb; simp only [List.length_nil])))
        obtain ⟨b0, b1, b2, b3, b4⟩ := HS6.out
        go_wp2_with (fail)
        refine (levels_any n w6 (InT.mono HB6.out.size n (InT.below HB6.out n HI.out)) hc).mono ?_
        rintro e w7 ⟨rfl, hb⟩
        rw [← HDV.out]
        have hdd : ((D : Int) == (D : Int)) = true := by simp
        have HB7 := Lib.hid (HB6.out.trans (hb.mono HB6.out.size))
        clear hb
        go_wp2_with (fail)
        refine (awake_any w7).mono ?_
        rintro e w8 ⟨rfl, hb⟩
        have HB8 := Lib.hid (HB7.out.trans (hb.mono HB7.out.size))
        clear hb
        go_wp2_with (fail)
        go_ret
        exact ⟨rfl, HB8.out⟩
end Go.Proofs.Ytlaiahiphghggaa
