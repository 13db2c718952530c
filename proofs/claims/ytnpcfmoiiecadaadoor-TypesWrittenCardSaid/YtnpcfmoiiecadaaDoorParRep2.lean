/- What is proved: the reference's parser: report where something was found, expect, name. -/
import Derived.Test.YtnpcfmoiiecadaaDoorParRep
set_option linter.unusedVariables false
namespace Go.Proofs.YtnpcfmoiiecadaaDoor.Par
open Go.RowKit
open Lx (Tok)

set_option maxHeartbeats 4000000 in
theorem report_old {B0 bp : Nat} {E : Env} {w : World} {p : St} (h : PIs B0 bp E w p) (c : Int) (x : ByteArray) (hne : (p.list.getLast?.map Dg.at_) = some (tk E p.k).at_) :
    Calls Tryd.prog 27 #[ptr bp, .int .i64 c, .string x] w fun e w' => e = .returned (.tuple #[]) ∧ PIs B0 bp E w' p ∧ Fr B0 w w' := by
  obtain ⟨i0, hi0, hz0, hz1, hz2⟩ := info_parts infoDg
  have HP := Lib.hid h
  clear h
  unfold ptr at *
  go_enter Tryd.func27, Tryd.ntmps27
  go_wp2_with (fail)
  have hba := (Below.refl w.heap.size w).alloc (Nat.le_refl _) (.cells #[.int .i64 0, .int .i64 0, .int .i64 0, .int .i64 0] 93)
  obtain ⟨b, off, ht'⟩ := HP.out.tok
  have HTY := ht'.ty.lt
  have HPA := Lib.hid (HP.out.later hba)
  have HBA := Lib.hid hba
  have hnew : (w.alloc (.cells #[.int .i64 0, .int .i64 0, .int .i64 0, .int .i64 0] 93)).heap[w.heap.size]? = some (.cells #[.int .i64 0, .int .i64 0, .int .i64 0, .int .i64 0] 93 (0, 0)) := heap_alloc_new w _
  obtain ⟨v, hb, ho⟩ := HPA.out.box
  have ht := ht'.keep (hba.block b HTY)
  have c1 : (w.alloc (.cells #[.int .i64 0, .int .i64 0, .int .i64 0, .int .i64 0] 93)).cell? ⟨bp, 1, none⟩ = some (.slice E.A E.T.length E.c) := Lib.cell_of_heap hb 1
  have c2 : (w.alloc (.cells #[.int .i64 0, .int .i64 0, .int .i64 0, .int .i64 0] 93)).cell? ⟨bp, 2, none⟩ = some (.int .i64 (p.k : Int)) := Lib.cell_of_heap hb 2
  rw [ht.A] at c1
  obtain ⟨t0, t1, t2, t3⟩ := ht.cells p.k HPA.out.ok.1
  have hk : (p.k : Int) < (E.T.length : Int) := by have := HPA.out.ok.1; omega
  have hk0 : (0 : Int) ≤ (p.k : Int) := by omega
  have s0 := Lib.cell_of_heap hnew 0
  have s1 := Lib.cell_of_heap hnew 1
  have s2 := Lib.cell_of_heap hnew 2
  have s3 := Lib.cell_of_heap hnew 3
  have e0 := hfrz hnew 0
  have e1 := hfrz hnew 1
  have e2 := hfrz hnew 2
  have e3 := hfrz hnew 3
  have HNW := Lib.hid hnew
  have HTA := Lib.hid ht.A
  clear hba hnew ho hb ht ht'
  have m1 : w.cell? ⟨bp, 1, none⟩ = some (.slice (some ⟨b, off, none⟩) E.T.length E.c) := (HBA.out.cell (p := ⟨bp, 1, none⟩) HP.out.lt).symm.trans c1
  have m2 : w.cell? ⟨bp, 2, none⟩ = some (.int .i64 (p.k : Int)) := (HBA.out.cell (p := ⟨bp, 2, none⟩) HP.out.lt).symm.trans c2
  have HTB := Lib.hid (HTY : b < w.heap.size)
  have n0 := (HBA.out.cell (p := ⟨b, off + p.k * 4, none⟩) HTB.out).symm.trans t0
  have n1 := (HBA.out.cell (p := ⟨b, off + p.k * 4 + 1, none⟩) HTB.out).symm.trans t1
  have n2 := (HBA.out.cell (p := ⟨b, off + p.k * 4 + 2, none⟩) HTB.out).symm.trans t2
  have n3 := (HBA.out.cell (p := ⟨b, off + p.k * 4 + 3, none⟩) HTB.out).symm.trans t3
  go_region
  have HB1 := Lib.hid (((Below.refl w.heap.size w).alloc (Nat.le_refl _) (.cells #[.int .i64 (tk E p.k).kind, .int .i64 (tk E p.k).lo, .int .i64 (tk E p.k).at_, .int .i64 (tk E p.k).hi] 93)).drew)
  have htb : (w.alloc (.cells #[.int .i64 (tk E p.k).kind, .int .i64 (tk E p.k).lo, .int .i64 (tk E p.k).at_, .int .i64 (tk E p.k).hi] 93)).drew.heap[w.heap.size]? = some (.cells #[.int .i64 (tk E p.k).kind, .int .i64 (tk E p.k).lo, .int .i64 (tk E p.k).at_, .int .i64 (tk E p.k).hi] 93 (0, 0)) := heap_alloc_new w _
  clear c1 c2 t0 t1 t2 t3 s0 s1 s2 s3 e0 e1 e2 e3 m1 m2 n0 n1 n2 n3 hk hk0 HNW HPA HBA HTA HTB HTY
  generalize (w.alloc (.cells #[.int .i64 (tk E p.k).kind, .int .i64 (tk E p.k).lo, .int .i64 (tk E p.k).at_, .int .i64 (tk E p.k).hi] 93)).drew = w1 at *
  have HP1 := Lib.hid (HP.out.later HB1.out)
  have HTB := Lib.hid htb
  have s2 := Lib.cell_of_heap htb 2
  have s3 := Lib.cell_of_heap htb 3
  obtain ⟨v', hb', ho'⟩ := HP1.out.box
  have HBX := Lib.hid hb'
  have HOW := Lib.hid ho'
  have c4 : w1.cell? ⟨bp, 4, none⟩ = some v' := Lib.cell_of_heap hb' 4
  clear htb hb'
  have HN := Lib.hid hne
  obtain ⟨A4, cap4, hv4⟩ := own_shape ho'
  by_cases hl : p.list.length = 0
  · rw [List.eq_nil_of_length_eq_zero hl] at hne
    cases hne
  · obtain ⟨m, hm⟩ : ∃ m, p.list.length = m + 1 := ⟨p.list.length - 1, by omega⟩
    have hmlt : m < p.list.length := by omega
    have hd1 : decide ((0 : Int) < (p.list.length : Int)) = true := by simp; omega
    have hd2 : 0 < p.list.length := by omega
    have hnm : (p.list.length : Int) - 1 = (m : Int) := by omega
    have hwm : IntKind.i64.wrap (m : Int) = (m : Int) := by
      have h1 := HP.out.ok
      have h2 := HP.out.eok.len
      unfold St.Ok at h1
      exact IntWalk.i64_in _ ⟨by omega, by omega⟩
    have hm0 : (0 : Int) ≤ (m : Int) := by omega
    have hm1 : (m : Int) < (p.list.length : Int) := by omega
    obtain ⟨b4, hA4, hlt⟩ : ∃ b4, A4 = some ⟨b4, 0, none⟩ ∧ b4 < w1.heap.size := by
      obtain ⟨g, cap, hv, _, hlt⟩ := ho'.form hd2
      rw [hv4] at hv; cases hv; exact ⟨g, rfl, hlt⟩
    subst hA4
    have ha1 : w1.cell? ⟨b4, m * 5 + 1, none⟩ = some (.int .i64 (p.list[m]).at_) := by
      have h1 := ho'.cells (g := b4) (by rw [hv4]; rfl) _ _ (dcells_get p.list m hmlt).2.1
      simpa [Addr.add] using h1
    have hlast : p.list.getLast? = some p.list[m] := by rw [List.getLast?_eq_getElem?, hm, List.getElem?_eq_getElem (by omega)]; rfl
    have hde : ((p.list[m]).at_ == (tk E p.k).at_) = true := by
      rw [hlast] at hne
      simpa using hne
    generalize (p.list[m]).at_ = ax at *
    have HM := Lib.hid hm
    clear hl ho' hm hmlt hlast
    rw [hv4] at c4
    go_wp2_with (fail)
    go_quiet (fail)
    go_wp2_with (fail)
    (try simp only [Exit.inBlock, Exit.then])
    refine bodyPost_ret (results_none rfl _ _ _) rfl ?_
    exact ⟨rfl, HP1.out.later (below_drew w1 _), (Fr.of_below HB1.out HP.out.b0).trans (Fr.of_below (below_drew w1 _) HP1.out.b0)⟩

theorem report_any {B0 bp : Nat} {E : Env} {w : World} {p : St} (h : PIs B0 bp E w p) (c : Int) (x : ByteArray) :
    Calls Tryd.prog 27 #[ptr bp, .int .i64 c, .string x] w fun e w' => e = .returned (.tuple #[]) ∧ PIs B0 bp E w' (rep E p c x) ∧ Fr B0 w w' := by
  unfold rep
  by_cases hc : (p.list.getLast?.map Dg.at_) = some (tk E p.k).at_
  · rw [if_pos hc]; exact report_old h c x hc
  · rw [if_neg hc]; exact report_new h c x hc

set_option maxHeartbeats 1000000 in
theorem expect_any {B0 bp : Nat} {E : Env} {w : World} {p : St} (h : PIs B0 bp E w p) (x : ByteArray) :
    Calls Tryd.prog 47 #[ptr bp, .string x] w fun e w' => e = .returned (.bool (isW E p x)) ∧ PIs B0 bp E w' (exq E p x) ∧ Fr B0 w w' := by
  have HA := Lib.hid (accept_any h x)
  unfold exq
  clear h
  cases hx : isW E p x with
  | true =>
    rw [hx] at HA
    clear hx
    unfold ptr at *
    go_enter Tryd.func47, Tryd.ntmps47
    go_wp2_with (fail)
    refine HA.out.mono ?_
    rintro e w1 ⟨rfl, hp1, hf1⟩
    have HP1 := Lib.hid hp1
    have HF1 := Lib.hid hf1
    clear hp1 hf1
    go_wp2_with (fail)
    go_ret
    exact ⟨rfl, HP1.out, HF1.out⟩
  | false =>
    rw [hx] at HA
    clear hx
    unfold ptr at *
    go_enter Tryd.func47, Tryd.ntmps47
    go_wp2_with (fail)
    refine HA.out.mono ?_
    rintro e w1 ⟨rfl, hp1, hf1⟩
    have HF1 := Lib.hid hf1
    have HR := Lib.hid (report_any (show PIs B0 bp E w1 p from hp1) 4 x)
    clear hp1 hf1
    go_wp2_with (fail)
    refine HR.out.mono ?_
    rintro e w2 ⟨rfl, hp2, hf2⟩
    have HP2 := Lib.hid hp2
    have HF2 := Lib.hid (HF1.out.trans hf2)
    clear hp2 hf2
    go_wp2_with (fail)
    go_ret
    exact ⟨rfl, HP2.out, HF2.out⟩

set_option maxHeartbeats 1000000 in
theorem name_any {B0 bp : Nat} {E : Env} {w : World} {p : St} (h : PIs B0 bp E w p) :
    Calls Tryd.prog 46 #[ptr bp] w fun e w' => e = .returned (.string (nam E p).1) ∧ PIs B0 bp E w' (nam E p).2 ∧ Fr B0 w w' := by
  have HK := Lib.hid (kind_any h)
  have HP := Lib.hid h
  clear h
  unfold nam
  by_cases hk : knd E p = 0
  · have h5 : knd E p ≠ 5 := by omega
    rw [if_pos hk]
    rw [hk] at HK
    have HR := Lib.hid (fun w1 hb => read_any (HP.out.later (w' := w1) hb) h5)
    clear hk h5
    unfold ptr at *
    go_enter Tryd.func46, Tryd.ntmps46
    go_wp2_with (fail)
    refine HK.out.mono ?_
    rintro e w1 ⟨rfl, hb1⟩
    have HB1 := Lib.hid hb1
    clear hb1
    go_wp2_with (fail)
    refine (HR.out w1 HB1.out).mono ?_
    rintro e w2 ⟨rfl, hp2, hf2⟩
    have HP2 := Lib.hid hp2
    have HF2 := Lib.hid ((Fr.of_below HB1.out HP.out.b0).trans hf2)
    clear hp2 hf2
    go_wp2_with (fail)
    go_ret
    exact ⟨rfl, HP2.out, HF2.out⟩
  · have hd : (knd E p == 0) = false := by simpa using hk
    rw [if_neg hk]
    have HR := Lib.hid (fun w1 hb => report_any (HP.out.later (w' := w1) hb) 4 (⟨#[110, 97, 109, 101]⟩ : ByteArray))
    clear hk
    generalize knd E p = kd at *
    unfold ptr at *
    go_enter Tryd.func46, Tryd.ntmps46
    go_wp2_with (fail)
    refine HK.out.mono ?_
    rintro e w1 ⟨rfl, hb1⟩
    have HB1 := Lib.hid hb1
    clear hb1
    go_wp2_with (fail)
    refine (HR.out w1 HB1.out).mono ?_
    rintro e w2 ⟨rfl, hp2, hf2⟩
    have HP2 := Lib.hid hp2
    have HF2 := Lib.hid ((Fr.of_below HB1.out HP.out.b0).trans hf2)
    clear hp2 hf2
    go_wp2_with (fail)
    go_ret
    exact ⟨rfl, HP2.out, HF2.out⟩
end Go.Proofs.YtnpcfmoiiecadaaDoor.Par
