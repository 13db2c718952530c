/- What is proved: the reference's parser: report, expect, name. -/
import Derived.Test.YtnpcfmoiiecadaaDoorParRead
set_option linter.unusedVariables false
namespace Go.Proofs.YtnpcfmoiiecadaaDoor.Par
open Go.RowKit
open Lx (Tok)

theorem infoDg : (Tryd.prog.info? 96).map (fun i => (i.zero, i.size, i.bytes)) = some (some (.agg #[.int .i64 0, .int .i64 0, .int .i64 0, .string ⟨#[]⟩, .slice none 0 0]), 5, 64) := by kernel_rfl
theorem dcells_one (d : Dg) : ∀ u ∈ dcells [d], u.oneCell' = true := by
  intro u hu
  simp [dcells] at hu
  rcases hu with rfl | rfl | rfl | rfl | rfl <;> rfl

theorem own_ty {w : World} {B n sz : Nat} {e : TypeId} {v : Value} {xs : List Value} (h : w.ownsRow B e sz v n xs) : ∀ k, v.ownBlock = some k → TyB e w k ∧ B ≤ k := by
  intro k hk
  rcases h.2 with ⟨rfl, _⟩ | ⟨g, cap, cur, rfl, h2, h3, h4⟩
  · cases hk
  · cases hk; exact ⟨⟨_, _, h3⟩, h2⟩
theorem own_shape {w : World} {B n sz : Nat} {e : TypeId} {v : Value} {xs : List Value} (h : w.ownsRow B e sz v n xs) : ∃ (A : Option Addr) (c : Nat), v = .slice A n c := by
  rcases h.2 with ⟨rfl, rfl⟩ | ⟨g, cap, cur, rfl, _⟩
  · exact ⟨_, _, rfl⟩
  · exact ⟨_, _, rfl⟩
theorem Fr.grown {B0 : Nat} {w w1 w3 : World} {v : Value} {n : Nat} {xs : List Value} (h : Fr B0 w w1) (hB : B0 ≤ w.heap.size) (ho : w1.ownsRow B0 96 5 v n xs) (hg : w1.grownBy w3 v.ownBlock) : Fr B0 w w3 := by
  refine ⟨h.below.grown hg (Nat.le_trans hB h.below.size) (fun k hk => (own_ty ho k hk).2), fun b hb hm => ?_⟩
  have e := h.keep b hb hm
  refine (hg.block b (Nat.lt_of_lt_of_le hb h.below.size) (fun hk => hm ?_)).trans e
  obtain ⟨cs, fr, h3⟩ := (own_ty ho b hk.symm).1
  exact Mut.of_eq e (.inr ⟨cs, fr, h3⟩)

/-- one more is reported -/
theorem PIs.grown {B0 bp : Nat} {E : Env} {w1 wa w3 : World} {p : St} {v : Value} {d : Dg} {g cap : Nat} (h : PIs B0 bp E w1 p)
    (hb : w1.heap[bp]? = some (.cells #[.string E.s, .slice E.A E.T.length E.c, .int .i64 (p.k : Int), .int .i64 p.last, v] 69 (0, 0)))
    (ho : w1.ownsRow B0 96 5 v p.list.length (dcells p.list)) (ha : Below w1.heap.size w1 wa) (hg : wa.grownBy w3 v.ownBlock)
    (hown : w3.ownsRow B0 96 5 (.slice (some ⟨g, 0, none⟩) (p.list.length + 1) cap) (p.list.length + 1) (dcells p.list ++ dcells [d])) (hok : (⟨p.k, p.last, p.list ++ [d]⟩ : St).Ok E) :
    PIs B0 bp E (w3.setCell ⟨bp, 4, none⟩ (.slice (some ⟨g, 0, none⟩) (p.list.length + 1) cap)) ⟨p.k, p.last, p.list ++ [d]⟩ ∧ Fr B0 w1 (w3.setCell ⟨bp, 4, none⟩ (.slice (some ⟨g, 0, none⟩) (p.list.length + 1) cap)) ∧ w3.cell? ⟨bp, 4, none⟩ = some v ∧ w3.frozen? ⟨bp, 4, none⟩ = false := by
  have hoa := own_later ho ha
  have hf : Fr B0 w1 w3 := (Fr.of_below ha h.b0).grown h.b0 hoa hg
  have hlt := h.lt
  have hne : ∀ t b, TyB t w1 b → t ≠ 69 → b ≠ bp := fun t b hb' hn e => by
    obtain ⟨cs, fr, e1⟩ := hb'
    rw [e, hb] at e1; cases e1; exact hn rfl
  have h3 : w3.heap[bp]? = w1.heap[bp]? := (hg.block bp (Nat.lt_of_lt_of_le hlt ha.size) (fun hk => by
    obtain ⟨cs, fr, e1⟩ := (own_ty ho bp hk.symm).1
    exact hne _ bp ⟨cs, fr, e1⟩ (by decide) rfl)).trans (ha.block bp hlt)
  have h3' := h3.trans hb
  have hgne : g ≠ bp := fun e => by
    obtain ⟨cs, fr, e1⟩ := (own_ty hown g rfl).1
    rw [e, h3'] at e1; cases e1
  refine ⟨⟨h.base, ⟨.slice (some ⟨g, 0, none⟩) (p.list.length + 1) cap, by rw [hset h3' _]; rfl, ?_⟩, ?_, h.eok, hok⟩, hf.set h.base h.mut 4 _, Lib.cell_of_heap h3' 4, hfrz h3' 4⟩
  · have e : (p.list ++ [d]).length = p.list.length + 1 := by simp
    show World.ownsRow _ B0 _ 5 _ (p.list ++ [d]).length (dcells (p.list ++ [d]))
    rw [e, dcells_append]
    refine own_far (g0 := 0) hown (fun b hb' => Below.heap_setCell w3 ⟨bp, 4, none⟩ _ b (fun e1 => ?_))
    have e2 : b = bp := e1
    obtain ⟨cs, fr, e3⟩ := hb'
    rw [e2, h3'] at e3; cases e3
  · obtain ⟨b, off, ht⟩ := h.tok
    have hb1 : w3.heap[b]? = w1.heap[b]? := TyB.fr ht.ty (by decide) (by decide) hf
    exact ⟨b, off, ht.keep ((Below.heap_setCell w3 ⟨bp, 4, none⟩ _ b (fun e => hne _ b ht.ty (by decide) e)).trans hb1)⟩
theorem rep_ok {E : Env} {p : St} {c : Int} {x : ByteArray} (h : p.Ok E) (hne : ¬ (p.list.getLast?.map Dg.at_) = some (tk E p.k).at_) : (⟨p.k, p.last, p.list ++ [⟨c, (tk E p.k).at_, (tk E p.k).hi, x⟩]⟩ : St).Ok E := by
  refine ⟨h.1, ?_⟩
  rcases h.2 with h1 | h1
  · by_cases h2 : p.list.length + 1 ≤ p.k
    · exact .inl (by simpa using h2)
    · refine .inr ⟨?_, by simp⟩
      show (p.list ++ [_]).length = p.k + 1
      simp; omega
  · exact absurd h1.2 hne

set_option maxHeartbeats 4000000 in
theorem report_new {B0 bp : Nat} {E : Env} {w : World} {p : St} (h : PIs B0 bp E w p) (c : Int) (x : ByteArray) (hne : ¬ (p.list.getLast?.map Dg.at_) = some (tk E p.k).at_) :
    Calls Tryd.prog 27 #[ptr bp, .int .i64 c, .string x] w fun e w' => e = .returned (.tuple #[]) ∧ PIs B0 bp E w' ⟨p.k, p.last, p.list ++ [⟨c, (tk E p.k).at_, (tk E p.k).hi, x⟩]⟩ ∧ Fr B0 w w' := by
  obtain ⟨i0, hi0, hz0, hz1, hz2⟩ := info_parts infoDg
  have HP := Lib.hid h
  have HO := Lib.hid (rep_ok (c := c) (x := x) h.ok hne)
  clear h
  unfold ptr at *
  go_enter Tryd.func27, Tryd.ntmps27
  go_wp2_with (fail)
  have hba := (Below.refl w.heap.size w).alloc (Nat.le_refl _) (.cells #[.int .i64 0, .int .i64 0, .int .i64 0, .int .i64 0] 93)
  obtain ⟨b, off, ht'⟩ := HP.out.tok
  have HTY := ht'.ty.lt
  have HPA := Lib.hid (HP.out.later hba)
  have HBA := Lib.hid hba
  have hnew : (w.alloc (.cells #[.int .i64 0, .int .i64 0, .int .i64 0, .int .i64 0] 93)).heap[w.heap.size]? = some (.cells #[.int .i64 0, .int .i64 0, .int .i64 0, .int .i64 0] 93 (0, 0)) := heap_alloc_new w _
  obtain ⟨v, hb, ho⟩ := HPA.out.box
  have ht := ht'.keep (hba.block b HTY)
  have c1 : (w.alloc (.cells #[.int .i64 0, .int .i64 0, .int .i64 0, .int .i64 0] 93)).cell? ⟨bp, 1, none⟩ = some (.slice E.A E.T.length E.c) := Lib.cell_of_heap hb 1
  have c2 : (w.alloc (.cells #[.int .i64 0, .int .i64 0, .int .i64 0, .int .i64 0] 93)).cell? ⟨bp, 2, none⟩ = some (.int .i64 (p.k : Int)) := Lib.cell_of_heap hb 2
  rw [ht.A] at c1
  obtain ⟨t0, t1, t2, t3⟩ := ht.cells p.k HPA.out.ok.1
  have hk : (p.k : Int) < (E.T.length : Int) := by have := HPA.out.ok.1; omega
  have hk0 : (0 : Int) ≤ (p.k : Int) := by omega
  have s0 := Lib.cell_of_heap hnew 0
  have s1 := Lib.cell_of_heap hnew 1
  have s2 := Lib.cell_of_heap hnew 2
  have s3 := Lib.cell_of_heap hnew 3
  have e0 := hfrz hnew 0
  have e1 := hfrz hnew 1
  have e2 := hfrz hnew 2
  have e3 := hfrz hnew 3
  have HNW := Lib.hid hnew
  have HTA := Lib.hid ht.A
  clear hba hnew ho hb ht ht'
  have m1 : w.cell? ⟨bp, 1, none⟩ = some (.slice (some ⟨b, off, none⟩) E.T.length E.c) := (HBA.out.cell (p := ⟨bp, 1, none⟩) HP.out.lt).symm.trans c1
  have m2 : w.cell? ⟨bp, 2, none⟩ = some (.int .i64 (p.k : Int)) := (HBA.out.cell (p := ⟨bp, 2, none⟩) HP.out.lt).symm.trans c2
  have HTB := Lib.hid (HTY : b < w.heap.size)
  have n0 := (HBA.out.cell (p := ⟨b, off + p.k * 4, none⟩) HTB.out).symm.trans t0
  have n1 := (HBA.out.cell (p := ⟨b, off + p.k * 4 + 1, none⟩) HTB.out).symm.trans t1
  have n2 := (HBA.out.cell (p := ⟨b, off + p.k * 4 + 2, none⟩) HTB.out).symm.trans t2
  have n3 := (HBA.out.cell (p := ⟨b, off + p.k * 4 + 3, none⟩) HTB.out).symm.trans t3
  go_region
  have HB1 := Lib.hid (((Below.refl w.heap.size w).alloc (Nat.le_refl _) (.cells #[.int .i64 (tk E p.k).kind, .int .i64 (tk E p.k).lo, .int .i64 (tk E p.k).at_, .int .i64 (tk E p.k).hi] 93)).drew)
  have htb : (w.alloc (.cells #[.int .i64 (tk E p.k).kind, .int .i64 (tk E p.k).lo, .int .i64 (tk E p.k).at_, .int .i64 (tk E p.k).hi] 93)).drew.heap[w.heap.size]? = some (.cells #[.int .i64 (tk E p.k).kind, .int .i64 (tk E p.k).lo, .int .i64 (tk E p.k).at_, .int .i64 (tk E p.k).hi] 93 (0, 0)) := heap_alloc_new w _
  clear c1 c2 t0 t1 t2 t3 s0 s1 s2 s3 e0 e1 e2 e3 m1 m2 n0 n1 n2 n3 hk hk0 HNW HPA HBA HTA HTB HTY
  generalize (w.alloc (.cells #[.int .i64 (tk E p.k).kind, .int .i64 (tk E p.k).lo, .int .i64 (tk E p.k).at_, .int .i64 (tk E p.k).hi] 93)).drew = w1 at *
  have HP1 := Lib.hid (HP.out.later HB1.out)
  have HTB := Lib.hid htb
  have s2 := Lib.cell_of_heap htb 2
  have s3 := Lib.cell_of_heap htb 3
  obtain ⟨v', hb', ho'⟩ := HP1.out.box
  have HBX := Lib.hid hb'
  have HOW := Lib.hid ho'
  have c4 : w1.cell? ⟨bp, 4, none⟩ = some v' := Lib.cell_of_heap hb' 4
  clear htb hb'
  have HN := Lib.hid hne
  obtain ⟨A4, cap4, hv4⟩ := own_shape ho'
  by_cases hl : p.list.length = 0
  · have hd1 : decide ((0 : Int) < (p.list.length : Int)) = false := by simp [hl]
    have hd2 : ¬ (0 < p.list.length) := by omega
    have HL := Lib.hid hl
    clear hl ho'
    rw [hv4] at c4
    go_wp2_with (fail)
    go_quiet (fail)
    go_wp2_with (fail)
    have htb2 : (w1.drewN nq).heap[w.heap.size]? = some (.cells #[.int .i64 (tk E p.k).kind, .int .i64 (tk E p.k).lo, .int .i64 (tk E p.k).at_, .int .i64 (tk E p.k).hi] 93 (0, 0)) := HTB.out
    have HP2 := Lib.hid (HP1.out.later (below_drew w1 nq))
    have HB2 := Lib.hid (HB1.out.trans ((below_drew w1 nq).mono HB1.out.size))
    have hb2 : (w1.drewN nq).heap[bp]? = some (.cells #[.string E.s, .slice E.A E.T.length E.c, .int .i64 (p.k : Int), .int .i64 p.last, v'] 69 (0, 0)) := HBX.out
    have HOW2 := Lib.hid (show (w1.drewN nq).ownsRow B0 96 5 v' p.list.length (dcells p.list) from HOW.out)
    clear c4 s2 s3 HP1 HB1 HTB HBX HOW
    generalize w1.drewN nq = w2 at *
    rw [hv4] at hb2 HOW2
    have s2 := Lib.cell_of_heap htb2 2
    have s3 := Lib.cell_of_heap htb2 3
    have c4 := Lib.cell_of_heap hb2 4
    have HBX := Lib.hid hb2
    have HBA := Lib.hid ((Below.refl w2.heap.size w2).alloc (Nat.le_refl _) (.cells #[.int .i64 c, .int .i64 (tk E p.k).at_, .int .i64 (tk E p.k).hi, .string x, .slice none 0 0] 96))
    have ca4 : (w2.alloc (.cells #[.int .i64 c, .int .i64 (tk E p.k).at_, .int .i64 (tk E p.k).hi, .string x, .slice none 0 0] 96)).cell? ⟨bp, 4, none⟩ = some (.slice A4 p.list.length cap4) := (HBA.out.cell (p := ⟨bp, 4, none⟩) HP2.out.lt).trans c4
    have hcap1 : p.list.length + 1 ≤ maxLen := by have h1 := HP2.out.ok; have h2 := HP2.out.eok.len; unfold St.Ok at h1; unfold maxLen; omega
    have hcap2 : (p.list.length + 1) * 64 ≤ 140737488355328 := by have h1 := HP2.out.ok; have h2 := HP2.out.eok.len; unfold St.Ok at h1; omega
    have HC1 := Lib.hid hcap1
    have HC2 := Lib.hid hcap2
    have HB0 := Lib.hid HP2.out.b0
    have HNB := Lib.hid (show ∀ (j : Nat) (u : Value), (dcells [⟨c, (tk E p.k).at_, (tk E p.k).hi, x⟩])[j]? = some u → (w2.alloc (.cells #[.int .i64 c, .int .i64 (tk E p.k).at_, .int .i64 (tk E p.k).hi, .string x, .slice none 0 0] 96)).drew.cell? ((⟨w2.heap.size, 0, none⟩ : Addr).add j) = some u from World.news_of_block (cs := #[.int .i64 c, .int .i64 (tk E p.k).at_, .int .i64 (tk E p.k).hi, .string x, .slice none 0 0]) (heap_alloc_new w2 _))
    have HOA := Lib.hid (show (w2.alloc (.cells #[.int .i64 c, .int .i64 (tk E p.k).at_, .int .i64 (tk E p.k).hi, .string x, .slice none 0 0] 96)).drew.ownsRow B0 96 5 (.slice A4 p.list.length cap4) p.list.length (dcells p.list) from own_later HOW2.out HBA.out.drew)
    have HLA := Lib.hid (show B0 ≤ (w2.alloc (.cells #[.int .i64 c, .int .i64 (tk E p.k).at_, .int .i64 (tk E p.k).hi, .string x, .slice none 0 0] 96)).drew.heap.size by have := HB0.out; show B0 ≤ (w2.alloc _).heap.size; rw [World.size_alloc]; omega)
    have HSA := Lib.hid (show (w2.alloc (.cells #[.int .i64 c, .int .i64 (tk E p.k).at_, .int .i64 (tk E p.k).hi, .string x, .slice none 0 0] 96)).drew.heap.size = w2.heap.size + 1 from World.size_alloc _ _)
    clear hcap1 hcap2 htb2 hb2 hd1 hd2 hv4
    go_region_law (first | (refine step_append_lies _ (by rfl) _ _ _ (by rfl) B0 96 i0 _ 5 64 Tryd.underlying32 hi0 hz0 hz1 hz2 rfl (by decide) (.slice A4 p.list.length cap4) p.list.length (dcells p.list) (by rfl) HOA.out ⟨w2.heap.size, 0, none⟩ 1 1 (dcells [⟨c, (tk E p.k).at_, (tk E p.k).hi, x⟩]) (by rfl) (by rfl) HNB.out (dcells_one _) (by decide) HC1.out HC2.out HLA.out (w2.heap.size + 1) HSA.out ?_; intro g cap w3 hown hgr hsel hgl; obtain ⟨hpn, hfn, x4, y4⟩ := PIs.grown (d := ⟨c, (tk E p.k).at_, (tk E p.k).hi, x⟩) HP2.out HBX.out HOW2.out HBA.out.drew hgr hown HO.out; have HPN := Lib.hid hpn; have HFN := Lib.hid hfn; clear hown hgr hsel hgl hpn hfn))
    all_goals
      go_end0
      exact ⟨rfl, HPN.out, (Fr.of_below HB2.out HP.out.b0).trans HFN.out⟩
  · obtain ⟨m, hm⟩ : ∃ m, p.list.length = m + 1 := ⟨p.list.length - 1, by omega⟩
    have hmlt : m < p.list.length := by omega
    have hd1 : decide ((0 : Int) < (p.list.length : Int)) = true := by simp; omega
    have hd2 : 0 < p.list.length := by omega
    have hnm : (p.list.length : Int) - 1 = (m : Int) := by omega
    have hwm : IntKind.i64.wrap (m : Int) = (m : Int) := by
      have h1 := HP.out.ok
      have h2 := HP.out.eok.len
      unfold St.Ok at h1
      exact IntWalk.i64_in _ ⟨by omega, by omega⟩
    have hm0 : (0 : Int) ≤ (m : Int) := by omega
    have hm1 : (m : Int) < (p.list.length : Int) := by omega
    obtain ⟨b4, hA4, hlt⟩ : ∃ b4, A4 = some ⟨b4, 0, none⟩ ∧ b4 < w1.heap.size := by
      obtain ⟨g, cap, hv, _, hlt⟩ := ho'.form hd2
      rw [hv4] at hv; cases hv; exact ⟨g, rfl, hlt⟩
    subst hA4
    have ha1 : w1.cell? ⟨b4, m * 5 + 1, none⟩ = some (.int .i64 (p.list[m]).at_) := by
      have h1 := ho'.cells (g := b4) (by rw [hv4]; rfl) _ _ (dcells_get p.list m hmlt).2.1
      simpa [Addr.add] using h1
    have hlast : p.list.getLast? = some p.list[m] := by rw [List.getLast?_eq_getElem?, hm, List.getElem?_eq_getElem (by omega)]; rfl
    have hde : ((p.list[m]).at_ == (tk E p.k).at_) = false := by
      rw [hlast] at hne
      simpa using hne
    generalize (p.list[m]).at_ = ax at *
    have HM := Lib.hid hm
    clear hl ho' hm hmlt hlast
    rw [hv4] at c4
    go_wp2_with (fail)
    go_quiet (fail)
    go_wp2_with (fail)
    have htb2 : (w1.drewN nq).heap[w.heap.size]? = some (.cells #[.int .i64 (tk E p.k).kind, .int .i64 (tk E p.k).lo, .int .i64 (tk E p.k).at_, .int .i64 (tk E p.k).hi] 93 (0, 0)) := HTB.out
    have HP2 := Lib.hid (HP1.out.later (below_drew w1 nq))
    have HB2 := Lib.hid (HB1.out.trans ((below_drew w1 nq).mono HB1.out.size))
    have hb2 : (w1.drewN nq).heap[bp]? = some (.cells #[.string E.s, .slice E.A E.T.length E.c, .int .i64 (p.k : Int), .int .i64 p.last, v'] 69 (0, 0)) := HBX.out
    have HOW2 := Lib.hid (show (w1.drewN nq).ownsRow B0 96 5 v' p.list.length (dcells p.list) from HOW.out)
    clear c4 s2 s3 HP1 HB1 HTB HBX HOW
    generalize w1.drewN nq = w2 at *
    rw [hv4] at hb2 HOW2
    have s2 := Lib.cell_of_heap htb2 2
    have s3 := Lib.cell_of_heap htb2 3
    have c4 := Lib.cell_of_heap hb2 4
    have HBX := Lib.hid hb2
    have HBA := Lib.hid ((Below.refl w2.heap.size w2).alloc (Nat.le_refl _) (.cells #[.int .i64 c, .int .i64 (tk E p.k).at_, .int .i64 (tk E p.k).hi, .string x, .slice none 0 0] 96))
    have ca4 : (w2.alloc (.cells #[.int .i64 c, .int .i64 (tk E p.k).at_, .int .i64 (tk E p.k).hi, .string x, .slice none 0 0] 96)).cell? ⟨bp, 4, none⟩ = some (.slice (some ⟨b4, 0, none⟩) p.list.length cap4) := (HBA.out.cell (p := ⟨bp, 4, none⟩) HP2.out.lt).trans c4
    have hcap1 : p.list.length + 1 ≤ maxLen := by have h1 := HP2.out.ok; have h2 := HP2.out.eok.len; unfold St.Ok at h1; unfold maxLen; omega
    have hcap2 : (p.list.length + 1) * 64 ≤ 140737488355328 := by have h1 := HP2.out.ok; have h2 := HP2.out.eok.len; unfold St.Ok at h1; omega
    have HC1 := Lib.hid hcap1
    have HC2 := Lib.hid hcap2
    have HB0 := Lib.hid HP2.out.b0
    have HNB := Lib.hid (show ∀ (j : Nat) (u : Value), (dcells [⟨c, (tk E p.k).at_, (tk E p.k).hi, x⟩])[j]? = some u → (w2.alloc (.cells #[.int .i64 c, .int .i64 (tk E p.k).at_, .int .i64 (tk E p.k).hi, .string x, .slice none 0 0] 96)).drew.cell? ((⟨w2.heap.size, 0, none⟩ : Addr).add j) = some u from World.news_of_block (cs := #[.int .i64 c, .int .i64 (tk E p.k).at_, .int .i64 (tk E p.k).hi, .string x, .slice none 0 0]) (heap_alloc_new w2 _))
    have HOA := Lib.hid (show (w2.alloc (.cells #[.int .i64 c, .int .i64 (tk E p.k).at_, .int .i64 (tk E p.k).hi, .string x, .slice none 0 0] 96)).drew.ownsRow B0 96 5 (.slice (some ⟨b4, 0, none⟩) p.list.length cap4) p.list.length (dcells p.list) from own_later HOW2.out HBA.out.drew)
    have HLA := Lib.hid (show B0 ≤ (w2.alloc (.cells #[.int .i64 c, .int .i64 (tk E p.k).at_, .int .i64 (tk E p.k).hi, .string x, .slice none 0 0] 96)).drew.heap.size by have := HB0.out; show B0 ≤ (w2.alloc _).heap.size; rw [World.size_alloc]; omega)
    have HSA := Lib.hid (show (w2.alloc (.cells #[.int .i64 c, .int .i64 (tk E p.k).at_, .int .i64 (tk E p.k).hi, .string x, .slice none 0 0] 96)).drew.heap.size = w2.heap.size + 1 from World.size_alloc _ _)
    clear hcap1 hcap2 htb2 hb2 hd1 hd2 hv4 hnm hwm hm0 hm1 hlt ha1 hde
    go_region_law (first | (refine step_append_lies _ (by rfl) _ _ _ (by rfl) B0 96 i0 _ 5 64 Tryd.underlying32 hi0 hz0 hz1 hz2 rfl (by decide) (.slice (some ⟨b4, 0, none⟩) p.list.length cap4) p.list.length (dcells p.list) (by rfl) HOA.out ⟨w2.heap.size, 0, none⟩ 1 1 (dcells [⟨c, (tk E p.k).at_, (tk E p.k).hi, x⟩]) (by rfl) (by rfl) HNB.out (dcells_one _) (by decide) HC1.out HC2.out HLA.out (w2.heap.size + 1) HSA.out ?_; intro g cap w3 hown hgr hsel hgl; obtain ⟨hpn, hfn, x4, y4⟩ := PIs.grown (d := ⟨c, (tk E p.k).at_, (tk E p.k).hi, x⟩) HP2.out HBX.out HOW2.out HBA.out.drew hgr hown HO.out; have HPN := Lib.hid hpn; have HFN := Lib.hid hfn; clear hown hgr hsel hgl hpn hfn))
    all_goals
      go_end0
      exact ⟨rfl, HPN.out, (Fr.of_below HB2.out HP.out.b0).trans HFN.out⟩

end Go.Proofs.YtnpcfmoiiecadaaDoor.Par
