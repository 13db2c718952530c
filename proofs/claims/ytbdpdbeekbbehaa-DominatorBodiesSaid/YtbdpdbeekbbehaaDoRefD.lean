/- What is proved: the reference's Dominates and Postdominates. -/
import Derived.Test.YtbdpdbeekbbehaaDoRefV
import Derived.Test.YtbdpdbeekbbehaaDoReach
import Derived.Test.YtbdpdbeekbbehaaDoDom2
set_option linter.unusedVariables false
namespace Go.Proofs.Ytbdpdbeekbbehaa
open Go.RowKit Go.Shelf

theorem rvalid_any (A : Option Addr) (c : Nat) (l : List PtV) (w : World) (hs : FlSm l) (hp : PRow w.heap.size w A l) :
    Calls Try.prog 14 #[.agg #[.slice A l.length c]] w fun e W => e = .returned (.bool (validP l)) ∧ Below w.heap.size w W := by
  have HP := Lib.hid hp
  have HB1 := Lib.hid ((Below.refl w.heap.size w).alloc (Nat.le_refl _) (.cells #[.slice A l.length c] 24))
  have HFB := Lib.hid (show FBx (w.alloc (.cells #[.slice A l.length c] 24)) w.heap.size A c l from heap_alloc_new w _)
  have c0 := HFB.out.cell
  have HS := Lib.hid hs
  clear hp hs
  go_enter Try.func14, Try.ntmps14
  go_wp2_with (fail)
  generalize (w.alloc (.cells #[.slice A l.length c] 24)) = w1 at *
  refine (rvalid17_any A c l w1 HS.out ((HP.out.below HB1.out).mono HB1.out.size)).mono ?_
  rintro e w2 ⟨rfl, hb2⟩
  have HB2 := Lib.hid (HB1.out.trans (hb2.mono HB1.out.size))
  clear c0 hb2
  go_wp2_with (fail)
  go_ret
  exact ⟨rfl, HB2.out⟩
theorem reach_any (A : Option Addr) (c : Nat) (l : List PtV) (fr : Nat) (wo : Int) (w : World) (hl : FlOk l) (hp : PRow w.heap.size w A l) (hf : fr < l.length) :
    Calls Try.prog 51 #[.agg #[.slice A l.length c], .int .i64 (fr : Int), .int .i64 wo] w (ReRes l fr wo w) := by
  have HP := Lib.hid hp
  have HB1 := Lib.hid ((Below.refl w.heap.size w).alloc (Nat.le_refl _) (.cells #[.slice A l.length c] 24))
  have HFB := Lib.hid (show FBx (w.alloc (.cells #[.slice A l.length c] 24)) w.heap.size A c l from heap_alloc_new w _)
  have c0 := HFB.out.cell
  have HL := Lib.hid hl
  clear hp hl
  go_enter Try.func51, Try.ntmps51
  go_wp2_with (fail)
  generalize (w.alloc (.cells #[.slice A l.length c] 24)) = w1 at *
  refine (reach17_any A c l fr wo w1 HL.out ((HP.out.below HB1.out).mono HB1.out.size) hf).mono ?_
  rintro e w2 ⟨ob, f, rfl, h1, h2, h3, hb2⟩
  have HH := Lib.hid (show ReRes l fr wo w (.returned (.slice (some ⟨ob, 0, none⟩) l.length l.length)) w2 from ⟨ob, f, rfl, h1, h2, Nat.le_trans HB1.out.size h3, HB1.out.trans (hb2.mono HB1.out.size)⟩)
  clear c0 hb2 h1 h2 h3
  go_wp2_with (fail)
  go_ret
  exact HH.out
theorem isPoint_any (A : Option Addr) (c : Nat) (l : List PtV) (a : Int) (w : World) (hp : l.length ≤ 1000000) :
    Calls Try.prog 50 #[.agg #[.slice A l.length c], .int .i64 a] w fun e W => e = .returned (.bool (decide (0 ≤ a) && decide (a < (l.length : Int)))) ∧ Below w.heap.size w W := by
  have HP := Lib.hid hp
  have HB1 := Lib.hid ((Below.refl w.heap.size w).alloc (Nat.le_refl _) (.cells #[.slice A l.length c] 24))
  have HFB := Lib.hid (show FBx (w.alloc (.cells #[.slice A l.length c] 24)) w.heap.size A c l from heap_alloc_new w _)
  have c0 := HFB.out.cell
  clear hp
  go_enter Try.func50, Try.ntmps50
  by_cases ha : 0 ≤ a
  · have HA := Lib.hid ha
    go_wp2_with (fail)
    go_ret
    rw [decide_eq_true HA.out, Bool.true_and]
    exact ⟨rfl, HB1.out⟩
  · have HA := Lib.hid (show ¬ 0 ≤ a from ha)
    go_wp2_with (fail)
    go_ret
    rw [decide_eq_false (show ¬ 0 ≤ a by have := HA.out; omega), Bool.false_and]
    exact ⟨rfl, HB1.out⟩
theorem rch_rev {E F : Nat → List Nat} (h : ∀ q x, q ∈ F x ↔ x ∈ E q) {X : Nat → Prop} {a b : Nat} (g : Rch F X a b) : Rch E X b a := by
  induction g with
  | here h1 => exact .here h1
  | @step b c _ h1 h2 ih => exact Rch.cons h2 ((h _ _).1 h1) ih
theorem rch_all {E : Nat → List Nat} {a b : Nat} : Rch E (fun x : Nat => (x : Int) ≠ -1) a b ↔ Rea E a b := ⟨fun h => h.mono fun _ _ => trivial, fun h => h.mono fun x _ => by omega⟩
theorem rch_nat {E : Nat → List Nat} {a b y : Nat} : Rch E (fun x : Nat => (x : Int) ≠ (y : Int)) a b ↔ Rch E (fun x => x ≠ y) a b := ⟨fun h => h.mono fun x hx => by omega, fun h => h.mono fun x hx => by omega⟩
theorem rea_lt {l : List PtV} (hl : FlOk l) {a b : Nat} (ha : a < l.length) (h : Rea (edg l) a b) : b < l.length := by
  induction h with
  | here _ => exact ha
  | @step b c _ h1 _ ih => exact hl.gr.lt b ih c h1
theorem rch_big {l : List PtV} (hl : FlOk l) {a b y : Nat} (ha : a < l.length) (hy : l.length ≤ y) (h : Rea (edg l) a b) : Rch (edg l) (fun x => x ≠ y) a b := by
  induction h with
  | here _ => exact .here (by omega)
  | @step b c g h1 _ ih => exact .step ih h1 (by have := rea_lt hl ha (.step g h1 trivial); omega)
theorem no_pt {l : List PtV} {E : Nat → List Nat} {r : Nat} {a b : Int} (h : ¬ (0 ≤ b ∧ b < (l.length : Int))) : ¬ DomS E r l a b := by
  rintro ⟨_, v, y, rfl, rfl, hv, _⟩
  exact h ⟨by omega, by omega⟩
theorem domS_at {E : Nat → List Nat} {r : Nat} {l : List PtV} (hv : validP l = true) {a b : Nat} (hb : b < l.length) : DomS E r l (a : Int) (b : Int) ↔ Dom E r a b := by
  constructor
  · rintro ⟨_, v, y, e1, e2, _, h⟩
    have := Int.ofNat.inj e1
    have := Int.ofNat.inj e2
    subst_vars
    exact h
  · exact fun h => ⟨hv, b, a, rfl, rfl, hb, h⟩
set_option maxRecDepth 100000 in
set_option maxHeartbeats 4000000 in
theorem rdominates_any (A : Option Addr) (c : Nat) (l : List PtV) (a b : Int) (w : World) (hs : FlSm l) (hp : PRow w.heap.size w A l) (T : Bool) (hT : T = true ↔ DomS (edg l) 0 l a b) :
    Calls Try.prog 21 #[.agg #[.slice A l.length c], .int .i64 a, .int .i64 b] w fun e W => e = .returned (.bool T) ∧ Below w.heap.size w W := by
  have HP := Lib.hid hp
  have HS := Lib.hid hs
  have HT := Lib.hid hT
  have hln := hs.n
  have HB1 := Lib.hid ((Below.refl w.heap.size w).alloc (Nat.le_refl _) (.cells #[.slice A l.length c] 24))
  have HFB := Lib.hid (show FBx (w.alloc (.cells #[.slice A l.length c] 24)) w.heap.size A c l from heap_alloc_new w _)
  have c0 := HFB.out.cell
  have HF := Lib.hid (show ¬ DomS (edg l) 0 l a b → T = false from fun h => by cases hq : T; rfl; exact absurd (HT.out.1 hq) h)
  clear hp hs hT
  go_enter Try.func21, Try.ntmps21
  go_wp2_with (fail)
  generalize (w.alloc (.cells #[.slice A l.length c] 24)) = w1 at *
  refine (rvalid_any A c l w1 HS.out ((HP.out.below HB1.out).mono HB1.out.size)).mono ?_
  rintro e w2 ⟨rfl, hb⟩
  have HB2 := Lib.hid (HB1.out.trans (hb.mono HB1.out.size))
  have HF2 := Lib.hid (HFB.out.later hb)
  clear c0 hb
  cases hv : validP l with
  | false =>
    have HX := Lib.hid (HF.out fun h => by rw [h.1] at hv; cases hv)
    clear hv
    go_wp2_with (fail)
    go_ret
    rw [HX.out]
    exact ⟨rfl, HB2.out⟩
  | true =>
    have HO := Lib.hid (HS.out.ok hv)
    have HV := Lib.hid hv
    have h2n := HO.out.two
    clear hv
    have c0 := HF2.out.cell
    go_wp2_with (fail)
    refine (isPoint_any A c l a w2 (by omega)).mono ?_
    rintro e w3 ⟨rfl, hb⟩
    have HB3 := Lib.hid (HB2.out.trans (hb.mono HB2.out.size))
    have HF3 := Lib.hid (HF2.out.later hb)
    clear c0 hb
    by_cases ha : 0 ≤ a ∧ a < (l.length : Int)
    · obtain ⟨y, rfl⟩ : ∃ y : Nat, a = (y : Int) := ⟨a.toNat, by omega⟩
      have hy : y < l.length := by omega
      have hda : (decide (0 ≤ (y : Int)) && decide ((y : Int) < (l.length : Int))) = true := by simp; omega
      rw [hda]
      have c0 := HF3.out.cell
      clear ha hda
      go_wp2_with (fail)
      refine (isPoint_any A c l b w3 (by omega)).mono ?_
      rintro e w4 ⟨rfl, hb⟩
      have HB4 := Lib.hid (HB3.out.trans (hb.mono HB3.out.size))
      have HF4 := Lib.hid (HF3.out.later hb)
      clear c0 hb
      by_cases hbb : 0 ≤ b ∧ b < (l.length : Int)
      · obtain ⟨v, rfl⟩ : ∃ v : Nat, b = (v : Int) := ⟨b.toNat, by omega⟩
        have hvn : v < l.length := by omega
        have hdb : (decide (0 ≤ (v : Int)) && decide ((v : Int) < (l.length : Int))) = true := by simp; omega
        rw [hdb]
        have c0 := HF4.out.cell
        have HDS := Lib.hid (show DomS (edg l) 0 l (y : Int) (v : Int) ↔ Dom (edg l) 0 y v from domS_at HV.out hvn)
        clear hbb hdb
        go_wp2_with (fail)
        refine (reach_any A c l 0 (-1) w4 HO.out ((HP.out.below HB4.out).mono HB4.out.size) (by omega)).mono ?_
        rintro e w5 ⟨rb, f, rfl, hba, hfv, _, hb⟩
        have HB5 := Lib.hid (HB4.out.trans (hb.mono HB4.out.size))
        have HF5 := Lib.hid (HF4.out.later hb)
        have k0 := hba.cell (v := v) (by omega)
        have HR := Lib.hid ((hfv v (by omega)).trans rch_all)
        clear c0 hb hba hfv
        cases hr : f v with
        | false =>
          rw [hr] at k0
          have HX := Lib.hid (HF.out fun h => by
            have h5 := (HR.out.2 (HDS.out.1 h).1)
            rw [hr] at h5
            cases h5)
          clear hr
          go_wp2_with (fail)
          go_ret
          rw [HX.out]
          exact ⟨rfl, HB5.out⟩
        | true =>
          rw [hr] at k0
          have HRE := Lib.hid (HR.out.1 hr)
          clear hr
          by_cases he : y = v
          · subst he
            have HX := Lib.hid (HT.out.2 (HDS.out.2 ⟨HRE.out, fun g => g.last rfl⟩))
            go_wp2_with (fail)
            go_ret
            rw [HX.out]
            exact ⟨rfl, HB5.out⟩
          · have hei : ¬ (y : Int) = (v : Int) := by omega
            have heb : ((y : Int) == (v : Int)) = false := beq_eq_false_iff_ne.2 hei
            have c0 := HF5.out.cell
            clear he
            go_wp2_with (fail)
            clear k0
            refine (reach_any A c l 0 (y : Int) w5 HO.out ((HP.out.below HB5.out).mono HB5.out.size) (by omega)).mono ?_
            rintro e w6 ⟨rb2, f2, rfl, hba, hfv, _, hb⟩
            have HB6 := Lib.hid (HB5.out.trans (hb.mono HB5.out.size))
            have k0 := hba.cell (v := v) (by omega)
            have HR2 := Lib.hid ((hfv v (by omega)).trans rch_nat)
            have HX := Lib.hid (show T = !(f2 v) from by
              cases hq : f2 v with
              | true => exact HF.out fun h => (HDS.out.1 h).2 (HR2.out.1 hq)
              | false => exact HT.out.2 (HDS.out.2 ⟨HRE.out, fun g => by
                  have h5 := HR2.out.2 g
                  rw [hq] at h5
                  cases h5⟩))
            clear c0 hb hba hfv
            go_wp2_with (fail)
            go_ret
            rw [HX.out]
            exact ⟨rfl, HB6.out⟩
      · have hdb : (decide (0 ≤ b) && decide (b < (l.length : Int))) = false := by
          rw [Bool.and_eq_false_iff, decide_eq_false_iff_not, decide_eq_false_iff_not]
          omega
        have HX := Lib.hid (HF.out (no_pt hbb))
        rw [hdb]
        clear hbb hdb
        go_wp2_with (fail)
        go_ret
        rw [HX.out]
        exact ⟨rfl, HB4.out⟩
    · have hda : (decide (0 ≤ a) && decide (a < (l.length : Int))) = false := by
        rw [Bool.and_eq_false_iff, decide_eq_false_iff_not, decide_eq_false_iff_not]
        omega
      have HX := Lib.hid (HF.out (show ¬ DomS (edg l) 0 l a b from fun h => by
        obtain ⟨_, v, y, e1, rfl, hvn, hd⟩ := h
        have hyn : l.length ≤ y := by omega
        exact hd.2 (rch_big HO.out (by omega) hyn hd.1)))
      rw [hda]
      clear ha hda
      go_wp2_with (fail)
      go_ret
      rw [HX.out]
      exact ⟨rfl, HB3.out⟩
set_option maxRecDepth 100000 in
set_option maxHeartbeats 4000000 in
theorem rpostdominates_any (A : Option Addr) (c : Nat) (l : List PtV) (a b : Int) (w : World) (hs : FlSm l) (hp : PRow w.heap.size w A l) (T : Bool) (hT : T = true ↔ DomS (bke l) 1 l a b) :
    Calls Try.prog 23 #[.agg #[.slice A l.length c], .int .i64 a, .int .i64 b] w fun e W => e = .returned (.bool T) ∧ Below w.heap.size w W := by
  have HP := Lib.hid hp
  have HS := Lib.hid hs
  have HT := Lib.hid hT
  have hln := hs.n
  have HB1 := Lib.hid ((Below.refl w.heap.size w).alloc (Nat.le_refl _) (.cells #[.slice A l.length c] 24))
  have HFB := Lib.hid (show FBx (w.alloc (.cells #[.slice A l.length c] 24)) w.heap.size A c l from heap_alloc_new w _)
  have c0 := HFB.out.cell
  have HF := Lib.hid (show ¬ DomS (bke l) 1 l a b → T = false from fun h => by cases hq : T; rfl; exact absurd (HT.out.1 hq) h)
  clear hp hs hT
  go_enter Try.func23, Try.ntmps23
  go_wp2_with (fail)
  generalize (w.alloc (.cells #[.slice A l.length c] 24)) = w1 at *
  refine (rvalid_any A c l w1 HS.out ((HP.out.below HB1.out).mono HB1.out.size)).mono ?_
  rintro e w2 ⟨rfl, hb⟩
  have HB2 := Lib.hid (HB1.out.trans (hb.mono HB1.out.size))
  have HF2 := Lib.hid (HFB.out.later hb)
  clear c0 hb
  cases hv : validP l with
  | false =>
    have HX := Lib.hid (HF.out fun h => by rw [h.1] at hv; cases hv)
    clear hv
    go_wp2_with (fail)
    go_ret
    rw [HX.out]
    exact ⟨rfl, HB2.out⟩
  | true =>
    have HO := Lib.hid (HS.out.ok hv)
    have HV := Lib.hid hv
    have h2n := HO.out.two
    clear hv
    have c0 := HF2.out.cell
    go_wp2_with (fail)
    refine (isPoint_any A c l a w2 (by omega)).mono ?_
    rintro e w3 ⟨rfl, hb⟩
    have HB3 := Lib.hid (HB2.out.trans (hb.mono HB2.out.size))
    have HF3 := Lib.hid (HF2.out.later hb)
    clear c0 hb
    by_cases ha : 0 ≤ a ∧ a < (l.length : Int)
    · obtain ⟨y, rfl⟩ : ∃ y : Nat, a = (y : Int) := ⟨a.toNat, by omega⟩
      have hy : y < l.length := by omega
      have hda : (decide (0 ≤ (y : Int)) && decide ((y : Int) < (l.length : Int))) = true := by simp; omega
      rw [hda]
      have c0 := HF3.out.cell
      clear ha hda
      go_wp2_with (fail)
      refine (isPoint_any A c l b w3 (by omega)).mono ?_
      rintro e w4 ⟨rfl, hb⟩
      have HB4 := Lib.hid (HB3.out.trans (hb.mono HB3.out.size))
      have HF4 := Lib.hid (HF3.out.later hb)
      clear c0 hb
      by_cases hbb : 0 ≤ b ∧ b < (l.length : Int)
      · obtain ⟨v, rfl⟩ : ∃ v : Nat, b = (v : Int) := ⟨b.toNat, by omega⟩
        have hvn : v < l.length := by omega
        have hdb : (decide (0 ≤ (v : Int)) && decide ((v : Int) < (l.length : Int))) = true := by simp; omega
        rw [hdb]
        have c0 := HF4.out.cell
        have HDS := Lib.hid (show DomS (bke l) 1 l (y : Int) (v : Int) ↔ Dom (bke l) 1 y v from domS_at HV.out hvn)
        clear hbb hdb
        go_wp2_with (fail)
        refine (reach_any A c l v (-1) w4 HO.out ((HP.out.below HB4.out).mono HB4.out.size) (by omega)).mono ?_
        rintro e w5 ⟨rb, f, rfl, hba, hfv, _, hb⟩
        have HB5 := Lib.hid (HB4.out.trans (hb.mono HB4.out.size))
        have HF5 := Lib.hid (HF4.out.later hb)
        have k0 := hba.cell (v := 1) (by omega)
        have HR := Lib.hid ((hfv 1 (by omega)).trans rch_all)
        clear c0 hb hba hfv
        cases hr : f 1 with
        | false =>
          rw [hr] at k0
          have HX := Lib.hid (HF.out fun h => by
            have h5 := (HR.out.2 (rch_rev HO.out.bmem (HDS.out.1 h).1))
            rw [hr] at h5
            cases h5)
          clear hr
          go_wp2_with (fail)
          go_ret
          rw [HX.out]
          exact ⟨rfl, HB5.out⟩
        | true =>
          rw [hr] at k0
          have HRE := Lib.hid (HR.out.1 hr)
          clear hr
          by_cases he : y = v
          · subst he
            have HX := Lib.hid (HT.out.2 (HDS.out.2 ⟨(rch_rev (fun q x => (HO.out.bmem x q).symm) HRE.out), fun g => g.last rfl⟩))
            go_wp2_with (fail)
            go_ret
            rw [HX.out]
            exact ⟨rfl, HB5.out⟩
          · have hei : ¬ (y : Int) = (v : Int) := by omega
            have heb : ((y : Int) == (v : Int)) = false := beq_eq_false_iff_ne.2 hei
            have c0 := HF5.out.cell
            clear he
            go_wp2_with (fail)
            clear k0
            refine (reach_any A c l v (y : Int) w5 HO.out ((HP.out.below HB5.out).mono HB5.out.size) (by omega)).mono ?_
            rintro e w6 ⟨rb2, f2, rfl, hba, hfv, _, hb⟩
            have HB6 := Lib.hid (HB5.out.trans (hb.mono HB5.out.size))
            have k0 := hba.cell (v := 1) (by omega)
            have HR2 := Lib.hid ((hfv 1 (by omega)).trans rch_nat)
            have HX := Lib.hid (show T = !(f2 1) from by
              cases hq : f2 1 with
              | true => exact HF.out fun h => (HDS.out.1 h).2 (rch_rev (fun q x => (HO.out.bmem x q).symm) (HR2.out.1 hq))
              | false => exact HT.out.2 (HDS.out.2 ⟨(rch_rev (fun q x => (HO.out.bmem x q).symm) HRE.out), fun g => by
                  have h5 := HR2.out.2 (rch_rev HO.out.bmem g)
                  rw [hq] at h5
                  cases h5⟩))
            clear c0 hb hba hfv
            go_wp2_with (fail)
            go_ret
            rw [HX.out]
            exact ⟨rfl, HB6.out⟩
      · have hdb : (decide (0 ≤ b) && decide (b < (l.length : Int))) = false := by
          rw [Bool.and_eq_false_iff, decide_eq_false_iff_not, decide_eq_false_iff_not]
          omega
        have HX := Lib.hid (HF.out (no_pt hbb))
        rw [hdb]
        clear hbb hdb
        go_wp2_with (fail)
        go_ret
        rw [HX.out]
        exact ⟨rfl, HB4.out⟩
    · have hda : (decide (0 ≤ a) && decide (a < (l.length : Int))) = false := by
        rw [Bool.and_eq_false_iff, decide_eq_false_iff_not, decide_eq_false_iff_not]
        omega
      have HX := Lib.hid (HF.out (show ¬ DomS (bke l) 1 l a b from fun h => by
        obtain ⟨_, v, y, e1, rfl, hvn, hd⟩ := h
        have hyn : l.length ≤ y := by omega
        exact hd.2 (rch_rev (fun q x => (HO.out.bmem x q).symm) (rch_big HO.out hvn hyn (rch_rev HO.out.bmem hd.1)))))
      rw [hda]
      clear ha hda
      go_wp2_with (fail)
      go_ret
      rw [HX.out]
      exact ⟨rfl, HB3.out⟩
end Go.Proofs.Ytbdpdbeekbbehaa
