/- What is proved: the reference of package gates: its builder, by value: New, Input. -/
import Derived.Test.YtbcabnbgkicfdaaGaDo
import Derived.Test.YtbcabnbgkicfdaaGaFit
set_option linter.unusedVariables false
set_option linter.unusedSimpArgs false
namespace Go.Proofs.Ytbcabnbgkicfdaa
open Go.RowKit Go.Maps

/-- a variable that holds a reference's builder -/
def RBx (w : World) (b : Nat) (I : Int) (A : Option Addr) (n c : Nat) (e : Int) : Prop := w.heap[b]? = some (.cells #[.int .i64 I, .slice A n c, .int .i64 e] 32 (0, 0))
section
variable {w w' : World} {b : Nat} {I : Int} {A : Option Addr} {n c : Nat} {e : Int}
theorem RBx.cells (h : RBx w b I A n c e) : w.cell? ⟨b, 0, none⟩ = some (.int .i64 I) ∧ w.cell? ⟨b, 1, none⟩ = some (.slice A n c) ∧ w.cell? ⟨b, 2, none⟩ = some (.int .i64 e) := ⟨Lib.cell_of_heap h 0, Lib.cell_of_heap h 1, Lib.cell_of_heap h 2⟩
theorem RBx.later (h : RBx w b I A n c e) (hb : Below w.heap.size w w') : RBx w' b I A n c e := (hb.block b (Go.Proofs.Ytbcabnbgkicfdaa.hlt h)).trans h
theorem RBx.new (w : World) (I : Int) (A : Option Addr) (n c : Nat) (e : Int) : RBx (w.alloc (.cells #[.int .i64 I, .slice A n c, .int .i64 e] 32)) w.heap.size I A n c e := heap_alloc_new w _
theorem RBx.frz (h : RBx w b I A n c e) (i : Nat) : w.frozen? ⟨b, i, none⟩ = false := hfrz h i
theorem RBx.put (h : RBx w b I A n c e) (I' : Int) (A' : Option Addr) (n' c' : Nat) (e' : Int) : RBx (((w.setCell ⟨b, 0, none⟩ (.int .i64 I')).setCell ⟨b, 1, none⟩ (.slice A' n' c')).setCell ⟨b, 2, none⟩ (.int .i64 e')) b I' A' n' c' e' := by
  unfold RBx at *
  have h0 := hset (i := 0) h (.int .i64 I')
  have h1 := hset (i := 1) h0 (.slice A' n' c')
  have h2 := hset (i := 2) h1 (.int .i64 e')
  rw [h2]
  rfl
theorem RBx.putE (h : RBx w b I A n c e) (e' : Int) : RBx (w.setCell ⟨b, 2, none⟩ (.int .i64 e')) b I A n c e' := by
  unfold RBx at *
  have h2 := hset (i := 2) h (.int .i64 e')
  rw [h2]
  rfl
theorem RBx.putS (h : RBx w b I A n c e) (A' : Option Addr) (n' c' : Nat) : RBx (w.setCell ⟨b, 1, none⟩ (.slice A' n' c')) b I A' n' c' e := by
  unfold RBx at *
  have h1 := hset (i := 1) h (.slice A' n' c')
  rw [h1]
  rfl
theorem RBx.far {p : Nat} (h : RBx w b I A n c e) (hp : p ≠ b) (i : Nat) (v : Value) : RBx (w.setCell ⟨p, i, none⟩ v) b I A n c e := (hfar (p := ⟨p, i, none⟩) (show b ≠ p from fun e => hp e.symm) _).trans h
theorem put3_below {n : Nat} {w w' : World} (h : Below n w w') {b : Nat} (hb : n ≤ b) (u v x : Value) : Below n w (((w'.setCell ⟨b, 0, none⟩ u).setCell ⟨b, 1, none⟩ v).setCell ⟨b, 2, none⟩ x) := ((h.setCell (p := ⟨b, 0, none⟩) hb _).setCell (p := ⟨b, 1, none⟩) hb _).setCell (p := ⟨b, 2, none⟩) hb _
end
set_option maxRecDepth 100000 in
set_option maxHeartbeats 2000000 in
theorem r_Input_any (I : Int) (A : Option Addr) (n c : Nat) (e0 i : Int) (hI : 0 ≤ I ∧ I ≤ 1024) (w : World) :
    Calls Try.prog 50 #[.agg #[.int .i64 I, .slice A n c, .int .i64 e0], .int .i64 i] w fun e w' => e = .returned (.tuple #[.agg #[.int .i64 I, .slice A n c, .int .i64 (if e0 = 0 then inE I i else e0)], .int .i64 (if e0 = 0 then inN I i else 0)]) ∧ Below w.heap.size w w' := by
  by_cases h0 : e0 = 0
  · subst h0
    rw [if_pos rfl, if_pos rfl]
    unfold inE inN
    by_cases h1 : i < 0
    · have d1 : decide (i < 0) = true := decide_eq_true h1
      rw [if_pos (.inl h1), if_pos (.inl h1)]
      clear h1 hI
      have HB0 := Lib.hid (((Below.refl w.heap.size w).alloc (Nat.le_refl _) (.cells #[.int .i64 I, .slice A n c, .int .i64 0] 32)).alloc (by simp) (.cells #[.int .i64 0, .slice none 0 0, .int .i64 0] 32))
      have HO0 := Lib.hid (show RBx ((w.alloc (.cells #[.int .i64 I, .slice A n c, .int .i64 0] 32)).alloc (.cells #[.int .i64 0, .slice none 0 0, .int .i64 0] 32)) (w.heap.size + 1) 0 none 0 0 0 from by
        have := RBx.new (w.alloc (.cells #[.int .i64 I, .slice A n c, .int .i64 0] 32)) 0 none 0 0 0
        rwa [show (w.alloc (.cells #[.int .i64 I, .slice A n c, .int .i64 0] 32)).heap.size = w.heap.size + 1 by simp] at this)
      have HP0 := Lib.hid (show RBx ((w.alloc (.cells #[.int .i64 I, .slice A n c, .int .i64 0] 32)).alloc (.cells #[.int .i64 0, .slice none 0 0, .int .i64 0] 32)) w.heap.size I A n c 0 from (heap_alloc_old _ _ (by simp)).trans (RBx.new w I A n c 0))
      go_enter Try.func50, Try.ntmps50
      go_upto_region 1 with fail
      generalize hgw : (w.alloc (.cells #[.int .i64 I, .slice A n c, .int .i64 0] 32)).alloc (.cells #[.int .i64 0, .slice none 0 0, .int .i64 0] 32) = w2 at *
      clear hgw
      have HD := Lib.hid (show w.heap.size ≤ w.heap.size + 1 ∧ w.heap.size ≠ w.heap.size + 1 from by omega)
      generalize w.heap.size + 1 = ob at *
      obtain ⟨pb, HPE⟩ : ∃ pb, Hid (pb = w.heap.size) := ⟨_, Lib.hid rfl⟩
      have HP0 := Lib.hid (show RBx w2 pb I A n c 0 by rw [HPE.out]; exact HP0.out)
      have HD := Lib.hid (show w.heap.size ≤ pb ∧ w.heap.size ≤ ob ∧ pb ≠ ob by rw [HPE.out]; exact ⟨Nat.le_refl _, HD.out⟩)
      rw [← HPE.out]
      obtain ⟨q0, q1, q2⟩ := HP0.out.cells
      go_upto_region 4 with fail
      obtain ⟨q0, q1, q2⟩ := HP0.out.cells
      have g2 := HP0.out.frz 2
      go_upto_region 5 with fail
      have HP3 := Lib.hid (HP0.out.putE 1)
      have HO3 := Lib.hid (HO0.out.far HD.out.2.2 2 (.int .i64 1))
      have HB3 := Lib.hid (HB0.out.setCell (p := ⟨pb, 2, none⟩) HD.out.1 (.int .i64 1))
      clear q0 q1 q2 g2
      generalize hgw : w2.setCell ⟨pb, 2, none⟩ (.int .i64 1) = w3 at *
      clear hgw
      obtain ⟨q0, q1, q2⟩ := HP3.out.cells
      obtain ⟨z0, z1, z2⟩ := HO3.out.cells
      have f0 := HO3.out.frz 0
      have f1 := HO3.out.frz 1
      have f2 := HO3.out.frz 2
      go_wp2_with (fail)
      have hq := HO3.out.put I A (n) c 1
      have hbq := put3_below HB3.out HD.out.2.1 (.int .i64 I) (.slice A (n) c) (.int .i64 1)
      obtain ⟨v0, v1, v2⟩ := hq.cells
      clear hq f0 f1 f2 z0 z1 z2 q0 q1 q2
      generalize ((w3.setCell ⟨ob, 0, none⟩ (.int .i64 I)).setCell ⟨ob, 1, none⟩ (.slice A n c)).setCell ⟨ob, 2, none⟩ (.int .i64 1) = V at *
      exact bodyPost_ret (v := .tuple #[.agg #[.int .i64 I, .slice A (n) c, .int .i64 1], .int .i64 0]) (by simp [results, Try.results50, go_sem, v0, v1, v2]) rfl ⟨rfl, hbq⟩
    · have d1 : decide (i < 0) = false := decide_eq_false h1
      by_cases h2 : I ≤ i
      · have d2 : decide (I ≤ i) = true := decide_eq_true h2
        rw [if_pos (.inr h2), if_pos (.inr h2)]
        clear h1 h2 hI
        have HB0 := Lib.hid (((Below.refl w.heap.size w).alloc (Nat.le_refl _) (.cells #[.int .i64 I, .slice A n c, .int .i64 0] 32)).alloc (by simp) (.cells #[.int .i64 0, .slice none 0 0, .int .i64 0] 32))
        have HO0 := Lib.hid (show RBx ((w.alloc (.cells #[.int .i64 I, .slice A n c, .int .i64 0] 32)).alloc (.cells #[.int .i64 0, .slice none 0 0, .int .i64 0] 32)) (w.heap.size + 1) 0 none 0 0 0 from by
          have := RBx.new (w.alloc (.cells #[.int .i64 I, .slice A n c, .int .i64 0] 32)) 0 none 0 0 0
          rwa [show (w.alloc (.cells #[.int .i64 I, .slice A n c, .int .i64 0] 32)).heap.size = w.heap.size + 1 by simp] at this)
        have HP0 := Lib.hid (show RBx ((w.alloc (.cells #[.int .i64 I, .slice A n c, .int .i64 0] 32)).alloc (.cells #[.int .i64 0, .slice none 0 0, .int .i64 0] 32)) w.heap.size I A n c 0 from (heap_alloc_old _ _ (by simp)).trans (RBx.new w I A n c 0))
        go_enter Try.func50, Try.ntmps50
        go_upto_region 1 with fail
        generalize hgw : (w.alloc (.cells #[.int .i64 I, .slice A n c, .int .i64 0] 32)).alloc (.cells #[.int .i64 0, .slice none 0 0, .int .i64 0] 32) = w2 at *
        clear hgw
        have HD := Lib.hid (show w.heap.size ≤ w.heap.size + 1 ∧ w.heap.size ≠ w.heap.size + 1 from by omega)
        generalize w.heap.size + 1 = ob at *
        obtain ⟨pb, HPE⟩ : ∃ pb, Hid (pb = w.heap.size) := ⟨_, Lib.hid rfl⟩
        have HP0 := Lib.hid (show RBx w2 pb I A n c 0 by rw [HPE.out]; exact HP0.out)
        have HD := Lib.hid (show w.heap.size ≤ pb ∧ w.heap.size ≤ ob ∧ pb ≠ ob by rw [HPE.out]; exact ⟨Nat.le_refl _, HD.out⟩)
        rw [← HPE.out]
        obtain ⟨q0, q1, q2⟩ := HP0.out.cells
        go_upto_region 4 with fail
        obtain ⟨q0, q1, q2⟩ := HP0.out.cells
        have g2 := HP0.out.frz 2
        go_upto_region 5 with fail
        have HP3 := Lib.hid (HP0.out.putE 1)
        have HO3 := Lib.hid (HO0.out.far HD.out.2.2 2 (.int .i64 1))
        have HB3 := Lib.hid (HB0.out.setCell (p := ⟨pb, 2, none⟩) HD.out.1 (.int .i64 1))
        clear q0 q1 q2 g2
        generalize hgw : w2.setCell ⟨pb, 2, none⟩ (.int .i64 1) = w3 at *
        clear hgw
        obtain ⟨q0, q1, q2⟩ := HP3.out.cells
        obtain ⟨z0, z1, z2⟩ := HO3.out.cells
        have f0 := HO3.out.frz 0
        have f1 := HO3.out.frz 1
        have f2 := HO3.out.frz 2
        go_wp2_with (fail)
        have hq := HO3.out.put I A (n) c 1
        have hbq := put3_below HB3.out HD.out.2.1 (.int .i64 I) (.slice A (n) c) (.int .i64 1)
        obtain ⟨v0, v1, v2⟩ := hq.cells
        clear hq f0 f1 f2 z0 z1 z2 q0 q1 q2
        generalize ((w3.setCell ⟨ob, 0, none⟩ (.int .i64 I)).setCell ⟨ob, 1, none⟩ (.slice A n c)).setCell ⟨ob, 2, none⟩ (.int .i64 1) = V at *
        exact bodyPost_ret (v := .tuple #[.agg #[.int .i64 I, .slice A (n) c, .int .i64 1], .int .i64 0]) (by simp [results, Try.results50, go_sem, v0, v1, v2]) rfl ⟨rfl, hbq⟩
      · have d2 : decide (I ≤ i) = false := decide_eq_false h2
        rw [if_neg (by omega), if_neg (by omega)]
        have hw1 : IntKind.i64.wrap (i + 1) = i + 1 := IntWalk.i64_in _ (by omega)
        have hw2 : IntKind.i64.wrap (2 * (i + 1)) = 2 * (i + 1) := IntWalk.i64_in _ (by omega)
        clear h1 h2 hI
        have HB0 := Lib.hid (((Below.refl w.heap.size w).alloc (Nat.le_refl _) (.cells #[.int .i64 I, .slice A n c, .int .i64 0] 32)).alloc (by simp) (.cells #[.int .i64 0, .slice none 0 0, .int .i64 0] 32))
        have HO0 := Lib.hid (show RBx ((w.alloc (.cells #[.int .i64 I, .slice A n c, .int .i64 0] 32)).alloc (.cells #[.int .i64 0, .slice none 0 0, .int .i64 0] 32)) (w.heap.size + 1) 0 none 0 0 0 from by
          have := RBx.new (w.alloc (.cells #[.int .i64 I, .slice A n c, .int .i64 0] 32)) 0 none 0 0 0
          rwa [show (w.alloc (.cells #[.int .i64 I, .slice A n c, .int .i64 0] 32)).heap.size = w.heap.size + 1 by simp] at this)
        have HP0 := Lib.hid (show RBx ((w.alloc (.cells #[.int .i64 I, .slice A n c, .int .i64 0] 32)).alloc (.cells #[.int .i64 0, .slice none 0 0, .int .i64 0] 32)) w.heap.size I A n c 0 from (heap_alloc_old _ _ (by simp)).trans (RBx.new w I A n c 0))
        go_enter Try.func50, Try.ntmps50
        go_upto_region 1 with fail
        generalize hgw : (w.alloc (.cells #[.int .i64 I, .slice A n c, .int .i64 0] 32)).alloc (.cells #[.int .i64 0, .slice none 0 0, .int .i64 0] 32) = w2 at *
        clear hgw
        have HD := Lib.hid (show w.heap.size ≤ w.heap.size + 1 ∧ w.heap.size ≠ w.heap.size + 1 from by omega)
        generalize w.heap.size + 1 = ob at *
        obtain ⟨pb, HPE⟩ : ∃ pb, Hid (pb = w.heap.size) := ⟨_, Lib.hid rfl⟩
        have HP0 := Lib.hid (show RBx w2 pb I A n c 0 by rw [HPE.out]; exact HP0.out)
        have HD := Lib.hid (show w.heap.size ≤ pb ∧ w.heap.size ≤ ob ∧ pb ≠ ob by rw [HPE.out]; exact ⟨Nat.le_refl _, HD.out⟩)
        rw [← HPE.out]
        obtain ⟨q0, q1, q2⟩ := HP0.out.cells
        obtain ⟨z0, z1, z2⟩ := HO0.out.cells
        have f0 := HO0.out.frz 0
        have f1 := HO0.out.frz 1
        have f2 := HO0.out.frz 2
        go_wp2_with (fail)
        have hq := HO0.out.put I A (n) c 0
        have hbq := put3_below HB0.out HD.out.2.1 (.int .i64 I) (.slice A (n) c) (.int .i64 0)
        obtain ⟨v0, v1, v2⟩ := hq.cells
        clear hq f0 f1 f2 z0 z1 z2 q0 q1 q2
        generalize ((w2.setCell ⟨ob, 0, none⟩ (.int .i64 I)).setCell ⟨ob, 1, none⟩ (.slice A n c)).setCell ⟨ob, 2, none⟩ (.int .i64 0) = V at *
        exact bodyPost_ret (v := .tuple #[.agg #[.int .i64 I, .slice A (n) c, .int .i64 0], .int .i64 (2 * (i + 1))]) (by simp [results, Try.results50, go_sem, v0, v1, v2]) rfl ⟨rfl, hbq⟩
  · have d0 : (e0 != 0) = true := by simpa using h0
    rw [if_neg h0, if_neg h0]
    clear h0 hI
    have HB0 := Lib.hid (((Below.refl w.heap.size w).alloc (Nat.le_refl _) (.cells #[.int .i64 I, .slice A n c, .int .i64 e0] 32)).alloc (by simp) (.cells #[.int .i64 0, .slice none 0 0, .int .i64 0] 32))
    have HO0 := Lib.hid (show RBx ((w.alloc (.cells #[.int .i64 I, .slice A n c, .int .i64 e0] 32)).alloc (.cells #[.int .i64 0, .slice none 0 0, .int .i64 0] 32)) (w.heap.size + 1) 0 none 0 0 0 from by
      have := RBx.new (w.alloc (.cells #[.int .i64 I, .slice A n c, .int .i64 e0] 32)) 0 none 0 0 0
      rwa [show (w.alloc (.cells #[.int .i64 I, .slice A n c, .int .i64 e0] 32)).heap.size = w.heap.size + 1 by simp] at this)
    have HP0 := Lib.hid (show RBx ((w.alloc (.cells #[.int .i64 I, .slice A n c, .int .i64 e0] 32)).alloc (.cells #[.int .i64 0, .slice none 0 0, .int .i64 0] 32)) w.heap.size I A n c e0 from (heap_alloc_old _ _ (by simp)).trans (RBx.new w I A n c e0))
    go_enter Try.func50, Try.ntmps50
    go_upto_region 1 with fail
    generalize hgw : (w.alloc (.cells #[.int .i64 I, .slice A n c, .int .i64 e0] 32)).alloc (.cells #[.int .i64 0, .slice none 0 0, .int .i64 0] 32) = w2 at *
    clear hgw
    have HD := Lib.hid (show w.heap.size ≤ w.heap.size + 1 ∧ w.heap.size ≠ w.heap.size + 1 from by omega)
    generalize w.heap.size + 1 = ob at *
    obtain ⟨pb, HPE⟩ : ∃ pb, Hid (pb = w.heap.size) := ⟨_, Lib.hid rfl⟩
    have HP0 := Lib.hid (show RBx w2 pb I A n c e0 by rw [HPE.out]; exact HP0.out)
    have HD := Lib.hid (show w.heap.size ≤ pb ∧ w.heap.size ≤ ob ∧ pb ≠ ob by rw [HPE.out]; exact ⟨Nat.le_refl _, HD.out⟩)
    rw [← HPE.out]
    obtain ⟨q0, q1, q2⟩ := HP0.out.cells
    obtain ⟨z0, z1, z2⟩ := HO0.out.cells
    have f0 := HO0.out.frz 0
    have f1 := HO0.out.frz 1
    have f2 := HO0.out.frz 2
    go_wp2_with (fail)
    have hq := HO0.out.put I A (n) c e0
    have hbq := put3_below HB0.out HD.out.2.1 (.int .i64 I) (.slice A (n) c) (.int .i64 e0)
    obtain ⟨v0, v1, v2⟩ := hq.cells
    clear hq f0 f1 f2 z0 z1 z2 q0 q1 q2
    generalize ((w2.setCell ⟨ob, 0, none⟩ (.int .i64 I)).setCell ⟨ob, 1, none⟩ (.slice A n c)).setCell ⟨ob, 2, none⟩ (.int .i64 e0) = V at *
    exact bodyPost_ret (v := .tuple #[.agg #[.int .i64 I, .slice A (n) c, .int .i64 e0], .int .i64 0]) (by simp [results, Try.results50, go_sem, v0, v1, v2]) rfl ⟨rfl, hbq⟩
end Go.Proofs.Ytbcabnbgkicfdaa
