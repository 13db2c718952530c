/- What is proved: New, Width, Len, Node, Sort of bitvec. -/
import Derived.Test.YtjgkcicgjnjepaaDoorBvInt
set_option linter.unusedVariables false
namespace Go.Proofs.YtjgkcicgjnjepaaDoor
open Go.RowKit Go.Maps

theorem new_out (W : Int) (h : W < 2 ∨ 8 < W) (w : World) : Calls Tryd.prog 16 #[.int .i64 W] w fun e w' => e = .returned (.tuple #[.pointer none, .int .i64 1]) ∧ w' = w := by
  have HP := Lib.hid (isWidth_any W w)
  rw [wok_no h] at HP
  clear h
  go_enter Tryd.func16, Tryd.ntmps16
  go_wp2_with (fail)
  refine HP.out.mono ?_
  rintro e w1 ⟨rfl, rfl⟩
  go_wp2_with (fail)
  go_ret2
  exact ⟨rfl, rfl⟩
theorem new_any (W : Int) (h : ¬ (W < 2 ∨ 8 < W)) (w : World) : Calls Tryd.prog 16 #[.int .i64 W] w fun e w' => ∃ tb mb, e = .returned (.tuple #[.pointer (some ⟨tb, 0, none⟩), .int .i64 0]) ∧ Tab w' w.heap.size tb mb (.slice none 0 0) W [] ∧ Below w.heap.size w w' := by
  have HP := Lib.hid (isWidth_any W w)
  rw [wok_yes h] at HP
  have hmm := @run_makeMap Tryd.prog
  clear h
  go_enter Tryd.func16, Tryd.ntmps16
  go_wp2_with (fail)
  refine HP.out.mono ?_
  rintro e w1 ⟨rfl, rfl⟩
  go_wp2_with (fail)
  go_ret2
  have h1 := heap_alloc_new (w1.alloc (.map #[] 0)) (.cells #[.int .i64 W, .slice none 0 0, .map (some w1.heap.size)] 57)
  rw [show (w1.alloc (.map #[] 0)).heap.size = w1.heap.size + 1 by simp] at h1
  refine ⟨w1.heap.size + 1, w1.heap.size, rfl, ⟨h1, World.ownsRow_nil _ _ _ _, ?_, by omega, TbOk.nil W, by simp, fun x hx => by simp at hx⟩, ((Below.refl w1.heap.size w1).alloc (Nat.le_refl _) _).alloc (by simp) _⟩
  exact (World.ownsMap_made w1 Tryd.prog 46 (plainElem (H := Unit) Tryd.prog 3)).alloc _

section
variable {w : World} {n₀ tb mb : Nat} {rv : Value} {W : Int} {l : List Tm}
theorem width_any (h : Tab w n₀ tb mb rv W l) : Calls Tryd.prog 22 #[.pointer (some ⟨tb, 0, none⟩)] w fun e w' => e = .returned (.int .i64 W) ∧ w' = w := by
  have c0 := Lib.cell_of_heap h.box 0
  clear h
  go_enter Tryd.func22, Tryd.ntmps22
  go_wp2_with (fail)
  go_ret
  exact ⟨rfl, rfl⟩
theorem len_any (h : Tab w n₀ tb mb rv W l) : Calls Tryd.prog 21 #[.pointer (some ⟨tb, 0, none⟩)] w fun e w' => e = .returned (.int .i64 (l.length : Int)) ∧ w' = w := by
  have c1 := Lib.cell_of_heap h.box 1
  obtain ⟨A, c, rfl, _⟩ := h.form
  clear h
  go_enter Tryd.func21, Tryd.ntmps21
  go_wp2_with (fail)
  go_ret
  exact ⟨rfl, rfl⟩
/-- what Node answers -/
def nodeV (l : List Tm) (i : Int) : Tm := if i < 0 then ⟨0, 0, 0, 0, 0⟩ else (l[i.toNat]?).getD ⟨0, 0, 0, 0, 0⟩
def nodeB (l : List Tm) (i : Int) : Bool := decide (0 ≤ i) && decide (i < (l.length : Int))
theorem nodeB_in {l : List Tm} {i : Nat} (h : i < l.length) : nodeB l (i : Int) = true ∧ nodeV l (i : Int) = l[i] := by
  unfold nodeB nodeV
  rw [if_neg (by omega)]
  simp [h]
theorem nodeB_no {l : List Tm} {i : Int} (h : i < 0 ∨ (l.length : Int) ≤ i) : nodeB l i = false ∧ nodeV l i = ⟨0, 0, 0, 0, 0⟩ := by
  unfold nodeB nodeV
  rcases h with h | h
  · rw [if_pos h]
    simp
    omega
  · have h0 : ¬ i < 0 := by omega
    rw [if_neg h0, List.getElem?_eq_none (by omega)]
    simp
    omega
def zT : Tm := ⟨0, 0, 0, 0, 0⟩
set_option maxHeartbeats 300000 in
theorem node_any (i : Int) (h : Tab w n₀ tb mb rv W l) : Calls Tryd.prog 35 #[.pointer (some ⟨tb, 0, none⟩), .int .i64 i] w fun e w' => e = .returned (.tuple #[.agg #[.int .i64 (nodeV l i).op, .int .i64 (nodeV l i).v, .int .i64 (nodeV l i).a, .int .i64 (nodeV l i).b, .int .i64 (nodeV l i).c], .bool (nodeB l i)]) ∧ Below w.heap.size w w' := by
  have hb1 := (Below.refl w.heap.size w).alloc (Nat.le_refl _) (.cells #[.int .i64 0, .int .i64 0, .int .i64 0, .int .i64 0, .int .i64 0] 46)
  have HBX := Lib.hid (TBox.new w zT)
  have c1 : (w.alloc (.cells #[.int .i64 0, .int .i64 0, .int .i64 0, .int .i64 0, .int .i64 0] 46)).cell? ⟨tb, 1, none⟩ = some rv := Lib.cell_of_heap (h.later hb1).box 1
  obtain ⟨A, c, rfl, hlc, hr, hown⟩ := h.form
  have hfew := h.few
  have f0 := HBX.out.frz 0
  have f1 := HBX.out.frz 1
  have f2 := HBX.out.frz 2
  have f3 := HBX.out.frz 3
  have f4 := HBX.out.frz 4
  obtain ⟨z0, z1, z2, z3, z4⟩ := HBX.out.cells
  dsimp only [zT] at HBX f0 f1 f2 f3 f4 z0 z1 z2 z3 z4
  by_cases h0 : i < 0 ∨ (l.length : Int) ≤ i
  · obtain ⟨e1, e2⟩ := nodeB_no (l := l) h0
    rw [e1, e2]
    have HBQ := Lib.hid hb1
    clear h hb1 hr hlc hown hfew e1 e2 z0 z1 z2 z3 z4
    by_cases h1 : i < 0
    · clear h0
      go_enter Tryd.func35, Tryd.ntmps35
      go_wp2_with (fail)
      exact bodyPost_ret (v := .tuple #[.agg #[.int .i64 0, .int .i64 0, .int .i64 0, .int .i64 0, .int .i64 0], .bool false]) (by simp [results, Tryd.results35, go_sem]) rfl ⟨rfl, HBQ.out⟩
    · have h2 : (l.length : Int) ≤ i := by omega
      clear h0
      go_enter Tryd.func35, Tryd.ntmps35
      go_wp2_with (fail)
      exact bodyPost_ret (v := .tuple #[.agg #[.int .i64 0, .int .i64 0, .int .i64 0, .int .i64 0, .int .i64 0], .bool false]) (by simp [results, Tryd.results35, go_sem]) rfl ⟨rfl, HBQ.out⟩
  · obtain ⟨k, rfl⟩ : ∃ k : Nat, i = (k : Int) := ⟨i.toNat, by omega⟩
    have hk : k < l.length := by omega
    obtain ⟨e1, e2⟩ := nodeB_in hk
    rw [e1, e2]
    obtain ⟨b, off, rfl, hbl, hc⟩ := (hr.later hb1).at hk
    clear hown
    obtain ⟨d0, d1, d2, d3, d4⟩ := hc
    generalize l[k] = x at *
    have hd1 : decide ((k : Int) < 0) = false := by simp
    have hd2 : decide ((l.length : Int) ≤ (k : Int)) = false := by simp; omega
    have HB1 := Lib.hid hb1
    clear h hb1 hr hlc e1 e2 h0
    go_enter Tryd.func35, Tryd.ntmps35
    go_upto_region 1 with fail
    generalize w.alloc (.cells #[.int .i64 0, .int .i64 0, .int .i64 0, .int .i64 0, .int .i64 0] 46) = w1 at *
    go_wp2_with (fail)
    have hq := TBox.put HBX.out x
    have hbq := put5_below HB1.out (Nat.le_refl _) x
    obtain ⟨v0, v1, v2, v3, v4⟩ := hq.cells
    clear hq f0 f1 f2 f3 f4 z0 z1 z2 z3 z4
    dsimp only [put5] at hbq v0 v1 v2 v3 v4
    generalize ((((w1.setCell ⟨w.heap.size, 0, none⟩ (.int .i64 x.op)).setCell ⟨w.heap.size, 1, none⟩ (.int .i64 x.v)).setCell ⟨w.heap.size, 2, none⟩ (.int .i64 x.a)).setCell ⟨w.heap.size, 3, none⟩ (.int .i64 x.b)).setCell ⟨w.heap.size, 4, none⟩ (.int .i64 x.c) = V at *
    exact bodyPost_ret (v := .tuple #[.agg #[.int .i64 x.op, .int .i64 x.v, .int .i64 x.a, .int .i64 x.b, .int .i64 x.c], .bool true]) (by simp [results, Tryd.results35, go_sem, v0, v1, v2, v3, v4]) rfl ⟨rfl, hbq⟩
end
end Go.Proofs.YtjgkcicgjnjepaaDoor
