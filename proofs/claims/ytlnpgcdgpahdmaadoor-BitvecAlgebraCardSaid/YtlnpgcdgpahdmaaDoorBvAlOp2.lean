/- What is proved: the short function of the law BitvecAlgebra that makes a node, for one, two and three arguments. -/
import Derived.Test.YtlnpgcdgpahdmaaDoorBvAlOp
set_option linter.unusedVariables false
namespace Go.Proofs.YtlnpgcdgpahdmaaDoor
open Go.RowKit Go.Maps
section
variable {w0 : World} {W : Int} {tb tbb ib ab : Nat} {x y z p q : Int} {l l' : List Tm} {w : World}

set_option maxRecDepth 100000 in
set_option maxHeartbeats 400000 in
theorem op1_any (o i m : Nat) (hW : ¬ (W < 2 ∨ 8 < W)) (h : AlgSt w0 W tb tbb ib ab x y z p q l w) (hl : l.length < 1000) (hm : mkL W l ⟨(o : Int), 0, (i : Int), 0, 0⟩ = l' ∧ mkN W l ⟨(o : Int), 0, (i : Int), 0, 0⟩ = (m : Int) ∧ mkE W l ⟨(o : Int), 0, (i : Int), 0, 0⟩ = 0) (hok : TmOk ⟨(o : Int), 0, (i : Int), 0, 0⟩) :
    Calls Tryd.prog 35 #[.int .i64 (o : Int), .slice (some ⟨w.heap.size, 0, none⟩) 1 1, .pointer (some ⟨tbb, 0, none⟩)] (w.alloc (.cells #[.int .i64 (i : Int)] 3)) fun e w' => e = .returned (.int .i64 (m : Int)) ∧ AlgSt w0 W tb tbb ib ab x y z p q l' w' := by
  have HOK := Lib.hid hok
  have HM := Lib.hid hm
  have HWW := Lib.hid hW
  have hb1 := (Below.refl w.heap.size w).alloc (Nat.le_refl _) (.cells #[.int .i64 (i : Int)] 3)
  have hz1 : (w.alloc (.cells #[.int .i64 (i : Int)] 3)).heap.size = w.heap.size + 1 := by simp
  have ha0 := heap_alloc_new w (.cells #[.int .i64 (i : Int)] 3)
  have HS := Lib.hid h
  clear h hm hok hW
  generalize hwa : w.alloc (.cells #[.int .i64 (i : Int)] 3) = wa at *
  clear hwa
  have hb2 := hb1.trans (((Below.refl wa.heap.size wa).alloc (Nat.le_refl _) (.cells #[.int .i64 (o : Int), .int .i64 0, .int .i64 0, .int .i64 0, .int .i64 0] 34)).mono hb1.size)
  have hx0 := TBox.new wa ⟨(o : Int), 0, 0, 0, 0⟩
  have hab := (heap_alloc_old wa (.cells #[.int .i64 (o : Int), .int .i64 0, .int .i64 0, .int .i64 0, .int .i64 0] 34) (show w.heap.size < wa.heap.size by omega)).trans ha0
  have hs := slice_all wa.heap.size
  have HZ1 := Lib.hid (show w.heap.size ≤ wa.heap.size by omega)
  clear hz1
  go_enter Tryd.func35, Tryd.ntmps35
  go_upto_region 2 with fail
  dsimp only at hx0
  generalize wa.alloc (.cells #[.int .i64 (o : Int), .int .i64 0, .int .i64 0, .int .i64 0, .int .i64 0] 34) = wb at *
  have hrun := run_copy_cells (P := Tryd.prog) wb 45 45 3 3 wa.heap.size 2 3 3 ⟨w.heap.size, 0, none⟩ 1 1 [.int .i64 (i : Int)] Tryd.underlying45 (by kernel_rfl) rfl
    (fun j v hj => by
      rw [do_add, Lib.cell_of_heap hab j]
      simpa using hj)
    (fun j hj => by
      have : j = 0 ∨ j = 1 ∨ j = 2 := by simp at hj; omega
      rcases this with rfl | rfl | rfl
      · rw [show (2 + 0 : Nat) = 2 from rfl, hx0.cells.2.2.1]; rfl
      · rw [show (2 + 1 : Nat) = 3 from rfl, hx0.cells.2.2.2.1]; rfl
      · rw [show (2 + 2 : Nat) = 4 from rfl, hx0.cells.2.2.2.2]; rfl)
    (fun j hj => hx0.frz _) (by intro v hv; simp at hv; subst hv; rfl)
  have HX := Lib.hid (show TBox (wb.setCells wa.heap.size 2 [.int .i64 (i : Int)]) wa.heap.size ⟨(o : Int), 0, (i : Int), 0, 0⟩ from by
    have h0 := hset (i := 2) hx0 (.int .i64 (i : Int))
    exact h0)
  have HB := Lib.hid (show Below w.heap.size w (wb.setCells wa.heap.size 2 [.int .i64 (i : Int)]) from hb2.setCell (p := ⟨wa.heap.size, 2, none⟩) (by show w.heap.size ≤ wa.heap.size; exact HZ1.out) _)
  have HRUN := Lib.hid hrun
  clear hrun
  go_wp2_with (refine wpList_copy_by (by rfl) (.tmp 12) (.tmp 13) 45 45 (by rfl) _ _ (by rfl) (by rfl) _ _ HRUN.out ?_)
  intro wc hwc
  have HX := Lib.hid (show TBox wc wa.heap.size ⟨(o : Int), 0, (i : Int), 0, 0⟩ from by rw [hwc.out]; exact HX.out)
  have HB := Lib.hid (show Below w.heap.size w wc from by rw [hwc.out]; exact HB.out)
  clear hs hab hx0 hb2 ha0 hb1 hwc
  have HSC := Lib.hid (HS.out.later HB.out)
  obtain ⟨n₀, mb, rv, ht, hn⟩ := HSC.out.tab
  have HTB := Lib.hid ht
  have HN := Lib.hid hn
  have HMK := Lib.hid (make_any ⟨(o : Int), 0, (i : Int), 0, 0⟩ ht HOK.out HSC.out.ts HWW.out hl)
  rw [HM.out.2.1, HM.out.2.2] at HMK
  obtain ⟨x0, x1, x2, x3, x4⟩ := HX.out.cells
  dsimp only at x0 x1 x2 x3 x4
  have c1 := HSC.out.tbx.cell
  clear ht hn
  go_wp2_with (fail)
  refine HMK.out.mono ?_
  rintro e w7 ⟨rfl, rv', hmr⟩
  have HS7 := Lib.hid (HSC.out.made HTB.out HN.out hmr)
  clear hmr
  go_wp2_with (fail)
  go_ret
  exact ⟨rfl, by rw [← HM.out.1]; exact HS7.out⟩

set_option maxRecDepth 100000 in
set_option maxHeartbeats 400000 in
theorem op2_any (o i j m : Nat) (hW : ¬ (W < 2 ∨ 8 < W)) (h : AlgSt w0 W tb tbb ib ab x y z p q l w) (hl : l.length < 1000) (hm : mkL W l ⟨(o : Int), 0, (i : Int), (j : Int), 0⟩ = l' ∧ mkN W l ⟨(o : Int), 0, (i : Int), (j : Int), 0⟩ = (m : Int) ∧ mkE W l ⟨(o : Int), 0, (i : Int), (j : Int), 0⟩ = 0) (hok : TmOk ⟨(o : Int), 0, (i : Int), (j : Int), 0⟩) :
    Calls Tryd.prog 35 #[.int .i64 (o : Int), .slice (some ⟨w.heap.size, 0, none⟩) 2 2, .pointer (some ⟨tbb, 0, none⟩)] (w.alloc (.cells #[.int .i64 (i : Int), .int .i64 (j : Int)] 3)) fun e w' => e = .returned (.int .i64 (m : Int)) ∧ AlgSt w0 W tb tbb ib ab x y z p q l' w' := by
  have HOK := Lib.hid hok
  have HM := Lib.hid hm
  have HWW := Lib.hid hW
  have hb1 := (Below.refl w.heap.size w).alloc (Nat.le_refl _) (.cells #[.int .i64 (i : Int), .int .i64 (j : Int)] 3)
  have hz1 : (w.alloc (.cells #[.int .i64 (i : Int), .int .i64 (j : Int)] 3)).heap.size = w.heap.size + 1 := by simp
  have ha0 := heap_alloc_new w (.cells #[.int .i64 (i : Int), .int .i64 (j : Int)] 3)
  have HS := Lib.hid h
  clear h hm hok hW
  generalize hwa : w.alloc (.cells #[.int .i64 (i : Int), .int .i64 (j : Int)] 3) = wa at *
  clear hwa
  have hb2 := hb1.trans (((Below.refl wa.heap.size wa).alloc (Nat.le_refl _) (.cells #[.int .i64 (o : Int), .int .i64 0, .int .i64 0, .int .i64 0, .int .i64 0] 34)).mono hb1.size)
  have hx0 := TBox.new wa ⟨(o : Int), 0, 0, 0, 0⟩
  have hab := (heap_alloc_old wa (.cells #[.int .i64 (o : Int), .int .i64 0, .int .i64 0, .int .i64 0, .int .i64 0] 34) (show w.heap.size < wa.heap.size by omega)).trans ha0
  have hs := slice_all wa.heap.size
  have HZ1 := Lib.hid (show w.heap.size ≤ wa.heap.size by omega)
  clear hz1
  go_enter Tryd.func35, Tryd.ntmps35
  go_upto_region 2 with fail
  dsimp only at hx0
  generalize wa.alloc (.cells #[.int .i64 (o : Int), .int .i64 0, .int .i64 0, .int .i64 0, .int .i64 0] 34) = wb at *
  have hrun := run_copy_cells (P := Tryd.prog) wb 45 45 3 3 wa.heap.size 2 3 3 ⟨w.heap.size, 0, none⟩ 2 2 [.int .i64 (i : Int), .int .i64 (j : Int)] Tryd.underlying45 (by kernel_rfl) rfl
    (fun j v hj => by
      rw [do_add, Lib.cell_of_heap hab j]
      simpa using hj)
    (fun j hj => by
      have : j = 0 ∨ j = 1 ∨ j = 2 := by simp at hj; omega
      rcases this with rfl | rfl | rfl
      · rw [show (2 + 0 : Nat) = 2 from rfl, hx0.cells.2.2.1]; rfl
      · rw [show (2 + 1 : Nat) = 3 from rfl, hx0.cells.2.2.2.1]; rfl
      · rw [show (2 + 2 : Nat) = 4 from rfl, hx0.cells.2.2.2.2]; rfl)
    (fun j hj => hx0.frz _) (by intro v hv; simp at hv; rcases hv with h | h <;> rw [h] <;> rfl)
  have HX := Lib.hid (show TBox (wb.setCells wa.heap.size 2 [.int .i64 (i : Int), .int .i64 (j : Int)]) wa.heap.size ⟨(o : Int), 0, (i : Int), (j : Int), 0⟩ from by
    have h0 := hset (i := 2) hx0 (.int .i64 (i : Int))
    have h1 := hset (i := 3) h0 (.int .i64 (j : Int))
    exact h1)
  have HB := Lib.hid (show Below w.heap.size w (wb.setCells wa.heap.size 2 [.int .i64 (i : Int), .int .i64 (j : Int)]) from (hb2.setCell (p := ⟨wa.heap.size, 2, none⟩) (by show w.heap.size ≤ wa.heap.size; exact HZ1.out) _).setCell (p := ⟨wa.heap.size, 3, none⟩) (by show w.heap.size ≤ wa.heap.size; exact HZ1.out) _)
  have HRUN := Lib.hid hrun
  clear hrun
  go_wp2_with (refine wpList_copy_by (by rfl) (.tmp 12) (.tmp 13) 45 45 (by rfl) _ _ (by rfl) (by rfl) _ _ HRUN.out ?_)
  intro wc hwc
  have HX := Lib.hid (show TBox wc wa.heap.size ⟨(o : Int), 0, (i : Int), (j : Int), 0⟩ from by rw [hwc.out]; exact HX.out)
  have HB := Lib.hid (show Below w.heap.size w wc from by rw [hwc.out]; exact HB.out)
  clear hs hab hx0 hb2 ha0 hb1 hwc
  have HSC := Lib.hid (HS.out.later HB.out)
  obtain ⟨n₀, mb, rv, ht, hn⟩ := HSC.out.tab
  have HTB := Lib.hid ht
  have HN := Lib.hid hn
  have HMK := Lib.hid (make_any ⟨(o : Int), 0, (i : Int), (j : Int), 0⟩ ht HOK.out HSC.out.ts HWW.out hl)
  rw [HM.out.2.1, HM.out.2.2] at HMK
  obtain ⟨x0, x1, x2, x3, x4⟩ := HX.out.cells
  dsimp only at x0 x1 x2 x3 x4
  have c1 := HSC.out.tbx.cell
  clear ht hn
  go_wp2_with (fail)
  refine HMK.out.mono ?_
  rintro e w7 ⟨rfl, rv', hmr⟩
  have HS7 := Lib.hid (HSC.out.made HTB.out HN.out hmr)
  clear hmr
  go_wp2_with (fail)
  go_ret
  exact ⟨rfl, by rw [← HM.out.1]; exact HS7.out⟩

set_option maxRecDepth 100000 in
set_option maxHeartbeats 400000 in
theorem op3_any (o i j k m : Nat) (hW : ¬ (W < 2 ∨ 8 < W)) (h : AlgSt w0 W tb tbb ib ab x y z p q l w) (hl : l.length < 1000) (hm : mkL W l ⟨(o : Int), 0, (i : Int), (j : Int), (k : Int)⟩ = l' ∧ mkN W l ⟨(o : Int), 0, (i : Int), (j : Int), (k : Int)⟩ = (m : Int) ∧ mkE W l ⟨(o : Int), 0, (i : Int), (j : Int), (k : Int)⟩ = 0) (hok : TmOk ⟨(o : Int), 0, (i : Int), (j : Int), (k : Int)⟩) :
    Calls Tryd.prog 35 #[.int .i64 (o : Int), .slice (some ⟨w.heap.size, 0, none⟩) 3 3, .pointer (some ⟨tbb, 0, none⟩)] (w.alloc (.cells #[.int .i64 (i : Int), .int .i64 (j : Int), .int .i64 (k : Int)] 3)) fun e w' => e = .returned (.int .i64 (m : Int)) ∧ AlgSt w0 W tb tbb ib ab x y z p q l' w' := by
  have HOK := Lib.hid hok
  have HM := Lib.hid hm
  have HWW := Lib.hid hW
  have hb1 := (Below.refl w.heap.size w).alloc (Nat.le_refl _) (.cells #[.int .i64 (i : Int), .int .i64 (j : Int), .int .i64 (k : Int)] 3)
  have hz1 : (w.alloc (.cells #[.int .i64 (i : Int), .int .i64 (j : Int), .int .i64 (k : Int)] 3)).heap.size = w.heap.size + 1 := by simp
  have ha0 := heap_alloc_new w (.cells #[.int .i64 (i : Int), .int .i64 (j : Int), .int .i64 (k : Int)] 3)
  have HS := Lib.hid h
  clear h hm hok hW
  generalize hwa : w.alloc (.cells #[.int .i64 (i : Int), .int .i64 (j : Int), .int .i64 (k : Int)] 3) = wa at *
  clear hwa
  have hb2 := hb1.trans (((Below.refl wa.heap.size wa).alloc (Nat.le_refl _) (.cells #[.int .i64 (o : Int), .int .i64 0, .int .i64 0, .int .i64 0, .int .i64 0] 34)).mono hb1.size)
  have hx0 := TBox.new wa ⟨(o : Int), 0, 0, 0, 0⟩
  have hab := (heap_alloc_old wa (.cells #[.int .i64 (o : Int), .int .i64 0, .int .i64 0, .int .i64 0, .int .i64 0] 34) (show w.heap.size < wa.heap.size by omega)).trans ha0
  have hs := slice_all wa.heap.size
  have HZ1 := Lib.hid (show w.heap.size ≤ wa.heap.size by omega)
  clear hz1
  go_enter Tryd.func35, Tryd.ntmps35
  go_upto_region 2 with fail
  dsimp only at hx0
  generalize wa.alloc (.cells #[.int .i64 (o : Int), .int .i64 0, .int .i64 0, .int .i64 0, .int .i64 0] 34) = wb at *
  have hrun := run_copy_cells (P := Tryd.prog) wb 45 45 3 3 wa.heap.size 2 3 3 ⟨w.heap.size, 0, none⟩ 3 3 [.int .i64 (i : Int), .int .i64 (j : Int), .int .i64 (k : Int)] Tryd.underlying45 (by kernel_rfl) rfl
    (fun j v hj => by
      rw [do_add, Lib.cell_of_heap hab j]
      simpa using hj)
    (fun j hj => by
      have : j = 0 ∨ j = 1 ∨ j = 2 := by simp at hj; omega
      rcases this with rfl | rfl | rfl
      · rw [show (2 + 0 : Nat) = 2 from rfl, hx0.cells.2.2.1]; rfl
      · rw [show (2 + 1 : Nat) = 3 from rfl, hx0.cells.2.2.2.1]; rfl
      · rw [show (2 + 2 : Nat) = 4 from rfl, hx0.cells.2.2.2.2]; rfl)
    (fun j hj => hx0.frz _) (by intro v hv; simp at hv; rcases hv with h | h | h <;> rw [h] <;> rfl)
  have HX := Lib.hid (show TBox (wb.setCells wa.heap.size 2 [.int .i64 (i : Int), .int .i64 (j : Int), .int .i64 (k : Int)]) wa.heap.size ⟨(o : Int), 0, (i : Int), (j : Int), (k : Int)⟩ from by
    have h0 := hset (i := 2) hx0 (.int .i64 (i : Int))
    have h1 := hset (i := 3) h0 (.int .i64 (j : Int))
    have h2 := hset (i := 4) h1 (.int .i64 (k : Int))
    exact h2)
  have HB := Lib.hid (show Below w.heap.size w (wb.setCells wa.heap.size 2 [.int .i64 (i : Int), .int .i64 (j : Int), .int .i64 (k : Int)]) from ((hb2.setCell (p := ⟨wa.heap.size, 2, none⟩) (by show w.heap.size ≤ wa.heap.size; exact HZ1.out) _).setCell (p := ⟨wa.heap.size, 3, none⟩) (by show w.heap.size ≤ wa.heap.size; exact HZ1.out) _).setCell (p := ⟨wa.heap.size, 4, none⟩) (by show w.heap.size ≤ wa.heap.size; exact HZ1.out) _)
  have HRUN := Lib.hid hrun
  clear hrun
  go_wp2_with (refine wpList_copy_by (by rfl) (.tmp 12) (.tmp 13) 45 45 (by rfl) _ _ (by rfl) (by rfl) _ _ HRUN.out ?_)
  intro wc hwc
  have HX := Lib.hid (show TBox wc wa.heap.size ⟨(o : Int), 0, (i : Int), (j : Int), (k : Int)⟩ from by rw [hwc.out]; exact HX.out)
  have HB := Lib.hid (show Below w.heap.size w wc from by rw [hwc.out]; exact HB.out)
  clear hs hab hx0 hb2 ha0 hb1 hwc
  have HSC := Lib.hid (HS.out.later HB.out)
  obtain ⟨n₀, mb, rv, ht, hn⟩ := HSC.out.tab
  have HTB := Lib.hid ht
  have HN := Lib.hid hn
  have HMK := Lib.hid (make_any ⟨(o : Int), 0, (i : Int), (j : Int), (k : Int)⟩ ht HOK.out HSC.out.ts HWW.out hl)
  rw [HM.out.2.1, HM.out.2.2] at HMK
  obtain ⟨x0, x1, x2, x3, x4⟩ := HX.out.cells
  dsimp only at x0 x1 x2 x3 x4
  have c1 := HSC.out.tbx.cell
  clear ht hn
  go_wp2_with (fail)
  refine HMK.out.mono ?_
  rintro e w7 ⟨rfl, rv', hmr⟩
  have HS7 := Lib.hid (HSC.out.made HTB.out HN.out hmr)
  clear hmr
  go_wp2_with (fail)
  go_ret
  exact ⟨rfl, by rw [← HM.out.1]; exact HS7.out⟩
end
end Go.Proofs.YtlnpgcdgpahdmaaDoor
