/- What is proved: the reference's parser: node. -/
import Derived.Test.YtnpcfmoiiecadaaDoorParNode
set_option linter.unusedVariables false
namespace Go.Proofs.YtnpcfmoiiecadaaDoor.Par
open Go.RowKit
open Lx (Tok)

set_option maxHeartbeats 4000000 in
theorem node_v2 {B0 bp : Nat} {E : Env} {w : World} {p : St} (h : PIs B0 bp E w p) (first : Nat) (k : Int) (t : ByteArray) (A : Option Addr) (c n : Nat) (hf : first < E.T.length) (hd1 : decide ((first : Int) < (p.k : Int)) = false) (hd2 : decide ((0 : Int) < (n : Int)) = false) (hn0 : ¬ (0 : Int) < (n : Int)) :
    Calls Tryd.prog 29 #[ptr bp, .int .i64 (first : Int), .int .i64 k, .string t, .slice A n c] w fun e w' => e = .returned (.agg #[.int .i64 k, .string t, .int .i64 p.last, .int .i64 p.last, .slice A n c]) ∧ Below w.heap.size w w' := by
  obtain ⟨v, hb, ho⟩ := h.box
  obtain ⟨b, off, ht⟩ := h.tok
  have HBX := Lib.hid hb
  have HT := Lib.hid ht
  have HLT := Lib.hid (show bp < w.heap.size from h.lt)
  have HLB := Lib.hid (show b < w.heap.size from ht.ty.lt)
  have HF := Lib.hid hf
  have H1 := Lib.hid hd1
  have H2 := Lib.hid hd2
  have H20 := Lib.hid hn0
  clear h hb ho ht hf hd1 hd2 hn0
  unfold ptr at *
  go_enter Tryd.func29, Tryd.ntmps29
  go_wp2_with (fail)
  have hb0 := (Below.refl w.heap.size w).alloc (Nat.le_refl _) (.cells #[.int .i64 0, .string ⟨#[]⟩, .int .i64 0, .int .i64 0, .slice none 0 0] 31)
  have hz0 : (w.alloc (.cells #[.int .i64 0, .string ⟨#[]⟩, .int .i64 0, .int .i64 0, .slice none 0 0] 31)).heap[w.heap.size]? = some (.cells #[.int .i64 0, .string ⟨#[]⟩, .int .i64 0, .int .i64 0, .slice none 0 0] 31 (0, 0)) := heap_alloc_new w _
  have hs0 : (w.alloc (.cells #[.int .i64 0, .string ⟨#[]⟩, .int .i64 0, .int .i64 0, .slice none 0 0] 31)).heap.size = w.heap.size + 1 := World.size_alloc _ _
  generalize (w.alloc (.cells #[.int .i64 0, .string ⟨#[]⟩, .int .i64 0, .int .i64 0, .slice none 0 0] 31)) = w0 at *
  have hba := (Below.refl w0.heap.size w0).alloc (Nat.le_refl _) (.cells #[.int .i64 0, .string ⟨#[]⟩, .int .i64 0, .int .i64 0, .slice none 0 0] 31)
  have hbn := ((Below.refl w0.heap.size w0).alloc (Nat.le_refl _) (.cells #[.int .i64 k, .string t, .int .i64 p.last, .int .i64 p.last, .slice A n c] 31)).drew
  have hn0 : (w0.alloc (.cells #[.int .i64 0, .string ⟨#[]⟩, .int .i64 0, .int .i64 0, .slice none 0 0] 31)).heap[w0.heap.size]? = some (.cells #[.int .i64 0, .string ⟨#[]⟩, .int .i64 0, .int .i64 0, .slice none 0 0] 31 (0, 0)) := heap_alloc_new w0 _
  have hnn : (w0.alloc (.cells #[.int .i64 k, .string t, .int .i64 p.last, .int .i64 p.last, .slice A n c] 31)).drew.heap[w0.heap.size]? = some (.cells #[.int .i64 k, .string t, .int .i64 p.last, .int .i64 p.last, .slice A n c] 31 (0, 0)) := heap_alloc_new w0 _
  have c3 : w0.cell? ⟨bp, 3, none⟩ = some (.int .i64 p.last) := (hb0.cell (p := ⟨bp, 3, none⟩) HLT.out).trans (Lib.cell_of_heap HBX.out 3)
  have d3 : (w0.alloc (.cells #[.int .i64 0, .string ⟨#[]⟩, .int .i64 0, .int .i64 0, .slice none 0 0] 31)).cell? ⟨bp, 3, none⟩ = some (.int .i64 p.last) := (hba.cell (p := ⟨bp, 3, none⟩) (by have := HLT.out; show bp < _; omega)).trans c3
  have n0 := Lib.cell_of_heap hn0 0
  have n1 := Lib.cell_of_heap hn0 1
  have n2 := Lib.cell_of_heap hn0 2
  have n3 := Lib.cell_of_heap hn0 3
  have n4 := Lib.cell_of_heap hn0 4
  have f0 := hfrz hn0 0
  have f1 := hfrz hn0 1
  have f2 := hfrz hn0 2
  have f3 := hfrz hn0 3
  have f4 := hfrz hn0 4
  have HB0 := Lib.hid hb0
  have HS0 := Lib.hid hs0
  have HBN := Lib.hid hbn
  have HNN := Lib.hid hnn
  have HZ0 := Lib.hid hz0
  clear hb0 hs0 hbn hnn hz0 hba hn0
  go_region
  clear c3 d3 n0 n1 n2 n3 n4 f0 f1 f2 f3 f4
  generalize (w0.alloc (.cells #[.int .i64 k, .string t, .int .i64 p.last, .int .i64 p.last, .slice A n c] 31)).drew = w1 at *
  have HB1 := Lib.hid (HB0.out.trans (HBN.out.mono HB0.out.size))
  have hz1 : w1.heap[w.heap.size]? = some (.cells #[.int .i64 0, .string ⟨#[]⟩, .int .i64 0, .int .i64 0, .slice none 0 0] 31 (0, 0)) := (HBN.out.block _ (by rw [HS0.out]; omega)).trans HZ0.out
  have HZ1 := Lib.hid hz1
  have hns := HS0.out
  generalize hnb : w0.heap.size = nb at *
  have HNB := Lib.hid (show nb = w.heap.size + 1 by omega)
  clear hz1 hns hnb
  have c1 : w1.cell? ⟨bp, 1, none⟩ = some (.slice E.A E.T.length E.c) := (HB1.out.cell (p := ⟨bp, 1, none⟩) HLT.out).trans (Lib.cell_of_heap HBX.out 1)
  rw [HT.out.A] at c1
  have c2 : w1.cell? ⟨bp, 2, none⟩ = some (.int .i64 (p.k : Int)) := (HB1.out.cell (p := ⟨bp, 2, none⟩) HLT.out).trans (Lib.cell_of_heap HBX.out 2)
  have t2 := (HB1.out.cell (p := ⟨b, off + first * 4 + 2, none⟩) HLB.out).trans (HT.out.cells first HF.out).2.2.1
  have i0 : (0 : Int) ≤ (first : Int) := by omega
  have i1 : (first : Int) < (E.T.length : Int) := by have := HF.out; omega
  have m2 := Lib.cell_of_heap HNN.out 2
  have g2 := hfrz HNN.out 2
  have hd1 := H1.out
  have i2 : ¬ first < p.k := by simpa using hd1
  have i3 : decide (first < p.k) = false := by simpa using i2
  have q0 : ¬ (first : Int) < (p.k : Int) := by simpa using hd1
  go_upto_region 4 with fail
  have hb3 := HB1.out
  have hz3 : w1.heap[w.heap.size]? = some (.cells #[.int .i64 0, .string ⟨#[]⟩, .int .i64 0, .int .i64 0, .slice none 0 0] 31 (0, 0)) := HZ1.out
  have hn3 : w1.heap[nb]? = some (.cells #[.int .i64 k, .string t, .int .i64 p.last, .int .i64 p.last, .slice A n c] 31 (0, 0)) := HNN.out
  clear c1 c2 t2 i0 i1 i2 i3 m2 g2 hd1 HZ1 HNN HB0 HBN HZ0 HB1 q0
  have HB3 := Lib.hid hb3
  have HZ3 := Lib.hid hz3
  have HN3 := Lib.hid hn3
  have o2 := Lib.cell_of_heap hn3 2
  have hd2 := H2.out
  have q2 := H20.out
  have q3 : ¬ 0 < n := by omega
  have q4 : decide (0 < n) = false := by simp; omega
  clear hb3 hz3 hn3
  go_quiet (fail)
  have hb4 : Below w.heap.size w (w1.drewN nq) := HB3.out.trans ((below_drew w1 nq).mono HB3.out.size)
  have hz4 : (w1.drewN nq).heap[w.heap.size]? = some (.cells #[.int .i64 0, .string ⟨#[]⟩, .int .i64 0, .int .i64 0, .slice none 0 0] 31 (0, 0)) := HZ3.out
  have hn4 : (w1.drewN nq).heap[nb]? = some (.cells #[.int .i64 k, .string t, .int .i64 p.last, .int .i64 p.last, .slice A n c] 31 (0, 0)) := HN3.out
  clear HB3 HZ3 HN3 o2
  generalize w1.drewN nq = w4 at *
  have a0 := Lib.cell_of_heap hn4 0
  have a1 := Lib.cell_of_heap hn4 1
  have a2 := Lib.cell_of_heap hn4 2
  have a3 := Lib.cell_of_heap hn4 3
  have a4 := Lib.cell_of_heap hn4 4
  have e2 := hfrz hn4 2
  have z0 := Lib.cell_of_heap hz4 0
  have z1 := Lib.cell_of_heap hz4 1
  have z2 := Lib.cell_of_heap hz4 2
  have z3 := Lib.cell_of_heap hz4 3
  have z4 := Lib.cell_of_heap hz4 4
  have y0 := hfrz hz4 0
  have y1 := hfrz hz4 1
  have y2 := hfrz hz4 2
  have y3 := hfrz hz4 3
  have y4 := hfrz hz4 4
  have HB4 := Lib.hid hb4
  have HZ4 := Lib.hid hz4
  clear hb4 hz4 hn4
  have hne : w.heap.size ≠ nb := by have := HNB.out; omega
  have hne2 : nb ≠ w.heap.size := by have := HNB.out; omega
  go_wp2_with (fail)
  have hV := hset (i := 4) (hset (i := 3) (hset (i := 2) (hset (i := 1) (hset (i := 0) HZ4.out (.int .i64 k)) (.string t)) (.int .i64 p.last)) (.int .i64 p.last)) (.slice A n c)
  have hbV := (((((HB4.out).setCell (p := ⟨w.heap.size, 0, none⟩) (Nat.le_refl _) (.int .i64 k)).setCell (p := ⟨w.heap.size, 1, none⟩) (Nat.le_refl _) (.string t)).setCell (p := ⟨w.heap.size, 2, none⟩) (Nat.le_refl _) (.int .i64 p.last)).setCell (p := ⟨w.heap.size, 3, none⟩) (Nat.le_refl _) (.int .i64 p.last)).setCell (p := ⟨w.heap.size, 4, none⟩) (Nat.le_refl _) (.slice A n c)
  clear a0 a1 a2 a3 a4 e2 z0 z1 z2 z3 z4 y0 y1 y2 y3 y4
  generalize (((((w4.setCell ⟨w.heap.size, 0, none⟩ (.int .i64 k)).setCell ⟨w.heap.size, 1, none⟩ (.string t)).setCell ⟨w.heap.size, 2, none⟩ (.int .i64 p.last)).setCell ⟨w.heap.size, 3, none⟩ (.int .i64 p.last)).setCell ⟨w.heap.size, 4, none⟩ (.slice A n c)) = V at *
  have v0 := Lib.cell_of_heap hV 0
  have v1 := Lib.cell_of_heap hV 1
  have v2 := Lib.cell_of_heap hV 2
  have v3 := Lib.cell_of_heap hV 3
  have v4 := Lib.cell_of_heap hV 4
  exact bodyPost_ret (v := .agg #[.int .i64 k, .string t, .int .i64 p.last, .int .i64 p.last, .slice A n c]) (by simp [results, Tryd.results29, go_sem, v0, v1, v2, v3, v4]) rfl ⟨rfl, hbV⟩
set_option maxHeartbeats 4000000 in
theorem node_v3 {B0 bp : Nat} {E : Env} {w : World} {p : St} (h : PIs B0 bp E w p) (first : Nat) (k : Int) (t : ByteArray) (g o : Nat) (c n : Nat) (hf : first < E.T.length) (hd1 : decide ((first : Int) < (p.k : Int)) = true) (hd2 : decide ((0 : Int) < (n : Int)) = true) (xl : Int) (hg : g < w.heap.size) (hx : w.cell? ⟨g, o + 2, none⟩ = some (.int .i64 xl)) (hd3 : decide (xl < (tk E first).at_) = true) (hn0 : (0 : Int) < (n : Int)) :
    Calls Tryd.prog 29 #[ptr bp, .int .i64 (first : Int), .int .i64 k, .string t, .slice (some ⟨g, o, none⟩) n c] w fun e w' => e = .returned (.agg #[.int .i64 k, .string t, .int .i64 xl, .int .i64 p.last, .slice (some ⟨g, o, none⟩) n c]) ∧ Below w.heap.size w w' := by
  obtain ⟨v, hb, ho⟩ := h.box
  obtain ⟨b, off, ht⟩ := h.tok
  have HBX := Lib.hid hb
  have HT := Lib.hid ht
  have HLT := Lib.hid (show bp < w.heap.size from h.lt)
  have HLB := Lib.hid (show b < w.heap.size from ht.ty.lt)
  have HF := Lib.hid hf
  have H1 := Lib.hid hd1
  have H2 := Lib.hid hd2
  have H20 := Lib.hid hn0
  have H3 := Lib.hid hd3
  have HG := Lib.hid hg
  have HX := Lib.hid hx
  clear h hb ho ht hf hd1 hd2 hn0 hd3 hg hx
  unfold ptr at *
  go_enter Tryd.func29, Tryd.ntmps29
  go_wp2_with (fail)
  have hb0 := (Below.refl w.heap.size w).alloc (Nat.le_refl _) (.cells #[.int .i64 0, .string ⟨#[]⟩, .int .i64 0, .int .i64 0, .slice none 0 0] 31)
  have hz0 : (w.alloc (.cells #[.int .i64 0, .string ⟨#[]⟩, .int .i64 0, .int .i64 0, .slice none 0 0] 31)).heap[w.heap.size]? = some (.cells #[.int .i64 0, .string ⟨#[]⟩, .int .i64 0, .int .i64 0, .slice none 0 0] 31 (0, 0)) := heap_alloc_new w _
  have hs0 : (w.alloc (.cells #[.int .i64 0, .string ⟨#[]⟩, .int .i64 0, .int .i64 0, .slice none 0 0] 31)).heap.size = w.heap.size + 1 := World.size_alloc _ _
  generalize (w.alloc (.cells #[.int .i64 0, .string ⟨#[]⟩, .int .i64 0, .int .i64 0, .slice none 0 0] 31)) = w0 at *
  have hba := (Below.refl w0.heap.size w0).alloc (Nat.le_refl _) (.cells #[.int .i64 0, .string ⟨#[]⟩, .int .i64 0, .int .i64 0, .slice none 0 0] 31)
  have hbn := ((Below.refl w0.heap.size w0).alloc (Nat.le_refl _) (.cells #[.int .i64 k, .string t, .int .i64 p.last, .int .i64 p.last, .slice (some ⟨g, o, none⟩) n c] 31)).drew
  have hn0 : (w0.alloc (.cells #[.int .i64 0, .string ⟨#[]⟩, .int .i64 0, .int .i64 0, .slice none 0 0] 31)).heap[w0.heap.size]? = some (.cells #[.int .i64 0, .string ⟨#[]⟩, .int .i64 0, .int .i64 0, .slice none 0 0] 31 (0, 0)) := heap_alloc_new w0 _
  have hnn : (w0.alloc (.cells #[.int .i64 k, .string t, .int .i64 p.last, .int .i64 p.last, .slice (some ⟨g, o, none⟩) n c] 31)).drew.heap[w0.heap.size]? = some (.cells #[.int .i64 k, .string t, .int .i64 p.last, .int .i64 p.last, .slice (some ⟨g, o, none⟩) n c] 31 (0, 0)) := heap_alloc_new w0 _
  have c3 : w0.cell? ⟨bp, 3, none⟩ = some (.int .i64 p.last) := (hb0.cell (p := ⟨bp, 3, none⟩) HLT.out).trans (Lib.cell_of_heap HBX.out 3)
  have d3 : (w0.alloc (.cells #[.int .i64 0, .string ⟨#[]⟩, .int .i64 0, .int .i64 0, .slice none 0 0] 31)).cell? ⟨bp, 3, none⟩ = some (.int .i64 p.last) := (hba.cell (p := ⟨bp, 3, none⟩) (by have := HLT.out; show bp < _; omega)).trans c3
  have n0 := Lib.cell_of_heap hn0 0
  have n1 := Lib.cell_of_heap hn0 1
  have n2 := Lib.cell_of_heap hn0 2
  have n3 := Lib.cell_of_heap hn0 3
  have n4 := Lib.cell_of_heap hn0 4
  have f0 := hfrz hn0 0
  have f1 := hfrz hn0 1
  have f2 := hfrz hn0 2
  have f3 := hfrz hn0 3
  have f4 := hfrz hn0 4
  have HB0 := Lib.hid hb0
  have HS0 := Lib.hid hs0
  have HBN := Lib.hid hbn
  have HNN := Lib.hid hnn
  have HZ0 := Lib.hid hz0
  clear hb0 hs0 hbn hnn hz0 hba hn0
  go_region
  clear c3 d3 n0 n1 n2 n3 n4 f0 f1 f2 f3 f4
  generalize (w0.alloc (.cells #[.int .i64 k, .string t, .int .i64 p.last, .int .i64 p.last, .slice (some ⟨g, o, none⟩) n c] 31)).drew = w1 at *
  have HB1 := Lib.hid (HB0.out.trans (HBN.out.mono HB0.out.size))
  have hz1 : w1.heap[w.heap.size]? = some (.cells #[.int .i64 0, .string ⟨#[]⟩, .int .i64 0, .int .i64 0, .slice none 0 0] 31 (0, 0)) := (HBN.out.block _ (by rw [HS0.out]; omega)).trans HZ0.out
  have HZ1 := Lib.hid hz1
  have hns := HS0.out
  generalize hnb : w0.heap.size = nb at *
  have HNB := Lib.hid (show nb = w.heap.size + 1 by omega)
  clear hz1 hns hnb
  have c1 : w1.cell? ⟨bp, 1, none⟩ = some (.slice E.A E.T.length E.c) := (HB1.out.cell (p := ⟨bp, 1, none⟩) HLT.out).trans (Lib.cell_of_heap HBX.out 1)
  rw [HT.out.A] at c1
  have c2 : w1.cell? ⟨bp, 2, none⟩ = some (.int .i64 (p.k : Int)) := (HB1.out.cell (p := ⟨bp, 2, none⟩) HLT.out).trans (Lib.cell_of_heap HBX.out 2)
  have t2 := (HB1.out.cell (p := ⟨b, off + first * 4 + 2, none⟩) HLB.out).trans (HT.out.cells first HF.out).2.2.1
  have i0 : (0 : Int) ≤ (first : Int) := by omega
  have i1 : (first : Int) < (E.T.length : Int) := by have := HF.out; omega
  have m2 := Lib.cell_of_heap HNN.out 2
  have g2 := hfrz HNN.out 2
  have hd1 := H1.out
  have i2 : first < p.k := by simpa using hd1
  have i3 : decide (first < p.k) = true := by simpa using i2
  go_upto_region 4 with fail
  have hb3 := HB1.out.setCell (p := ⟨nb, 2, none⟩) (by have := HNB.out; show w.heap.size ≤ nb; omega) (.int .i64 (tk E first).at_)
  have hz3 : (w1.setCell ⟨nb, 2, none⟩ (.int .i64 (tk E first).at_)).heap[w.heap.size]? = some (.cells #[.int .i64 0, .string ⟨#[]⟩, .int .i64 0, .int .i64 0, .slice none 0 0] 31 (0, 0)) := (Below.heap_setCell w1 ⟨nb, 2, none⟩ _ w.heap.size (by have := HNB.out; show w.heap.size ≠ nb; omega)).trans HZ1.out
  have hn3 : (w1.setCell ⟨nb, 2, none⟩ (.int .i64 (tk E first).at_)).heap[nb]? = some (.cells #[.int .i64 k, .string t, .int .i64 (tk E first).at_, .int .i64 p.last, .slice (some ⟨g, o, none⟩) n c] 31 (0, 0)) := hset HNN.out _
  clear c1 c2 t2 i0 i1 i2 i3 m2 g2 hd1 HZ1 HNN HB0 HBN HZ0 HB1
  generalize (w1.setCell ⟨nb, 2, none⟩ (.int .i64 (tk E first).at_)) = w3 at *
  have HB3 := Lib.hid hb3
  have HZ3 := Lib.hid hz3
  have HN3 := Lib.hid hn3
  have o2 := Lib.cell_of_heap hn3 2
  have x2 := (HB3.out.cell (p := ⟨g, o + 2, none⟩) HG.out).trans HX.out
  have hd3 := H3.out
  have hd2 := H2.out
  have q2 := H20.out
  have q3 : 0 < n := by omega
  have q4 : decide (0 < n) = true := by simp; omega
  clear hb3 hz3 hn3
  go_quiet (fail)
  have hb4 : Below w.heap.size w (w3.drewN nq) := HB3.out.trans ((below_drew w3 nq).mono HB3.out.size)
  have hz4 : (w3.drewN nq).heap[w.heap.size]? = some (.cells #[.int .i64 0, .string ⟨#[]⟩, .int .i64 0, .int .i64 0, .slice none 0 0] 31 (0, 0)) := HZ3.out
  have hn4 : (w3.drewN nq).heap[nb]? = some (.cells #[.int .i64 k, .string t, .int .i64 (tk E first).at_, .int .i64 p.last, .slice (some ⟨g, o, none⟩) n c] 31 (0, 0)) := HN3.out
  clear HB3 HZ3 HN3 o2 x2
  generalize w3.drewN nq = w4 at *
  have x2 := (hb4.cell (p := ⟨g, o + 2, none⟩) HG.out).trans HX.out
  have a0 := Lib.cell_of_heap hn4 0
  have a1 := Lib.cell_of_heap hn4 1
  have a2 := Lib.cell_of_heap hn4 2
  have a3 := Lib.cell_of_heap hn4 3
  have a4 := Lib.cell_of_heap hn4 4
  have e2 := hfrz hn4 2
  have z0 := Lib.cell_of_heap hz4 0
  have z1 := Lib.cell_of_heap hz4 1
  have z2 := Lib.cell_of_heap hz4 2
  have z3 := Lib.cell_of_heap hz4 3
  have z4 := Lib.cell_of_heap hz4 4
  have y0 := hfrz hz4 0
  have y1 := hfrz hz4 1
  have y2 := hfrz hz4 2
  have y3 := hfrz hz4 3
  have y4 := hfrz hz4 4
  have HB4 := Lib.hid hb4
  have HZ4 := Lib.hid hz4
  clear hb4 hz4 hn4
  have hne : w.heap.size ≠ nb := by have := HNB.out; omega
  have hne2 : nb ≠ w.heap.size := by have := HNB.out; omega
  go_wp2_with (fail)
  have hV := hset (i := 4) (hset (i := 3) (hset (i := 2) (hset (i := 1) (hset (i := 0) ((Below.heap_setCell w4 ⟨nb, 2, none⟩ (.int .i64 xl) w.heap.size hne).trans HZ4.out) (.int .i64 k)) (.string t)) (.int .i64 xl)) (.int .i64 p.last)) (.slice (some ⟨g, o, none⟩) n c)
  have hbV := ((((((HB4.out.setCell (p := ⟨nb, 2, none⟩) (by have := HNB.out; show w.heap.size ≤ nb; omega) (.int .i64 xl))).setCell (p := ⟨w.heap.size, 0, none⟩) (Nat.le_refl _) (.int .i64 k)).setCell (p := ⟨w.heap.size, 1, none⟩) (Nat.le_refl _) (.string t)).setCell (p := ⟨w.heap.size, 2, none⟩) (Nat.le_refl _) (.int .i64 xl)).setCell (p := ⟨w.heap.size, 3, none⟩) (Nat.le_refl _) (.int .i64 p.last)).setCell (p := ⟨w.heap.size, 4, none⟩) (Nat.le_refl _) (.slice (some ⟨g, o, none⟩) n c)
  clear a0 a1 a2 a3 a4 e2 z0 z1 z2 z3 z4 y0 y1 y2 y3 y4
  generalize ((((((w4.setCell ⟨nb, 2, none⟩ (.int .i64 xl)).setCell ⟨w.heap.size, 0, none⟩ (.int .i64 k)).setCell ⟨w.heap.size, 1, none⟩ (.string t)).setCell ⟨w.heap.size, 2, none⟩ (.int .i64 xl)).setCell ⟨w.heap.size, 3, none⟩ (.int .i64 p.last)).setCell ⟨w.heap.size, 4, none⟩ (.slice (some ⟨g, o, none⟩) n c)) = V at *
  have v0 := Lib.cell_of_heap hV 0
  have v1 := Lib.cell_of_heap hV 1
  have v2 := Lib.cell_of_heap hV 2
  have v3 := Lib.cell_of_heap hV 3
  have v4 := Lib.cell_of_heap hV 4
  exact bodyPost_ret (v := .agg #[.int .i64 k, .string t, .int .i64 xl, .int .i64 p.last, .slice (some ⟨g, o, none⟩) n c]) (by simp [results, Tryd.results29, go_sem, v0, v1, v2, v3, v4]) rfl ⟨rfl, hbV⟩
set_option maxHeartbeats 4000000 in
theorem node_v4 {B0 bp : Nat} {E : Env} {w : World} {p : St} (h : PIs B0 bp E w p) (first : Nat) (k : Int) (t : ByteArray) (g o : Nat) (c n : Nat) (hf : first < E.T.length) (hd1 : decide ((first : Int) < (p.k : Int)) = true) (hd2 : decide ((0 : Int) < (n : Int)) = true) (xl : Int) (hg : g < w.heap.size) (hx : w.cell? ⟨g, o + 2, none⟩ = some (.int .i64 xl)) (hd3 : decide (xl < (tk E first).at_) = false) (hn0 : (0 : Int) < (n : Int)) :
    Calls Tryd.prog 29 #[ptr bp, .int .i64 (first : Int), .int .i64 k, .string t, .slice (some ⟨g, o, none⟩) n c] w fun e w' => e = .returned (.agg #[.int .i64 k, .string t, .int .i64 (tk E first).at_, .int .i64 p.last, .slice (some ⟨g, o, none⟩) n c]) ∧ Below w.heap.size w w' := by
  obtain ⟨v, hb, ho⟩ := h.box
  obtain ⟨b, off, ht⟩ := h.tok
  have HBX := Lib.hid hb
  have HT := Lib.hid ht
  have HLT := Lib.hid (show bp < w.heap.size from h.lt)
  have HLB := Lib.hid (show b < w.heap.size from ht.ty.lt)
  have HF := Lib.hid hf
  have H1 := Lib.hid hd1
  have H2 := Lib.hid hd2
  have H20 := Lib.hid hn0
  have H3 := Lib.hid hd3
  have HG := Lib.hid hg
  have HX := Lib.hid hx
  clear h hb ho ht hf hd1 hd2 hn0 hd3 hg hx
  unfold ptr at *
  go_enter Tryd.func29, Tryd.ntmps29
  go_wp2_with (fail)
  have hb0 := (Below.refl w.heap.size w).alloc (Nat.le_refl _) (.cells #[.int .i64 0, .string ⟨#[]⟩, .int .i64 0, .int .i64 0, .slice none 0 0] 31)
  have hz0 : (w.alloc (.cells #[.int .i64 0, .string ⟨#[]⟩, .int .i64 0, .int .i64 0, .slice none 0 0] 31)).heap[w.heap.size]? = some (.cells #[.int .i64 0, .string ⟨#[]⟩, .int .i64 0, .int .i64 0, .slice none 0 0] 31 (0, 0)) := heap_alloc_new w _
  have hs0 : (w.alloc (.cells #[.int .i64 0, .string ⟨#[]⟩, .int .i64 0, .int .i64 0, .slice none 0 0] 31)).heap.size = w.heap.size + 1 := World.size_alloc _ _
  generalize (w.alloc (.cells #[.int .i64 0, .string ⟨#[]⟩, .int .i64 0, .int .i64 0, .slice none 0 0] 31)) = w0 at *
  have hba := (Below.refl w0.heap.size w0).alloc (Nat.le_refl _) (.cells #[.int .i64 0, .string ⟨#[]⟩, .int .i64 0, .int .i64 0, .slice none 0 0] 31)
  have hbn := ((Below.refl w0.heap.size w0).alloc (Nat.le_refl _) (.cells #[.int .i64 k, .string t, .int .i64 p.last, .int .i64 p.last, .slice (some ⟨g, o, none⟩) n c] 31)).drew
  have hn0 : (w0.alloc (.cells #[.int .i64 0, .string ⟨#[]⟩, .int .i64 0, .int .i64 0, .slice none 0 0] 31)).heap[w0.heap.size]? = some (.cells #[.int .i64 0, .string ⟨#[]⟩, .int .i64 0, .int .i64 0, .slice none 0 0] 31 (0, 0)) := heap_alloc_new w0 _
  have hnn : (w0.alloc (.cells #[.int .i64 k, .string t, .int .i64 p.last, .int .i64 p.last, .slice (some ⟨g, o, none⟩) n c] 31)).drew.heap[w0.heap.size]? = some (.cells #[.int .i64 k, .string t, .int .i64 p.last, .int .i64 p.last, .slice (some ⟨g, o, none⟩) n c] 31 (0, 0)) := heap_alloc_new w0 _
  have c3 : w0.cell? ⟨bp, 3, none⟩ = some (.int .i64 p.last) := (hb0.cell (p := ⟨bp, 3, none⟩) HLT.out).trans (Lib.cell_of_heap HBX.out 3)
  have d3 : (w0.alloc (.cells #[.int .i64 0, .string ⟨#[]⟩, .int .i64 0, .int .i64 0, .slice none 0 0] 31)).cell? ⟨bp, 3, none⟩ = some (.int .i64 p.last) := (hba.cell (p := ⟨bp, 3, none⟩) (by have := HLT.out; show bp < _; omega)).trans c3
  have n0 := Lib.cell_of_heap hn0 0
  have n1 := Lib.cell_of_heap hn0 1
  have n2 := Lib.cell_of_heap hn0 2
  have n3 := Lib.cell_of_heap hn0 3
  have n4 := Lib.cell_of_heap hn0 4
  have f0 := hfrz hn0 0
  have f1 := hfrz hn0 1
  have f2 := hfrz hn0 2
  have f3 := hfrz hn0 3
  have f4 := hfrz hn0 4
  have HB0 := Lib.hid hb0
  have HS0 := Lib.hid hs0
  have HBN := Lib.hid hbn
  have HNN := Lib.hid hnn
  have HZ0 := Lib.hid hz0
  clear hb0 hs0 hbn hnn hz0 hba hn0
  go_region
  clear c3 d3 n0 n1 n2 n3 n4 f0 f1 f2 f3 f4
  generalize (w0.alloc (.cells #[.int .i64 k, .string t, .int .i64 p.last, .int .i64 p.last, .slice (some ⟨g, o, none⟩) n c] 31)).drew = w1 at *
  have HB1 := Lib.hid (HB0.out.trans (HBN.out.mono HB0.out.size))
  have hz1 : w1.heap[w.heap.size]? = some (.cells #[.int .i64 0, .string ⟨#[]⟩, .int .i64 0, .int .i64 0, .slice none 0 0] 31 (0, 0)) := (HBN.out.block _ (by rw [HS0.out]; omega)).trans HZ0.out
  have HZ1 := Lib.hid hz1
  have hns := HS0.out
  generalize hnb : w0.heap.size = nb at *
  have HNB := Lib.hid (show nb = w.heap.size + 1 by omega)
  clear hz1 hns hnb
  have c1 : w1.cell? ⟨bp, 1, none⟩ = some (.slice E.A E.T.length E.c) := (HB1.out.cell (p := ⟨bp, 1, none⟩) HLT.out).trans (Lib.cell_of_heap HBX.out 1)
  rw [HT.out.A] at c1
  have c2 : w1.cell? ⟨bp, 2, none⟩ = some (.int .i64 (p.k : Int)) := (HB1.out.cell (p := ⟨bp, 2, none⟩) HLT.out).trans (Lib.cell_of_heap HBX.out 2)
  have t2 := (HB1.out.cell (p := ⟨b, off + first * 4 + 2, none⟩) HLB.out).trans (HT.out.cells first HF.out).2.2.1
  have i0 : (0 : Int) ≤ (first : Int) := by omega
  have i1 : (first : Int) < (E.T.length : Int) := by have := HF.out; omega
  have m2 := Lib.cell_of_heap HNN.out 2
  have g2 := hfrz HNN.out 2
  have hd1 := H1.out
  have i2 : first < p.k := by simpa using hd1
  have i3 : decide (first < p.k) = true := by simpa using i2
  go_upto_region 4 with fail
  have hb3 := HB1.out.setCell (p := ⟨nb, 2, none⟩) (by have := HNB.out; show w.heap.size ≤ nb; omega) (.int .i64 (tk E first).at_)
  have hz3 : (w1.setCell ⟨nb, 2, none⟩ (.int .i64 (tk E first).at_)).heap[w.heap.size]? = some (.cells #[.int .i64 0, .string ⟨#[]⟩, .int .i64 0, .int .i64 0, .slice none 0 0] 31 (0, 0)) := (Below.heap_setCell w1 ⟨nb, 2, none⟩ _ w.heap.size (by have := HNB.out; show w.heap.size ≠ nb; omega)).trans HZ1.out
  have hn3 : (w1.setCell ⟨nb, 2, none⟩ (.int .i64 (tk E first).at_)).heap[nb]? = some (.cells #[.int .i64 k, .string t, .int .i64 (tk E first).at_, .int .i64 p.last, .slice (some ⟨g, o, none⟩) n c] 31 (0, 0)) := hset HNN.out _
  clear c1 c2 t2 i0 i1 i2 i3 m2 g2 hd1 HZ1 HNN HB0 HBN HZ0 HB1
  generalize (w1.setCell ⟨nb, 2, none⟩ (.int .i64 (tk E first).at_)) = w3 at *
  have HB3 := Lib.hid hb3
  have HZ3 := Lib.hid hz3
  have HN3 := Lib.hid hn3
  have o2 := Lib.cell_of_heap hn3 2
  have x2 := (HB3.out.cell (p := ⟨g, o + 2, none⟩) HG.out).trans HX.out
  have hd3 := H3.out
  have hd2 := H2.out
  have q2 := H20.out
  have q3 : 0 < n := by omega
  have q4 : decide (0 < n) = true := by simp; omega
  clear hb3 hz3 hn3
  go_quiet (fail)
  have hb4 : Below w.heap.size w (w3.drewN nq) := HB3.out.trans ((below_drew w3 nq).mono HB3.out.size)
  have hz4 : (w3.drewN nq).heap[w.heap.size]? = some (.cells #[.int .i64 0, .string ⟨#[]⟩, .int .i64 0, .int .i64 0, .slice none 0 0] 31 (0, 0)) := HZ3.out
  have hn4 : (w3.drewN nq).heap[nb]? = some (.cells #[.int .i64 k, .string t, .int .i64 (tk E first).at_, .int .i64 p.last, .slice (some ⟨g, o, none⟩) n c] 31 (0, 0)) := HN3.out
  clear HB3 HZ3 HN3 o2 x2
  generalize w3.drewN nq = w4 at *
  have x2 := (hb4.cell (p := ⟨g, o + 2, none⟩) HG.out).trans HX.out
  have a0 := Lib.cell_of_heap hn4 0
  have a1 := Lib.cell_of_heap hn4 1
  have a2 := Lib.cell_of_heap hn4 2
  have a3 := Lib.cell_of_heap hn4 3
  have a4 := Lib.cell_of_heap hn4 4
  have e2 := hfrz hn4 2
  have z0 := Lib.cell_of_heap hz4 0
  have z1 := Lib.cell_of_heap hz4 1
  have z2 := Lib.cell_of_heap hz4 2
  have z3 := Lib.cell_of_heap hz4 3
  have z4 := Lib.cell_of_heap hz4 4
  have y0 := hfrz hz4 0
  have y1 := hfrz hz4 1
  have y2 := hfrz hz4 2
  have y3 := hfrz hz4 3
  have y4 := hfrz hz4 4
  have HB4 := Lib.hid hb4
  have HZ4 := Lib.hid hz4
  clear hb4 hz4 hn4
  have hne : w.heap.size ≠ nb := by have := HNB.out; omega
  have hne2 : nb ≠ w.heap.size := by have := HNB.out; omega
  go_wp2_with (fail)
  have hV := hset (i := 4) (hset (i := 3) (hset (i := 2) (hset (i := 1) (hset (i := 0) HZ4.out (.int .i64 k)) (.string t)) (.int .i64 (tk E first).at_)) (.int .i64 p.last)) (.slice (some ⟨g, o, none⟩) n c)
  have hbV := (((((HB4.out).setCell (p := ⟨w.heap.size, 0, none⟩) (Nat.le_refl _) (.int .i64 k)).setCell (p := ⟨w.heap.size, 1, none⟩) (Nat.le_refl _) (.string t)).setCell (p := ⟨w.heap.size, 2, none⟩) (Nat.le_refl _) (.int .i64 (tk E first).at_)).setCell (p := ⟨w.heap.size, 3, none⟩) (Nat.le_refl _) (.int .i64 p.last)).setCell (p := ⟨w.heap.size, 4, none⟩) (Nat.le_refl _) (.slice (some ⟨g, o, none⟩) n c)
  clear a0 a1 a2 a3 a4 e2 z0 z1 z2 z3 z4 y0 y1 y2 y3 y4
  generalize (((((w4.setCell ⟨w.heap.size, 0, none⟩ (.int .i64 k)).setCell ⟨w.heap.size, 1, none⟩ (.string t)).setCell ⟨w.heap.size, 2, none⟩ (.int .i64 (tk E first).at_)).setCell ⟨w.heap.size, 3, none⟩ (.int .i64 p.last)).setCell ⟨w.heap.size, 4, none⟩ (.slice (some ⟨g, o, none⟩) n c)) = V at *
  have v0 := Lib.cell_of_heap hV 0
  have v1 := Lib.cell_of_heap hV 1
  have v2 := Lib.cell_of_heap hV 2
  have v3 := Lib.cell_of_heap hV 3
  have v4 := Lib.cell_of_heap hV 4
  exact bodyPost_ret (v := .agg #[.int .i64 k, .string t, .int .i64 (tk E first).at_, .int .i64 p.last, .slice (some ⟨g, o, none⟩) n c]) (by simp [results, Tryd.results29, go_sem, v0, v1, v2, v3, v4]) rfl ⟨rfl, hbV⟩
set_option maxHeartbeats 4000000 in
theorem node_v5 {B0 bp : Nat} {E : Env} {w : World} {p : St} (h : PIs B0 bp E w p) (first : Nat) (k : Int) (t : ByteArray) (g o : Nat) (c n : Nat) (hf : first < E.T.length) (hd1 : decide ((first : Int) < (p.k : Int)) = false) (hd2 : decide ((0 : Int) < (n : Int)) = true) (xl : Int) (hg : g < w.heap.size) (hx : w.cell? ⟨g, o + 2, none⟩ = some (.int .i64 xl)) (hd3 : decide (xl < p.last) = true) (hn0 : (0 : Int) < (n : Int)) :
    Calls Tryd.prog 29 #[ptr bp, .int .i64 (first : Int), .int .i64 k, .string t, .slice (some ⟨g, o, none⟩) n c] w fun e w' => e = .returned (.agg #[.int .i64 k, .string t, .int .i64 xl, .int .i64 p.last, .slice (some ⟨g, o, none⟩) n c]) ∧ Below w.heap.size w w' := by
  obtain ⟨v, hb, ho⟩ := h.box
  obtain ⟨b, off, ht⟩ := h.tok
  have HBX := Lib.hid hb
  have HT := Lib.hid ht
  have HLT := Lib.hid (show bp < w.heap.size from h.lt)
  have HLB := Lib.hid (show b < w.heap.size from ht.ty.lt)
  have HF := Lib.hid hf
  have H1 := Lib.hid hd1
  have H2 := Lib.hid hd2
  have H20 := Lib.hid hn0
  have H3 := Lib.hid hd3
  have HG := Lib.hid hg
  have HX := Lib.hid hx
  clear h hb ho ht hf hd1 hd2 hn0 hd3 hg hx
  unfold ptr at *
  go_enter Tryd.func29, Tryd.ntmps29
  go_wp2_with (fail)
  have hb0 := (Below.refl w.heap.size w).alloc (Nat.le_refl _) (.cells #[.int .i64 0, .string ⟨#[]⟩, .int .i64 0, .int .i64 0, .slice none 0 0] 31)
  have hz0 : (w.alloc (.cells #[.int .i64 0, .string ⟨#[]⟩, .int .i64 0, .int .i64 0, .slice none 0 0] 31)).heap[w.heap.size]? = some (.cells #[.int .i64 0, .string ⟨#[]⟩, .int .i64 0, .int .i64 0, .slice none 0 0] 31 (0, 0)) := heap_alloc_new w _
  have hs0 : (w.alloc (.cells #[.int .i64 0, .string ⟨#[]⟩, .int .i64 0, .int .i64 0, .slice none 0 0] 31)).heap.size = w.heap.size + 1 := World.size_alloc _ _
  generalize (w.alloc (.cells #[.int .i64 0, .string ⟨#[]⟩, .int .i64 0, .int .i64 0, .slice none 0 0] 31)) = w0 at *
  have hba := (Below.refl w0.heap.size w0).alloc (Nat.le_refl _) (.cells #[.int .i64 0, .string ⟨#[]⟩, .int .i64 0, .int .i64 0, .slice none 0 0] 31)
  have hbn := ((Below.refl w0.heap.size w0).alloc (Nat.le_refl _) (.cells #[.int .i64 k, .string t, .int .i64 p.last, .int .i64 p.last, .slice (some ⟨g, o, none⟩) n c] 31)).drew
  have hn0 : (w0.alloc (.cells #[.int .i64 0, .string ⟨#[]⟩, .int .i64 0, .int .i64 0, .slice none 0 0] 31)).heap[w0.heap.size]? = some (.cells #[.int .i64 0, .string ⟨#[]⟩, .int .i64 0, .int .i64 0, .slice none 0 0] 31 (0, 0)) := heap_alloc_new w0 _
  have hnn : (w0.alloc (.cells #[.int .i64 k, .string t, .int .i64 p.last, .int .i64 p.last, .slice (some ⟨g, o, none⟩) n c] 31)).drew.heap[w0.heap.size]? = some (.cells #[.int .i64 k, .string t, .int .i64 p.last, .int .i64 p.last, .slice (some ⟨g, o, none⟩) n c] 31 (0, 0)) := heap_alloc_new w0 _
  have c3 : w0.cell? ⟨bp, 3, none⟩ = some (.int .i64 p.last) := (hb0.cell (p := ⟨bp, 3, none⟩) HLT.out).trans (Lib.cell_of_heap HBX.out 3)
  have d3 : (w0.alloc (.cells #[.int .i64 0, .string ⟨#[]⟩, .int .i64 0, .int .i64 0, .slice none 0 0] 31)).cell? ⟨bp, 3, none⟩ = some (.int .i64 p.last) := (hba.cell (p := ⟨bp, 3, none⟩) (by have := HLT.out; show bp < _; omega)).trans c3
  have n0 := Lib.cell_of_heap hn0 0
  have n1 := Lib.cell_of_heap hn0 1
  have n2 := Lib.cell_of_heap hn0 2
  have n3 := Lib.cell_of_heap hn0 3
  have n4 := Lib.cell_of_heap hn0 4
  have f0 := hfrz hn0 0
  have f1 := hfrz hn0 1
  have f2 := hfrz hn0 2
  have f3 := hfrz hn0 3
  have f4 := hfrz hn0 4
  have HB0 := Lib.hid hb0
  have HS0 := Lib.hid hs0
  have HBN := Lib.hid hbn
  have HNN := Lib.hid hnn
  have HZ0 := Lib.hid hz0
  clear hb0 hs0 hbn hnn hz0 hba hn0
  go_region
  clear c3 d3 n0 n1 n2 n3 n4 f0 f1 f2 f3 f4
  generalize (w0.alloc (.cells #[.int .i64 k, .string t, .int .i64 p.last, .int .i64 p.last, .slice (some ⟨g, o, none⟩) n c] 31)).drew = w1 at *
  have HB1 := Lib.hid (HB0.out.trans (HBN.out.mono HB0.out.size))
  have hz1 : w1.heap[w.heap.size]? = some (.cells #[.int .i64 0, .string ⟨#[]⟩, .int .i64 0, .int .i64 0, .slice none 0 0] 31 (0, 0)) := (HBN.out.block _ (by rw [HS0.out]; omega)).trans HZ0.out
  have HZ1 := Lib.hid hz1
  have hns := HS0.out
  generalize hnb : w0.heap.size = nb at *
  have HNB := Lib.hid (show nb = w.heap.size + 1 by omega)
  clear hz1 hns hnb
  have c1 : w1.cell? ⟨bp, 1, none⟩ = some (.slice E.A E.T.length E.c) := (HB1.out.cell (p := ⟨bp, 1, none⟩) HLT.out).trans (Lib.cell_of_heap HBX.out 1)
  rw [HT.out.A] at c1
  have c2 : w1.cell? ⟨bp, 2, none⟩ = some (.int .i64 (p.k : Int)) := (HB1.out.cell (p := ⟨bp, 2, none⟩) HLT.out).trans (Lib.cell_of_heap HBX.out 2)
  have t2 := (HB1.out.cell (p := ⟨b, off + first * 4 + 2, none⟩) HLB.out).trans (HT.out.cells first HF.out).2.2.1
  have i0 : (0 : Int) ≤ (first : Int) := by omega
  have i1 : (first : Int) < (E.T.length : Int) := by have := HF.out; omega
  have m2 := Lib.cell_of_heap HNN.out 2
  have g2 := hfrz HNN.out 2
  have hd1 := H1.out
  have i2 : ¬ first < p.k := by simpa using hd1
  have i3 : decide (first < p.k) = false := by simpa using i2
  have q0 : ¬ (first : Int) < (p.k : Int) := by simpa using hd1
  go_upto_region 4 with fail
  have hb3 := HB1.out
  have hz3 : w1.heap[w.heap.size]? = some (.cells #[.int .i64 0, .string ⟨#[]⟩, .int .i64 0, .int .i64 0, .slice none 0 0] 31 (0, 0)) := HZ1.out
  have hn3 : w1.heap[nb]? = some (.cells #[.int .i64 k, .string t, .int .i64 p.last, .int .i64 p.last, .slice (some ⟨g, o, none⟩) n c] 31 (0, 0)) := HNN.out
  clear c1 c2 t2 i0 i1 i2 i3 m2 g2 hd1 HZ1 HNN HB0 HBN HZ0 HB1 q0
  have HB3 := Lib.hid hb3
  have HZ3 := Lib.hid hz3
  have HN3 := Lib.hid hn3
  have o2 := Lib.cell_of_heap hn3 2
  have x2 := (HB3.out.cell (p := ⟨g, o + 2, none⟩) HG.out).trans HX.out
  have hd3 := H3.out
  have hd2 := H2.out
  have q2 := H20.out
  have q3 : 0 < n := by omega
  have q4 : decide (0 < n) = true := by simp; omega
  clear hb3 hz3 hn3
  go_quiet (fail)
  have hb4 : Below w.heap.size w (w1.drewN nq) := HB3.out.trans ((below_drew w1 nq).mono HB3.out.size)
  have hz4 : (w1.drewN nq).heap[w.heap.size]? = some (.cells #[.int .i64 0, .string ⟨#[]⟩, .int .i64 0, .int .i64 0, .slice none 0 0] 31 (0, 0)) := HZ3.out
  have hn4 : (w1.drewN nq).heap[nb]? = some (.cells #[.int .i64 k, .string t, .int .i64 p.last, .int .i64 p.last, .slice (some ⟨g, o, none⟩) n c] 31 (0, 0)) := HN3.out
  clear HB3 HZ3 HN3 o2 x2
  generalize w1.drewN nq = w4 at *
  have x2 := (hb4.cell (p := ⟨g, o + 2, none⟩) HG.out).trans HX.out
  have a0 := Lib.cell_of_heap hn4 0
  have a1 := Lib.cell_of_heap hn4 1
  have a2 := Lib.cell_of_heap hn4 2
  have a3 := Lib.cell_of_heap hn4 3
  have a4 := Lib.cell_of_heap hn4 4
  have e2 := hfrz hn4 2
  have z0 := Lib.cell_of_heap hz4 0
  have z1 := Lib.cell_of_heap hz4 1
  have z2 := Lib.cell_of_heap hz4 2
  have z3 := Lib.cell_of_heap hz4 3
  have z4 := Lib.cell_of_heap hz4 4
  have y0 := hfrz hz4 0
  have y1 := hfrz hz4 1
  have y2 := hfrz hz4 2
  have y3 := hfrz hz4 3
  have y4 := hfrz hz4 4
  have HB4 := Lib.hid hb4
  have HZ4 := Lib.hid hz4
  clear hb4 hz4 hn4
  have hne : w.heap.size ≠ nb := by have := HNB.out; omega
  have hne2 : nb ≠ w.heap.size := by have := HNB.out; omega
  go_wp2_with (fail)
  have hV := hset (i := 4) (hset (i := 3) (hset (i := 2) (hset (i := 1) (hset (i := 0) ((Below.heap_setCell w4 ⟨nb, 2, none⟩ (.int .i64 xl) w.heap.size hne).trans HZ4.out) (.int .i64 k)) (.string t)) (.int .i64 xl)) (.int .i64 p.last)) (.slice (some ⟨g, o, none⟩) n c)
  have hbV := ((((((HB4.out.setCell (p := ⟨nb, 2, none⟩) (by have := HNB.out; show w.heap.size ≤ nb; omega) (.int .i64 xl))).setCell (p := ⟨w.heap.size, 0, none⟩) (Nat.le_refl _) (.int .i64 k)).setCell (p := ⟨w.heap.size, 1, none⟩) (Nat.le_refl _) (.string t)).setCell (p := ⟨w.heap.size, 2, none⟩) (Nat.le_refl _) (.int .i64 xl)).setCell (p := ⟨w.heap.size, 3, none⟩) (Nat.le_refl _) (.int .i64 p.last)).setCell (p := ⟨w.heap.size, 4, none⟩) (Nat.le_refl _) (.slice (some ⟨g, o, none⟩) n c)
  clear a0 a1 a2 a3 a4 e2 z0 z1 z2 z3 z4 y0 y1 y2 y3 y4
  generalize ((((((w4.setCell ⟨nb, 2, none⟩ (.int .i64 xl)).setCell ⟨w.heap.size, 0, none⟩ (.int .i64 k)).setCell ⟨w.heap.size, 1, none⟩ (.string t)).setCell ⟨w.heap.size, 2, none⟩ (.int .i64 xl)).setCell ⟨w.heap.size, 3, none⟩ (.int .i64 p.last)).setCell ⟨w.heap.size, 4, none⟩ (.slice (some ⟨g, o, none⟩) n c)) = V at *
  have v0 := Lib.cell_of_heap hV 0
  have v1 := Lib.cell_of_heap hV 1
  have v2 := Lib.cell_of_heap hV 2
  have v3 := Lib.cell_of_heap hV 3
  have v4 := Lib.cell_of_heap hV 4
  exact bodyPost_ret (v := .agg #[.int .i64 k, .string t, .int .i64 xl, .int .i64 p.last, .slice (some ⟨g, o, none⟩) n c]) (by simp [results, Tryd.results29, go_sem, v0, v1, v2, v3, v4]) rfl ⟨rfl, hbV⟩
set_option maxHeartbeats 4000000 in
theorem node_v6 {B0 bp : Nat} {E : Env} {w : World} {p : St} (h : PIs B0 bp E w p) (first : Nat) (k : Int) (t : ByteArray) (g o : Nat) (c n : Nat) (hf : first < E.T.length) (hd1 : decide ((first : Int) < (p.k : Int)) = false) (hd2 : decide ((0 : Int) < (n : Int)) = true) (xl : Int) (hg : g < w.heap.size) (hx : w.cell? ⟨g, o + 2, none⟩ = some (.int .i64 xl)) (hd3 : decide (xl < p.last) = false) (hn0 : (0 : Int) < (n : Int)) :
    Calls Tryd.prog 29 #[ptr bp, .int .i64 (first : Int), .int .i64 k, .string t, .slice (some ⟨g, o, none⟩) n c] w fun e w' => e = .returned (.agg #[.int .i64 k, .string t, .int .i64 p.last, .int .i64 p.last, .slice (some ⟨g, o, none⟩) n c]) ∧ Below w.heap.size w w' := by
  obtain ⟨v, hb, ho⟩ := h.box
  obtain ⟨b, off, ht⟩ := h.tok
  have HBX := Lib.hid hb
  have HT := Lib.hid ht
  have HLT := Lib.hid (show bp < w.heap.size from h.lt)
  have HLB := Lib.hid (show b < w.heap.size from ht.ty.lt)
  have HF := Lib.hid hf
  have H1 := Lib.hid hd1
  have H2 := Lib.hid hd2
  have H20 := Lib.hid hn0
  have H3 := Lib.hid hd3
  have HG := Lib.hid hg
  have HX := Lib.hid hx
  clear h hb ho ht hf hd1 hd2 hn0 hd3 hg hx
  unfold ptr at *
  go_enter Tryd.func29, Tryd.ntmps29
  go_wp2_with (fail)
  have hb0 := (Below.refl w.heap.size w).alloc (Nat.le_refl _) (.cells #[.int .i64 0, .string ⟨#[]⟩, .int .i64 0, .int .i64 0, .slice none 0 0] 31)
  have hz0 : (w.alloc (.cells #[.int .i64 0, .string ⟨#[]⟩, .int .i64 0, .int .i64 0, .slice none 0 0] 31)).heap[w.heap.size]? = some (.cells #[.int .i64 0, .string ⟨#[]⟩, .int .i64 0, .int .i64 0, .slice none 0 0] 31 (0, 0)) := heap_alloc_new w _
  have hs0 : (w.alloc (.cells #[.int .i64 0, .string ⟨#[]⟩, .int .i64 0, .int .i64 0, .slice none 0 0] 31)).heap.size = w.heap.size + 1 := World.size_alloc _ _
  generalize (w.alloc (.cells #[.int .i64 0, .string ⟨#[]⟩, .int .i64 0, .int .i64 0, .slice none 0 0] 31)) = w0 at *
  have hba := (Below.refl w0.heap.size w0).alloc (Nat.le_refl _) (.cells #[.int .i64 0, .string ⟨#[]⟩, .int .i64 0, .int .i64 0, .slice none 0 0] 31)
  have hbn := ((Below.refl w0.heap.size w0).alloc (Nat.le_refl _) (.cells #[.int .i64 k, .string t, .int .i64 p.last, .int .i64 p.last, .slice (some ⟨g, o, none⟩) n c] 31)).drew
  have hn0 : (w0.alloc (.cells #[.int .i64 0, .string ⟨#[]⟩, .int .i64 0, .int .i64 0, .slice none 0 0] 31)).heap[w0.heap.size]? = some (.cells #[.int .i64 0, .string ⟨#[]⟩, .int .i64 0, .int .i64 0, .slice none 0 0] 31 (0, 0)) := heap_alloc_new w0 _
  have hnn : (w0.alloc (.cells #[.int .i64 k, .string t, .int .i64 p.last, .int .i64 p.last, .slice (some ⟨g, o, none⟩) n c] 31)).drew.heap[w0.heap.size]? = some (.cells #[.int .i64 k, .string t, .int .i64 p.last, .int .i64 p.last, .slice (some ⟨g, o, none⟩) n c] 31 (0, 0)) := heap_alloc_new w0 _
  have c3 : w0.cell? ⟨bp, 3, none⟩ = some (.int .i64 p.last) := (hb0.cell (p := ⟨bp, 3, none⟩) HLT.out).trans (Lib.cell_of_heap HBX.out 3)
  have d3 : (w0.alloc (.cells #[.int .i64 0, .string ⟨#[]⟩, .int .i64 0, .int .i64 0, .slice none 0 0] 31)).cell? ⟨bp, 3, none⟩ = some (.int .i64 p.last) := (hba.cell (p := ⟨bp, 3, none⟩) (by have := HLT.out; show bp < _; omega)).trans c3
  have n0 := Lib.cell_of_heap hn0 0
  have n1 := Lib.cell_of_heap hn0 1
  have n2 := Lib.cell_of_heap hn0 2
  have n3 := Lib.cell_of_heap hn0 3
  have n4 := Lib.cell_of_heap hn0 4
  have f0 := hfrz hn0 0
  have f1 := hfrz hn0 1
  have f2 := hfrz hn0 2
  have f3 := hfrz hn0 3
  have f4 := hfrz hn0 4
  have HB0 := Lib.hid hb0
  have HS0 := Lib.hid hs0
  have HBN := Lib.hid hbn
  have HNN := Lib.hid hnn
  have HZ0 := Lib.hid hz0
  clear hb0 hs0 hbn hnn hz0 hba hn0
  go_region
  clear c3 d3 n0 n1 n2 n3 n4 f0 f1 f2 f3 f4
  generalize (w0.alloc (.cells #[.int .i64 k, .string t, .int .i64 p.last, .int .i64 p.last, .slice (some ⟨g, o, none⟩) n c] 31)).drew = w1 at *
  have HB1 := Lib.hid (HB0.out.trans (HBN.out.mono HB0.out.size))
  have hz1 : w1.heap[w.heap.size]? = some (.cells #[.int .i64 0, .string ⟨#[]⟩, .int .i64 0, .int .i64 0, .slice none 0 0] 31 (0, 0)) := (HBN.out.block _ (by rw [HS0.out]; omega)).trans HZ0.out
  have HZ1 := Lib.hid hz1
  have hns := HS0.out
  generalize hnb : w0.heap.size = nb at *
  have HNB := Lib.hid (show nb = w.heap.size + 1 by omega)
  clear hz1 hns hnb
  have c1 : w1.cell? ⟨bp, 1, none⟩ = some (.slice E.A E.T.length E.c) := (HB1.out.cell (p := ⟨bp, 1, none⟩) HLT.out).trans (Lib.cell_of_heap HBX.out 1)
  rw [HT.out.A] at c1
  have c2 : w1.cell? ⟨bp, 2, none⟩ = some (.int .i64 (p.k : Int)) := (HB1.out.cell (p := ⟨bp, 2, none⟩) HLT.out).trans (Lib.cell_of_heap HBX.out 2)
  have t2 := (HB1.out.cell (p := ⟨b, off + first * 4 + 2, none⟩) HLB.out).trans (HT.out.cells first HF.out).2.2.1
  have i0 : (0 : Int) ≤ (first : Int) := by omega
  have i1 : (first : Int) < (E.T.length : Int) := by have := HF.out; omega
  have m2 := Lib.cell_of_heap HNN.out 2
  have g2 := hfrz HNN.out 2
  have hd1 := H1.out
  have i2 : ¬ first < p.k := by simpa using hd1
  have i3 : decide (first < p.k) = false := by simpa using i2
  have q0 : ¬ (first : Int) < (p.k : Int) := by simpa using hd1
  go_upto_region 4 with fail
  have hb3 := HB1.out
  have hz3 : w1.heap[w.heap.size]? = some (.cells #[.int .i64 0, .string ⟨#[]⟩, .int .i64 0, .int .i64 0, .slice none 0 0] 31 (0, 0)) := HZ1.out
  have hn3 : w1.heap[nb]? = some (.cells #[.int .i64 k, .string t, .int .i64 p.last, .int .i64 p.last, .slice (some ⟨g, o, none⟩) n c] 31 (0, 0)) := HNN.out
  clear c1 c2 t2 i0 i1 i2 i3 m2 g2 hd1 HZ1 HNN HB0 HBN HZ0 HB1 q0
  have HB3 := Lib.hid hb3
  have HZ3 := Lib.hid hz3
  have HN3 := Lib.hid hn3
  have o2 := Lib.cell_of_heap hn3 2
  have x2 := (HB3.out.cell (p := ⟨g, o + 2, none⟩) HG.out).trans HX.out
  have hd3 := H3.out
  have hd2 := H2.out
  have q2 := H20.out
  have q3 : 0 < n := by omega
  have q4 : decide (0 < n) = true := by simp; omega
  clear hb3 hz3 hn3
  go_quiet (fail)
  have hb4 : Below w.heap.size w (w1.drewN nq) := HB3.out.trans ((below_drew w1 nq).mono HB3.out.size)
  have hz4 : (w1.drewN nq).heap[w.heap.size]? = some (.cells #[.int .i64 0, .string ⟨#[]⟩, .int .i64 0, .int .i64 0, .slice none 0 0] 31 (0, 0)) := HZ3.out
  have hn4 : (w1.drewN nq).heap[nb]? = some (.cells #[.int .i64 k, .string t, .int .i64 p.last, .int .i64 p.last, .slice (some ⟨g, o, none⟩) n c] 31 (0, 0)) := HN3.out
  clear HB3 HZ3 HN3 o2 x2
  generalize w1.drewN nq = w4 at *
  have x2 := (hb4.cell (p := ⟨g, o + 2, none⟩) HG.out).trans HX.out
  have a0 := Lib.cell_of_heap hn4 0
  have a1 := Lib.cell_of_heap hn4 1
  have a2 := Lib.cell_of_heap hn4 2
  have a3 := Lib.cell_of_heap hn4 3
  have a4 := Lib.cell_of_heap hn4 4
  have e2 := hfrz hn4 2
  have z0 := Lib.cell_of_heap hz4 0
  have z1 := Lib.cell_of_heap hz4 1
  have z2 := Lib.cell_of_heap hz4 2
  have z3 := Lib.cell_of_heap hz4 3
  have z4 := Lib.cell_of_heap hz4 4
  have y0 := hfrz hz4 0
  have y1 := hfrz hz4 1
  have y2 := hfrz hz4 2
  have y3 := hfrz hz4 3
  have y4 := hfrz hz4 4
  have HB4 := Lib.hid hb4
  have HZ4 := Lib.hid hz4
  clear hb4 hz4 hn4
  have hne : w.heap.size ≠ nb := by have := HNB.out; omega
  have hne2 : nb ≠ w.heap.size := by have := HNB.out; omega
  go_wp2_with (fail)
  have hV := hset (i := 4) (hset (i := 3) (hset (i := 2) (hset (i := 1) (hset (i := 0) HZ4.out (.int .i64 k)) (.string t)) (.int .i64 p.last)) (.int .i64 p.last)) (.slice (some ⟨g, o, none⟩) n c)
  have hbV := (((((HB4.out).setCell (p := ⟨w.heap.size, 0, none⟩) (Nat.le_refl _) (.int .i64 k)).setCell (p := ⟨w.heap.size, 1, none⟩) (Nat.le_refl _) (.string t)).setCell (p := ⟨w.heap.size, 2, none⟩) (Nat.le_refl _) (.int .i64 p.last)).setCell (p := ⟨w.heap.size, 3, none⟩) (Nat.le_refl _) (.int .i64 p.last)).setCell (p := ⟨w.heap.size, 4, none⟩) (Nat.le_refl _) (.slice (some ⟨g, o, none⟩) n c)
  clear a0 a1 a2 a3 a4 e2 z0 z1 z2 z3 z4 y0 y1 y2 y3 y4
  generalize (((((w4.setCell ⟨w.heap.size, 0, none⟩ (.int .i64 k)).setCell ⟨w.heap.size, 1, none⟩ (.string t)).setCell ⟨w.heap.size, 2, none⟩ (.int .i64 p.last)).setCell ⟨w.heap.size, 3, none⟩ (.int .i64 p.last)).setCell ⟨w.heap.size, 4, none⟩ (.slice (some ⟨g, o, none⟩) n c)) = V at *
  have v0 := Lib.cell_of_heap hV 0
  have v1 := Lib.cell_of_heap hV 1
  have v2 := Lib.cell_of_heap hV 2
  have v3 := Lib.cell_of_heap hV 3
  have v4 := Lib.cell_of_heap hV 4
  exact bodyPost_ret (v := .agg #[.int .i64 k, .string t, .int .i64 p.last, .int .i64 p.last, .slice (some ⟨g, o, none⟩) n c]) (by simp [results, Tryd.results29, go_sem, v0, v1, v2, v3, v4]) rfl ⟨rfl, hbV⟩
end Go.Proofs.YtnpcfmoiiecadaaDoor.Par
