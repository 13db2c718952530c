/- What is proved: the chapter's example comes out as the law says. -/
import Derived.Test.YtbdpdbeekbbehaaDoExP
import Derived.Test.YtbdpdbeekbbehaaDoLists
import Derived.Test.YtbdpdbeekbbehaaDoValid
import Derived.Test.YtbdpdbeekbbehaaShelf2
set_option linter.unusedVariables false
namespace Go.Proofs.Ytbdpdbeekbbehaa
open Go.RowKit Go.Shelf

theorem equal_any (w : World) (A B : Option Addr) (c d : Nat) (xs ys : List Int) (hx : ZRow w.heap.size w A xs) (hy : ZRow w.heap.size w B ys) (h1 : 0 < xs.length) (h2 : 0 < ys.length) (hn : xs.length ≤ 1000000) (hm : ys.length ≤ 1000000) :
    Calls Try.prog 28 #[.slice A xs.length c, .slice B ys.length d] w fun e W => e = .returned (.bool (xs == ys)) ∧ Below w.heap.size w W := by
  obtain ⟨b1, o1, rfl, _, g1⟩ := hx h1
  obtain ⟨b2, o2, rfl, _, g2⟩ := hy h2
  refine (Try.slices_Equal_int b1 o1 xs.length c b2 o2 ys.length d xs ys w (Nat.le_refl _) (Nat.le_refl _) (by omega) (by omega) (fun j hj => by rw [g1 j hj]; simp [hj]) (fun j hj => by rw [g2 j hj]; simp [hj])).mono ?_
  rintro e W ⟨rfl, q, rfl⟩
  rw [List.take_length, List.take_length]
  exact ⟨rfl, below_drewN (Below.refl _ _) q⟩
theorem lists_any (w : World) (X Y : Option Addr) (c d : Nat) (L M : List (List Int)) (hL : LRow w X L) (hM : LRow w Y M) (hl : L.length ≤ 1000000) (hll : ∀ l ∈ L, l.length ≤ 1000000) :
    Calls Try.prog 29 #[.slice X L.length c, .slice Y M.length d] w fun e W => e = .returned (.bool (decide (L = M))) ∧ Below w.heap.size w W := by
  have HC := Lib.hid (lists17_any w X Y c d L M hL hM hl hll)
  clear hL hM hl hll
  go_enter Try.func29, Try.ntmps29
  go_wp2_with (fail)
  refine HC.out.mono ?_
  rintro e w2 ⟨rfl, hb2⟩
  have HB2 := Lib.hid hb2
  clear hb2
  go_wp2_with (fail)
  go_ret
  exact ⟨rfl, HB2.out⟩
theorem HdR.lrow {w : World} {hb n B : Nat} {R : Nat → Value} {L : Nat → List Nat} (h : HdR w hb n B R L) : LRow w (some ⟨hb, 0, none⟩) ((List.range n).map fun v => zl (L v)) := fun h0 => by
  refine ⟨hb, 0, rfl, hlt h.hd, fun i hi => ?_⟩
  have hin : i < n := by simpa using hi
  obtain ⟨A, c, h1, h2, h3⟩ := h.nrow hin
  have h4 := h.cell hin
  rw [h1] at h4
  simp only [List.getElem_map, List.getElem_range, Nat.zero_add]
  rw [zl_len]
  exact ⟨A, c, h4, h3.z, h2⟩
def exA (b : Nat) : List PtV := exL (some ⟨b, 0, none⟩) (some ⟨b + 1, 0, none⟩) (some ⟨b + 1 + 1, 0, none⟩) (some ⟨b + 1 + 1 + 1, 0, none⟩)
/-- the example in memory -/
theorem ex_mem (w : World) {W : World} (hW : W = ((((((w.alloc (.cells #[.int .i64 2] 3)).alloc (.cells #[.int .i64 3, .int .i64 4] 3)).alloc (.cells #[.int .i64 2] 3)).alloc (.cells #[.int .i64 1] 3)).alloc
    (.cells #[.int .i64 0, .int .i64 0, .slice (some ⟨w.heap.size, 0, none⟩) 1 1, .int .i64 0, .int .i64 0, .slice none 0 0, .int .i64 0, .int .i64 0, .slice (some ⟨w.heap.size + 1, 0, none⟩) 2 2, .int .i64 0, .int .i64 0, .slice (some ⟨w.heap.size + 1 + 1, 0, none⟩) 1 1, .int .i64 0, .int .i64 0, .slice (some ⟨w.heap.size + 1 + 1 + 1, 0, none⟩) 1 1] 44)).alloc
    (.cells #[.slice (some ⟨w.heap.size + 1 + 1 + 1 + 1, 0, none⟩) 5 5] 24))) :
    PRow W.heap.size W (some ⟨w.heap.size + 1 + 1 + 1 + 1, 0, none⟩) (exA w.heap.size) ∧ Bx W (w.heap.size + 1 + 1 + 1 + 1 + 1) 24 (.slice (some ⟨w.heap.size + 1 + 1 + 1 + 1, 0, none⟩) 5 5) ∧ Below w.heap.size w W := by
  subst hW
  generalize hp : (Obj.cells #[.int .i64 0, .int .i64 0, .slice (some ⟨w.heap.size, 0, none⟩) 1 1, .int .i64 0, .int .i64 0, .slice none 0 0, .int .i64 0, .int .i64 0, .slice (some ⟨w.heap.size + 1, 0, none⟩) 2 2, .int .i64 0, .int .i64 0, .slice (some ⟨w.heap.size + 1 + 1, 0, none⟩) 1 1, .int .i64 0, .int .i64 0, .slice (some ⟨w.heap.size + 1 + 1 + 1, 0, none⟩) 1 1] 44) = op
  generalize hf : (Obj.cells #[.slice (some ⟨w.heap.size + 1 + 1 + 1 + 1, 0, none⟩) 5 5] 24) = of
  obtain ⟨g1, g2, g3, g4, gz, gb⟩ := al4 w (.cells #[.int .i64 2] 3) (.cells #[.int .i64 3, .int .i64 4] 3) (.cells #[.int .i64 2] 3) (.cells #[.int .i64 1] 3) rfl
  generalize ((((w.alloc (.cells #[.int .i64 2] 3)).alloc (.cells #[.int .i64 3, .int .i64 4] 3)).alloc (.cells #[.int .i64 2] 3)).alloc (.cells #[.int .i64 1] 3)) = w4 at *
  have n5 := heap_alloc_new w4 op
  have n6 := heap_alloc_new (w4.alloc op) of
  have s5 : (w4.alloc op).heap.size = w4.heap.size + 1 := by simp
  rw [s5] at n6
  have o5 := (heap_alloc_old (w4.alloc op) of (show w4.heap.size < _ by omega)).trans n5
  have old : ∀ k o, w4.heap[k]? = some o → ((w4.alloc op).alloc of).heap[k]? = some o := fun k o h => (heap_alloc_old _ _ (by have := hlt h; omega)).trans ((heap_alloc_old _ _ (hlt h)).trans h)
  have hs : ((w4.alloc op).alloc of).heap.size = w4.heap.size + 2 := by simp
  have e1 := Lib.cell_of_heap (old _ _ g1)
  have e2 := Lib.cell_of_heap (old _ _ g2)
  have e3 := Lib.cell_of_heap (old _ _ g3)
  have e4 := Lib.cell_of_heap (old _ _ g4)
  rw [show w4.heap.size = w.heap.size + 1 + 1 + 1 + 1 from by omega] at o5
  have e5 := Lib.cell_of_heap (o5.trans (congrArg some hp.symm))
  refine ⟨⟨fun _ => ⟨w.heap.size + 1 + 1 + 1 + 1, 0, rfl, by omega, fun i hi => ?_⟩, fun p hp => ?_⟩, ?_, ?_⟩
  · have hi5 : i < 5 := hi
    match i, hi5 with
    | 0, _ => exact ⟨e5 0, e5 1, e5 2⟩
    | 1, _ => exact ⟨e5 3, e5 4, e5 5⟩
    | 2, _ => exact ⟨e5 6, e5 7, e5 8⟩
    | 3, _ => exact ⟨e5 9, e5 10, e5 11⟩
    | 4, _ => exact ⟨e5 12, e5 13, e5 14⟩
  · unfold exA exL at hp
    simp only [List.mem_cons, List.not_mem_nil, or_false] at hp
    rcases hp with rfl | rfl | rfl | rfl | rfl
    · exact ⟨fun _ => ⟨_, 0, rfl, by omega, fun i hi => by match i, hi with | 0, _ => exact e1 0⟩, Nat.le_refl _⟩
    · exact ⟨fun h => absurd h (by simp), Nat.le_refl _⟩
    · exact ⟨fun _ => ⟨_, 0, rfl, by omega, fun i hi => by
        match i, hi with
        | 0, _ => exact e2 0
        | 1, _ => exact e2 1⟩, Nat.le_refl _⟩
    · exact ⟨fun _ => ⟨_, 0, rfl, by omega, fun i hi => by match i, hi with | 0, _ => exact e3 0⟩, Nat.le_refl _⟩
    · exact ⟨fun _ => ⟨_, 0, rfl, by omega, fun i hi => by match i, hi with | 0, _ => exact e4 0⟩, Nat.le_refl _⟩
  · unfold Bx
    rw [hf, show w.heap.size + 1 + 1 + 1 + 1 + 1 = w4.heap.size + 1 from by omega]
    exact n6
  · exact (gb.alloc gb.size _).alloc (by simp; have := gb.size; omega) _
end Go.Proofs.Ytbdpdbeekbbehaa
