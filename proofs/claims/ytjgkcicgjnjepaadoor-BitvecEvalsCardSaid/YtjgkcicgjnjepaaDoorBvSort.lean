/- What is proved: Sort of bitvec's tables. -/
import Derived.Test.YtjgkcicgjnjepaaDoorBvLook
set_option linter.unusedVariables false
namespace Go.Proofs.YtjgkcicgjnjepaaDoor
open Go.RowKit Go.Maps
section
variable {w : World} {n₀ tb mb : Nat} {rv : Value} {W : Int} {l : List Tm}
/-- what Sort answers -/
def sortV (l : List Tm) (i : Int) : Int := if nodeB l i = true then srt (nodeV l i).o else 0
set_option maxHeartbeats 400000 in
theorem sort_any (i : Int) (h : Tab w n₀ tb mb rv W l) (ht : TabS w) : Calls Tryd.prog 19 #[.pointer (some ⟨tb, 0, none⟩), .int .i64 i] w fun e w' => e = .returned (.tuple #[.int .i64 (sortV l i), .bool (nodeB l i)]) ∧ Below w.heap.size w w' := by
  have HN := Lib.hid (node_any i h)
  by_cases hb : nodeB l i = true
  · have hd : 0 ≤ i ∧ i < (l.length : Int) := by unfold nodeB at hb; simpa using hb
    obtain ⟨k, rfl⟩ : ∃ k : Nat, i = (k : Int) := ⟨i.toNat, by omega⟩
    have hk : k < l.length := by omega
    obtain ⟨q1, q2, _⟩ := h.tb.node hk
    have HS := Lib.hid (show sortV l (k : Int) = srt l[k].o by unfold sortV; rw [if_pos hb, (nodeB_in hk).2])
    rw [hb, (nodeB_in hk).2] at HN
    rw [hb, HS.out]
    have HT := Lib.hid ht
    unfold Tm.o
    generalize l[k] = x at *
    obtain ⟨op, v, a, b, c⟩ := x
    dsimp only at q1 q2 HN HS ⊢
    obtain ⟨o, rfl⟩ : ∃ o : Nat, op = (o : Int) := ⟨op.toNat, by omega⟩
    have ho : o < 18 := by omega
    have ho0 : decide ((o : Int) < 0) = false := by simp
    rw [Int.toNat_natCast]
    clear h ht hb hd HS q1 q2
    go_enter Tryd.func19, Tryd.ntmps19
    go_wp2_with (fail)
    refine HN.out.mono ?_
    rintro e w1 ⟨rfl, hb1⟩
    have HB1 := Lib.hid hb1
    have HBX := Lib.hid (TBox.new w1 ⟨(o : Int), v, a, b, c⟩)
    have hb2 := (Below.refl w1.heap.size w1).alloc (Nat.le_refl _) (.cells #[.int .i64 (o : Int), .int .i64 v, .int .i64 a, .int .i64 b, .int .i64 c] 46)
    have HB2 := Lib.hid hb2
    have HT2 := Lib.hid ((HT.out.later HB1.out).later hb2)
    obtain ⟨t0, _⟩ := HT2.out o ho
    clear hb1 hb2
    go_wp2_with (fail)
    go_ret2
    exact ⟨rfl, HB1.out.trans (HB2.out.mono HB1.out.size)⟩
  · have hb' : nodeB l i = false := by simpa using hb
    have hz : nodeV l i = zT := by
      unfold nodeB at hb
      simp at hb
      exact (nodeB_no (by omega)).2
    have HS := Lib.hid (show sortV l i = 0 by unfold sortV; rw [if_neg hb])
    rw [hb', hz] at HN
    rw [hb', HS.out]
    dsimp only [zT] at HN
    clear h ht hb hb' hz HS
    go_enter Tryd.func19, Tryd.ntmps19
    go_wp2_with (fail)
    refine HN.out.mono ?_
    rintro e w1 ⟨rfl, hb1⟩
    have HB1 := Lib.hid hb1
    clear hb1
    go_wp2_with (fail)
    go_ret2
    exact ⟨rfl, HB1.out.alloc HB1.out.size _⟩

theorem isInteger_any (n : Int) (h : Tab w n₀ tb mb rv W l) (hW : IntKind.i64.wrap W = W) : Calls Tryd.prog 39 #[.pointer (some ⟨tb, 0, none⟩), .int .i64 n] w fun e w' => e = .returned (.bool (n == wrpP W n)) ∧ w' = w := by
  have HW := Lib.hid (fun w => wrap_any W n hW w)
  have c0 : w.cell? ⟨tb, 0, none⟩ = some (.int .i64 W) := Lib.cell_of_heap h.box 0
  clear h hW
  go_enter Tryd.func39, Tryd.ntmps39
  go_wp2_with (fail)
  refine (HW.out _).mono ?_
  rintro e w1 ⟨rfl, rfl⟩
  go_wp2_with (fail)
  go_ret
  exact ⟨rfl, rfl⟩
end
end Go.Proofs.YtjgkcicgjnjepaaDoor
