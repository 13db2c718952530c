/- What is proved: the scanner's method token returns what the plain function says. -/
import Derived.Test.YtoopnddlcofhoaaGreatDoorLxScan4
set_option linter.unusedVariables false
namespace Go.Proofs.YtoopnddlcofhoaaGreatDoor.Lx
open Go.RowKit

/-- the world with the receiver's box -/
def scBox (w : World) (g : Nat) : World := w.alloc (.cells #[.pointer (some ⟨g, 0, none⟩)] 120)
theorem scBox_own (w : World) (g : Nat) : (scBox w g).cell? ⟨w.heap.size, 0, none⟩ = some (.pointer (some ⟨g, 0, none⟩)) := by
  unfold scBox
  rw [Lib.cell_of_heap (heap_alloc_new w _)]
  rfl
theorem scBox_far (w : World) (g : Nat) (v : Value) (o : Nat) (h : w.cell? ⟨g, o, none⟩ = some v) : (scBox w g).cell? ⟨g, o, none⟩ = some v := (World.cell?_alloc_lt w _ _ (World.block_lt_of_cell? w _ h)).trans h
theorem scBox_below (w : World) (g : Nat) : Below w.heap.size w (scBox w g) := (Below.refl w.heap.size w).alloc (Nat.le_refl _) _

theorem run_makeFunc (fn : Fn) (first cap : Array Value) (w : World) : (Instr.makeFunc fn first cap).run Tryz.prog w = .ok (.func fn first cap) w := rfl

theorem ret_tok {a b c d : Int} (h1 : a = b) (h2 : c = d) : Ending.returned (.tuple #[.int .i64 a, .int .i64 c]) = .returned (.tuple #[.int .i64 b, .int .i64 d]) := by rw [h1, h2]

set_option maxHeartbeats 1000000 in
theorem token_end (s : ByteArray) (g b : Nat) (a : Int) (w : World) (hs : s.size ≤ 1000000) (h : Sc w g b s a) :
    Calls Tryz.prog 98 #[.pointer (some ⟨g, 0, none⟩), .int .i64 (s.size : Int)] w fun e w' => e = .returned (.tuple #[.int .i64 5, .int .i64 (s.size : Int)]) ∧ Below w.heap.size w w' := by
  have k1 := scBox_own w g
  have k2 := scBox_far w g _ _ h.c0
  have HB := Lib.hid (scBox_below w g)
  unfold scBox at k1 k2 HB
  clear h
  go_enter Tryz.func98, Tryz.ntmps98
  go_wp2_with (fail)
  go_ret2
  exact ⟨rfl, HB.out⟩

set_option maxHeartbeats 1000000 in
theorem token_word (s : ByteArray) (g b i : Nat) (a : Int) (w : World) (hs : s.size ≤ 1000000) (hi : i < s.size) (h : Sc w g b s a) (hl : letter s[i] = true) :
    Calls Tryz.prog 98 #[.pointer (some ⟨g, 0, none⟩), .int .i64 (i : Int)] w fun e w' => e = .returned (.tuple #[.int .i64 (if isKw ((s.data.toList.take (run s.data.toList inName i)).drop i) then 1 else 0), .int .i64 (run s.data.toList inName i : Int)]) ∧ Below w.heap.size w w' := by
  have k1 := scBox_own w g
  have k2 := scBox_far w g _ _ h.c0
  have k3 := scBox_far w g _ _ h.c1
  have HB := Lib.hid (scBox_below w g)
  have HW := Lib.hid (while_inName s w.heap.size g i (scBox w g) hs (by omega) k1 k2)
  have HL := Lib.hid (letter_any s[i] (scBox w g))
  rw [hl] at HL
  have hbd := run_bd s.data.toList inName i (by simp; omega)
  rw [show s.data.toList.length = s.size from by simp] at hbd
  have hK : KwMap (scBox w g) b := h.2.below (scBox_below w g)
  generalize run s.data.toList inName i = m at *
  rw [← slice_list]
  have hsz : (s.extract i m).size ≤ maxLen := by simp [ByteArray.size_extract, maxLen]; omega
  cases hq : isKw (s.extract i m).data.toList with
  | true =>
    have hlk : ∀ n : Nat, (Instr.lookup 132 (.map (some b)) (.string (s.extract i m)) false).run Tryz.prog ((scBox w g).drewN n) = .ok (.bool true) ((scBox w g).drewN n) := fun n => ((hK.drew n).look _ hsz).trans (by rw [hq])
    have hi' : (i : Int) < (s.size : Int) := by omega
    have hne : ((i : Int) == (s.size : Int)) = false := by simp; omega
    have hbd1 : (i : Int) ≤ (m : Int) := by omega
    have hbd2 : (m : Int) ≤ (s.size : Int) := by omega
    have hmf := run_makeFunc
    unfold scBox at k1 k2 k3 HB HW HL hlk
    clear h hK hl hq
    go_enter Tryz.func98, Tryz.ntmps98
    go_wp2_with (fail)
    refine HL.out.mono ?_
    rintro e w' ⟨rfl, rfl⟩
    go_wp2_with (fail)
    refine HW.out.mono ?_
    rintro e w' ⟨rfl, rfl⟩
    go_wp2_with (fail)
    go_quiet (fail)
    go_wp2_with (fail)
    go_ret2
    exact ⟨rfl, below_drewN HB.out _⟩
  | false =>
    have hlk : ∀ n : Nat, (Instr.lookup 132 (.map (some b)) (.string (s.extract i m)) false).run Tryz.prog ((scBox w g).drewN n) = .ok (.bool false) ((scBox w g).drewN n) := fun n => ((hK.drew n).look _ hsz).trans (by rw [hq])
    have hi' : (i : Int) < (s.size : Int) := by omega
    have hne : ((i : Int) == (s.size : Int)) = false := by simp; omega
    have hbd1 : (i : Int) ≤ (m : Int) := by omega
    have hbd2 : (m : Int) ≤ (s.size : Int) := by omega
    have hmf := run_makeFunc
    unfold scBox at k1 k2 k3 HB HW HL hlk
    clear h hK hl hq
    go_enter Tryz.func98, Tryz.ntmps98
    go_wp2_with (fail)
    refine HL.out.mono ?_
    rintro e w' ⟨rfl, rfl⟩
    go_wp2_with (fail)
    refine HW.out.mono ?_
    rintro e w' ⟨rfl, rfl⟩
    go_wp2_with (fail)
    go_quiet (fail)
    go_wp2_with (fail)
    go_ret2
    exact ⟨rfl, below_drewN HB.out _⟩

set_option maxHeartbeats 1000000 in
theorem token_number (s : ByteArray) (g b i : Nat) (a : Int) (w : World) (hs : s.size ≤ 1000000) (hi : i < s.size) (h : Sc w g b s a) (hl : letter s[i] = false) (hd : digit s[i] = true) :
    Calls Tryz.prog 98 #[.pointer (some ⟨g, 0, none⟩), .int .i64 (i : Int)] w fun e w' => e = .returned (.tuple #[.int .i64 2, .int .i64 (run s.data.toList digit i : Int)]) ∧ Below w.heap.size w w' := by
  have k1 := scBox_own w g
  have k2 := scBox_far w g _ _ h.c0
  have HB := Lib.hid (scBox_below w g)
  have HW := Lib.hid (while_digit s w.heap.size g i (scBox w g) hs (by omega) k1 k2)
  have HL := Lib.hid (letter_any s[i] (scBox w g))
  have HD := Lib.hid (digit_any s[i] (scBox w g))
  rw [hl] at HL
  rw [hd] at HD
  generalize run s.data.toList digit i = m at *
  have hi' : (i : Int) < (s.size : Int) := by omega
  have hne : ((i : Int) == (s.size : Int)) = false := by simp; omega
  have hmf := run_makeFunc
  unfold scBox at k1 k2 HB HW HL HD
  clear h hl hd
  go_enter Tryz.func98, Tryz.ntmps98
  go_wp2_with (fail)
  refine HL.out.mono ?_
  rintro e w' ⟨rfl, rfl⟩
  go_wp2_with (fail)
  refine HD.out.mono ?_
  rintro e w' ⟨rfl, rfl⟩
  go_wp2_with (fail)
  refine HW.out.mono ?_
  rintro e w' ⟨rfl, rfl⟩
  go_wp2_with (fail)
  go_ret2
  exact ⟨rfl, HB.out⟩

set_option maxHeartbeats 1000000 in
theorem token_other (s : ByteArray) (g b i : Nat) (a : Int) (w : World) (hs : s.size ≤ 1000000) (hi : i < s.size) (h : Sc w g b s a) (hl : letter s[i] = false) (hd : digit s[i] = false) :
    Calls Tryz.prog 98 #[.pointer (some ⟨g, 0, none⟩), .int .i64 (i : Int)] w fun e w' => e = .returned (.tuple #[.int .i64 (if 0 < sym s.data.toList i then 3 else 4), .int .i64 ((if 0 < sym s.data.toList i then i + sym s.data.toList i else wrongTo s.data.toList i : Nat) : Int)]) ∧ Below w.heap.size w w' := by
  have k1 := scBox_own w g
  have k2 := scBox_far w g _ _ h.c0
  have hgl := Nat.lt_of_lt_of_le h.lt (scBox_below w g).size
  have HB := Lib.hid (scBox_below w g)
  have HS := Lib.hid (symbol_any s g i (scBox w g) hs hi k2)
  have HW := Lib.hid (fun n => while_wrong s g i ((scBox w g).drewN n) hs (by omega) k2)
  have HL := Lib.hid (letter_any s[i] (scBox w g))
  have HD := Lib.hid (digit_any s[i] (scBox w g))
  rw [hl] at HL
  rw [hd] at HD
  have hsy : sym s.data.toList i ≤ 2 := by unfold sym; split <;> (try split) <;> omega
  generalize sym s.data.toList i = y at *
  generalize wrongTo s.data.toList i = m at *
  have hi' : (i : Int) < (s.size : Int) := by omega
  have hne : ((i : Int) == (s.size : Int)) = false := by simp; omega
  have hmf := run_makeFunc
  unfold scBox at k1 k2 HB HW HL HD HS
  clear h hl hd hgl
  by_cases hy : 0 < y
  · have hy' : (0 : Int) < (y : Int) := by omega
    go_enter Tryz.func98, Tryz.ntmps98
    go_wp2_with (fail)
    refine HL.out.mono ?_
    rintro e w' ⟨rfl, rfl⟩
    go_wp2_with (fail)
    refine HD.out.mono ?_
    rintro e w' ⟨rfl, rfl⟩
    go_wp2_with (fail)
    refine HS.out.mono ?_
    rintro e w' ⟨rfl, n, rfl⟩
    go_wp2_with (fail)
    go_ret2
    exact ⟨ret_tok (by first | rfl | rw [if_pos hy]) (by first | rfl | (rw [if_pos hy]; rfl)), below_drewN HB.out _⟩
  · have hy' : (y : Int) ≤ 0 := by omega
    go_enter Tryz.func98, Tryz.ntmps98
    go_wp2_with (fail)
    refine HL.out.mono ?_
    rintro e w' ⟨rfl, rfl⟩
    go_wp2_with (fail)
    refine HD.out.mono ?_
    rintro e w' ⟨rfl, rfl⟩
    go_wp2_with (fail)
    refine HS.out.mono ?_
    rintro e w' ⟨rfl, n, rfl⟩
    go_wp2_with (fail)
    refine (HW.out n).mono ?_
    rintro e w' ⟨rfl, n2, rfl⟩
    go_wp2_with (fail)
    go_ret2
    exact ⟨ret_tok (by first | rfl | rw [if_neg hy]) (by first | rfl | rw [if_neg hy]), below_drewN HB.out _⟩

theorem token_any (s : ByteArray) (g b i : Nat) (a : Int) (w : World) (hs : s.size ≤ 1000000) (hi : i ≤ s.size) (h : Sc w g b s a) :
    Calls Tryz.prog 98 #[.pointer (some ⟨g, 0, none⟩), .int .i64 (i : Int)] w fun e w' => e = .returned (.tuple #[.int .i64 ((tokAt s.data.toList i).1 : Int), .int .i64 ((tokAt s.data.toList i).2 : Int)]) ∧ Below w.heap.size w w' := by
  have hl : s.data.toList.length = s.size := by simp
  unfold tokAt
  rw [hl]
  by_cases h0 : i = s.size
  · subst h0
    rw [if_pos rfl]
    exact token_end s g b a w hs h
  · rw [if_neg h0]
    have hlt : i < s.size := by omega
    rw [at_get s i hlt]
    cases h1 : letter s[i] with
    | true =>
      rw [if_pos rfl]
      have := token_word s g b i a w hs hlt h h1
      refine this.mono ?_
      rintro e w' ⟨rfl, hb⟩
      refine ⟨ret_tok ?_ rfl, hb⟩
      split <;> rfl
    | false =>
      rw [if_neg (by simp)]
      cases h2 : digit s[i] with
      | true =>
        rw [if_pos rfl]
        exact token_number s g b i a w hs hlt h h1 h2
      | false =>
        rw [if_neg (by simp)]
        refine (token_other s g b i a w hs hlt h h1 h2).mono ?_
        rintro e w' ⟨rfl, hb⟩
        refine ⟨ret_tok ?_ ?_, hb⟩
        · split <;> rfl
        · split <;> rfl
end Go.Proofs.YtoopnddlcofhoaaGreatDoor.Lx
