/- What is proved: TextTurns answers true at every two strings. -/
import Derived.Test.YtgihfnnffailiaaAwake
import Derived.Test.YtgihfnnffailiaaRefDiff
import Derived.Deep.RegionHeld3
set_option linter.unusedVariables false
namespace Go.Proofs.Ytgihfnnffailiaa
open Go.RowKit

/-- the one replacement that the difference is -/
def dRep (a b : ByteArray) : Rep := ⟨cpl a.data.toList b.data.toList, ((a.size - csl a.data.toList b.data.toList : Nat) : Int), b.extract (cpl a.data.toList b.data.toList) (b.size - csl a.data.toList b.data.toList)⟩

theorem d_chk (a b : ByteArray) (ha : a.size ≤ 300) (hb : b.size ≤ 300) : chk a.size [dRep a b] 0 a.size = 0 := by
  have hl := csl_le a.data.toList b.data.toList
  have la := len_eq a
  have lb := len_eq b
  have hsz : (b.extract (cpl a.data.toList b.data.toList) (b.size - csl a.data.toList b.data.toList)).size ≤ 300 := by simp [ByteArray.size_extract]; omega
  unfold chk dRep
  rw [if_neg (by dsimp only; omega), if_neg (by dsimp only; omega)]
  unfold chk grow
  rw [if_neg (by dsimp only; omega)]

theorem d_app (a b : ByteArray) : app a.data.toList 0 [dRep a b] = b.data.toList := by
  have h := diff_turns a.data.toList b.data.toList
  have la := len_eq a
  have lb := len_eq b
  unfold app dRep app
  have e : (b.extract (cpl a.data.toList b.data.toList) (b.size - csl a.data.toList b.data.toList)).data.toList = (b.data.toList.take (b.data.toList.length - csl a.data.toList b.data.toList)).drop (cpl a.data.toList b.data.toList) := by
    simp [ByteArray.data_extract, List.drop_take]
  dsimp only
  rw [e, List.drop_zero]
  rw [la] at h
  exact h

def repVal (r : Rep) : Value := .agg #[.int .i64 r.lo, .int .i64 r.hi, .string r.text]
def repObj (r : Rep) : Obj := .cells #[.int .i64 r.lo, .int .i64 r.hi, .string r.text] 45

theorem rep_one (w : World) (r : Rep) : Reps (w.alloc (repObj r)) w.heap.size 0 [r] := by
  intro i hi
  have h := heap_new1 w (repObj r)
  unfold repObj at h
  match i, hi with
  | 0, _ => exact ⟨Lib.cell_of_heap h 0, Lib.cell_of_heap h 1, Lib.cell_of_heap h 2⟩

/-- what the last statement holds on to -/
def TS (w : World) (B : Nat) (r : Rep) (w' : World) : Prop :=
  w'.cell? ⟨B, 0, none⟩ = some (.int .i64 r.lo) ∧ w'.cell? ⟨B, 1, none⟩ = some (.int .i64 r.hi) ∧ w'.cell? ⟨B, 2, none⟩ = some (.string r.text) ∧ Below w.heap.size w w'

theorem TS.next {w : World} {B : Nat} {r : Rep} {w1 w2 : World} (h : TS w B r w1) (hB : B < w1.heap.size) (hw : w.heap.size ≤ w1.heap.size) (hb : Below w1.heap.size w1 w2) : TS w B r w2 :=
  ⟨(hb.cell (p := ⟨B, 0, none⟩) hB).trans h.1, (hb.cell (p := ⟨B, 1, none⟩) hB).trans h.2.1, (hb.cell (p := ⟨B, 2, none⟩) hB).trans h.2.2.1, h.2.2.2.trans (hb.mono hw)⟩
theorem TS.lt {w : World} {B : Nat} {r : Rep} {w1 : World} (h : TS w B r w1) : B < w1.heap.size := World.block_lt_of_cell? w1 _ h.1

set_option maxHeartbeats 1000000 in
theorem turns_core (a b : ByteArray) (r : Rep) (w : World) (ha : a.size ≤ 300) (hb : b.size ≤ 300) (hs : r.text.size ≤ 300) (hchk : chk a.size [r] 0 a.size = 0) (happ : app a.data.toList 0 [r] = b.data.toList)
    (hd1 : ∀ w1, Calls Try.prog 27 #[.string a, .string b] w1 fun e w' => e = .returned (.agg #[.int .i64 r.lo, .int .i64 r.hi, .string r.text]) ∧ Below w1.heap.size w1 w')
    (hd2 : ∀ w1, Calls Try.prog 28 #[.string a, .string b] w1 fun e w' => e = .returned (.agg #[.int .i64 r.lo, .int .i64 r.hi, .string r.text]) ∧ Below w1.heap.size w1 w') :
    Calls Try.prog 5 #[.string a, .string b] w fun e w' => e = .returned (.bool true) ∧ Below w.heap.size w w' := by
  have H1 := hide hd1
  have H2 := hide hd2
  have HC := hide hchk
  have HA := hide happ
  have hsh : Short [r] := by
    intro i hi
    match i, hi with
    | 0, _ => exact (show r.text.size ≤ 1000000 by omega)
  have HS := hide hsh
  clear hd1 hd2 hchk happ hsh
  go_enter Try.func5, Try.ntmps5
  go_wp2_with (fail)
  refine ((unhide H1) _).mono ?_
  rintro e w1 ⟨rfl, hb1⟩
  have z1 := hb1.size
  go_wp2_with (fail)
  have HR := hide (rep_one (w1.alloc (repObj r)) r)
  have HB := hide ((hb1.alloc z1 (repObj r)).alloc (by simp; omega) (repObj r))
  clear hb1
  have HP := hide (fun w2 h1 h2 => apply_good a (w1.heap.size + 1) 0 1 [r] w2 (by omega) (by simp) (unhide HS) h1 h2 (unhide HC))
  refine ((unhide HP) _ (by simp) (by have := unhide HR; simp only [World.size_alloc] at this; exact this)).mono ?_
  rintro e w2 ⟨rfl, hb2⟩
  have z2 := hb2.size
  simp only [World.size_alloc] at z2
  have HB2 := hide ((unhide HB).trans (hb2.mono (by simp; omega)))
  have m0 : w2.heap[w1.heap.size]? = some (repObj r) := (hb2.block w1.heap.size (by simp; omega)).trans ((Lib.alloc_old _ _ _ (by simp)).trans (heap_new1 w1 _))
  unfold repObj at m0
  have M0 := hide m0
  have HS2 : TS w w1.heap.size r w2 := ⟨by rw [Lib.cell_of_heap (unhide M0)]; rfl, by rw [Lib.cell_of_heap (unhide M0)]; rfl, by rw [Lib.cell_of_heap (unhide M0)]; rfl, unhide HB2⟩
  have C2 := hide (fun (w3 : World) (h : TS w w1.heap.size r w3) => ((unhide H2) w3).mono fun e w4 he => (show e = .returned (.agg #[.int .i64 r.lo, .int .i64 r.hi, .string r.text]) ∧ TS w w1.heap.size r w4 from ⟨he.1, h.next h.lt h.2.2.2.size he.2⟩))
  have C9 := hide (fun (w3 : World) (h : TS w w1.heap.size r w3) => (awake_any w3).mono fun e w4 he => (show e = .returned (.bool true) ∧ TS w w1.heap.size r w4 from ⟨he.1, h.next h.lt h.2.2.2.size he.2⟩))
  obtain ⟨t0, t1, t2, t3⟩ := HS2
  have hlt : w1.heap.size < w2.heap.size := by omega
  clear hb2 m0
  rw [unhide HA]
  go_wp2_with (fail)
  go_region_held3 (fun w' => w'.cell? ⟨w1.heap.size, 0, none⟩ = some (.int .i64 r.lo) ∧ w'.cell? ⟨w1.heap.size, 1, none⟩ = some (.int .i64 r.hi) ∧ w'.cell? ⟨w1.heap.size, 2, none⟩ = some (.string r.text) ∧ Below w.heap.size w w') (first | assumption | (simp [*]; done) | (refine ⟨?_, ?_, ?_, ?_⟩ <;> first | assumption | (simp [*]; done) | exact Below.drew (by assumption))) (first | (go_at_call 28; refine ((unhide C2) _ ?_).mono ?_; (assumption); rintro e w3 ⟨rfl, s0, s1, s2, s3⟩) | (go_at_call 9; refine ((unhide C9) _ ?_).mono ?_; (assumption); rintro e w3 ⟨rfl, s0, s1, s2, s3⟩))
  go_wp2
  go_ret
  exact ⟨rfl, by assumption⟩

theorem turns_law (a b : ByteArray) (w : World) :
    Calls Try.prog 5 #[.string a, .string b] w fun e w' => e = .returned (.bool true) ∧ Below w.heap.size w w' := by
  by_cases ha : 300 < a.size
  · go_enter Try.func5, Try.ntmps5
    go_wp2_with (fail)
    refine (awake_any _).mono ?_
    rintro e w1 ⟨rfl, hb1⟩
    go_wp2_with (fail)
    go_ret
    exact ⟨rfl, hb1⟩
  · by_cases hb : 300 < b.size
    · go_enter Try.func5, Try.ntmps5
      go_wp2_with (fail)
      refine (awake_any _).mono ?_
      rintro e w1 ⟨rfl, hb1⟩
      go_wp2_with (fail)
      go_ret
      exact ⟨rfl, hb1⟩
    · have hsz : (dRep a b).text.size ≤ 300 := by
        unfold dRep
        simp [ByteArray.size_extract]
        omega
      exact turns_core a b (dRep a b) w (by omega) (by omega) hsz (d_chk a b (by omega) (by omega)) (d_app a b) (fun w1 => difference_any a b w1 (by omega) (by omega)) (fun w1 => refDifference_any a b w1 (by omega) (by omega))
end Go.Proofs.Ytgihfnnffailiaa
