/- What is proved: ordered and growth return what the plain functions say. -/
import Derived.Test.YtgihfnnffailiaaProg
import Derived.Test.YtgihfnnffailiaaRepPlain
import Derived.WalkKit
import Derived.OwnWalk
import Derived.Below
import Derived.Outline
import Derived.WalkLawsBesides
import Derived.IntWalk
import Derived.Lib.Hide
import Derived.LoopTactic
import Derived.Deep.QuietTactic
import Derived.BigQuiet
set_option linter.unusedVariables false
namespace Go.Proofs.Ytgihfnnffailiaa
open Go.RowKit

/-- the cells from off on in block b are those of the replacements -/
def Reps (w : World) (b off : Nat) (l : List Rep) : Prop :=
  ∀ (i : Nat) (h : i < l.length), w.cell? ⟨b, off + i * 3, none⟩ = some (.int .i64 l[i].lo) ∧ w.cell? ⟨b, off + i * 3 + 1, none⟩ = some (.int .i64 l[i].hi) ∧ w.cell? ⟨b, off + i * 3 + 2, none⟩ = some (.string l[i].text)

theorem Reps.below {w w' : World} {b off B : Nat} {l : List Rep} (h : Reps w b off l) (hb : Below B w w') (hlt : b < B) : Reps w' b off l := by
  intro i hi
  obtain ⟨h1, h2, h3⟩ := h i hi
  exact ⟨(hb.cell (p := ⟨b, off + i * 3, none⟩) hlt).trans h1, (hb.cell (p := ⟨b, off + i * 3 + 1, none⟩) hlt).trans h2, (hb.cell (p := ⟨b, off + i * 3 + 2, none⟩) hlt).trans h3⟩

/-- a slice value, nil or not, reads as these replacements -/
def RepsA (w : World) (A : Option Addr) (l : List Rep) : Prop := 0 < l.length → ∃ b off, A = some ⟨b, off, none⟩ ∧ b < w.heap.size ∧ Reps w b off l
theorem RepsA.below {w w' : World} {A : Option Addr} {l : List Rep} (h : RepsA w A l) (hb : Below w.heap.size w w') : RepsA w' A l := by
  intro hl
  obtain ⟨b, off, hA, hlt, hr⟩ := h hl
  exact ⟨b, off, hA, Nat.lt_of_lt_of_le hlt hb.size, hr.below hb hlt⟩
theorem RepsA.of {w : World} {b off : Nat} {l : List Rep} (hb : b < w.heap.size) (h : Reps w b off l) : RepsA w (some ⟨b, off, none⟩) l := fun _ => ⟨b, off, rfl, hb, h⟩

set_option maxHeartbeats 400000 in
theorem ordered_any (A : Option Addr) (c : Nat) (l : List Rep) (w : World) (hl : l.length ≤ 1000000) (hr : RepsA w A l) :
    Calls Try.prog 41 #[.slice A l.length c] w fun e w' => e = .returned (.bool (ordB l 0)) ∧ Below w.heap.size w w' := by
  have HR := Lib.hid hr
  clear hr
  go_enter Try.func41, Try.ntmps41
  go_wp2
  go_loopw [3, 8] (fun x i wr => ∃ (k : Nat) (last : Int), k ≤ l.length ∧ i = .int .i64 (k : Int) ∧ x = .int .i64 last ∧ Hid (ordB l 0 = ordB (l.drop k) last) ∧ Below w.heap.size w wr) (fun _ i _ => l.length - (intOf i).toNat)
  case atStart => exact ⟨0, 0, Nat.zero_le _, rfl, rfl, rfl, Below.refl _ _⟩
  case round =>
    obtain ⟨k, last, hk, rfl, rfl, hord, hbw⟩ := hrel
    by_cases hlt : k < l.length
    · obtain ⟨b, off, rfl, hb, hr⟩ := (HR.out.below hbw) (by omega)
      obtain ⟨c1, c2, c3⟩ := hr k hlt
      clear hr
      have hbz := hbw.size
      go_wp2
      all_goals first
        | (have e := ordB_step l k hlt last (by omega)
           exact ⟨⟨k + 1, l[k].hi, by omega, by go_num, rfl, hord.out.trans e, hbw.alloc hbz _⟩, by simp [intOf]; omega⟩)
        | (have e := ordB_halt l k hlt last (by omega)
           go_ret
           exact ⟨congrArg (fun b => Ending.returned (Value.bool b)) (hord.out.trans e).symm, hbw.alloc hbz _⟩)
    · go_wp2
      go_ret
      exact ⟨congrArg (fun b => Ending.returned (Value.bool b)) (hord.out.trans (ordB_end l k hlt last)).symm, hbw⟩

theorem growth_any (r : Rep) (w : World) (h1 : -1000000 ≤ r.lo) (h2 : r.lo ≤ 1000000) (h3 : -1000000 ≤ r.hi) (h4 : r.hi ≤ 1000000) (h5 : r.text.size ≤ 1000000) :
    Calls Try.prog 40 #[.agg #[.int .i64 r.lo, .int .i64 r.hi, .string r.text]] w fun e w' => e = .returned (.int .i64 (grow r)) ∧ Below w.heap.size w w' := by
  go_enter Try.func40, Try.ntmps40
  go_wp2
  go_ret
  exact ⟨rfl, (Below.refl _ _).alloc (Nat.le_refl _) _⟩
end Go.Proofs.Ytgihfnnffailiaa
