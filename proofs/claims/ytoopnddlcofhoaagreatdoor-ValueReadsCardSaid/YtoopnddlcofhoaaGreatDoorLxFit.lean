/- What is proved: fit returns what the plain function says. -/
import Derived.Test.YtoopnddlcofhoaaGreatDoorLxToks
set_option linter.unusedVariables false
namespace Go.Proofs.YtoopnddlcofhoaaGreatDoor.Lx
open Go.RowKit

/-- does a token lie within a text of n bytes -/
def okTok (n : Int) (t : Tok) : Bool := decide (0 ≤ t.lo) && decide (t.lo ≤ t.at_) && decide (t.at_ ≤ t.hi) && decide (t.hi ≤ n)
def fitB (n : Int) (l : List Tok) : Bool := l.all (okTok n) && decide (l.length ≤ 4097)
theorem okTok_iff (n : Int) (t : Tok) : okTok n t = true ↔ 0 ≤ t.lo ∧ t.lo ≤ t.at_ ∧ t.at_ ≤ t.hi ∧ t.hi ≤ n := by
  unfold okTok
  simp
  omega
theorem fit_long (n : Int) (l : List Tok) (h : 4097 < l.length) : fitB n l = false := by
  unfold fitB
  rw [show decide (l.length ≤ 4097) = false from by simp; omega]
  simp
theorem ok_step (n : Int) (l : List Tok) (k : Nat) (hk : k < l.length) (h : (l.take k).all (okTok n) = true) (h2 : okTok n l[k] = true) : (l.take (k + 1)).all (okTok n) = true := by
  rw [List.take_succ_eq_append_getElem hk, List.all_append, h]
  simp [h2]
theorem ok_halt (n : Int) (l : List Tok) (k : Nat) (hk : k < l.length) (h : ¬ okTok n l[k] = true) : fitB n l = false := by
  unfold fitB
  have : l.all (okTok n) = false := by
    rw [List.all_eq_false]
    exact ⟨l[k], List.getElem_mem hk, by simpa using h⟩
  rw [this]
  rfl
theorem ok_end (n : Int) (l : List Tok) (k : Nat) (hk : ¬ k < l.length) (hl : l.length ≤ 4097) (h : (l.take k).all (okTok n) = true) : fitB n l = true := by
  rw [List.take_of_length_le (by omega)] at h
  unfold fitB
  rw [h]
  simpa using hl
theorem fit_get (n : Int) (l : List Tok) (h : fitB n l = true) (k : Nat) (hk : k < l.length) : 0 ≤ l[k].lo ∧ l[k].lo ≤ l[k].at_ ∧ l[k].at_ ≤ l[k].hi ∧ l[k].hi ≤ n := by
  unfold fitB at h
  simp only [Bool.and_eq_true, List.all_eq_true, decide_eq_true_eq] at h
  exact (okTok_iff _ _).1 (h.1 _ (List.getElem_mem hk))
theorem fit_len (n : Int) (l : List Tok) (h : fitB n l = true) : l.length ≤ 4097 := by
  unfold fitB at h
  simp only [Bool.and_eq_true, decide_eq_true_eq] at h
  exact h.2
set_option maxRecDepth 100000 in
set_option maxHeartbeats 400000 in
theorem fit_any (s : ByteArray) (A : Option Addr) (c : Nat) (l : List Tok) (w : World) (hs : s.size ≤ 1000000) (hl : l.length ≤ 9223372036854775807) (hr : TokA w A l) :
    Calls Tryz.prog 87 #[.string s, .slice A l.length c] w fun e w' => e = .returned (.bool (fitB s.size l)) ∧ Below w.heap.size w w' := by
  have HR := Lib.hid hr
  clear hr
  by_cases hlong : 4097 < l.length
  · have HV := Lib.hid (fit_long s.size l hlong)
    go_enter Tryz.func87, Tryz.ntmps87
    go_wp2_with (fail)
    go_ret
    exact ⟨ret_bool HV.out.symm, Below.refl _ _⟩
  · have hshort : l.length ≤ 4097 := by omega
    go_enter Tryz.func87, Tryz.ntmps87
    go_wp2_with (fail)
    go_loopw [12] (fun i wr => ∃ k : Nat, k ≤ l.length ∧ i = .int .i64 (k : Int) ∧ Hid ((l.take k).all (okTok s.size) = true) ∧ Hid (Below w.heap.size w wr)) (fun i _ => l.length - (intOf i).toNat)
    case atStart => exact ⟨0, Nat.zero_le _, rfl, rfl, Below.refl _ _⟩
    case round =>
      obtain ⟨k, hk, rfl, hal, hbw⟩ := hrel
      by_cases hlt : k < l.length
      · obtain ⟨b, off, rfl, hb, hr⟩ := (HR.out.below hbw.out) (by omega)
        obtain ⟨c1, c2, c3, c4⟩ := hr k hlt
        clear hr
        have hbz := hbw.out.size
        have HY := Lib.hid (ok_step s.size l k hlt hal.out)
        have HN := Lib.hid (ok_halt s.size l k hlt)
        have HI := Lib.hid (okTok_iff s.size l[k])
        generalize l[k] = t at *
        go_wp2_with (fail)
        all_goals first
          | (have e := HY.out (HI.out.2 (by omega))
             exact ⟨⟨k + 1, by omega, by go_num, e, hbw.out.alloc hbz _⟩, by simp [intOf]; omega⟩)
          | (have e := HN.out (fun h => by have := HI.out.1 h; omega)
             go_ret
             exact ⟨ret_bool e.symm, hbw.out.alloc hbz _⟩)
      · have HV := Lib.hid (ok_end s.size l k hlt hshort hal.out)
        go_wp2_with (fail)
        go_ret
        exact ⟨ret_bool HV.out.symm, hbw.out⟩
end Go.Proofs.YtoopnddlcofhoaaGreatDoor.Lx
