/- What is proved: Find of the reference returns the number of the innermost node that contains an offset. -/
import Derived.Test.YtlaiahiphghggaaFindsLaw
import Derived.Test.YtlaiahiphghggaaRefCount
set_option linter.unusedVariables false
namespace Go.Proofs.Ytlaiahiphghggaa
open Go.RowKit Go.Shelf

/-- a call that finds the innermost node -/
def Finds (f : Nat) (o : Int) (n : NT) : Prop := ∀ (w : World) (r : Nat) (b : Bool), InT w.heap.size w n → NT.cnt n ≤ 1000000000 → (if NT.hasB n o then NT.fnd n o else 0) = r → NT.hasB n o = b →
  Calls Try.prog f #[.agg #[.int .i64 n.kind, .string n.text, .int .i64 n.lo, .int .i64 n.hi, .slice n.A n.kids.length n.c], .int .i64 o] w fun e w' => e = .returned (.tuple #[.int .i64 (r : Int), .bool b]) ∧ Below w.heap.size w w'
theorem fnd_lt {n : NT} {o : Int} (h : NT.hasB n o = true) : NT.fnd n o < NT.cnt n := by
  obtain ⟨p, x, h1, _⟩ := find_at o n h
  exact NT.numP_lt h1

set_option maxHeartbeats 2000000 in
set_option maxRecDepth 100000 in
theorem r_find_any (o : Int) : ∀ n : NT, Finds 27 o n := NT.ind fun n ih w r b hin hcn hr hb => by
  have hkl := NT.kids_len n
  have IH := Lib.hid ih
  have HI := Lib.hid hin
  have HC := Lib.hid (NT.cnt_eq n)
  have HR := Lib.hid hr
  have HH := Lib.hid hb
  clear ih hin hr hb
  cases b with
  | false =>
    have hr0 : r = 0 := by have := HR.out; rw [HH.out] at this; exact this.symm
    subst hr0
    have hh := HH.out
    unfold NT.hasB at hh
    simp only [decide_eq_false_iff_not] at hh
    by_cases h1 : n.lo ≤ o
    · have e1 : decide (o < n.lo) = false := by simpa using h1
      have e2 : decide (n.hi ≤ o) = true := by simp; omega
      clear hh
      go_enter Try.func27, Try.ntmps27
      go_wp2_with (fail)
      go_ret2
      exact ⟨rfl, (Below.refl w.heap.size w).alloc (Nat.le_refl _) (.cells #[.int .i64 n.kind, .string n.text, .int .i64 n.lo, .int .i64 n.hi, .slice n.A n.kids.length n.c] 24)⟩
    · have e1 : decide (o < n.lo) = true := by simp; omega
      clear hh
      go_enter Try.func27, Try.ntmps27
      go_wp2_with (fail)
      go_ret2
      exact ⟨rfl, (Below.refl w.heap.size w).alloc (Nat.le_refl _) (.cells #[.int .i64 n.kind, .string n.text, .int .i64 n.lo, .int .i64 n.hi, .slice n.A n.kids.length n.c] 24)⟩
  | true =>
    have hh := HH.out
    unfold NT.hasB at hh
    simp only [decide_eq_true_eq] at hh
    have e1 : decide (o < n.lo) = false := by simp; omega
    have e2 : decide (n.hi ≤ o) = false := by simp; omega
    have HF : Hid (NT.fnd n o = r) := by have := HR.out; rw [HH.out] at this; exact this
    clear hh
    go_enter Try.func27, Try.ntmps27
    go_wp2_with (fail)
    have hn := NBox.new w n
    have HB := Lib.hid ((Below.refl w.heap.size w).alloc (Nat.le_refl _) (.cells #[.int .i64 n.kind, .string n.text, .int .i64 n.lo, .int .i64 n.hi, .slice n.A n.kids.length n.c] 24))
    have hz : (w.alloc (.cells #[.int .i64 n.kind, .string n.text, .int .i64 n.lo, .int .i64 n.hi, .slice n.A n.kids.length n.c] 24)).heap.size = w.heap.size + 1 := by simp
    generalize (w.alloc (.cells #[.int .i64 n.kind, .string n.text, .int .i64 n.lo, .int .i64 n.hi, .slice n.A n.kids.length n.c] 24)) = W at *
    obtain ⟨b0, b1, b2, b3, b4⟩ := hn.cells
    have HN := Lib.hid hn
    clear hn b0 b1 b2 b3 b4
    go_loopw [6, 7] (fun x i wr => ∃ k : Nat, k ≤ n.kids.length ∧ i = .int .i64 (k : Int) ∧ x = .int .i64 ((NT.cnts (n.kids.take k) + 1 : Nat) : Int) ∧ Hid (∀ (j : Nat) (hj : j < k) (hjl : j < n.kids.length), NT.hasB n.kids[j] o = false) ∧ Hid (NBox wr w.heap.size n) ∧ Hid (Below w.heap.size w wr)) (fun _ i _ => n.kids.length - (intOf i).toNat)
    case atStart => exact ⟨0, Nat.zero_le _, rfl, rfl, Lib.hid (fun j hj => by omega), HN, HB⟩
    case round =>
      obtain ⟨k, hk, rfl, rfl, hbe, hnb, hbw⟩ := hrel
      obtain ⟨b0, b1, b2, b3, b4⟩ := hnb.out.cells
      have hzr : w.heap.size < wr.heap.size := (Array.getElem?_eq_some_iff.1 hnb.out).1
      have hle := NT.cnts_take_le n.kids k
      have hcc := HC.out
      by_cases hlt : k < n.kids.length
      · obtain ⟨b, off, hA, hb, c0, c1, c2, c3, c4⟩ := (InT.below hbw.out n HI.out).cells k hlt
        have hq := Lib.hid (InT.later (InT.kidAt HI.out hlt) hbw.out)
        have hcg := NT.cnts_get hlt
        have hle2 := NT.cnts_take_le n.kids (k + 1)
        have hkc := NT.cnt_kid (List.getElem_mem hlt)
        have HX := Lib.hid (fun r b h1 h2 => IH.out _ (List.getElem_mem hlt) wr r b hq.out (by omega) h1 h2)
        have HG := Lib.hid hcg
        have hk2 : NT.cnts (n.kids.take k) + NT.cnt n.kids[k] ≤ 1000000000 := by omega
        have HAT := Lib.hid (fun (h : NT.hasB n.kids[k] o = true) => NT.fnds_at n.kids o 1 k hlt h (fun j hj => hbe.out j hj (by omega)))
        have HBE := Lib.hid (fun (h : NT.hasB n.kids[k] o = false) (j : Nat) (hj : j < k + 1) (hjl : j < n.kids.length) => show NT.hasB n.kids[j] o = false from by
          by_cases e : j = k
          · subst e; exact h
          · exact hbe.out j (by omega) hjl)
        clear hcg hle2
        generalize n.kids[k] = x at *
        rw [hA] at b4
        clear hA
        cases hbx : NT.hasB x o with
        | true =>
          have hfl := fnd_lt hbx
          have HFE := Lib.hid (show NT.fnd n o = 1 + NT.cnts (n.kids.take k) + NT.fnd x o from by rw [NT.fnd_eq n]; exact HAT.out hbx)
          have HV := Lib.hid (HX.out (NT.fnd x o) true (by rw [hbx]; rfl) hbx)
          clear hbx
          generalize NT.fnd x o = fx at *
          go_wp2_with (fail)
          refine HV.out.mono ?_
          rintro e w2 ⟨rfl, hb2⟩
          have HB2 := Lib.hid (hbw.out.trans (hb2.mono hbw.out.size))
          have HRR := Lib.hid (show 1 + NT.cnts (n.kids.take k) + fx = r from HFE.out.symm.trans HF.out)
          clear hb2
          go_wp2_with (fail)
          go_ret2
          exact ⟨by rw [← HRR.out]; go_num, HB2.out⟩
        | false =>
          have HV := Lib.hid (HX.out 0 false (by rw [hbx]; rfl) hbx)
          have HNX := Lib.hid (HBE.out hbx)
          clear hbx
          go_wp2_with (fail)
          refine HV.out.mono ?_
          rintro e w2 ⟨rfl, hb2⟩
          have HB2 := Lib.hid (hbw.out.trans (hb2.mono hbw.out.size))
          have HN2 := Lib.hid (hnb.out.below hb2 hzr)
          have HQ2 := Lib.hid (InT.later hq.out hb2)
          have hzr2 : w.heap.size < w2.heap.size := (Array.getElem?_eq_some_iff.1 HN2.out).1
          have hd0 := (hb2.cell (p := ⟨b, off + k * 5, none⟩) (World.block_lt_of_cell? wr _ c0)).trans c0
          have hd1 := (hb2.cell (p := ⟨b, off + k * 5 + 1, none⟩) (World.block_lt_of_cell? wr _ c1)).trans c1
          have hd2 := (hb2.cell (p := ⟨b, off + k * 5 + 2, none⟩) (World.block_lt_of_cell? wr _ c2)).trans c2
          have hd3 := (hb2.cell (p := ⟨b, off + k * 5 + 3, none⟩) (World.block_lt_of_cell? wr _ c3)).trans c3
          have hd4 := (hb2.cell (p := ⟨b, off + k * 5 + 4, none⟩) (World.block_lt_of_cell? wr _ c4)).trans c4
          have hb4 := (hb2.cell (p := ⟨w.heap.size, 4, none⟩) hzr).trans b4
          clear hb2 b0 b1 b2 b3 b4 c0 c1 c2 c3 c4
          go_wp2_with (fail)
          refine (r_count_any x w2 HQ2.out (by omega)).mono ?_
          rintro e w3 ⟨rfl, hb3⟩
          have HB3 := Lib.hid (HB2.out.trans (hb3.mono HB2.out.size))
          have HN3 := Lib.hid (HN2.out.below hb3 hzr2)
          clear hb3
          go_wp2_with (fail)
          exact ⟨⟨k + 1, by omega, by go_num, by rw [HG.out]; go_num, HNX, HN3, HB3⟩, by simp [intOf]; omega⟩
      · have HNO := Lib.hid (show r = 0 from by
          rw [← HF.out, NT.fnd_eq]
          refine NT.fnds_none _ _ _ (fun y hy => ?_)
          obtain ⟨j, hj, rfl⟩ := List.mem_iff_getElem.1 hy
          exact hbe.out j (by omega) hj)
        go_wp2_with (fail)
        go_ret2
        exact ⟨by rw [HNO.out]; rfl, hbw.out⟩
end Go.Proofs.Ytlaiahiphghggaa
