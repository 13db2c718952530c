/- What is proved: the reference's Marks: the nodes of a node. -/
import Derived.Test.YtjgkcicgjnjepaaDoorBvRMake
set_option linter.unusedVariables false
namespace Go.Proofs.YtjgkcicgjnjepaaDoor
open Go.RowKit Go.Maps

/-- what Marks answers -/
def mrkZ (l : List Tm) (i : Int) (k : Nat) : Bool := if 0 ≤ i ∧ i < (l.length : Int) then mrk l i.toNat k else false
theorem TCells.arg {w : World} {b o : Nat} {x : Tm} (h : TCells w b o x) {j : Nat} (hj : j < 3) : w.cell? ⟨b, o + 2 + j, none⟩ = some (.int .i64 (x.arg j)) := by
  obtain ⟨_, _, h2, h3, h4⟩ := h
  have : j = 0 ∨ j = 1 ∨ j = 2 := by omega
  rcases this with rfl | rfl | rfl
  · exact h2
  · exact h3
  · exact h4
theorem setB_first (i : Nat) (l : List Tm) : setB (fun _ => false) i = mkS l i 0 := by
  funext k
  unfold setB
  simp only [mkS]
  by_cases e : k = i <;> simp [e]
section
variable {w : World} {W : Int} {l : List Tm}
set_option maxRecDepth 100000 in
set_option maxHeartbeats 4000000 in
theorem r_marks_out (A : Option Addr) (c : Nat) (i : Int) (hl : l.length ≤ 1000) (hi : i < 0 ∨ (l.length : Int) ≤ i) : Calls Tryd.prog 27 #[.agg #[.int .i64 W, .slice A l.length c], .int .i64 i] w fun e w' => ∃ b, e = .returned (.slice (some ⟨b, 0, none⟩) l.length l.length) ∧ BArr w' b l.length (fun _ => false) ∧ Below w.heap.size w w' := by
  have HB1 := Lib.hid ((Below.refl w.heap.size w).alloc (Nat.le_refl _) (.cells #[.int .i64 W, .slice A l.length c] 29))
  have HRB := Lib.hid (show RBox (w.alloc (.cells #[.int .i64 W, .slice A l.length c] 29)) w.heap.size W A l.length c from heap_alloc_new w _)
  have hmk := do_make_bl l.length (by omega)
  go_enter Tryd.func27, Tryd.ntmps27
  go_upto_region 1 with fail
  generalize w.alloc (.cells #[.int .i64 W, .slice A l.length c] 29) = w1 at *
  obtain ⟨r0, r1⟩ := HRB.out.cells
  have HB2 := Lib.hid (HB1.out.trans (((Below.refl w1.heap.size w1).alloc (Nat.le_refl _) (.cells (hdr (fun _ => .bool false) l.length) 4)).mono HB1.out.size))
  have HR2 := Lib.hid (HRB.out.later ((Below.refl w1.heap.size w1).alloc (Nat.le_refl _) (.cells (hdr (fun _ => .bool false) l.length) 4)))
  have HN2 := Lib.hid (BArr.new w1 l.length)
  go_upto_region 2 with fail
  clear r0 r1
  generalize w1.alloc (.cells (hdr (fun _ => .bool false) l.length) 4) = w2 at *
  generalize w1.heap.size = mb at *
  obtain ⟨r0, r1⟩ := HR2.out.cells
  by_cases h0 : i < 0
  · have d0 : decide (i < 0) = true := by simpa using h0
    clear hi hmk
    go_wp2_with (fail)
    go_ret
    exact ⟨mb, rfl, HN2.out, HB2.out⟩
  · have d0 : decide (i < 0) = false := by simpa using h0
    have d1 : decide ((l.length : Int) ≤ i) = true := by simp; omega
    clear hi hmk
    go_wp2_with (fail)
    go_ret
    exact ⟨mb, rfl, HN2.out, HB2.out⟩
set_option maxRecDepth 100000 in
set_option maxHeartbeats 4000000 in
theorem r_marks_in (A : Option Addr) (c : Nat) (i : Nat) (hr : TRow w A l) (ht : TbOk W l) (hl : l.length ≤ 1000) (hi : i < l.length) : Calls Tryd.prog 27 #[.agg #[.int .i64 W, .slice A l.length c], .int .i64 (i : Int)] w fun e w' => ∃ b, e = .returned (.slice (some ⟨b, 0, none⟩) l.length l.length) ∧ BArr w' b l.length (mrk l i) ∧ Below w.heap.size w w' := by
  have HB1 := Lib.hid ((Below.refl w.heap.size w).alloc (Nat.le_refl _) (.cells #[.int .i64 W, .slice A l.length c] 29))
  have HRB := Lib.hid (show RBox (w.alloc (.cells #[.int .i64 W, .slice A l.length c] 29)) w.heap.size W A l.length c from heap_alloc_new w _)
  have hmk := do_make_bl l.length (by omega)
  have HROW := Lib.hid (hr.later HB1.out)
  have HTB := Lib.hid ht
  clear hr ht
  go_enter Tryd.func27, Tryd.ntmps27
  go_upto_region 1 with fail
  generalize w.alloc (.cells #[.int .i64 W, .slice A l.length c] 29) = w1 at *
  obtain ⟨r0, r1⟩ := HRB.out.cells
  obtain ⟨mb, HMB⟩ : ∃ mb, Hid (mb = w1.heap.size) := ⟨_, Lib.hid rfl⟩
  have HB2 := Lib.hid ((Below.refl w1.heap.size w1).alloc (Nat.le_refl _) (.cells (hdr (fun _ => .bool false) l.length) 4))
  have HR2 := Lib.hid (HRB.out.later HB2.out)
  have HN2 := Lib.hid (BArr.new w1 l.length)
  go_upto_region 2 with fail
  clear r0 r1 hmk
  rw [← HMB.out]
  generalize w1.alloc (.cells (hdr (fun _ => .bool false) l.length) 4) = w2 at *
  have HB2 := Lib.hid (show Below mb w1 w2 by rw [HMB.out]; exact HB2.out)
  have HN2 := Lib.hid (show BArr w2 mb l.length (fun _ => false) by rw [HMB.out]; exact HN2.out)
  obtain ⟨r0, r1⟩ := HR2.out.cells
  have d0 : decide ((i : Int) < 0) = false := by simp
  have d1 : ¬ l.length ≤ i := by omega
  have z0 := HN2.out.cell hi
  have z1 := HN2.out.frz i
  have HN3 := Lib.hid (HN2.out.set hi)
  rw [setB_first i l] at HN3
  have HB3 := Lib.hid (HB2.out.setCell (p := ⟨mb, i, none⟩) (Nat.le_refl _) (.bool true))
  go_upto_region 5 with fail
  clear r0 r1 z0 z1
  generalize w2.setCell ⟨mb, i, none⟩ (.bool true) = w3 at *
  go_wp2_with (fail)
  go_loopw [6] (fun kv wr => ∃ (r : Nat) (q : Int), r ≤ i + 1 ∧ kv = .int .i64 q ∧ Hid (q = (i : Int) - (r : Int)) ∧ Hid (BArr wr mb l.length (mkS l i r)) ∧ Hid (Below mb w1 wr)) (fun kv _ => (intOf kv + 1).toNat)
  case atStart => exact ⟨0, (i : Int), Nat.zero_le _, rfl, Lib.hid (by simp), HN3, HB3⟩
  case round =>
    obtain ⟨r, q, hr, rfl, hq, hbr, hbw⟩ := hrel
    by_cases hlt : r ≤ i
    · obtain ⟨k, rfl⟩ : ∃ k : Nat, q = (k : Int) := ⟨q.toNat, by have := hq.out; omega⟩
      have hk : i - r = k := by have := hq.out; omega
      have hkl : k < l.length := by omega
      have q1 := hbr.out.cell hkl
      have hwk : IntKind.i64.wrap ((k : Int) - 1) = (k : Int) - 1 := w64 (by omega)
      have HQ := Lib.hid (show (k : Int) - 1 = (i : Int) - ((r + 1 : Nat) : Int) by omega)
      cases hm : mkS l i r k with
      | false =>
        rw [hm] at q1
        have HMK := Lib.hid (mkS_skip (l := l) (i := i) (r := r) (by rw [hk]; exact hm))
        clear hm hk hq
        go_wp2_with (fail)
        exact ⟨⟨r + 1, (k : Int) - 1, by omega, rfl, HQ, Lib.hid (by rw [HMK.out]; exact hbr.out), hbw⟩, by simp [intOf]⟩
      | true =>
        rw [hm] at q1
        have HEND := Lib.hid (mkJ_end hkl hk hm)
        have HJS := Lib.hid (fun j (hj : j < cnt l[k].o) => mkJ_succ l i r l[k] hj)
        have HJ0 := Lib.hid (mkJ_zero l i r l[k])
        have HAL := Lib.hid (show ∀ j, j < cnt l[k].o → ∃ a : Nat, l[k].arg j = (a : Int) ∧ a < l.length from fun j hj => by
          obtain ⟨_, _, _, h4, h5, h6⟩ := okB_iff.1 (HTB.out.ok k hkl)
          have h3 := cnt_le l[k].o
          have : j = 0 ∨ j = 1 ∨ j = 2 := by omega
          rcases this with rfl | rfl | rfl
          · obtain ⟨q0, q1, _⟩ := arg_need hj h4
            rw [List.length_take] at q1
            exact ⟨l[k].a.toNat, by show l[k].a = _; omega, by omega⟩
          · obtain ⟨q0, q1, _⟩ := arg_need hj h5
            rw [List.length_take] at q1
            exact ⟨l[k].b.toNat, by show l[k].b = _; omega, by omega⟩
          · obtain ⟨q0, q1, _⟩ := arg_need hj h6
            rw [List.length_take] at q1
            exact ⟨l[k].c.toNat, by show l[k].c = _; omega, by omega⟩)
        obtain ⟨o1, o2, _⟩ := HTB.out.node hkl
        obtain ⟨ho1, ho2⟩ := o_lt o1 o2
        have HND := Lib.hid (fun w => r_needs_any l[k].op ⟨o1, o2⟩ w)
        have HNL := Lib.hid (show (ndL l[k].op.toNat).length = cnt l[k].o from ndL_len l[k].o ho1)
        have HC3 := Lib.hid (cnt_le l[k].o)
        have HXR := Lib.hid (fun ws (hb : Below mb w1 ws) => show ∃ b off, A = some ⟨b, off, none⟩ ∧ TCells ws b (off + k * 5) l[k] from by
          obtain ⟨b, off, h1, h2, h3⟩ := HROW.out.at hkl
          exact ⟨b, off, h1, h3.eq (hb.block b (by rw [HMB.out]; exact h2))⟩)
        have HTR := Lib.hid (fun ws (hb : Below mb w1 ws) => show RBox ws w.heap.size W A l.length c from (hb.block _ (by rw [HMB.out]; exact Go.Proofs.YtjgkcicgjnjepaaDoor.hlt HRB.out)).trans HRB.out)
        have hkn : ¬ l.length ≤ k := by omega
        clear hm hk hq o1 o2 ho1 ho2
        generalize l[k] = x at *
        have HBJ := Lib.hid (show BArr wr mb l.length (mkJ l i r x 0) by rw [HJ0.out]; exact hbr.out)
        go_wp2_with (fail)
        go_loopw [7] (fun jv ws => ∃ j : Nat, j ≤ cnt x.o ∧ jv = .int .i64 (j : Int) ∧ Hid (BArr ws mb l.length (mkJ l i r x j)) ∧ Hid (Below mb w1 ws)) (fun jv _ => cnt x.o - (intOf jv).toNat)
        case atStart => exact ⟨0, Nat.zero_le _, rfl, HBJ, hbw⟩
        case round =>
          obtain ⟨j, hj, rfl, hbj, hgj⟩ := hrel
          obtain ⟨r0, r1⟩ := (HTR.out wr hgj.out).cells
          obtain ⟨b, off, hA, hc0⟩ := HXR.out wr hgj.out
          have d0 := hc0.1
          have HAA := Lib.hid hA
          subst hA
          go_wp2_with (fail)
          refine (HND.out _).mono ?_
          rintro e w5 ⟨NA, nc, rfl, _, hb5⟩
          have hsz : mb ≤ wr.heap.size := by have := hgj.out.size; rw [HMB.out]; exact this
          have HG5 := Lib.hid (hgj.out.trans (hb5.mono hsz))
          have HJ5 := Lib.hid (hbj.out.later hb5)
          rw [HNL.out]
          clear r0 r1 d0 hc0 hb5 hsz
          obtain ⟨r0, r1⟩ := (HTR.out w5 HG5.out).cells
          obtain ⟨b2, off2, hA2, hc2⟩ := HXR.out w5 HG5.out
          cases hA2
          by_cases hlj : j < cnt x.o
          · obtain ⟨a, ha, hai⟩ := HAL.out j hlj
            have hj3 : j < 3 := by have := HC3.out; omega
            have q2 := hc2.arg hj3
            rw [ha] at q2
            have q4 := HJ5.out.cell hai
            have q5 := HJ5.out.frz a
            have HJS2 := Lib.hid (HJS.out j hlj)
            rw [ha, Int.toNat_natCast] at HJS2
            have HJ2 := Lib.hid (HJ5.out.set hai)
            rw [HJS2.out] at HJ2
            have HG2 := Lib.hid (HG5.out.setCell (p := ⟨mb, a, none⟩) (Nat.le_refl _) (.bool true))
            have hda : decide ((a : Int) < 0) = false := by simp
            clear ha hc2
            generalize mkJ l i r x j = mf at *
            go_wp2_with (fail)
            exact ⟨⟨j + 1, by omega, by go_num, HJ2, HG2⟩, by simp [intOf]; omega⟩
          · obtain rfl : j = cnt x.o := by omega
            have HBE := Lib.hid (show BArr w5 mb l.length (mkS l i (r + 1)) by rw [← HEND.out]; exact HJ5.out)
            go_wp2_with (fail)
            exact ⟨⟨r + 1, (k : Int) - 1, by omega, rfl, HQ, HBE, HG5⟩, by simp [intOf]⟩
    · have hq1 : q = -1 := by have := hq.out; omega
      subst hq1
      obtain rfl : r = i + 1 := by omega
      have HBE := Lib.hid (show BArr wr mb l.length (mrk l i) from hbr.out)
      go_wp2_with (fail)
      go_ret
      exact ⟨mb, rfl, HBE.out, HB1.out.trans ((show Below w1.heap.size w1 wr by rw [← HMB.out]; exact hbw.out).mono HB1.out.size)⟩
end
end Go.Proofs.YtjgkcicgjnjepaaDoor
