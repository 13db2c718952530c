/- What is proved: TreeBare answers true. -/
import Derived.Test.YtnogbapmbggehaaPathsLaw
import Derived.Test.YtnogbapmbggehaaBlind
set_option linter.unusedVariables false
namespace Go.Proofs.Ytnogbapmbggehaa
open Go.RowKit Go.Shelf

/-- two trees in memory, each in a variable -/
structure Pair2 (w : World) (n m : NT) (N M : Nat) (W : World) : Prop where
  inn : InT W.heap.size W n
  inm : InT W.heap.size W m
  bn : NBox W N n
  bm : NBox W M m
  below : Below w.heap.size w W
theorem Pair2.later {w : World} {n m : NT} {N M : Nat} {W W' : World} (h : Pair2 w n m N M W) (hb : Below W.heap.size W W') : Pair2 w n m N M W' :=
  ⟨InT.mono hb.size _ (InT.below hb _ h.inn), InT.mono hb.size _ (InT.below hb _ h.inm), h.bn.below hb (Array.getElem?_eq_some_iff.1 h.bn).1, h.bm.below hb (Array.getElem?_eq_some_iff.1 h.bm).1, h.below.trans (hb.mono h.below.size)⟩
theorem Pair2.cells {w : World} {n m : NT} {N M : Nat} {w' : World} (h : Pair2 w n m N M w') : w'.cell? ⟨N, 0, none⟩ = some (.int .i64 n.kind) ∧ w'.cell? ⟨N, 1, none⟩ = some (.string n.text) ∧ w'.cell? ⟨N, 2, none⟩ = some (.int .i64 n.lo) ∧ w'.cell? ⟨N, 3, none⟩ = some (.int .i64 n.hi) ∧ w'.cell? ⟨N, 4, none⟩ = some (.slice n.A n.kids.length n.c) ∧ w'.cell? ⟨M, 0, none⟩ = some (.int .i64 m.kind) ∧ w'.cell? ⟨M, 1, none⟩ = some (.string m.text) ∧ w'.cell? ⟨M, 2, none⟩ = some (.int .i64 m.lo) ∧ w'.cell? ⟨M, 3, none⟩ = some (.int .i64 m.hi) ∧ w'.cell? ⟨M, 4, none⟩ = some (.slice m.A m.kids.length m.c) := by
  obtain ⟨a0, a1, a2, a3, a4⟩ := h.bn.cells
  obtain ⟨b0, b1, b2, b3, b4⟩ := h.bm.cells
  exact ⟨a0, a1, a2, a3, a4, b0, b1, b2, b3, b4⟩

set_option maxHeartbeats 4000000 in
set_option maxRecDepth 100000 in
theorem treeBare_any (n : NT) (w : World) (hin : InT w.heap.size w n) (hc : NT.cnt n ≤ 1000000000) (hwf : ∀ x ∈ NT.nds n, I64 x.kind) :
    Calls Try.prog 9 #[.agg #[.int .i64 n.kind, .string n.text, .int .i64 n.lo, .int .i64 n.hi, .slice n.A n.kids.length n.c]] w fun e w' => e = .returned (.bool true) ∧ Below w.heap.size w w' := by
  have HI := Lib.hid hin
  have HWF := Lib.hid hwf
  clear hin hwf
  go_enter Try.func9, Try.ntmps9
  go_wp2_with (fail)
  have hb0 := (Below.refl w.heap.size w).alloc (Nat.le_refl _) (.cells #[.int .i64 n.kind, .string n.text, .int .i64 n.lo, .int .i64 n.hi, .slice n.A n.kids.length n.c] 24)
  have hn0 := NBox.new w n
  have hz0 : w.heap.size < (w.alloc (.cells #[.int .i64 n.kind, .string n.text, .int .i64 n.lo, .int .i64 n.hi, .slice n.A n.kids.length n.c] 24)).heap.size := by simp
  generalize (w.alloc (.cells #[.int .i64 n.kind, .string n.text, .int .i64 n.lo, .int .i64 n.hi, .slice n.A n.kids.length n.c] 24)) = w1 at *
  refine (r_small_any n 100 w1 (InT.mono hb0.size n (InT.below hb0 n HI.out)) hc).mono ?_
  rintro e w2 ⟨rfl, hb2⟩
  have HB2 := Lib.hid (hb0.trans (hb2.mono hb0.size))
  have HN2 := Lib.hid (hn0.below hb2 hz0)
  have hz2 : w.heap.size < w2.heap.size := (Array.getElem?_eq_some_iff.1 HN2.out).1
  clear hb0 hn0 hz0 hb2
  obtain ⟨c0, c1, c2, c3, c4⟩ := HN2.out.cells
  cases hs : smallB n 100 with
  | false =>
    clear hs
    go_wp2_with (fail)
    refine (awake_any w2).mono ?_
    rintro e w3 ⟨rfl, hb3⟩
    have HB3 := Lib.hid (HB2.out.trans (hb3.mono HB2.out.size))
    clear hb3
    go_wp2_with (fail)
    go_ret
    exact ⟨rfl, HB3.out⟩
  | true =>
    clear hs
    go_wp2_with (fail)
    refine (bare_any n w2 (InT.mono HB2.out.size n (InT.below HB2.out n HI.out)) hc).mono ?_
    rintro e w3 ⟨m, rfl, hms, hmi, hb3⟩
    have HMS := Lib.hid hms
    have HMC := Lib.hid (show NT.cnt m ≤ 1000000000 by rw [cnt_blind hms]; exact hc)
    have HCM := Lib.hid (cnt_blind hms)
    have HWM := Lib.hid (kinds_same n m hms HWF.out)
    have HSM := Lib.hid (same_bare n m hms)
    have HV := Lib.hid (shaped_blind (root := kindB [2]) (fun x => rfl) hms)
    have HE := Lib.hid (shaped_blind (root := exprB) (fun x => rfl) hms)
    have HST := Lib.hid (shaped_blind (root := stmtB) (fun x => rfl) hms)
    have HB3 := Lib.hid (HB2.out.trans (hb3.mono HB2.out.size))
    have HN3 := Lib.hid (HN2.out.below hb3 hz2)
    have HM3 := Lib.hid (fresh_inT hmi)
    clear hms hmi hb3 c0 c1 c2 c3 c4
    go_wp2_with (fail)
    have hal := (Below.refl w3.heap.size w3).alloc (Nat.le_refl _) (.cells #[.int .i64 m.kind, .string m.text, .int .i64 m.lo, .int .i64 m.hi, .slice m.A m.kids.length m.c] 24)
    have hp4 : Pair2 w n m w.heap.size w3.heap.size (w3.alloc (.cells #[.int .i64 m.kind, .string m.text, .int .i64 m.lo, .int .i64 m.hi, .slice m.A m.kids.length m.c] 24)) :=
      ⟨InT.mono hal.size _ (InT.below hal _ (InT.mono HB3.out.size n (InT.below HB3.out n HI.out))), InT.mono hal.size _ (InT.below hal _ HM3.out), HN3.out.below hal (Array.getElem?_eq_some_iff.1 HN3.out).1, NBox.new w3 m, HB3.out.trans (hal.mono HB3.out.size)⟩
    have HP4 := Lib.hid (show Pair2 w n m w.heap.size w3.heap.size (w3.alloc (.cells #[.int .i64 m.kind, .string m.text, .int .i64 m.lo, .int .i64 m.hi, .slice m.A m.kids.length m.c] 24)).drew from hp4.later (Below.refl _ _).drew)
    obtain ⟨a0, a1, a2, a3, a4, b0, b1, b2, b3, b4⟩ := hp4.cells
    clear hal hp4
    go_region_held3 (fun w' => w'.cell? ⟨w.heap.size, 0, none⟩ = some (.int .i64 n.kind) ∧ w'.cell? ⟨w.heap.size, 1, none⟩ = some (.string n.text) ∧ w'.cell? ⟨w.heap.size, 2, none⟩ = some (.int .i64 n.lo) ∧ w'.cell? ⟨w.heap.size, 3, none⟩ = some (.int .i64 n.hi) ∧ w'.cell? ⟨w.heap.size, 4, none⟩ = some (.slice n.A n.kids.length n.c) ∧ w'.cell? ⟨w3.heap.size, 0, none⟩ = some (.int .i64 m.kind) ∧ w'.cell? ⟨w3.heap.size, 1, none⟩ = some (.string m.text) ∧ w'.cell? ⟨w3.heap.size, 2, none⟩ = some (.int .i64 m.lo) ∧ w'.cell? ⟨w3.heap.size, 3, none⟩ = some (.int .i64 m.hi) ∧ w'.cell? ⟨w3.heap.size, 4, none⟩ = some (.slice m.A m.kids.length m.c)) (first | exact HS14.out | exact HS13.out | exact HS12.out | exact HS11.out | exact HS10.out | exact HS9.out | exact HS8.out | exact HS7.out | exact HS6.out | exact HS5.out | go_keep) ((first | (go_at_call 16; refine (statement_f n _ HP13.out.inn hc HWF.out).mono ?_; rintro e w14 ⟨rfl, hb⟩; have HP14 := Lib.hid (HP13.out.later hb); have HS14 := Lib.hid HP14.out.cells; clear hb) | (go_at_call 16; refine (statement_f m _ HP12.out.inm HMC.out HWM.out).mono ?_; rintro e w13 ⟨rfl, hb⟩; have HP13 := Lib.hid (HP12.out.later hb); have HS13 := Lib.hid HP13.out.cells; clear hb; rw [HST.out]) | (go_at_call 14; refine (expression_f n _ HP11.out.inn hc HWF.out).mono ?_; rintro e w12 ⟨rfl, hb⟩; have HP12 := Lib.hid (HP11.out.later hb); have HS12 := Lib.hid HP12.out.cells; clear hb) | (go_at_call 14; refine (expression_f m _ HP10.out.inm HMC.out HWM.out).mono ?_; rintro e w11 ⟨rfl, hb⟩; have HP11 := Lib.hid (HP10.out.later hb); have HS11 := Lib.hid HP11.out.cells; clear hb; rw [HE.out]) | (go_at_call 12; refine (valid_f n _ HP9.out.inn hc HWF.out).mono ?_; rintro e w10 ⟨rfl, hb⟩; have HP10 := Lib.hid (HP9.out.later hb); have HS10 := Lib.hid HP10.out.cells; clear hb) | (go_at_call 12; refine (valid_f m _ HP8.out.inm HMC.out HWM.out).mono ?_; rintro e w9 ⟨rfl, hb⟩; have HP9 := Lib.hid (HP8.out.later hb); have HS9 := Lib.hid HP9.out.cells; clear hb; rw [HV.out]) | (go_at_call 28; refine (count_any n _ HP7.out.inn hc).mono ?_; rintro e w8 ⟨rfl, hb⟩; have HP8 := Lib.hid (HP7.out.later hb); have HS8 := Lib.hid HP8.out.cells; clear hb) | (go_at_call 28; refine (count_any m _ HP6.out.inm HMC.out).mono ?_; rintro e w7 ⟨rfl, hb⟩; have HP7 := Lib.hid (HP6.out.later hb); have HS7 := Lib.hid HP7.out.cells; clear hb; rw [HCM.out]) | (go_at_call 36; refine (same_any m n _ HP5.out.inm HP5.out.inn HMC.out).mono ?_; rintro e w6 ⟨rfl, hb⟩; have HP6 := Lib.hid (HP5.out.later hb); have HS6 := Lib.hid HP6.out.cells; clear hb; rw [HSM.out.2]) | (go_at_call 36; refine (same_any n m _ HP4.out.inn HP4.out.inm hc).mono ?_; rintro e w5 ⟨rfl, hb⟩; have HP5 := Lib.hid (HP4.out.later hb); have HS5 := Lib.hid HP5.out.cells; clear hb; rw [HSM.out.1])))
    obtain ⟨x0, x1, x2, x3, x4, y0, y1, y2, y3, y4⟩ := HS14.out
    have HPL := Lib.hid (places_zero n m HMS.out)
    have HNL := Lib.hid (NT.nds_len m)
    go_wp2_with (fail)
    refine (r_nodes_any m w14 HP14.out.inm HMC.out).mono ?_
    rintro e w15 ⟨A, c, rfl, hrow, hb⟩
    have HB15 := Lib.hid (HP14.out.below.trans (hb.mono HP14.out.below.size))
    have HROW := Lib.hid hrow
    have hmc := HMC.out
    clear hrow hb
    go_wp2_with (fail)
    go_loopw [53] (fun i wr => ∃ k : Nat, k ≤ NT.cnt m ∧ i = .int .i64 (k : Int) ∧ Hid (Below w15.heap.size w15 wr)) (fun i _ => NT.cnt m - (intOf i).toNat)
    case atStart => exact ⟨0, Nat.zero_le _, rfl, Lib.hid (Below.refl _ _)⟩
    case round =>
      obtain ⟨k, hk, rfl, hbw⟩ := hrel
      by_cases hlt : k < NT.cnt m
      · have hlt2 : k < (NT.nds m).length := by rw [HNL.out]; exact hlt
        obtain ⟨b, off, rfl, hbb, hcs⟩ := (HROW.out.below hbw.out) (by omega)
        obtain ⟨d0, d1, d2, d3, d4⟩ := hcs k hlt2
        obtain ⟨hl0, hh0⟩ := HPL.out _ (List.getElem_mem hlt2)
        clear hcs
        generalize (NT.nds m)[k] = y at *
        rw [hl0] at d2
        rw [hh0] at d3
        have HB7 := Lib.hid (hbw.out.alloc hbw.out.size (.cells #[.int .i64 y.kind, .string y.text, .int .i64 0, .int .i64 0, .slice y.A y.kids.length y.c] 24))
        clear hl0 hh0
        go_wp2_with (fail)
        exact ⟨⟨k + 1, by omega, by go_num, HB7⟩, by simp [intOf]; omega⟩
      · go_wp2_with (fail)
        refine (awake_any wr).mono ?_
        rintro e w18 ⟨rfl, hb8⟩
        have HBW := Lib.hid (HB15.out.trans (hbw.out.mono HB15.out.size))
        have HB8 := Lib.hid (HBW.out.trans (hb8.mono HBW.out.size))
        clear hb8
        go_wp2_with (fail)
        go_ret
        exact ⟨rfl, HB8.out⟩
end Go.Proofs.Ytnogbapmbggehaa
