/- What is proved: the chapter's example comes out as the law says. -/
import Derived.Test.YtbdpdbeekbbehaaDoExM
set_option linter.unusedVariables false
namespace Go.Proofs.Ytbdpdbeekbbehaa
open Go.RowKit Go.Shelf

theorem new_zrow (w : World) (l : List Int) {cs : Array Value} (hcs : cs = (zcells l).toArray) : ZRow (w.alloc (.cells cs 3)).heap.size (w.alloc (.cells cs 3)) (some ⟨w.heap.size, 0, none⟩) l := fun h0 => by
  subst hcs
  have h := Lib.cell_of_heap (heap_alloc_new w (.cells (zcells l).toArray 3))
  exact ⟨w.heap.size, 0, rfl, by simp, fun i hi => by rw [Nat.zero_add, h i]; simp [zcells, hi]⟩
theorem ls_mem (w : World) {W : World} (hW : W = ((((((w.alloc (.cells #[] 3)).alloc (.cells #[] 3)).alloc (.cells #[.int .i64 2] 3)).alloc (.cells #[.int .i64 2] 3)).alloc (.cells #[] 3)).alloc (.cells #[.slice (some ⟨w.heap.size, 0, none⟩) 0 0, .slice (some ⟨w.heap.size + 1, 0, none⟩) 0 0, .slice (some ⟨w.heap.size + 1 + 1, 0, none⟩) 1 1, .slice (some ⟨w.heap.size + 1 + 1 + 1, 0, none⟩) 1 1, .slice (some ⟨w.heap.size + 1 + 1 + 1 + 1, 0, none⟩) 0 0] 29))) : LRow W (some ⟨w.heap.size + 1 + 1 + 1 + 1 + 1, 0, none⟩) [[], [], [2], [2], []] ∧ Below w.heap.size w W := by
  subst hW
  generalize hp : (Obj.cells #[.slice (some ⟨w.heap.size, 0, none⟩) 0 0, .slice (some ⟨w.heap.size + 1, 0, none⟩) 0 0, .slice (some ⟨w.heap.size + 1 + 1, 0, none⟩) 1 1, .slice (some ⟨w.heap.size + 1 + 1 + 1, 0, none⟩) 1 1, .slice (some ⟨w.heap.size + 1 + 1 + 1 + 1, 0, none⟩) 0 0] 29) = of
  generalize ho : (Obj.cells #[] 3) = o
  obtain ⟨g1, g2, g3, g4, g5, gz, gb⟩ := al5 w o o (.cells #[.int .i64 2] 3) (.cells #[.int .i64 2] 3) o rfl
  generalize (((((w.alloc o).alloc o).alloc (.cells #[.int .i64 2] 3)).alloc (.cells #[.int .i64 2] 3)).alloc o) = w4 at *
  have n5 := heap_alloc_new w4 of
  have old : ∀ k o, w4.heap[k]? = some o → (w4.alloc of).heap[k]? = some o := fun k o h => (heap_alloc_old _ _ (hlt h)).trans h
  have hs : (w4.alloc of).heap.size = w4.heap.size + 1 := by simp
  have e3 := Lib.cell_of_heap (old _ _ g3)
  have e4 := Lib.cell_of_heap (old _ _ g4)
  rw [show w4.heap.size = w.heap.size + 1 + 1 + 1 + 1 + 1 from by omega] at n5
  have e5 := Lib.cell_of_heap (n5.trans (congrArg some hp.symm))
  refine ⟨fun _ => ⟨w.heap.size + 1 + 1 + 1 + 1 + 1, 0, rfl, by omega, fun i hi => ?_⟩, gb.alloc gb.size _⟩
  have hi5 : i < 5 := hi
  match i, hi5 with
  | 0, _ => exact ⟨_, _, e5 0, fun h => absurd h (by simp), Nat.le_refl _⟩
  | 1, _ => exact ⟨_, _, e5 1, fun h => absurd h (by simp), Nat.le_refl _⟩
  | 2, _ => exact ⟨_, _, e5 2, fun _ => ⟨_, 0, rfl, by omega, fun i hi => by match i, hi with | 0, _ => exact e3 0⟩, Nat.le_refl _⟩
  | 3, _ => exact ⟨_, _, e5 3, fun _ => ⟨_, 0, rfl, by omega, fun i hi => by match i, hi with | 0, _ => exact e4 0⟩, Nat.le_refl _⟩
  | 4, _ => exact ⟨_, _, e5 4, fun h => absurd h (by simp), Nat.le_refl _⟩
/-- what the example's calls give, wherever the flow lies -/
structure ExC (w1 : World) (pb fb : Nat) : Prop where
  box : ∀ W, Below w1.heap.size w1 W → W.cell? ⟨fb, 0, none⟩ = some (.slice (some ⟨pb, 0, none⟩) 5 5)
  valid : ∀ W, Below w1.heap.size w1 W → Calls Try.prog 13 #[.agg #[.slice (some ⟨pb, 0, none⟩) 5 5]] W fun e W' => e = .returned (.bool true) ∧ Below W.heap.size W W'
  doms : ∀ W, Below w1.heap.size w1 W → Calls Try.prog 16 #[.agg #[.slice (some ⟨pb, 0, none⟩) 5 5]] W fun e W' => Below W.heap.size W W' ∧ ∃ ob, e = .returned (.slice (some ⟨ob, 0, none⟩) 5 5) ∧ ZRow W'.heap.size W' (some ⟨ob, 0, none⟩) [-1, 4, 0, 2, 2]
  posts : ∀ W, Below w1.heap.size w1 W → Calls Try.prog 18 #[.agg #[.slice (some ⟨pb, 0, none⟩) 5 5]] W fun e W' => Below W.heap.size W W' ∧ ∃ ob, e = .returned (.slice (some ⟨ob, 0, none⟩) 5 5) ∧ ZRow W'.heap.size W' (some ⟨ob, 0, none⟩) [2, -1, 4, 2, 1]
  loops : ∀ W, Below w1.heap.size w1 W → Calls Try.prog 24 #[.agg #[.slice (some ⟨pb, 0, none⟩) 5 5]] W fun e W' => Below W.heap.size W W' ∧ ∃ g cap X cX, e = .returned (.slice (some ⟨g, 0, none⟩) 1 cap) ∧ 1 ≤ cap ∧ g < W'.heap.size ∧ W'.cell? ⟨g, 0, none⟩ = some (.int .i64 2) ∧ W'.cell? ⟨g, 1, none⟩ = some (.slice X 2 cX) ∧ ZRow W'.heap.size W' X [2, 3]
  ctl : ∀ W, Below w1.heap.size w1 W → Calls Try.prog 30 #[.agg #[.slice (some ⟨pb, 0, none⟩) 5 5]] W fun e W' => Below W.heap.size W W' ∧ ∃ hb, e = .returned (.slice (some ⟨hb, 0, none⟩) 5 5) ∧ LRow W' (some ⟨hb, 0, none⟩) [[], [], [2], [2], []]
  d24 : ∀ W, Below w1.heap.size w1 W → Calls Try.prog 20 #[.agg #[.slice (some ⟨pb, 0, none⟩) 5 5], .int .i64 2, .int .i64 4] W fun e W' => e = .returned (.bool true) ∧ Below W.heap.size W W'
  p43 : ∀ W, Below w1.heap.size w1 W → Calls Try.prog 22 #[.agg #[.slice (some ⟨pb, 0, none⟩) 5 5], .int .i64 4, .int .i64 3] W fun e W' => e = .returned (.bool true) ∧ Below W.heap.size W W'
theorem IArr.zrow {w : World} {b n : Nat} {f : Nat → Int} (h : IArr w b n f) {l : List Int} (hl : (List.range n).map f = l) : ZRow w.heap.size w (some ⟨b, 0, none⟩) l := hl ▸ h.row
theorem exc_of {w1 : World} {b pb fb : Nat} (hp : PRow w1.heap.size w1 (some ⟨pb, 0, none⟩) (exA b)) (hx : Bx w1 fb 24 (.slice (some ⟨pb, 0, none⟩) 5 5)) : ExC w1 pb fb := by
  have hok : FlOk (exA b) := exL_ok _ _ _ _
  have hsm : FlSm (exA b) := ⟨hok.n, hok.few⟩
  have hv : validP (exA b) = true := hok.ok
  have hP : ∀ W, Below w1.heap.size w1 W → PRow W.heap.size W (some ⟨pb, 0, none⟩) (exA b) := fun W hW => (hp.below hW).mono hW.size
  have hdm : ∀ h u, domB exE 0 h u = true ↔ Dom (edg (exA b)) 0 h u := fun h u => by
    unfold exA
    rw [exL_edg]
    exact exE_cl.dom (by omega) h u
  refine ⟨fun W hW => (hx.later hW).cell, fun W hW => (valid_any _ 5 (exA b) W hsm (hP W hW)).mono fun e W' he => ⟨by rw [he.1, hv], he.2⟩, fun W hW => (dominators_any _ 5 (exA b) W hsm (hP W hW)).mono ?_, fun W hW => (postdominators_any _ 5 (exA b) W hsm (hP W hW)).mono ?_,
    fun W hW => (loops_any _ 5 (exA b) W hsm (hP W hW) (domB exE 0) hdm lpB (fun h c => exL_lp _ _ _ _ h c) (fun v => (rchB exE 5 5 0 4).contains v) (fun v => by
      unfold exA
      rw [exL_edg, exE_cl.rea (by omega)]
      simp)).mono ?_, fun W hW => (control_any _ 5 (exA b) W hsm (hP W hW) cdB (fun a v => exL_cd _ _ _ _ a v)).mono ?_, fun W hW => dominates_any _ 5 (exA b) 2 4 W hsm (hP W hW) true ⟨fun _ => exL_d24 _ _ _ _, fun _ => rfl⟩, fun W hW => postdominates_any _ 5 (exA b) 4 3 W hsm (hP W hW) true ⟨fun _ => exL_p43 _ _ _ _, fun _ => rfl⟩⟩
  · rintro e W' ⟨hb, ⟨_, ob, ov, rfl, ho, _, hd, _⟩ | ⟨h, _⟩⟩
    · exact ⟨hb, ob, rfl, ho.zrow (exL_dom _ _ _ _ hd)⟩
    · rw [hv] at h; cases h
  · rintro e W' ⟨hb, ⟨_, ob, ov, rfl, ho, _, hd, _⟩ | ⟨h, _⟩⟩
    · exact ⟨hb, ob, rfl, ho.zrow (exL_post _ _ _ _ hd)⟩
    · rw [hv] at h; cases h
  · rintro e W' ⟨hb, ⟨_, v, bs, rfl, hr, hh⟩ | ⟨h, _⟩⟩
    · have h2 : bs.map (·.head) = [2] := hh.trans (exL_heads _ _ _ _)
      obtain ⟨t, rfl⟩ : ∃ t, bs = [t] := List.length_eq_one_iff.1 (by have := congrArg List.length h2; simpa using this)
      have h3 : t.head = 2 := by simpa using h2
      have hF : (List.range (exA b).length).filter (lpB t.head) = [2, 3] := by rw [h3]; exact ex_body
      have hbo := hr.body t (by simp)
      simp only [hF] at hbo
      have hrow := hr.row
      obtain ⟨g, cap, rfl, hg1, hg2⟩ := World.ownsRow.form hrow (by simp)
      have hcl := World.ownsRow.cells hrow (g := g) rfl
      have k0 := hcl 0 (.int .i64 2) (by simp [lpcells, h3])
      have k1 := hcl 1 (.slice t.A 2 t.c) (by simp only [lpcells, List.flatMap_cons, List.flatMap_nil]; rw [hF]; rfl)
      rw [do_add] at k0 k1
      refine ⟨hb, g, cap, t.A, t.c, rfl, ?_, hg2, k0, k1, hbo.row.2.2⟩
      rcases hrow.2 with ⟨h, _⟩ | ⟨g', cap', cur, h, _, _, h4, _⟩
      · cases h
      · cases h; exact h4
    · rw [hv] at h; cases h
  · rintro e W' ⟨hb, ⟨_, hb2, R, rfl, hr⟩ | ⟨h, _⟩⟩
    · refine ⟨hb, hb2, rfl, ?_⟩
      have h5 := hr.lrow
      rw [show (List.range (exA b).length).map (fun v => zl ((List.range (exA b).length).filter fun a => cdB a v)) = [[], [], [2], [2], []] from ex_ctl] at h5
      exact h5
    · rw [hv] at h; cases h

set_option maxRecDepth 100000 in
set_option maxHeartbeats 4000000 in
theorem awake_any (w : World) : Calls Try.prog 11 #[] w fun e W => e = .returned (.bool true) ∧ Below w.heap.size w W := by
  go_enter Try.func11, Try.ntmps11
  go_upto_region 2 with (fail)
  obtain ⟨hm1, hm2, hm3⟩ := ex_mem w rfl
  have HE := Lib.hid (exc_of hm1 hm2)
  have HB1 := Lib.hid hm3
  clear hm1 hm2 hm3
  generalize ((((((w.alloc (.cells #[.int .i64 2] 3)).alloc (.cells #[.int .i64 3, .int .i64 4] 3)).alloc (.cells #[.int .i64 2] 3)).alloc (.cells #[.int .i64 1] 3)).alloc (.cells #[.int .i64 0, .int .i64 0, .slice (some ⟨w.heap.size, 0, none⟩) 1 1, .int .i64 0, .int .i64 0, .slice none 0 0, .int .i64 0, .int .i64 0, .slice (some ⟨w.heap.size + 1, 0, none⟩) 2 2, .int .i64 0, .int .i64 0, .slice (some ⟨w.heap.size + 1 + 1, 0, none⟩) 1 1, .int .i64 0, .int .i64 0, .slice (some ⟨w.heap.size + 1 + 1 + 1, 0, none⟩) 1 1] 44)).alloc (.cells #[.slice (some ⟨w.heap.size + 1 + 1 + 1 + 1, 0, none⟩) 5 5] 24)) = w1 at *
  generalize w.heap.size + 1 + 1 + 1 + 1 + 1 = fb at *
  generalize w.heap.size + 1 + 1 + 1 + 1 = pb at *
  have R1 := Lib.hid (Below.refl w1.heap.size w1)
  have c0 := HE.out.box w1 R1.out
  go_wp2_with (fail)
  refine (HE.out.loops w1 R1.out).mono ?_
  rintro e w2 ⟨hb, g, cap, X, cX, rfl, hcap, hg, k0, k1, hz⟩
  have R2 := Lib.hid (R1.out.trans (hb.mono R1.out.size))
  have K0 := Lib.hid k0
  have K1 := Lib.hid k1
  have HG := Lib.hid hg
  have HZ := Lib.hid hz
  clear c0 hb k0 k1 hg hz
  have c0 := HE.out.box w2 R2.out
  go_wp2_with (fail)
  refine (HE.out.valid w2 R2.out).mono ?_
  rintro e w3 ⟨rfl, hb⟩
  have R3 := Lib.hid (R2.out.trans (hb.mono R2.out.size))
  have S3 := Lib.hid (show Below w2.heap.size w2 w3 from hb)
  clear c0 hb
  have c0 := HE.out.box w3 R3.out
  go_wp2_with (fail)
  refine (HE.out.doms w3 R3.out).mono ?_
  rintro e w4 ⟨hb, ob, rfl, ho⟩
  have R4 := Lib.hid (R3.out.trans (hb.mono R3.out.size))
  have S4 := Lib.hid (S3.out.trans (hb.mono S3.out.size))
  have HO := Lib.hid ho
  clear c0 hb ho
  go_wp2_with (fail)
  have al := (Below.refl w4.heap.size w4).alloc (Nat.le_refl _) (.cells #[.int .i64 (-1), .int .i64 4, .int .i64 0, .int .i64 2, .int .i64 2] 3)
  refine (equal_any _ _ _ _ _ [-1, 4, 0, 2, 2] [-1, 4, 0, 2, 2] ((HO.out.below al).mono al.size) (new_zrow w4 [-1, 4, 0, 2, 2] rfl) (by decide) (by decide) (by decide) (by decide)).mono ?_
  rintro e w5 ⟨rfl, hb⟩
  have R5 := Lib.hid (R4.out.trans ((al.trans (hb.mono al.size)).mono R4.out.size))
  have S5 := Lib.hid (S4.out.trans ((al.trans (hb.mono al.size)).mono S4.out.size))
  clear al hb
  have c0 := HE.out.box w5 R5.out
  go_wp2_with (fail)
  refine (HE.out.posts w5 R5.out).mono ?_
  rintro e w6 ⟨hb, ob2, rfl, ho⟩
  have R6 := Lib.hid (R5.out.trans (hb.mono R5.out.size))
  have S6 := Lib.hid (S5.out.trans (hb.mono S5.out.size))
  have HO2 := Lib.hid ho
  clear c0 hb ho
  go_wp2_with (fail)
  have al := (Below.refl w6.heap.size w6).alloc (Nat.le_refl _) (.cells #[.int .i64 2, .int .i64 (-1), .int .i64 4, .int .i64 2, .int .i64 1] 3)
  refine (equal_any _ _ _ _ _ [2, -1, 4, 2, 1] [2, -1, 4, 2, 1] ((HO2.out.below al).mono al.size) (new_zrow w6 [2, -1, 4, 2, 1] rfl) (by decide) (by decide) (by decide) (by decide)).mono ?_
  rintro e w7 ⟨rfl, hb⟩
  have R7 := Lib.hid (R6.out.trans ((al.trans (hb.mono al.size)).mono R6.out.size))
  have S7 := Lib.hid (S6.out.trans ((al.trans (hb.mono al.size)).mono S6.out.size))
  clear al hb
  have c0 := HE.out.box w7 R7.out
  have k0 := (S7.out.cell (p := ⟨g, 0, none⟩) HG.out).trans K0.out
  have k1 := (S7.out.cell (p := ⟨g, 1, none⟩) HG.out).trans K1.out
  have HZ7 := Lib.hid ((HZ.out.below S7.out).mono S7.out.size)
  go_wp2_with (fail)
  have al := (Below.refl w7.heap.size w7).alloc (Nat.le_refl _) (.cells #[.int .i64 2, .int .i64 3] 3)
  refine (equal_any _ _ _ _ _ [2, 3] [2, 3] ((HZ7.out.below al).mono al.size) (new_zrow w7 [2, 3] rfl) (by decide) (by decide) (by decide) (by decide)).mono ?_
  rintro e w8 ⟨rfl, hb⟩
  have R8 := Lib.hid (R7.out.trans ((al.trans (hb.mono al.size)).mono R7.out.size))
  have S8 := Lib.hid (S7.out.trans ((al.trans (hb.mono al.size)).mono S7.out.size))
  clear al hb
  clear c0
  have c0 := HE.out.box w8 R8.out
  clear k0 k1
  go_wp2_with (fail)
  refine (HE.out.ctl w8 R8.out).mono ?_
  rintro e w9 ⟨hb, hb2, rfl, ho⟩
  have R9 := Lib.hid (R8.out.trans (hb.mono R8.out.size))
  have HO3 := Lib.hid ho
  clear c0 hb ho
  go_wp2_with (fail)
  obtain ⟨hl1, hl2⟩ := ls_mem w9 rfl
  refine (lists_any _ _ _ _ _ [[], [], [2], [2], []] [[], [], [2], [2], []] (HO3.out.later hl2) hl1 (by decide) (by decide)).mono ?_
  rintro e w10 ⟨rfl, hb⟩
  have R10 := Lib.hid (R9.out.trans ((hl2.trans (hb.mono hl2.size)).mono R9.out.size))
  clear hl1 hl2 hb
  have c0 := HE.out.box w10 R10.out
  go_wp2_with (fail)
  refine (HE.out.d24 w10 R10.out).mono ?_
  rintro e w11 ⟨rfl, hb⟩
  have R11 := Lib.hid (R10.out.trans (hb.mono R10.out.size))
  clear c0 hb
  have c0 := HE.out.box w11 R11.out
  go_wp2_with (fail)
  refine (HE.out.p43 w11 R11.out).mono ?_
  rintro e w12 ⟨rfl, hb⟩
  have R12 := Lib.hid (R11.out.trans (hb.mono R11.out.size))
  clear c0 hb
  go_wp2_with (fail)
  go_ret
  exact ⟨rfl, HB1.out.trans (R12.out.mono HB1.out.size)⟩
end Go.Proofs.Ytbdpdbeekbbehaa
