/- What is proved: the conjunction of a builder of package gates. -/
import Derived.Test.YtbcabnbgkicfdaaGaBld
set_option linter.unusedVariables false
namespace Go.Proofs.Ytbcabnbgkicfdaa
open Go.RowKit Go.Maps

theorem g_append1 {w : World} (B n : Nat) (v : Value) (l : List Gt) (hown : GOwn w B v l) (hn : n = l.length) (ad : Addr) (c : Nat) (x : Gt) (hrow : GRow w (some ad) [x]) (hb : n + 1 ≤ 1000000000) (hB : B ≤ w.heap.size) :
    ∃ X cap w', (Builtin.append_ #[28, 28] 28 #[v, .slice (some ad) 1 c]).run Try.prog w = .ok (.slice X (n + 1) cap) w' ∧ GOwn w' B (.slice X (n + 1) cap) (l ++ [x]) ∧ w.grownBy w' v.ownBlock ∧ (∀ g, (Value.slice X (n + 1) cap).ownBlock = some g → v.ownBlock = some g ∨ w.heap.size ≤ g) := by
  subst hn
  obtain ⟨i0, hi0, hz0, hz1, hz2⟩ := info_parts infoGt
  obtain ⟨ad', e1, hc⟩ := hrow.cells (by simp)
  cases e1
  obtain ⟨g, cap, w', g1, g2, g3, g4, g5⟩ := run_append_lies (P := Try.prog) (w := w) 28 28 B 76 i0 _ 2 16 Try.underlying28 hi0 hz0 hz1 hz2 rfl (by decide) v l.length (gcl l) hown ad 1 c (gcl [x]) (gcl_len [x]) hc (gcl_one _) (by decide) (by unfold maxLen; omega) (by omega) hB w.heap.size rfl
  refine ⟨_, cap, w', g1, ?_, g3, fun b hb => ?_⟩
  · unfold GOwn
    rw [List.length_append, gcl_append]
    exact g2
  · injection hb with hb
    subst hb
    rcases g4 with h | h
    · exact .inl h
    · exact .inr (by rw [h]; exact Nat.le_refl _)
theorem andK_zero {x y : Int} (h : x = 0 ∨ y = 0) : andK x y = some 0 := by unfold andK; rw [if_pos h]
theorem andK_one {x y : Int} (h : ¬ (x = 0 ∨ y = 0)) (h1 : x = 1) : andK x y = some y := by unfold andK; rw [if_neg h, if_pos h1]
theorem andK_same {x y : Int} (h : ¬ (x = 0 ∨ y = 0)) (h1 : x ≠ 1) (h2 : y = 1 ∨ x = y) : andK x y = some x := by unfold andK; rw [if_neg h, if_neg h1, if_pos h2]
theorem andK_not {x y : Int} (h : ¬ (x = 0 ∨ y = 0)) (h1 : x ≠ 1) (h2 : ¬ (y = 1 ∨ x = y)) (h3 : x = notP y) : andK x y = some 0 := by unfold andK; rw [if_neg h, if_neg h1, if_neg h2, if_pos h3]
theorem andK_gate {x y : Int} (h : ¬ (x = 0 ∨ y = 0)) (h1 : x ≠ 1) (h2 : ¬ (y = 1 ∨ x = y)) (h3 : x ≠ notP y) : andK x y = none := by unfold andK; rw [if_neg h, if_neg h1, if_neg h2, if_neg h3]
section
variable {w : World} {n₀ bb mb : Nat} {rv : Value} {I : Int} {gs : List Gt}
set_option maxRecDepth 100000 in
set_option maxHeartbeats 4000000 in
theorem and_any (x y : Int) (h : Bld w n₀ bb mb rv I gs 0) (hx : isLit I gs x) (hy : isLit I gs y) (hf : gs.length < 5000) :
    Calls Try.prog 94 #[.pointer (some ⟨bb, 0, none⟩), .int .i64 x, .int .i64 y] w fun e w' => e = .returned (.int .i64 (andN I gs x y)) ∧ ∃ rv', BdRes n₀ bb mb rv I (andL gs x y) 0 w w' rv' := by
  have HH := Lib.hid h
  have HAND := Lib.hid (and_ok h.ck hx hy)
  have HSAME := Lib.hid (BdRes.same h (Below.refl _ _))
  have hi0 := h.ck.lo
  have hi1 := h.ck.hi
  have hlx : 0 ≤ x ∧ x ≤ 100000 := by unfold isLit at hx; omega
  have hly : 0 ≤ y ∧ y ≤ 100000 := by unfold isLit at hy; omega
  clear h hx hy
  by_cases q0 : x = 0
  · obtain ⟨e1, e2⟩ := and_some (I := I) (gs := gs) (andK_zero (x := x) (y := y) (.inl q0))
    rw [e1, e2]
    have d0 : (x == 0) = true := by simpa using q0
    clear e1 e2 q0
    go_enter Try.func94, Try.ntmps94
    go_wp2_with (fail)
    go_ret
    exact ⟨rfl, rv, HSAME.out⟩
  have d0 : (x == 0) = false := by simpa using q0
  by_cases q1 : y = 0
  · obtain ⟨e1, e2⟩ := and_some (I := I) (gs := gs) (andK_zero (x := x) (y := y) (.inr q1))
    rw [e1, e2]
    have d1 : (y == 0) = true := by simpa using q1
    clear e1 e2 q0 q1
    go_enter Try.func94, Try.ntmps94
    go_wp2_with (fail)
    go_ret
    exact ⟨rfl, rv, HSAME.out⟩
  have d1 : (y == 0) = false := by simpa using q1
  by_cases q2 : x = 1
  · obtain ⟨e1, e2⟩ := and_some (I := I) (gs := gs) (andK_one (x := x) (y := y) (by omega) q2)
    rw [e1, e2]
    have d2 : (x == 1) = true := by simpa using q2
    clear e1 e2 q0 q1 q2
    go_enter Try.func94, Try.ntmps94
    go_wp2_with (fail)
    go_ret
    exact ⟨rfl, rv, HSAME.out⟩
  have d2 : (x == 1) = false := by simpa using q2
  by_cases q3 : y = 1
  · obtain ⟨e1, e2⟩ := and_some (I := I) (gs := gs) (andK_same (x := x) (y := y) (by omega) q2 (.inl q3))
    rw [e1, e2]
    have d3 : (y == 1) = true := by simpa using q3
    clear e1 e2 q0 q1 q2 q3
    go_enter Try.func94, Try.ntmps94
    go_wp2_with (fail)
    go_ret
    exact ⟨rfl, rv, HSAME.out⟩
  have d3 : (y == 1) = false := by simpa using q3
  by_cases q4 : x = y
  · obtain ⟨e1, e2⟩ := and_some (I := I) (gs := gs) (andK_same (x := x) (y := y) (by omega) q2 (.inr q4))
    rw [e1, e2]
    have d4 : (x == y) = true := by simpa using q4
    clear e1 e2 q0 q1 q2 q3 q4
    go_enter Try.func94, Try.ntmps94
    go_wp2_with (fail)
    go_ret
    exact ⟨rfl, rv, HSAME.out⟩
  have d4 : (x == y) = false := by simpa using q4
  have HN := Lib.hid (fun w => not_any y (by omega) w)
  by_cases q5 : x = notP y
  · obtain ⟨e1, e2⟩ := and_some (I := I) (gs := gs) (andK_not (x := x) (y := y) (by omega) q2 (by omega) q5)
    rw [e1, e2]
    have d5 : (x == notP y) = true := by simpa using q5
    clear e1 e2 q0 q1 q2 q3 q4 q5
    go_enter Try.func94, Try.ntmps94
    go_wp2_with (fail)
    refine (HN.out _).mono ?_
    rintro e wx ⟨rfl, hx⟩
    obtain rfl := hx.symm
    go_wp2_with (fail)
    go_ret
    exact ⟨rfl, rv, HSAME.out⟩
  have d5 : (x == notP y) = false := by simpa using q5
  have hk := andK_gate (x := x) (y := y) (by omega) q2 (by omega) q5
  have hgo : GtOk (gat x y) := ⟨i64o_of (by unfold gat; simp only; omega), i64o_of (by unfold gat; simp only; omega)⟩
  have HGO := Lib.hid hgo
  have HGA := Lib.hid (show (gat x y).x = min x y ∧ (gat x y).y = max x y from ⟨rfl, rfl⟩)
  have HMM := Lib.hid (show (if y < x then y else x) = (gat x y).x ∧ (if x < y then y else x) = (gat x y).y from by
    unfold gat
    simp only
    constructor <;> split <;> omega)
  obtain ⟨g, HG⟩ : ∃ g, Hid (gat x y = g) := ⟨_, Lib.hid rfl⟩
  rw [HG.out] at HGO HGA HMM
  clear hgo
  cases hi : gix gs (gat x y) with
  | some i =>
    obtain ⟨e1, e2⟩ := and_old (I := I) hk hi
    rw [e1, e2]
    rw [HG.out] at hi
    clear e1 e2 q0 q1 q2 q3 q4 q5 hk
    go_enter Try.func94, Try.ntmps94
    go_wp2_with (fail)
    refine (HN.out _).mono ?_
    rintro e wx ⟨rfl, hx⟩
    obtain rfl := hx.symm
    go_upto_region 10 with fail
    rw [HMM.out.1, HMM.out.2]
    have hba := (Below.refl w.heap.size w).alloc (Nat.le_refl _) (.cells #[.int .i64 g.x, .int .i64 g.y] 76)
    have HB1 := Lib.hid hba
    have HGB := Lib.hid (GBox.new w g)
    have HH1 := Lib.hid (HH.out.later hba)
    have HGL := Lib.hid (show ¬ Own bb mb rv w.heap.size from fun ho => by have := (HH.out.lt ho).2; omega)
    clear hba
    generalize hgw : w.alloc (.cells #[.int .i64 g.x, .int .i64 g.y] 76) = w1 at *
    clear hgw
    obtain ⟨gb, HGBE⟩ : ∃ gb, Hid (w.heap.size = gb) := ⟨_, Lib.hid rfl⟩
    rw [HGBE.out] at HGB HGL ⊢
    obtain ⟨x0, x1⟩ := HGB.out.cells
    obtain ⟨c0, c1, c2, c3⟩ := HH1.out.cells
    have hlk : ∀ n, (Instr.lookup 78 (.map (some mb)) (.agg #[.int .i64 g.x, .int .i64 g.y]) true).run Try.prog (w1.drewN n) = .ok (.tuple #[.int .i64 (2 * (1 + I + (i : Int))), .bool true]) (w1.drewN n) := fun n => by
      have := lits_look (HH1.out.later (drewN_below w1 n)).map HH1.out.gt HH1.out.ck.nd HGO.out
      rw [hi] at this
      exact this
    clear hi c0 c1 c3
    go_quiet (fail)
    go_wp2_with (fail)
    go_ret
    exact ⟨rfl, rv, BdRes.same HH.out (HB1.out.trans ((drewN_below w1 nq).mono HB1.out.size))⟩
  | none =>
    obtain ⟨e1, e2⟩ := and_new (I := I) hk hi
    rw [e1, e2]
    have HCN := Lib.hid HAND.out.ok
    rw [e2, HG.out] at HCN
    rw [HG.out] at hi ⊢
    clear e1 e2 q0 q1 q2 q3 q4 q5 hk
    go_enter Try.func94, Try.ntmps94
    go_wp2_with (fail)
    refine (HN.out _).mono ?_
    rintro e wx ⟨rfl, hx⟩
    obtain rfl := hx.symm
    go_upto_region 10 with fail
    rw [HMM.out.1, HMM.out.2]
    have hba := (Below.refl w.heap.size w).alloc (Nat.le_refl _) (.cells #[.int .i64 g.x, .int .i64 g.y] 76)
    have HB1 := Lib.hid hba
    have HGB := Lib.hid (GBox.new w g)
    have HH1 := Lib.hid (HH.out.later hba)
    have HGL := Lib.hid (show ¬ Own bb mb rv w.heap.size from fun ho => by have := (HH.out.lt ho).2; omega)
    clear hba
    generalize hgw : w.alloc (.cells #[.int .i64 g.x, .int .i64 g.y] 76) = w1 at *
    clear hgw
    obtain ⟨gb, HGBE⟩ : ∃ gb, Hid (w.heap.size = gb) := ⟨_, Lib.hid rfl⟩
    rw [HGBE.out] at HGB HGL ⊢
    obtain ⟨x0, x1⟩ := HGB.out.cells
    obtain ⟨c0, c1, c2, c3⟩ := HH1.out.cells
    have hlk : ∀ n, (Instr.lookup 78 (.map (some mb)) (.agg #[.int .i64 g.x, .int .i64 g.y]) true).run Try.prog (w1.drewN n) = .ok (.tuple #[.int .i64 0, .bool false]) (w1.drewN n) := fun n => by
      have := lits_look (HH1.out.later (drewN_below w1 n)).map HH1.out.gt HH1.out.ck.nd HGO.out
      rw [hi] at this
      exact this
    clear hi c0 c1 c3
    go_quiet (fail)
    have HB2 := Lib.hid (HB1.out.trans ((drewN_below w1 nq).mono HB1.out.size))
    have HG2 := Lib.hid (HGB.out.later (drewN_below w1 nq))
    have HH2 := Lib.hid (HH1.out.later (drewN_below w1 nq))
    clear hlk x0 x1 c2 HGB HH1
    generalize hgw : w1.drewN nq = w2 at *
    clear hgw
    have HL := Lib.hid (fun w (h : Bld w n₀ bb mb rv I gs 0) => blen_any h)
    have hnd : nds I gs.length = 1 + I + (gs.length : Int) := rfl
    have HFW := Lib.hid hf
    rw [hnd] at HL
    have d6 : ((1 + I + (gs.length : Int)) == 65536) = false := by rw [beq_eq_false_iff_ne]; omega
    go_wp2_with (fail)
    refine (HL.out _ HH2.out).mono ?_
    rintro e w3 ⟨rfl, hb3⟩
    have HB3 := Lib.hid (HB2.out.trans (hb3.mono HB2.out.size))
    have HG3 := Lib.hid (HG2.out.later hb3)
    have HH3 := Lib.hid (HH2.out.later hb3)
    clear hb3 HG2 HH2
    go_wp2_with (fail)
    refine (HL.out _ HH3.out).mono ?_
    rintro e w4 ⟨rfl, hb4⟩
    have HB4 := Lib.hid (HB3.out.trans (hb4.mono HB3.out.size))
    have HG4 := Lib.hid (HG3.out.later hb4)
    have HH4 := Lib.hid (HH3.out.later hb4)
    clear hb4 HG3 HH3
    obtain ⟨x0, x1⟩ := HG4.out.cells
    obtain ⟨c0, c1, c2, c3⟩ := HH4.out.cells
    obtain ⟨w5, hrun, hmap, hgr⟩ := World.ownsMap.update (w := w4.drew) HH4.out.map pairLaw Try.underlying78 (by unfold maxLen; omega) (pair_keyOf HGO.out) (val := .int .i64 (2 * (1 + I + (gs.length : Int)))) (plainElem_int Try.underlying3 (WalkArith.wf_i64 (by omega)))
    have HMAP := Lib.hid hmap
    have HGR := Lib.hid hgr
    clear hmap hgr c0 c1 c3 d6
    go_upto_region 17 with fail
    go_region
    have nbm : some bb ≠ some mb := fun e => by
      obtain ⟨es, clock, hm0, _⟩ := HH4.out.map
      injection e with e
      rw [← e, HH4.out.box] at hm0
      cases hm0
    have hgr := HGR.out
    have HBO5 := Lib.hid ((hgr.block bb (show bb < w4.heap.size from hlt HH4.out.box) nbm).trans HH4.out.box)
    have HR5 := Lib.hid (show GOwn w5 n₀ rv gs from own_stays HH4.out.row fun b e => hgr.block b (own_block' HH4.out.row e).2.1 (fun e2 => by
      obtain ⟨_, _, cs, hc⟩ := own_block' HH4.out.row e
      obtain ⟨es, clock, hm0, _⟩ := HH4.out.map
      injection e2 with e2
      rw [e2, hm0] at hc
      cases hc))
    have HG5 := Lib.hid (show GBox w5 gb g from (hgr.block gb (show gb < w4.heap.size from hlt HG4.out) (fun e => by injection e with e; exact HGL.out (.inr (.inl e)))).trans HG4.out)
    have HF5 := Lib.hid (show FrT bb mb rv w w5 from (FrT.of HB4.out).trans ⟨hgr.os, hgr.tape, hgr.output, hgr.size, fun k hk hno => hgr.block k hk (fun e => hno (.inr (.inl (by injection e))))⟩)
    have HM5 := Lib.hid (show w5.ownsMap Try.prog 76 (plainElem (H := Unit) Try.prog 3) mb (gs.length + 1) (numD I (gs ++ [g])) by rw [numD_snoc]; exact HMAP.out)
    have HLO := Lib.hid HH4.out.lo
    have HFEW := Lib.hid hf
    clear x0 x1 c2 hrun HMAP HGR HG4 HB4 hgr nbm HH4
    have hap : ∃ X cap w6, (Builtin.append_ #[28, 28] 28 #[rv, .slice (some ⟨w5.drew.heap.size, 0, none⟩) 1 1]).run Try.prog (w5.drew.alloc (.cells #[.int .i64 g.x, .int .i64 g.y] 76)) = .ok (.slice X (gs.length + 1) cap) w6 ∧ ∀ w7, Hid (w7 = w6) → BdRes n₀ bb mb rv I (gs ++ [g]) 0 w5 (w7.setCell ⟨bb, 1, none⟩ (.slice X (gs.length + 1) cap)) (.slice X (gs.length + 1) cap) ∧ w7.cell? ⟨bb, 1, none⟩ = some rv ∧ w7.frozen? ⟨bb, 1, none⟩ = false := by
      have hbb : Below w5.heap.size w5 (w5.drew.alloc (.cells #[.int .i64 g.x, .int .i64 g.y] 76)) := (show Below w5.heap.size w5 w5.drew from (Below.refl _ _).drew).alloc (Nat.le_refl _) _
      obtain ⟨X, cap, w6, g1, g2, g3, g4⟩ := g_append1 (w := w5.drew.alloc (.cells #[.int .i64 g.x, .int .i64 g.y] 76)) n₀ gs.length rv gs (HR5.out.later hbb) rfl ⟨w5.drew.heap.size, 0, none⟩ 1 g (GRow.one w5.drew g) (by omega) (by have := hlt HBO5.out; have := HLO.out.1; have := hbb.size; omega)
      refine ⟨X, cap, w6, g1, fun w7 h7 => ?_⟩
      obtain rfl := h7.out
      exact bld_grown HLO.out HCN.out (by omega) HBO5.out HR5.out HM5.out hbb g3 g2 g4
    obtain ⟨X, cap, w6, hrun, hst⟩ := hap
    have HRUN := Lib.hid hrun
    have HST := Lib.hid hst
    have HS0 := Lib.hid (show w5.drew.cell? ⟨gb, 0, none⟩ = some (.int .i64 g.x) ∧ w5.drew.cell? ⟨gb, 1, none⟩ = some (.int .i64 g.y) from HG5.out.cells)
    have HS1 := Lib.hid (show (w5.drew.alloc (.cells #[.int .i64 g.x, .int .i64 g.y] 76)).cell? ⟨gb, 0, none⟩ = some (.int .i64 g.x) ∧ (w5.drew.alloc (.cells #[.int .i64 g.x, .int .i64 g.y] 76)).cell? ⟨gb, 1, none⟩ = some (.int .i64 g.y) from (HG5.out.later ((show Below w5.heap.size w5 w5.drew from (Below.refl _ _).drew).alloc (Nat.le_refl _) _)).cells)
    have HC0 := Lib.hid (show w5.drew.cell? ⟨bb, 1, none⟩ = some rv from Lib.cell_of_heap HBO5.out 1)
    have HC1 := Lib.hid (show (w5.drew.alloc (.cells #[.int .i64 g.x, .int .i64 g.y] 76)).cell? ⟨bb, 1, none⟩ = some rv from (World.cell?_alloc_lt _ _ _ (show bb < w5.drew.heap.size from hlt HBO5.out)).trans HC0.out)
    have HGA2 := Lib.hid (show ∀ (w7 : World) (v : Value), w7.cell? ⟨gb, 0, none⟩ = some (.int .i64 g.x) ∧ w7.cell? ⟨gb, 1, none⟩ = some (.int .i64 g.y) → (w7.setCell ⟨bb, 1, none⟩ v).cell? ⟨gb, 0, none⟩ = some (.int .i64 g.x) ∧ (w7.setCell ⟨bb, 1, none⟩ v).cell? ⟨gb, 1, none⟩ = some (.int .i64 g.y) from fun w7 v h => by
      have hne : gb ≠ bb := fun e => HGL.out (.inl e)
      have hh : (w7.setCell ⟨bb, 1, none⟩ v).heap[gb]? = w7.heap[gb]? := hfar hne v
      exact ⟨(World.cell?_of_block (a := ⟨gb, 0, none⟩) hh).trans h.1, (World.cell?_of_block (a := ⟨gb, 1, none⟩) hh).trans h.2⟩)
    have HG7 := Lib.hid (show ∀ (w7 : World), Hid (w7 = w6) → w7.cell? ⟨gb, 0, none⟩ = some (.int .i64 g.x) ∧ w7.cell? ⟨gb, 1, none⟩ = some (.int .i64 g.y) from fun w7 h7 => by
      have hb : ¬ Own bb mb rv gb := HGL.out
      have hr := (HST.out w7 h7).1.fr.block gb (hlt HG5.out) hb
      have hne : gb ≠ bb := fun e => hb (.inl e)
      have h9 : w7.heap[gb]? = w5.heap[gb]? := (hfar (w := w7) (p := ⟨bb, 1, none⟩) hne (.slice X (gs.length + 1) cap)).symm.trans hr
      have h8 : GBox w7 gb g := h9.trans HG5.out
      exact h8.cells)
    clear hrun hst
    have hf' : True := trivial
    go_upto_region 18 with fail
    -- REGION A
    refine wp_region_noPanic ?_
    refine wp_region_held_drew (S := fun w' => w'.cell? ⟨gb, 0, none⟩ = some (.int .i64 g.x) ∧ w'.cell? ⟨gb, 1, none⟩ = some (.int .i64 g.y)) (by kernel_rfl) HS0.out (fun _ => ?_)
    generalize w5.drew = wd at *
    refine wpAnyH_take (i := 0) (oi := { dst := some 70, op := Op.move (Operand.tmp 0), type := 24, pos := "builder.go:108", after := #[], guard := none }) (v := .pointer (some ⟨bb, 0, none⟩)) rfl (by kernel_rfl) (by kernel_rfl) (by kernel_rfl) (fun _ _ _ h => h) (Or.inl ⟨by rfl, ?_⟩) HS0.out ?_
    · (intro w' hSw; go_simp)
    simp only [Act.put, List.setIfInBounds_toArray, List.set_cons_zero, List.set_cons_succ]
    refine wpAnyH_take (i := 1) (oi := { dst := some 71, op := Op.move (Operand.tmp 0), type := 24, pos := "builder.go:108", after := #[], guard := none }) (v := .pointer (some ⟨bb, 0, none⟩)) rfl (by kernel_rfl) (by kernel_rfl) (by kernel_rfl) (fun _ _ _ h => h) (Or.inl ⟨by rfl, ?_⟩) HS0.out ?_
    · (intro w' hSw; go_simp)
    simp only [Act.put, List.setIfInBounds_toArray, List.set_cons_zero, List.set_cons_succ]
    refine wpAnyH_take (i := 2) (oi := { dst := some 72, op := Op.nilCheck (Operand.tmp 71), type := 0, pos := "builder.go:108", after := #[{ on := 1, ground := Ground.data }], guard := none }) (v := .pointer (some ⟨bb, 0, none⟩)) rfl (by kernel_rfl) (by kernel_rfl) (by kernel_rfl) (fun _ _ _ h => h) (Or.inl ⟨by rfl, ?_⟩) HS0.out ?_
    · (intro w' hSw; go_simp)
    simp only [Act.put, List.setIfInBounds_toArray, List.set_cons_zero, List.set_cons_succ]
    refine wpAnyH_take (i := 3) (oi := { dst := some 73, op := Op.fieldAddr 80 (Operand.tmp 72) 0, type := 0, pos := "builder.go:108", after := #[{ on := 2, ground := Ground.data }], guard := none }) (v := .pointer (some ⟨bb, 0, none⟩)) rfl (by kernel_rfl) (by kernel_rfl) (by kernel_rfl) (fun _ _ _ h => h) (Or.inl ⟨by rfl, ?_⟩) HS0.out ?_
    · (intro w' hSw; go_simp)
    simp only [Act.put, List.setIfInBounds_toArray, List.set_cons_zero, List.set_cons_succ]
    refine wpAnyH_take (i := 4) (oi := { dst := some 74, op := Op.fieldAddr 30 (Operand.tmp 73) 1, type := 0, pos := "builder.go:108", after := #[{ on := 3, ground := Ground.data }], guard := none }) (v := .pointer (some ⟨bb, 1, none⟩)) rfl (by kernel_rfl) (by kernel_rfl) (by kernel_rfl) (fun _ _ _ h => h) (Or.inl ⟨by rfl, ?_⟩) HS0.out ?_
    · (intro w' hSw; go_simp)
    simp only [Act.put, List.setIfInBounds_toArray, List.set_cons_zero, List.set_cons_succ]
    refine wpAnyH_take (i := 6) (oi := { dst := some 76, op := Op.load 76 (Operand.tmp 7), type := 76, pos := "builder.go:108", after := #[], guard := none }) (v := .agg #[.int .i64 g.x, .int .i64 g.y]) rfl (by kernel_rfl) (by kernel_rfl) (by kernel_rfl) (fun _ _ _ h => h) (Or.inl ⟨by rfl, ?_⟩) HS0.out ?_
    · (intro w' hSw; obtain ⟨z0, z1⟩ := hSw; go_simp)
    simp only [Act.put, List.setIfInBounds_toArray, List.set_cons_zero, List.set_cons_succ]
    refine wpAnyH_ready (rs := [5, 7]) (by kernel_rfl) (by simp) (AllReadyH.cons (o := { dst := some 75, op := Op.load 28 (Operand.tmp 74), type := 28, pos := "builder.go:108", after := #[{ on := 4, ground := Ground.data }], guard := none }) rfl (fun K hK => ?_) (AllReadyH.cons (o := { dst := some 77, op := Op.buildSlice 28 1 #[(0, Operand.tmp 76)], type := 28, pos := "builder.go:108", after := #[{ on := 6, ground := Ground.data }], guard := none }) rfl (fun K hK => ?_) AllReadyH.nil))
    · have c9 := HC0.out
      go_simp
      clear c9
      refine hK.out _ _ HS0.out (fun _ => ?_)
      clear hK K
      try simp only [Act.put, List.setIfInBounds_toArray, List.set_cons_zero, List.set_cons_succ]
      refine wpAnyH_ready (rs := [7]) (by kernel_rfl) (by simp) (AllReadyH.cons (o := { dst := some 77, op := Op.buildSlice 28 1 #[(0, Operand.tmp 76)], type := 28, pos := "builder.go:108", after := #[{ on := 6, ground := Ground.data }], guard := none }) rfl (fun K hK => ?_) AllReadyH.nil)
      go_simp
      refine hK.out _ _ HS1.out (fun _ => ?_)
      clear hK K
      try simp only [Act.put, List.setIfInBounds_toArray, List.set_cons_zero, List.set_cons_succ]
      refine wpAnyH_ready (rs := [8]) (by kernel_rfl) (by simp) (AllReadyH.cons (o := { dst := some 78, op := Op.call { callee := Callee.builtin Builtin.append, args := #[Operand.tmp 75, Operand.tmp 77], argTypes := #[28, 28] }, type := 28, pos := "builder.go:108", after := #[{ on := 5, ground := Ground.data }, { on := 7, ground := Ground.data }], guard := none }) rfl (fun K hK => ?_) AllReadyH.nil)
      refine step_app_by (by rfl) _ _ 28 28 (by rfl) _ _ (by rfl) (by rfl) _ _ HRUN.out ?_
      intro w7 hw7
      have HW7 := Lib.hid (HST.out w7 hw7)
      have HS7 := Lib.hid (HG7.out w7 hw7)
      clear hw7
      refine hK.out _ _ HS7.out (fun _ => ?_)
      clear hK K
      try simp only [Act.put, List.setIfInBounds_toArray, List.set_cons_zero, List.set_cons_succ]
      refine wpAnyH_take (i := 9) (oi := { dst := some 79, op := Op.nilCheck (Operand.tmp 70), type := 0, pos := "builder.go:108", after := #[{ on := 0, ground := Ground.data }, { on := 0, ground := Ground.phase }, { on := 1, ground := Ground.phase }, { on := 2, ground := Ground.phase }, { on := 3, ground := Ground.phase }, { on := 4, ground := Ground.phase }, { on := 5, ground := Ground.phase }, { on := 6, ground := Ground.phase }, { on := 7, ground := Ground.phase }, { on := 8, ground := Ground.phase }], guard := none }) (v := .pointer (some ⟨bb, 0, none⟩)) rfl (by kernel_rfl) (by kernel_rfl) (by kernel_rfl) (fun _ _ _ h => h) (Or.inl ⟨by rfl, ?_⟩) HS7.out ?_
      · (intro w' hSw; go_simp)
      simp only [Act.put, List.setIfInBounds_toArray, List.set_cons_zero, List.set_cons_succ]
      refine wpAnyH_take (i := 10) (oi := { dst := some 80, op := Op.fieldAddr 80 (Operand.tmp 79) 0, type := 0, pos := "builder.go:108", after := #[{ on := 9, ground := Ground.data }, { on := 0, ground := Ground.phase }, { on := 1, ground := Ground.phase }, { on := 2, ground := Ground.phase }, { on := 3, ground := Ground.phase }, { on := 4, ground := Ground.phase }, { on := 5, ground := Ground.phase }, { on := 6, ground := Ground.phase }, { on := 7, ground := Ground.phase }, { on := 8, ground := Ground.phase }], guard := none }) (v := .pointer (some ⟨bb, 0, none⟩)) rfl (by kernel_rfl) (by kernel_rfl) (by kernel_rfl) (fun _ _ _ h => h) (Or.inl ⟨by rfl, ?_⟩) HS7.out ?_
      · (intro w' hSw; go_simp)
      simp only [Act.put, List.setIfInBounds_toArray, List.set_cons_zero, List.set_cons_succ]
      refine wpAnyH_take (i := 11) (oi := { dst := some 81, op := Op.fieldAddr 30 (Operand.tmp 80) 1, type := 0, pos := "builder.go:108", after := #[{ on := 10, ground := Ground.data }, { on := 0, ground := Ground.phase }, { on := 1, ground := Ground.phase }, { on := 2, ground := Ground.phase }, { on := 3, ground := Ground.phase }, { on := 4, ground := Ground.phase }, { on := 5, ground := Ground.phase }, { on := 6, ground := Ground.phase }, { on := 7, ground := Ground.phase }, { on := 8, ground := Ground.phase }], guard := none }) (v := .pointer (some ⟨bb, 1, none⟩)) rfl (by kernel_rfl) (by kernel_rfl) (by kernel_rfl) (fun _ _ _ h => h) (Or.inl ⟨by rfl, ?_⟩) HS7.out ?_
      · (intro w' hSw; go_simp)
      simp only [Act.put, List.setIfInBounds_toArray, List.set_cons_zero, List.set_cons_succ]
      refine wpAnyH_ready (rs := [12]) (by kernel_rfl) (by simp) (AllReadyH.cons (o := { dst := none, op := Op.store 28 (Operand.tmp 81) (Operand.tmp 78), type := 0, pos := "builder.go:108", after := #[{ on := 11, ground := Ground.data }, { on := 8, ground := Ground.data }, { on := 8, ground := Ground.chain }, { on := 0, ground := Ground.phase }, { on := 1, ground := Ground.phase }, { on := 2, ground := Ground.phase }, { on := 3, ground := Ground.phase }, { on := 4, ground := Ground.phase }, { on := 5, ground := Ground.phase }, { on := 6, ground := Ground.phase }, { on := 7, ground := Ground.phase }, { on := 8, ground := Ground.phase }], guard := none }) rfl (fun K hK => ?_) AllReadyH.nil)
      have y1 := HW7.out.2.1
      have y2 := HW7.out.2.2
      go_simp
      clear y1 y2
      refine hK.out _ _ (HGA2.out _ _ HS7.out) (fun _ => ?_)
      clear hK K
      try simp only [Act.put, List.setIfInBounds_toArray, List.set_cons_zero, List.set_cons_succ]
      refine wpAnyH_done (by kernel_rfl) ?_ _
      refine NoPanic.normal ?_
      go_wp2_with (fail)
      go_ret
      exact ⟨rfl, _, ⟨HW7.out.1.tab, HF5.out.trans HW7.out.1.fr, fun q hq => (HW7.out.1.new q hq).imp id (Nat.le_trans HF5.out.size)⟩⟩
    · go_simp
      refine hK.out _ _ HS1.out (fun _ => ?_)
      clear hK K
      try simp only [Act.put, List.setIfInBounds_toArray, List.set_cons_zero, List.set_cons_succ]
      refine wpAnyH_ready (rs := [5]) (by kernel_rfl) (by simp) (AllReadyH.cons (o := { dst := some 75, op := Op.load 28 (Operand.tmp 74), type := 28, pos := "builder.go:108", after := #[{ on := 4, ground := Ground.data }], guard := none }) rfl (fun K hK => ?_) AllReadyH.nil)
      have c9 := HC1.out
      go_simp
      clear c9
      refine hK.out _ _ HS1.out (fun _ => ?_)
      clear hK K
      try simp only [Act.put, List.setIfInBounds_toArray, List.set_cons_zero, List.set_cons_succ]
      refine wpAnyH_ready (rs := [8]) (by kernel_rfl) (by simp) (AllReadyH.cons (o := { dst := some 78, op := Op.call { callee := Callee.builtin Builtin.append, args := #[Operand.tmp 75, Operand.tmp 77], argTypes := #[28, 28] }, type := 28, pos := "builder.go:108", after := #[{ on := 5, ground := Ground.data }, { on := 7, ground := Ground.data }], guard := none }) rfl (fun K hK => ?_) AllReadyH.nil)
      refine step_app_by (by rfl) _ _ 28 28 (by rfl) _ _ (by rfl) (by rfl) _ _ HRUN.out ?_
      intro w7 hw7
      have HW7 := Lib.hid (HST.out w7 hw7)
      have HS7 := Lib.hid (HG7.out w7 hw7)
      clear hw7
      refine hK.out _ _ HS7.out (fun _ => ?_)
      clear hK K
      try simp only [Act.put, List.setIfInBounds_toArray, List.set_cons_zero, List.set_cons_succ]
      refine wpAnyH_take (i := 9) (oi := { dst := some 79, op := Op.nilCheck (Operand.tmp 70), type := 0, pos := "builder.go:108", after := #[{ on := 0, ground := Ground.data }, { on := 0, ground := Ground.phase }, { on := 1, ground := Ground.phase }, { on := 2, ground := Ground.phase }, { on := 3, ground := Ground.phase }, { on := 4, ground := Ground.phase }, { on := 5, ground := Ground.phase }, { on := 6, ground := Ground.phase }, { on := 7, ground := Ground.phase }, { on := 8, ground := Ground.phase }], guard := none }) (v := .pointer (some ⟨bb, 0, none⟩)) rfl (by kernel_rfl) (by kernel_rfl) (by kernel_rfl) (fun _ _ _ h => h) (Or.inl ⟨by rfl, ?_⟩) HS7.out ?_
      · (intro w' hSw; go_simp)
      simp only [Act.put, List.setIfInBounds_toArray, List.set_cons_zero, List.set_cons_succ]
      refine wpAnyH_take (i := 10) (oi := { dst := some 80, op := Op.fieldAddr 80 (Operand.tmp 79) 0, type := 0, pos := "builder.go:108", after := #[{ on := 9, ground := Ground.data }, { on := 0, ground := Ground.phase }, { on := 1, ground := Ground.phase }, { on := 2, ground := Ground.phase }, { on := 3, ground := Ground.phase }, { on := 4, ground := Ground.phase }, { on := 5, ground := Ground.phase }, { on := 6, ground := Ground.phase }, { on := 7, ground := Ground.phase }, { on := 8, ground := Ground.phase }], guard := none }) (v := .pointer (some ⟨bb, 0, none⟩)) rfl (by kernel_rfl) (by kernel_rfl) (by kernel_rfl) (fun _ _ _ h => h) (Or.inl ⟨by rfl, ?_⟩) HS7.out ?_
      · (intro w' hSw; go_simp)
      simp only [Act.put, List.setIfInBounds_toArray, List.set_cons_zero, List.set_cons_succ]
      refine wpAnyH_take (i := 11) (oi := { dst := some 81, op := Op.fieldAddr 30 (Operand.tmp 80) 1, type := 0, pos := "builder.go:108", after := #[{ on := 10, ground := Ground.data }, { on := 0, ground := Ground.phase }, { on := 1, ground := Ground.phase }, { on := 2, ground := Ground.phase }, { on := 3, ground := Ground.phase }, { on := 4, ground := Ground.phase }, { on := 5, ground := Ground.phase }, { on := 6, ground := Ground.phase }, { on := 7, ground := Ground.phase }, { on := 8, ground := Ground.phase }], guard := none }) (v := .pointer (some ⟨bb, 1, none⟩)) rfl (by kernel_rfl) (by kernel_rfl) (by kernel_rfl) (fun _ _ _ h => h) (Or.inl ⟨by rfl, ?_⟩) HS7.out ?_
      · (intro w' hSw; go_simp)
      simp only [Act.put, List.setIfInBounds_toArray, List.set_cons_zero, List.set_cons_succ]
      refine wpAnyH_ready (rs := [12]) (by kernel_rfl) (by simp) (AllReadyH.cons (o := { dst := none, op := Op.store 28 (Operand.tmp 81) (Operand.tmp 78), type := 0, pos := "builder.go:108", after := #[{ on := 11, ground := Ground.data }, { on := 8, ground := Ground.data }, { on := 8, ground := Ground.chain }, { on := 0, ground := Ground.phase }, { on := 1, ground := Ground.phase }, { on := 2, ground := Ground.phase }, { on := 3, ground := Ground.phase }, { on := 4, ground := Ground.phase }, { on := 5, ground := Ground.phase }, { on := 6, ground := Ground.phase }, { on := 7, ground := Ground.phase }, { on := 8, ground := Ground.phase }], guard := none }) rfl (fun K hK => ?_) AllReadyH.nil)
      have y1 := HW7.out.2.1
      have y2 := HW7.out.2.2
      go_simp
      clear y1 y2
      refine hK.out _ _ (HGA2.out _ _ HS7.out) (fun _ => ?_)
      clear hK K
      try simp only [Act.put, List.setIfInBounds_toArray, List.set_cons_zero, List.set_cons_succ]
      refine wpAnyH_done (by kernel_rfl) ?_ _
      refine NoPanic.normal ?_
      go_wp2_with (fail)
      go_ret
      exact ⟨rfl, _, ⟨HW7.out.1.tab, HF5.out.trans HW7.out.1.fr, fun q hq => (HW7.out.1.new q hq).imp id (Nat.le_trans HF5.out.size)⟩⟩
    -- END A
end
end Go.Proofs.Ytbcabnbgkicfdaa
