/- What is proved: the laws' isChain says true of a chain. -/
import Derived.Test.YtmamajillkajoaaCoAwake
import Derived.Test.YtmamajillkajoaaCoWay
set_option linter.unusedVariables false
namespace Go.Proofs.Ytmamajillkajoaa
open Go.RowKit Go.Shelf

/-- what the laws call a chain -/
structure IsCh (l : List Con) (ch : List Nat) (m q : Nat) (es : List Nat) (cm cq : Con) : Prop where
  form : ch = m :: (es ++ [q])
  lt : m < q
  gm : l[m]? = some cm
  gq : l[q]? = some cq
  km : cm.kind = 0
  kq : cq.kind = 0
  excl : exclB cm.mark cq.mark = true
  leads : wlk l cm.a es = some cq.a
theorem markAt_some {l : List Con} {m : Nat} {c : Con} (h : l[m]? = some c) : markAt l m = c.mark := by unfold markAt; rw [h]
theorem ChOk.isCh {l : List Con} {ch : List Nat} {m q : Nat} {es : List Nat} (h : ChOk l ch m q es) : ∃ cm cq, IsCh l ch m q es cm cq ∧ cm.a = (vertAt l m : Int) := by
  obtain ⟨_, cm, g1, k1, a1⟩ := mrk_mem h.m_in
  obtain ⟨_, cq, g2, k2, a2⟩ := mrk_mem h.q_in
  refine ⟨cm, cq, ⟨h.form, h.lt, g1, g2, by simpa using k1, by simpa using k2, ?_, ?_⟩, a1⟩
  · rw [← markAt_some g1, ← markAt_some g2]; exact h.excl
  · rw [a1, a2]; exact h.leads
theorem wlk_step {l : List Con} {a b : Int} {i : Nat} {is : List Nat} (h : wlk l a (i :: is) = some b) : ∃ c, l[i]? = some c ∧ c.kind = 1 ∧ ((c.a = a ∧ wlk l c.b is = some b) ∨ (c.a ≠ a ∧ c.b = a ∧ wlk l c.a is = some b)) := by
  rw [wlk] at h
  cases hc : l[i]? with
  | none => rw [hc] at h; cases h
  | some c =>
    rw [hc] at h
    dsimp only at h
    cases h1 : (c.kind == 1) with
    | false => rw [h1] at h; cases h
    | true =>
      rw [h1, if_pos rfl] at h
      refine ⟨c, rfl, by simpa using h1, ?_⟩
      cases h2 : (c.a == a) with
      | true =>
        rw [h2, if_pos rfl] at h
        exact .inl ⟨by simpa using h2, h⟩
      | false =>
        rw [h2, if_neg (by decide)] at h
        cases h3 : (c.b == a) with
        | true =>
          rw [h3, if_pos rfl] at h
          exact .inr ⟨by simpa using h2, by simpa using h3, h⟩
        | false => rw [h3] at h; cases h
theorem wlk_lt {l : List Con} : ∀ {is : List Nat} {a b : Int}, wlk l a is = some b → ∀ i ∈ is, i < l.length
  | [], _, _, _, i, hi => by simp at hi
  | j :: js, a, b, h, i, hi => by
    obtain ⟨c, h1, _, h2⟩ := wlk_step h
    rcases List.mem_cons.1 hi with rfl | hi
    · exact (List.getElem?_eq_some_iff.1 h1).1
    · rcases h2 with ⟨_, h2⟩ | ⟨_, _, h2⟩ <;> exact wlk_lt h2 i hi
theorem IsCh.lts {l : List Con} {ch : List Nat} {m q : Nat} {es : List Nat} {cm cq : Con} (h : IsCh l ch m q es cm cq) : ∀ i ∈ ch, i < l.length := fun i hi => by
  rw [h.form] at hi
  rcases List.mem_cons.1 hi with rfl | hi
  · exact (List.getElem?_eq_some_iff.1 h.gm).1
  · rcases List.mem_append.1 hi with hi | hi
    · exact wlk_lt h.leads i hi
    · have : i = q := by simpa using hi
      rw [this]; exact (List.getElem?_eq_some_iff.1 h.gq).1

/-- a constraint in a variable of its own -/
abbrev cBox (x : Con) : Obj := .cells #[.int .i64 x.kind, .int .i64 x.a, .int .i64 x.b, .int .i64 x.mark.kind, .int .i64 x.mark.len, .string x.mark.nm, .int .i64 x.lo, .int .i64 x.hi] 36
theorem CRow.get {n₀ : Nat} {w : World} {b off : Nat} {l : List Con} (h : CRow n₀ w (some ⟨b, off, none⟩) l) {i : Nat} {c : Con} (hi : l[i]? = some c) : CCells w b (off + i * 8) c := by
  obtain ⟨hlt, rfl⟩ := List.getElem?_eq_some_iff.1 hi
  obtain ⟨b', off', e, _, hc⟩ := h (by omega)
  cases e
  exact hc i hlt

theorem two_boxes (W1 : World) (x y : Con) : ∃ W5, W5 = ((W1.alloc (cBox x)).alloc (cBox y)).drew ∧ W5.heap[W1.heap.size]? = some (.cells #[.int .i64 x.kind, .int .i64 x.a, .int .i64 x.b, .int .i64 x.mark.kind, .int .i64 x.mark.len, .string x.mark.nm, .int .i64 x.lo, .int .i64 x.hi] 36 (0, 0)) ∧ W5.heap[W1.heap.size + 1]? = some (.cells #[.int .i64 y.kind, .int .i64 y.a, .int .i64 y.b, .int .i64 y.mark.kind, .int .i64 y.mark.len, .string y.mark.nm, .int .i64 y.lo, .int .i64 y.hi] 36 (0, 0)) := by
  refine ⟨_, rfl, ?_, ?_⟩
  · exact (heap_alloc_old (W1.alloc (cBox x)) (cBox y) (by simp)).trans (heap_alloc_new W1 (cBox x))
  · have h := heap_alloc_new (W1.alloc (cBox x)) (cBox y)
    rw [World.size_alloc] at h
    exact h
abbrev zBox : Obj := .cells #[.int .i64 0, .int .i64 0, .int .i64 0, .int .i64 0, .int .i64 0, .string ⟨#[]⟩, .int .i64 0, .int .i64 0] 36
set_option maxRecDepth 100000 in
set_option maxHeartbeats 1000000 in
theorem isChain_any (b off c : Nat) (l : List Con) (xb xo cc : Nat) (ch : List Nat) (m q : Nat) (es : List Nat) (cm cq : Con) (hC : IsCh l ch m q es cm cq) (w : World) (hlen : l.length ≤ 1000000) (hch : es.length ≤ 1000000) (hcap : es.length + 2 ≤ cc) (hr : CRow w.heap.size w (some ⟨b, off, none⟩) l) (hx : IRow w.heap.size w (some ⟨xb, xo, none⟩) ch) :
    Calls Try.prog 13 #[.slice (some ⟨b, off, none⟩) l.length c, .slice (some ⟨xb, xo, none⟩) (es.length + 2) cc] w fun e w' => e = .returned (.bool true) ∧ Below w.heap.size w w' := by
  obtain ⟨k, hk⟩ : ∃ k, es.length = k := ⟨_, rfl⟩
  have hchl : ch.length = k + 2 := by rw [hC.form]; simp [hk]
  rw [hk]
  rw [hk] at hch hcap
  obtain ⟨xb', xo', e, hxlt, hxc⟩ := hx (by omega)
  cases e
  have c0 : w.cell? ⟨xb, xo, none⟩ = some (.int .i64 (m : Int)) := by
    have h := hxc 0 (by omega)
    simp only [hC.form, List.getElem_cons_zero] at h
    exact h
  have cL : w.cell? ⟨xb, xo + (k + 1), none⟩ = some (.int .i64 (q : Int)) := by
    have h := hxc (k + 1) (by omega)
    have e : ch[k + 1]? = some q := by rw [hC.form]; simp [← hk]
    rw [List.getElem?_eq_getElem (by omega)] at e
    rw [Option.some.inj e] at h
    exact h
  have HLT := Lib.hid hC.lts
  have HXC := Lib.hid hxc
  have HCH := Lib.hid hC
  have HR := Lib.hid hr
  have hmq : ¬ ((q : Int) ≤ (m : Int)) := by have := hC.lt; omega
  have hmq2 : ¬ (q ≤ m) := by have := hC.lt; omega
  have hd2 : decide ((k : Int) + 2 < 2) = false := by simp; omega
  have hi1 : (k : Int) + 2 - 1 = ((k + 1 : Nat) : Int) := by omega
  clear hxc hC hr hx
  go_enter Try.func13, Try.ntmps13
  go_wp2_with (fail)
  go_quiet (fail)
  go_wp2_with (fail)
  clear cL c0 hd2 hi1
  go_loopw [30] (fun i wr => ∃ j : Nat, j ≤ k + 2 ∧ i = .int .i64 (j : Int) ∧ wr = w.drewN nq) (fun i _ => k + 2 - (intOf i).toNat)
  case atStart => exact ⟨0, Nat.zero_le _, rfl, rfl⟩
  case round =>
    obtain ⟨j, hj, rfl, rfl⟩ := hrel
    by_cases hlt : j < k + 2
    · have r1 := HXC.out j (by omega)
      have r2 := HLT.out ch[j] (List.getElem_mem _)
      generalize ch[j] = x at *
      have r3 : ¬ (l.length ≤ x) := by omega
      have r4 : ¬ ((l.length : Int) ≤ (x : Int)) := by omega
      have r5 : ¬ ((x : Int) < 0) := by omega
      go_wp2_with (fail)
      exact ⟨⟨j + 1, by omega, by go_num, by first | rfl | trivial⟩, by simp [intOf]; omega⟩
    · obtain rfl : j = k + 2 := by omega
      have hCm := HR.out.get HCH.out.gm
      have hCq := HR.out.get HCH.out.gq
      have r0 := HXC.out 0 (by omega)
      have rL := HXC.out (k + 1) (by omega)
      have e0 : ch[0]? = some m := by rw [HCH.out.form]; rfl
      have eL : ch[k + 1]? = some q := by rw [HCH.out.form]; simp [← hk]
      rw [List.getElem?_eq_getElem (by omega)] at e0 eL
      rw [Option.some.inj e0, Nat.add_zero] at r0
      rw [Option.some.inj eL] at rL
      have hi1 : (k : Int) + 2 - 1 = ((k + 1 : Nat) : Int) := by omega
      have hml := HLT.out m (by rw [HCH.out.form]; simp)
      have hql := HLT.out q (by rw [HCH.out.form]; simp)
      clear e0 eL hlt hj
      obtain ⟨W1, hW1⟩ : ∃ W1, w.drewN nq = W1 := ⟨_, rfl⟩
      have hbW : Below w.heap.size w W1 := by rw [← hW1]; exact drewN_below w nq
      have hbA : ∀ o1 o2 : Obj, Below w.heap.size w ((W1.alloc o1).alloc o2) := fun o1 o2 => (hbW.alloc hbW.size o1).alloc (by rw [World.size_alloc]; have := hbW.size; show _ ≤ W1.heap.size + 1; omega) o2
      obtain ⟨_, _, _, hbl, _⟩ := HR.out (by omega)
      cases ‹some _ = some _›
      have hb1 : ∀ o1 : Obj, Below w.heap.size w (W1.alloc o1) := fun o1 => hbW.alloc hbW.size o1
      obtain ⟨a0_0, a1_0, a2_0, a3_0, a4_0, a5_0, a6_0, a7_0⟩ := hCm.below hbW hbl
      obtain ⟨b0_0, b1_0, b2_0, b3_0, b4_0, b5_0, b6_0, b7_0⟩ := hCq.below hbW hbl
      have rL0 := (hbW.cell (p := ⟨xb, xo + (k + 1), none⟩) hxlt).trans rL
      have r00 := (hbW.cell (p := ⟨xb, xo, none⟩) hxlt).trans r0
      obtain ⟨a0_1, a1_1, a2_1, a3_1, a4_1, a5_1, a6_1, a7_1⟩ := hCm.below (hb1 zBox) hbl
      obtain ⟨b0_1, b1_1, b2_1, b3_1, b4_1, b5_1, b6_1, b7_1⟩ := hCq.below (hb1 zBox) hbl
      have rL1 := ((hb1 zBox).cell (p := ⟨xb, xo + (k + 1), none⟩) hxlt).trans rL
      have r01 := ((hb1 zBox).cell (p := ⟨xb, xo, none⟩) hxlt).trans r0
      obtain ⟨a0_2, a1_2, a2_2, a3_2, a4_2, a5_2, a6_2, a7_2⟩ := hCm.below (hb1 (cBox cm)) hbl
      obtain ⟨b0_2, b1_2, b2_2, b3_2, b4_2, b5_2, b6_2, b7_2⟩ := hCq.below (hb1 (cBox cm)) hbl
      have rL2 := ((hb1 (cBox cm)).cell (p := ⟨xb, xo + (k + 1), none⟩) hxlt).trans rL
      have r02 := ((hb1 (cBox cm)).cell (p := ⟨xb, xo, none⟩) hxlt).trans r0
      obtain ⟨a0_3, a1_3, a2_3, a3_3, a4_3, a5_3, a6_3, a7_3⟩ := hCm.below (hb1 (cBox cq)) hbl
      obtain ⟨b0_3, b1_3, b2_3, b3_3, b4_3, b5_3, b6_3, b7_3⟩ := hCq.below (hb1 (cBox cq)) hbl
      have rL3 := ((hb1 (cBox cq)).cell (p := ⟨xb, xo + (k + 1), none⟩) hxlt).trans rL
      have r03 := ((hb1 (cBox cq)).cell (p := ⟨xb, xo, none⟩) hxlt).trans r0
      obtain ⟨a0_4, a1_4, a2_4, a3_4, a4_4, a5_4, a6_4, a7_4⟩ := hCm.below (hbA zBox zBox) hbl
      obtain ⟨b0_4, b1_4, b2_4, b3_4, b4_4, b5_4, b6_4, b7_4⟩ := hCq.below (hbA zBox zBox) hbl
      have rL4 := ((hbA zBox zBox).cell (p := ⟨xb, xo + (k + 1), none⟩) hxlt).trans rL
      have r04 := ((hbA zBox zBox).cell (p := ⟨xb, xo, none⟩) hxlt).trans r0
      obtain ⟨a0_5, a1_5, a2_5, a3_5, a4_5, a5_5, a6_5, a7_5⟩ := hCm.below (hbA zBox (cBox cm)) hbl
      obtain ⟨b0_5, b1_5, b2_5, b3_5, b4_5, b5_5, b6_5, b7_5⟩ := hCq.below (hbA zBox (cBox cm)) hbl
      have rL5 := ((hbA zBox (cBox cm)).cell (p := ⟨xb, xo + (k + 1), none⟩) hxlt).trans rL
      have r05 := ((hbA zBox (cBox cm)).cell (p := ⟨xb, xo, none⟩) hxlt).trans r0
      obtain ⟨a0_6, a1_6, a2_6, a3_6, a4_6, a5_6, a6_6, a7_6⟩ := hCm.below (hbA (cBox cm) zBox) hbl
      obtain ⟨b0_6, b1_6, b2_6, b3_6, b4_6, b5_6, b6_6, b7_6⟩ := hCq.below (hbA (cBox cm) zBox) hbl
      have rL6 := ((hbA (cBox cm) zBox).cell (p := ⟨xb, xo + (k + 1), none⟩) hxlt).trans rL
      have r06 := ((hbA (cBox cm) zBox).cell (p := ⟨xb, xo, none⟩) hxlt).trans r0
      obtain ⟨a0_7, a1_7, a2_7, a3_7, a4_7, a5_7, a6_7, a7_7⟩ := hCm.below (hbA zBox (cBox cq)) hbl
      obtain ⟨b0_7, b1_7, b2_7, b3_7, b4_7, b5_7, b6_7, b7_7⟩ := hCq.below (hbA zBox (cBox cq)) hbl
      have rL7 := ((hbA zBox (cBox cq)).cell (p := ⟨xb, xo + (k + 1), none⟩) hxlt).trans rL
      have r07 := ((hbA zBox (cBox cq)).cell (p := ⟨xb, xo, none⟩) hxlt).trans r0
      obtain ⟨a0_8, a1_8, a2_8, a3_8, a4_8, a5_8, a6_8, a7_8⟩ := hCm.below (hbA (cBox cq) zBox) hbl
      obtain ⟨b0_8, b1_8, b2_8, b3_8, b4_8, b5_8, b6_8, b7_8⟩ := hCq.below (hbA (cBox cq) zBox) hbl
      have rL8 := ((hbA (cBox cq) zBox).cell (p := ⟨xb, xo + (k + 1), none⟩) hxlt).trans rL
      have r08 := ((hbA (cBox cq) zBox).cell (p := ⟨xb, xo, none⟩) hxlt).trans r0
      have hk2 : 0 < (k : Int) + 2 := by omega
      have HBA := Lib.hid hbA
      clear hCm hCq hbA hb1 hbW
      go_wp2_with (fail)
      clear hW1
      go_region
      all_goals
        clear a0_0 b0_0 a1_0 b1_0 a2_0 b2_0 a3_0 b3_0 a4_0 b4_0 a5_0 b5_0 a6_0 b6_0 a7_0 b7_0 a0_1 b0_1 a1_1 b1_1 a2_1 b2_1 a3_1 b3_1 a4_1 b4_1 a5_1 b5_1 a6_1 b6_1 a7_1 b7_1 a0_2 b0_2 a1_2 b1_2 a2_2 b2_2 a3_2 b3_2 a4_2 b4_2 a5_2 b5_2 a6_2 b6_2 a7_2 b7_2 a0_3 b0_3 a1_3 b1_3 a2_3 b2_3 a3_3 b3_3 a4_3 b4_3 a5_3 b5_3 a6_3 b6_3 a7_3 b7_3 a0_4 b0_4 a1_4 b1_4 a2_4 b2_4 a3_4 b3_4 a4_4 b4_4 a5_4 b5_4 a6_4 b6_4 a7_4 b7_4 a0_5 b0_5 a1_5 b1_5 a2_5 b2_5 a3_5 b3_5 a4_5 b4_5 a5_5 b5_5 a6_5 b6_5 a7_5 b7_5 a0_6 b0_6 a1_6 b1_6 a2_6 b2_6 a3_6 b3_6 a4_6 b4_6 a5_6 b5_6 a6_6 b6_6 a7_6 b7_6 a0_7 b0_7 a1_7 b1_7 a2_7 b2_7 a3_7 b3_7 a4_7 b4_7 a5_7 b5_7 a6_7 b6_7 a7_7 b7_7 a0_8 b0_8 a1_8 b1_8 a2_8 b2_8 a3_8 b3_8 a4_8 b4_8 a5_8 b5_8 a6_8 b6_8 a7_8 b7_8 rL0 r00 rL1 r01 rL2 r02 rL3 r03 rL4 r04 rL5 r05 rL6 r06 rL7 r07 rL8 r08
        have HBW := Lib.hid (HBA.out (cBox cm) (cBox cq))
        have HBW' := Lib.hid (HBA.out (cBox cq) (cBox cm))
        clear HBA
        first
          | (obtain ⟨W5, h5, hx5, hy5⟩ := two_boxes W1 cm cq
             have HB5 := Lib.hid (show Below w.heap.size w W5 by rw [h5]; exact HBW.out.drew)
             rw [← h5]
             clear h5 HBW HBW'
             generalize W1.heap.size + 1 = p8 at *
             generalize W1.heap.size = p7 at *)
          | (obtain ⟨W5, h5, hy5, hx5⟩ := two_boxes W1 cq cm
             have HB5 := Lib.hid (show Below w.heap.size w W5 by rw [h5]; exact HBW'.out.drew)
             rw [← h5]
             clear h5 HBW HBW'
             generalize W1.heap.size + 1 = p7 at *
             generalize W1.heap.size = p8 at *)
        have HX5 := Lib.hid hx5
        have HY5 := Lib.hid hy5
        have x0 := Lib.cell_of_heap hx5 0
        have x3 := Lib.cell_of_heap hx5 3
        have x4 := Lib.cell_of_heap hx5 4
        have x5 := Lib.cell_of_heap hx5 5
        have y0 := Lib.cell_of_heap hy5 0
        have y3 := Lib.cell_of_heap hy5 3
        have y4 := Lib.cell_of_heap hy5 4
        have y5 := Lib.cell_of_heap hy5 5
        have hkm := HCH.out.km
        have hkq := HCH.out.kq
        clear hx5 hy5
        go_wp2_with (fail)
        refine (r_excl_f cm.mark cq.mark true HCH.out.excl W5).mono ?_
        rintro e w6 ⟨rfl, hb6⟩
        have HB6 := Lib.hid (HB5.out.trans (hb6.mono HB5.out.size))
        have HX6 := Lib.hid ((hb6.block _ (Array.getElem?_eq_some_iff.1 HX5.out).1).trans HX5.out)
        have HY6 := Lib.hid ((hb6.block _ (Array.getElem?_eq_some_iff.1 HY5.out).1).trans HY5.out)
        clear x0 x3 x4 x5 y0 y3 y4 y5 hb6 HX5 HY5 HB5
        have x1 := Lib.cell_of_heap HX6.out 1
        have hk1c : k + 1 ≤ cc := by omega
        go_wp2_with (fail)
        have HL0 := Lib.hid (show wlk l cm.a (es.drop 0) = some cq.a from HCH.out.leads)
        clear x1 hkm hkq hk1c r0 rL hi1 hk2
        go_loopw [9, 82] (fun v i wr => ∃ (j : Nat) (a : Int), j ≤ k ∧ v = .int .i64 a ∧ i = .int .i64 (j : Int) ∧ Hid (wlk l a (es.drop j) = some cq.a) ∧ Hid (Below w6.heap.size w6 wr)) (fun _ i _ => k - (intOf i).toNat)
        case atStart => exact ⟨0, cm.a, Nat.zero_le _, rfl, rfl, HL0, Lib.hid (Below.refl _ _)⟩
        case round =>
          obtain ⟨j, a, hj, rfl, rfl, hwk, hbr⟩ := hrel
          by_cases hlt : j < k
          · have hje : j < es.length := by omega
            have hdr : es.drop j = es[j] :: es.drop (j + 1) := List.drop_eq_getElem_cons hje
            have hwk' := hwk.out
            rw [hdr] at hwk'
            obtain ⟨x, g1, g2, g3⟩ := wlk_step hwk'
            have hxl := (List.getElem?_eq_some_iff.1 g1).1
            have hxw := HB6.out.trans (hbr.out.mono HB6.out.size)
            obtain ⟨z0, z1, z2, z3, z4, z5, z6, z7⟩ := (HR.out.get g1).below hxw hbl
            have r1 := (hxw.cell (p := ⟨xb, xo + (j + 1), none⟩) hxlt).trans (HXC.out (j + 1) (by omega))
            have e1 : ch[j + 1]? = some es[j] := by
              rw [HCH.out.form, List.getElem?_cons_succ, List.getElem?_append_left hje, List.getElem?_eq_getElem hje]
            rw [List.getElem?_eq_getElem (by omega)] at e1
            rw [Option.some.inj e1, show xo + (j + 1) = xo + 1 + j by omega] at r1
            have n0 := Lib.cell_of_heap (heap_alloc_new wr (cBox x)) 0
            have n1 := Lib.cell_of_heap (heap_alloc_new wr (cBox x)) 1
            have n2 := Lib.cell_of_heap (heap_alloc_new wr (cBox x)) 2
            clear e1 hdr hwk' hwk hxw g1
            generalize es[j] = y at *
            rcases g3 with ⟨g3, g4⟩ | ⟨g3, g4, g5⟩
            · have HG := Lib.hid g4
              clear g4
              go_wp2_with (fail)
              exact ⟨⟨j + 1, x.b, by omega, rfl, by go_num, HG, Lib.hid (hbr.out.alloc hbr.out.size _)⟩, by simp [intOf]; omega⟩
            · have HG := Lib.hid g5
              clear g5
              go_wp2_with (fail)
              exact ⟨⟨j + 1, x.a, by omega, rfl, by go_num, HG, Lib.hid (hbr.out.alloc hbr.out.size _)⟩, by simp [intOf]; omega⟩
          · obtain rfl : j = k := by omega
            have hwk' := hwk.out
            rw [List.drop_eq_nil_of_le (by omega)] at hwk'
            have hae : a = cq.a := by simpa [wlk] using hwk'
            have HBF := Lib.hid (HB6.out.trans (hbr.out.mono HB6.out.size))
            have y1 := Lib.cell_of_heap ((hbr.out.block _ (Array.getElem?_eq_some_iff.1 HY6.out).1).trans HY6.out) 1
            subst hae
            clear hwk' hwk hbr
            go_wp2_with (fail)
            go_ret
            exact ⟨by simp, HBF.out⟩
end Go.Proofs.Ytmamajillkajoaa
