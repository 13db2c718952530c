/- What is proved: possible of bitvec's tables: whether a table could have a node. -/
import Derived.Test.YtjgkcicgjnjepaaDoorBvVald
set_option linter.unusedVariables false
namespace Go.Proofs.YtjgkcicgjnjepaaDoor
open Go.RowKit Go.Maps

/-- an argument of a node, and of which sort it must be -/
def Tm.arg (x : Tm) (k : Nat) : Int := if k = 0 then x.a else if k = 1 then x.b else x.c
def agX (o k : Nat) : Int := if k = 0 then agA o else if k = 1 then agB o else agC o
/-- the node with its first k arguments only -/
def usT (x : Tm) (k : Nat) : Tm := ⟨x.op, x.v, if 0 < k then x.a else 0, if 1 < k then x.b else 0, if 2 < k then x.c else 0⟩
theorem TBox.arg {w : World} {b : Nat} {x : Tm} (h : TBox w b x) {k : Nat} (hk : k < 3) : w.cell? ⟨b, 2 + k, none⟩ = some (.int .i64 (x.arg k)) := by
  have : k = 0 ∨ k = 1 ∨ k = 2 := by omega
  rcases this with rfl | rfl | rfl
  · exact h.cells.2.2.1
  · exact h.cells.2.2.2.1
  · exact h.cells.2.2.2.2
theorem us_arg (x : Tm) {k : Nat} (hk : k < 3) : (usT x k).arg k = 0 := by
  have : k = 0 ∨ k = 1 ∨ k = 2 := by omega
  rcases this with rfl | rfl | rfl <;> simp [usT, Tm.arg]
theorem us_ok {x : Tm} (h : TmOk x) (k : Nat) : TmOk (usT x k) := by
  have h0 : I64o 0 := by unfold I64o; decide
  refine ⟨h.op, h.v, ?_, ?_, ?_⟩
  · unfold usT; dsimp only; split; exact h.a; exact h0
  · unfold usT; dsimp only; split; exact h.b; exact h0
  · unfold usT; dsimp only; split; exact h.c; exact h0
theorem us_put {w : World} {b : Nat} {x : Tm} {k : Nat} (hk : k < 3) (h : TBox w b (usT x k)) : TBox (w.setCell ⟨b, 2 + k, none⟩ (.int .i64 (x.arg k))) b (usT x (k + 1)) := by
  unfold TBox at h ⊢
  rw [hset h]
  have : k = 0 ∨ k = 1 ∨ k = 2 := by omega
  rcases this with rfl | rfl | rfl <;> simp [usT, Tm.arg]
theorem cnt_le (o : Nat) : cnt o ≤ 3 := by
  rcases Nat.lt_or_ge o 18 with h | h
  · have : ∀ o < 18, cnt o ≤ 3 := by decide
    exact this o h
  · unfold cnt
    rw [List.getD_eq_getElem?_getD, List.getElem?_eq_none (by simpa [cntL] using h)]
    simp
/-- the arguments that are needed are right -/
def argsUp (l : List Tm) (x : Tm) (k : Nat) : Prop := ∀ j, j < k → srtOf l (x.arg j) = some (agX x.o j)
theorem sort_is (l : List Tm) (i : Int) (s : Int) : srtOf l i = some s ↔ (nodeB l i = true ∧ sortV l i = s) := by
  unfold srtOf sortV nodeB nodeV
  by_cases h0 : i < 0
  · rw [if_pos h0]
    simp
    omega
  · rw [if_neg h0, if_neg h0]
    by_cases h1 : i.toNat < l.length
    · rw [List.getElem?_eq_getElem h1]
      have d : (decide (0 ≤ i) && decide (i < (l.length : Int))) = true := by simp; omega
      rw [d]
      simp
    · rw [List.getElem?_eq_none (by omega)]
      simp
      omega
theorem us_eq (x : Tm) (n : Nat) (hn : n ≤ 3) : decide (x = usT x n) = (decide (0 < n ∨ x.a = 0) && decide (1 < n ∨ x.b = 0) && decide (2 < n ∨ x.c = 0)) := by
  obtain ⟨op, v, a, b, c⟩ := x
  have : n = 0 ∨ n = 1 ∨ n = 2 ∨ n = 3 := by omega
  rcases this with rfl | rfl | rfl | rfl <;> simp [usT] <;> rw [Bool.eq_iff_iff] <;> simp [and_assoc]
theorem ok_args {W : Int} {l : List Tm} {x : Tm} (h1 : 0 ≤ x.op) (h2 : x.op < 18) (h3 : valOk W x = true) (h4 : argsUp l x (cnt x.o)) : okB W l x = decide (x = usT x (cnt x.o)) := by
  rw [us_eq x _ (cnt_le _)]
  unfold okB
  rw [h3, show decide (0 ≤ x.op) = true by simpa using h1, show decide (x.op < 18) = true by simpa using h2]
  simp only [Bool.true_and]
  have q : ∀ j, j < 3 → ∀ s a, a = x.arg j → s = agX x.o j → argOk l (cnt x.o) j s a = decide (j < cnt x.o ∨ a = 0) := by
    intro j hj s a ha hs
    unfold argOk
    by_cases hc : j < cnt x.o
    · rw [if_pos hc, ha, h4 j hc, hs]
      simp [hc]
    · rw [if_neg hc, Bool.eq_iff_iff]
      simp [hc]
  rw [q 0 (by omega) (agA x.o) x.a rfl rfl, q 1 (by omega) (agB x.o) x.b rfl rfl, q 2 (by omega) (agC x.o) x.c rfl rfl]
theorem ok_noarg {W : Int} {l : List Tm} {x : Tm} {j : Nat} (hj : j < cnt x.o) (h : srtOf l (x.arg j) ≠ some (agX x.o j)) : okB W l x = false := by
  have h3 := cnt_le x.o
  have e : argOk l (cnt x.o) j (agX x.o j) (x.arg j) = false := by
    unfold argOk
    rw [if_pos hj]
    simpa using h
  unfold okB
  have : j = 0 ∨ j = 1 ∨ j = 2 := by omega
  rcases this with rfl | rfl | rfl
  · rw [show argOk l (cnt x.o) 0 (agA x.o) x.a = false from e]; simp
  · rw [show argOk l (cnt x.o) 1 (agB x.o) x.b = false from e]; simp
  · rw [show argOk l (cnt x.o) 2 (agC x.o) x.c = false from e]; simp
set_option maxRecDepth 100000 in
theorem slice3 (b : Nat) (n : Nat) (hn : n ≤ 3) (w : World) : (Instr.sliceAt 44 (.pointer (some ⟨b, 2, none⟩)) none (some (.int .i64 (n : Int))) none).run Tryd.prog w = .ok (.slice (some ⟨b, 2, none⟩) n 3) w := by
  have e : Tryd.prog.arrayLen 44 = 3 := by kernel_rfl
  have h := run_sliceAt_array_h (P := Tryd.prog) (w := w) (t := 44) (a := ⟨b, 2, none⟩) Tryd.underlying44 .i64 (n : Int) (by omega) (by rw [e]; omega)
  have s : (sizeOf (Tryd.prog.elem 44)).run Tryd.prog w = .ok 1 w := by kernel_rfl
  rw [h, e, s]
  simp [slicedAt, Addr.add]
section
variable {w : World} {n₀ tb mb : Nat} {rv : Value} {W : Int} {l : List Tm}
set_option maxRecDepth 100000 in
theorem poss_out (x : Tm) (h : Tab w n₀ tb mb rv W l) (hW : ¬ (W < 2 ∨ 8 < W)) (ho : x.op < 0 ∨ 18 ≤ x.op ∨ valOk W x = false) : Calls Tryd.prog 34 #[.pointer (some ⟨tb, 0, none⟩), .agg #[.int .i64 x.op, .int .i64 x.v, .int .i64 x.a, .int .i64 x.b, .int .i64 x.c]] w fun e w' => e = .returned (.bool (okB W l x)) ∧ Below w.heap.size w w' := by
  have HO := Lib.hid (show okB W l x = false by
    unfold okB
    rcases ho with h | h | h
    · rw [show decide (0 ≤ x.op) = false by simpa using h]; rfl
    · rw [show decide (x.op < 18) = false by simpa using h]; simp
    · rw [h]; simp)
  have hb1 := (Below.refl w.heap.size w).alloc (Nat.le_refl _) (.cells #[.int .i64 x.op, .int .i64 x.v, .int .i64 x.a, .int .i64 x.b, .int .i64 x.c] 46)
  have HB1 := Lib.hid hb1
  have HV := Lib.hid (valued_any x (h.later hb1) (w64 (by omega)))
  have HIW := Lib.hid (fun w => isWidth_any W w)
  have c0 : (w.alloc (.cells #[.int .i64 x.op, .int .i64 x.v, .int .i64 x.a, .int .i64 x.b, .int .i64 x.c] 46)).cell? ⟨tb, 0, none⟩ = some (.int .i64 W) := Lib.cell_of_heap (h.later hb1).box 0
  rw [wok_yes hW] at HIW
  rw [HO.out]
  clear h hW hb1
  by_cases h0 : x.op < 0
  · have d0 : decide (x.op < 0) = true := by simpa using h0
    clear ho
    go_enter Tryd.func34, Tryd.ntmps34
    go_wp2_with (fail)
    refine (HIW.out _).mono ?_
    rintro e w1 ⟨rfl, rfl⟩
    go_wp2_with (fail)
    go_ret
    exact ⟨rfl, HB1.out⟩
  · have d0 : decide (x.op < 0) = false := by simpa using h0
    by_cases h1 : 18 ≤ x.op
    · have d1 : decide (18 ≤ x.op) = true := by simpa using h1
      clear ho
      go_enter Tryd.func34, Tryd.ntmps34
      go_wp2_with (fail)
      refine (HIW.out _).mono ?_
      rintro e w1 ⟨rfl, rfl⟩
      go_wp2_with (fail)
      go_ret
      exact ⟨rfl, HB1.out⟩
    · have d1 : decide (18 ≤ x.op) = false := by simpa using h1
      have hv : valOk W x = false := by
        rcases ho with h | h | h
        · exact absurd h h0
        · exact absurd h h1
        · exact h
      rw [hv] at HV
      clear ho hv
      go_enter Tryd.func34, Tryd.ntmps34
      go_wp2_with (fail)
      refine (HIW.out _).mono ?_
      rintro e w1 ⟨rfl, rfl⟩
      go_wp2_with (fail)
      refine HV.out.mono ?_
      rintro e w2 ⟨rfl, hb2⟩
      have HB2 := Lib.hid (HB1.out.trans (hb2.mono HB1.out.size))
      clear hb2
      go_wp2_with (fail)
      go_ret
      exact ⟨rfl, HB2.out⟩
set_option maxRecDepth 100000 in
set_option maxHeartbeats 1000000 in
theorem poss_in (x : Tm) (h : Tab w n₀ tb mb rv W l) (hx : TmOk x) (ht : TabS w) (hW : ¬ (W < 2 ∨ 8 < W)) (h0 : 0 ≤ x.op) (h1 : x.op < 18) (hv : valOk W x = true) : Calls Tryd.prog 34 #[.pointer (some ⟨tb, 0, none⟩), .agg #[.int .i64 x.op, .int .i64 x.v, .int .i64 x.a, .int .i64 x.b, .int .i64 x.c]] w fun e w' => e = .returned (.bool (okB W l x)) ∧ Below w.heap.size w w' := by
  have hb1 := (Below.refl w.heap.size w).alloc (Nat.le_refl _) (.cells #[.int .i64 x.op, .int .i64 x.v, .int .i64 x.a, .int .i64 x.b, .int .i64 x.c] 46)
  have HB1 := Lib.hid hb1
  have HV := Lib.hid (valued_any x (h.later hb1) (w64 (by omega)))
  rw [hv] at HV
  have HIW := Lib.hid (fun w => isWidth_any W w)
  rw [wok_yes hW] at HIW
  have c0 : (w.alloc (.cells #[.int .i64 x.op, .int .i64 x.v, .int .i64 x.a, .int .i64 x.b, .int .i64 x.c] 46)).cell? ⟨tb, 0, none⟩ = some (.int .i64 W) := Lib.cell_of_heap (h.later hb1).box 0
  have HH := Lib.hid h
  have HT := Lib.hid ht
  have HX := Lib.hid hx
  have HBX := Lib.hid (TBox.new w x)
  have HAR := Lib.hid (fun (j : Nat) (hj : j < cnt x.o) (he : srtOf l (x.arg j) ≠ some (agX x.o j)) => ok_noarg (W := W) hj he)
  have HOK := Lib.hid (fun (he : argsUp l x (cnt x.o)) => ok_args (W := W) h0 h1 hv he)
  have d0 : decide (x.op < 0) = false := by simpa using h0
  have d1 : decide (18 ≤ x.op) = false := by simpa using h1
  have HO := Lib.hid (show x.op = ((x.o : Nat) : Int) by unfold Tm.o; omega)
  have ho : x.o < 18 := by unfold Tm.o; omega
  clear h hb1 hW hv ht hx
  go_enter Tryd.func34, Tryd.ntmps34
  go_wp2_with (fail)
  refine (HIW.out _).mono ?_
  rintro e w1 ⟨rfl, rfl⟩
  go_wp2_with (fail)
  refine HV.out.mono ?_
  rintro e w2 ⟨rfl, hb2⟩
  have HB2 := Lib.hid (HB1.out.trans (hb2.mono HB1.out.size))
  have HBX2 := Lib.hid (HBX.out.later hb2)
  have hz : w.heap.size < w2.heap.size := hlt HBX2.out
  obtain ⟨x0, x1, x2, x3, x4⟩ := HBX2.out.cells
  obtain ⟨t0, t1, t2, t3, t4⟩ := (HT.out.later HB2.out) x.o ho
  have H1 := HO.out
  obtain ⟨o, hxo⟩ : ∃ o, o = x.o := ⟨_, rfl⟩
  have HXO := Lib.hid hxo
  rw [← hxo] at H1 t0 t1 t2 t3 t4 HAR HOK ho HO
  clear hxo
  rw [H1] at x0 h0 h1
  have HC3 := Lib.hid (cnt_le o)
  clear hb2 c0 d0 d1 h0 h1 H1
  go_upto_region 5 with fail
  have hb3 := (Below.refl w2.heap.size w2).alloc (Nat.le_refl _) (.cells #[.int .i64 (srt o), .int .i64 ((cnt o : Nat) : Int), .int .i64 (agA o), .int .i64 (agB o), .int .i64 (agC o)] 69)
  have hz3 : (w2.alloc (.cells #[.int .i64 (srt o), .int .i64 ((cnt o : Nat) : Int), .int .i64 (agA o), .int .i64 (agB o), .int .i64 (agC o)] 69)).heap.size = w2.heap.size + 1 := by simp
  have hs3 := heap_alloc_new w2 (.cells #[.int .i64 (srt o), .int .i64 ((cnt o : Nat) : Int), .int .i64 (agA o), .int .i64 (agB o), .int .i64 (agC o)] 69)
  generalize w2.alloc (.cells #[.int .i64 (srt o), .int .i64 ((cnt o : Nat) : Int), .int .i64 (agA o), .int .i64 (agB o), .int .i64 (agC o)] 69) = w3 at *
  have hb4 := (Below.refl w3.heap.size w3).alloc (Nat.le_refl _) (.cells #[.int .i64 (o : Int), .int .i64 x.v, .int .i64 0, .int .i64 0, .int .i64 0] 46)
  have hu4 := heap_alloc_new w3 (.cells #[.int .i64 (o : Int), .int .i64 x.v, .int .i64 0, .int .i64 0, .int .i64 0] 46)
  generalize w3.alloc (.cells #[.int .i64 (o : Int), .int .i64 x.v, .int .i64 0, .int .i64 0, .int .i64 0] 46) = w4 at *
  have hb34 := hb3.trans (hb4.mono (by omega))
  have HB4 := Lib.hid (HB2.out.trans (hb34.mono (by omega)))
  have HBX4 := Lib.hid (HBX2.out.later hb34)
  have HSB4 := Lib.hid ((hb4.block w2.heap.size (by omega)).trans hs3)
  have HUB4 := Lib.hid (show TBox w4 (w2.heap.size + 1) (usT x 0) by unfold TBox usT; rw [HO.out, ← hz3]; exact hu4)
  have HZ4 := Lib.hid (show w2.heap.size + 1 < w4.heap.size from hlt HUB4.out)
  have HH4 := Lib.hid (HH.out.later HB4.out)
  have HT4 := Lib.hid (HT.out.later HB4.out)
  have c5 : w4.cell? ⟨w2.heap.size, 1, none⟩ = some (.int .i64 ((cnt o : Nat) : Int)) := Lib.cell_of_heap HSB4.out 1
  have hs := slice3 w2.heap.size (cnt o) HC3.out
  have HSZ := Lib.hid hz
  generalize w2.heap.size = sb at *
  clear hb3 hb4 hb34 hz3 hs3 hu4 x0 x1 x2 x3 x4 t0 t1 t2 t3 t4 HBX HV HBX2 HB1 HB2 hz
  go_wp2_with (fail)
  go_loopw [47] (fun i wr => ∃ k : Nat, k ≤ cnt o ∧ i = .int .i64 (k : Int) ∧ Hid (argsUp l x k) ∧ Hid (TBox wr (sb + 1) (usT x k)) ∧ Hid (Below (sb + 1) w4 wr)) (fun i _ => cnt o - (intOf i).toNat)
  case atStart => exact ⟨0, Nat.zero_le _, rfl, Lib.hid (fun j hj => by omega), HUB4, Lib.hid (Below.refl _ _)⟩
  case round =>
    obtain ⟨k, hk, rfl, ha, hu, hb⟩ := hrel
    have hx1 := HSZ.out
    have HBR := Lib.hid (HB4.out.trans (hb.out.mono (by omega)))
    have hz4 := HZ4.out
    have HBXR := Lib.hid (show TBox wr w.heap.size x from (hb.out.block w.heap.size (by omega)).trans HBX4.out)
    by_cases hlt : k < cnt o
    · have hk3 : k < 3 := by have := HC3.out; omega
      have HTR := Lib.hid (HH.out.later HBR.out)
      have HSR := Lib.hid (HT.out.later HBR.out)
      have HSO := Lib.hid (sort_any (x.arg k) HTR.out HSR.out)
      have q1 := HBXR.out.arg hk3
      have q2 : wr.cell? ⟨sb, 2 + k, none⟩ = some (.int .i64 (agX o k)) := by
        have hsb := (hb.out.block sb (by omega)).trans HSB4.out
        have : k = 0 ∨ k = 1 ∨ k = 2 := by omega
        rcases this with rfl | rfl | rfl
        · exact Lib.cell_of_heap hsb 2
        · exact Lib.cell_of_heap hsb 3
        · exact Lib.cell_of_heap hsb 4
      have HAK := Lib.hid (fun he => HAR.out k hlt he)
      by_cases hs : srtOf l (x.arg k) = some (agX o k)
      · obtain ⟨s1, s2⟩ := (sort_is _ _ _).1 hs
        rw [s1, s2] at HSO
        have HAU := Lib.hid (show argsUp l x (k + 1) from fun j hj => by
          rcases Nat.lt_or_ge j k with h | h
          · exact ha.out j h
          · obtain rfl : j = k := by omega
            rw [← HXO.out]
            exact hs)
        have HPUT := Lib.hid (fun w' (h : TBox w' (sb + 1) (usT x k)) => us_put (w := w') hk3 h)
        have HUZ := Lib.hid (us_arg x hk3)
        clear hs s1 s2 HAK HBXR HTR HSR
        generalize x.arg k = y at *
        generalize agX o k = z at *
        have heq : (z == z) = true := by simp
        go_wp2_with (fail)
        refine HSO.out.mono ?_
        rintro e w5 ⟨rfl, hb5⟩
        have hbr := hb.out.trans (hb5.mono (by have := hb.out.size; omega))
        have hu5 := hu.out.later hb5
        have q3 := hbr.block w.heap.size (by omega)
        have q4 : w5.cell? ⟨w.heap.size, 2 + k, none⟩ = some (.int .i64 y) := (hb5.cell (p := ⟨w.heap.size, 2 + k, none⟩) (by have := hb.out.size; show w.heap.size < _; omega)).trans q1
        have q5 := hu5.arg hk3
        rw [HUZ.out] at q5
        have q6 := hu5.frz (2 + k)
        have HU5 := Lib.hid (HPUT.out w5 hu5)
        have HB5 := Lib.hid (hbr.setCell (p := ⟨sb + 1, 2 + k, none⟩) (Nat.le_refl _) (.int .i64 y))
        clear hbr hu5 hb5 q3 q1 q2
        go_wp2_with (fail)
        exact ⟨⟨k + 1, by omega, by go_num, HAU, HU5, HB5⟩, by simp [intOf]; omega⟩
      · have HR := Lib.hid (HAK.out hs)
        have hne : nodeB l (x.arg k) = true → sortV l (x.arg k) ≠ agX o k := fun h1 h2 => hs ((sort_is _ _ _).2 ⟨h1, h2⟩)
        clear hs HAK HBXR HTR HSR
        cases hn : nodeB l (x.arg k) with
        | false =>
          rw [hn] at HSO
          clear hne hn
          generalize x.arg k = y at *
          go_wp2_with (fail)
          refine HSO.out.mono ?_
          rintro e w5 ⟨rfl, hb5⟩
          have HB5 := Lib.hid (HBR.out.trans (hb5.mono HBR.out.size))
          clear hb5
          go_wp2_with (fail)
          go_ret
          exact ⟨by rw [HR.out]; rfl, HB5.out⟩
        | true =>
          have hne2 : (sortV l (x.arg k) == agX o k) = false := by simpa using hne hn
          rw [hn] at HSO
          clear hne hn
          generalize x.arg k = y at *
          generalize sortV l y = sv at *
          generalize agX o k = z at *
          go_wp2_with (fail)
          refine HSO.out.mono ?_
          rintro e w5 ⟨rfl, hb5⟩
          have HB5 := Lib.hid (HBR.out.trans (hb5.mono HBR.out.size))
          clear hb5
          go_wp2_with (fail)
          go_ret
          exact ⟨by rw [HR.out]; rfl, HB5.out⟩
    · obtain rfl : k = cnt o := by omega
      have HD := Lib.hid (HOK.out ha.out)
      obtain ⟨x0, x1, x2, x3, x4⟩ := HBXR.out.cells
      obtain ⟨u0, u1, u2, u3, u4⟩ := hu.out.cells
      have htu : TmOk (usT x (cnt o)) := us_ok HX.out (cnt o)
      have heq := arr_eq HX.out.a HX.out.b HX.out.c htu.a htu.b htu.c
      have HD2 := Lib.hid (show okB W l x = decide (x.a = (usT x (cnt o)).a ∧ x.b = (usT x (cnt o)).b ∧ x.c = (usT x (cnt o)).c) by
        rw [HD.out, Bool.eq_iff_iff, decide_eq_true_eq, decide_eq_true_eq]
        exact ⟨fun e => by rw [← e]; exact ⟨rfl, rfl, rfl⟩, fun ⟨e1, e2, e3⟩ => Tm.ext' rfl rfl e1 e2 e3⟩)
      have e0 : (usT x (cnt o)).op = x.op := rfl
      have e1 : (usT x (cnt o)).v = x.v := rfl
      rw [e0] at u0
      rw [e1] at u1
      clear htu hk e0 e1 HD
      generalize usT x (cnt o) = u at *
      obtain ⟨q, hq⟩ : ∃ q, decide (x.a = u.a ∧ x.b = u.b ∧ x.c = u.c) = q := ⟨_, rfl⟩
      rw [hq] at heq HD2
      clear hq
      cases q
      all_goals
        go_wp2_with (fail)
        go_ret
        exact ⟨by rw [HD2.out]; rfl, HBR.out⟩
theorem possible_any (x : Tm) (h : Tab w n₀ tb mb rv W l) (hx : TmOk x) (ht : TabS w) (hW : ¬ (W < 2 ∨ 8 < W)) : Calls Tryd.prog 34 #[.pointer (some ⟨tb, 0, none⟩), .agg #[.int .i64 x.op, .int .i64 x.v, .int .i64 x.a, .int .i64 x.b, .int .i64 x.c]] w fun e w' => e = .returned (.bool (okB W l x)) ∧ Below w.heap.size w w' := by
  by_cases ho : x.op < 0 ∨ 18 ≤ x.op ∨ valOk W x = false
  · exact poss_out x h hW ho
  · exact poss_in x h hx ht hW (by omega) (by omega) (by cases hv : valOk W x; exact absurd (.inr (.inr hv)) ho; rfl)
end
end Go.Proofs.YtjgkcicgjnjepaaDoor
