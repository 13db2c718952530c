/- What is proved: the reference's Make. -/
import Derived.Test.YtjgkcicgjnjepaaDoorBvRight
import Derived.Test.YtjgkcicgjnjepaaDoorBvHas
import Derived.ArgAppend
set_option linter.unusedVariables false
namespace Go.Proofs.YtjgkcicgjnjepaaDoor
open Go.RowKit Go.Maps

theorem step_append_by {P : Program} {ops : Array Oper} {o : Oper} {a : Act} {K : Act → World → Prop} {Q : Exit → Act → World → Prop} {E : Prop} {w : World} (hgd : o.guard = none) (s x : Operand) (t u : TypeId)
    (ho : o.op = .call { callee := .builtin .append, args := #[s, x], argTypes := #[t, u] }) (sv xv : Value) (hs : a.eval s = sv) (hx : a.eval x = xv) (v : Value) (w' : World)
    (hr : (Builtin.append_ #[t, u] o.type #[sv, xv]).run P w = .ok v w') (h : ∀ w2, Hid (w2 = w') → K (a.put o.dst v) w2) : if Region.wanted o (yielded ops a.tmps) = true then Oper.wp P o a w K Q else E := by
  have hw : Region.wanted o (yielded ops a.tmps) = true := by simp [Region.wanted, hgd]
  rw [if_pos hw]
  unfold Oper.wp execOp
  simp only [ho, resolve, invoke, builtin, Sem.run_bind, Sem.run_pure, Result.andThen_ok, List.map_toArray, List.map_cons, List.map_nil, hs, hx, hr]
  exact h _ (Lib.hid rfl)
/-- the cells of a row of nodes -/
theorem TRow.cells {w : World} {b off : Nat} {l : List Tm} (h : TRow w (some ⟨b, off, none⟩) l) : ∀ (j : Nat) (u : Value), (tcl l)[j]? = some u → w.cell? ⟨b, off + j, none⟩ = some u := by
  intro j u hu
  have hj : j < l.length * 5 := by
    have := (List.getElem?_eq_some_iff.1 hu).1
    rwa [tcl_len] at this
  have hi : j / 5 < l.length := by omega
  have e : j = j / 5 * 5 + j % 5 := by omega
  obtain ⟨b', off', hA, _, hc⟩ := h.at hi
  cases hA
  rw [e, tcl_get l (j / 5) hi (j % 5) (by omega)] at hu
  obtain ⟨c0, c1, c2, c3, c4⟩ := hc
  rw [e, ← Nat.add_assoc]
  have : j % 5 = 0 ∨ j % 5 = 1 ∨ j % 5 = 2 ∨ j % 5 = 3 ∨ j % 5 = 4 := by omega
  rcases this with h5 | h5 | h5 | h5 | h5 <;> rw [h5] at hu ⊢ <;> simp only [tcs, List.getElem?_cons_zero, List.getElem?_cons_succ, Option.some.injEq] at hu <;> subst hu
  · exact c0
  · exact c1
  · exact c2
  · exact c3
  · exact c4
/-- a table's nodes behind a slice with no room -/
theorem ref_append (w : World) (A : Option Addr) (l : List Tm) (x : Tm) (ad : Addr) (hr : TRow w A l) (hA : l = [] → A = none) (hl : l.length ≤ 1000) (hx : ∀ j u, (tcs x)[j]? = some u → w.cell? (ad.add j) = some u) :
    ∃ X cap w', (Builtin.append_ #[22, 22] 22 #[.slice A l.length l.length, .slice (some ad) 1 1]).run Tryd.prog w = .ok (.slice X (l.length + 1) cap) w' ∧ TRow w' X (l ++ [x]) ∧ l.length + 1 ≤ cap ∧ Below w.heap.size w w' ∧ (∀ a, X = some a → w.heap.size ≤ a.block) := by
  obtain ⟨i0, hi0, hz0, hz1, hz2⟩ := info_parts infoTm
  have key : ∃ v' w', (Builtin.append_ #[22, 22] 22 #[.slice A l.length l.length, .slice (some ad) 1 1]).run Tryd.prog w = .ok v' w' ∧ w'.ownsRow w.heap.size 46 5 v' (l.length + 1) (tcl l ++ tcs x) ∧ w.grownBy w' none := by
    by_cases h0 : l = []
    · subst h0
      rw [hA rfl]
      obtain ⟨v', w', h1, h2, h3, _⟩ := run_append_own (P := Tryd.prog) w w.heap.size 22 22 46 i0 _ 5 40 Tryd.underlying22 hi0 hz0 hz1 hz2 rfl (by decide) (.slice none 0 0) 0 [] (World.ownsRow_nil w _ _ _) ad 1 1 (tcs x) rfl hx (tcs_one x) (by unfold maxLen; omega) (by omega) (Nat.le_refl _)
      exact ⟨v', w', h1, h2, h3⟩
    · obtain ⟨b, off, rfl, _, _⟩ := hr (List.length_pos_iff.2 h0)
      exact run_append_arg_grows (P := Tryd.prog) w 22 22 46 i0 _ 5 40 Tryd.underlying22 hi0 hz0 hz1 hz2 rfl (by decide) ⟨b, off, none⟩ l.length l.length (tcl l) (tcl_len l) (fun j u hu => by rw [Addr.add_lit]; exact hr.cells j u hu) ad 1 1 (tcs x) rfl hx (by omega) (by unfold maxLen; omega) (by omega)
  obtain ⟨v', w', h1, h2, h3⟩ := key
  have h4 : TOwn w' w.heap.size v' (l ++ [x]) := by
    unfold TOwn
    rw [tcl_append, List.length_append]
    exact h2
  obtain ⟨X, cap, rfl, h5, h6, h7⟩ := h4.form
  rw [List.length_append] at h1 h5
  exact ⟨X, cap, w', h1, h6, h5, ⟨h3.os, h3.tape, h3.output, h3.size, fun k hk => h3.block k hk (by simp)⟩, fun a e => (own_block' h4 (h7 a e)).1⟩
/-- what is known of a table's slice -/
def RF (w : World) (A : Option Addr) (c : Nat) (l : List Tm) : Prop := TRow w A l ∧ l.length ≤ c ∧ (l = [] → A = none ∧ c = 0)
theorem RF.later {w w' : World} {A : Option Addr} {c : Nat} {l : List Tm} (h : RF w A c l) (hb : Below w.heap.size w w') : RF w' A c l := ⟨h.1.later hb, h.2⟩
theorem RBox.put {w : World} {b : Nat} {W : Int} {A : Option Addr} {n c : Nat} (h : RBox w b W A n c) (W' : Int) (A' : Option Addr) (n' c' : Nat) : RBox ((w.setCell ⟨b, 0, none⟩ (.int .i64 W')).setCell ⟨b, 1, none⟩ (.slice A' n' c')) b W' A' n' c' := by
  unfold RBox at *
  have h0 := hset (i := 0) h (.int .i64 W')
  have h1 := hset (i := 1) h0 (.slice A' n' c')
  rw [h1]
  rfl
theorem RBox.frz {w : World} {b : Nat} {W : Int} {A : Option Addr} {n c : Nat} (h : RBox w b W A n c) (i : Nat) : w.frozen? ⟨b, i, none⟩ = false := hfrz h i
theorem put2_below {n : Nat} {w w' : World} (h : Below n w w') {b : Nat} (hb : n ≤ b) (u v : Value) : Below n w ((w'.setCell ⟨b, 0, none⟩ u).setCell ⟨b, 1, none⟩ v) := (h.setCell (p := ⟨b, 0, none⟩) hb _).setCell (p := ⟨b, 1, none⟩) hb _
set_option maxRecDepth 100000 in
theorem slice_nn (A : Option Addr) (c n : Nat) (hn : n ≤ c) (hA : 0 < n → ∃ b off, A = some ⟨b, off, none⟩) (w : World) : (Instr.sliceAt 22 (.slice A n c) none (some (.int .i64 (n : Int))) (some (.int .i64 (n : Int)))).run Tryd.prog w = .ok (.slice A n n) w := by
  have hu : Tryd.prog.underlying 22 = some (.slice (Tryd.prog.elem 22)) := Tryd.underlying22
  have s : (sizeOf (Tryd.prog.elem 22)).run Tryd.prog w = .ok 5 w := by kernel_rfl
  rw [run_sliceAt_slice _ _ _ _ _ _ hu, run_slice_hm w 22 A n c hu .i64 .i64 (n : Int) (n : Int) (by omega) (Int.le_refl _) (by omega), s]
  simp only [Result.andThen_ok, Int.toNat_natCast, sliced, Nat.sub_zero, Nat.zero_mul]
  rcases Nat.eq_zero_or_pos n with h | h
  · subst h; simp
  · obtain ⟨b, off, rfl⟩ := hA h
    rw [if_neg (by omega)]
    simp [Addr.add]
section
variable {w : World} {W : Int} {l : List Tm}
set_option maxRecDepth 100000 in
set_option maxHeartbeats 4000000 in
theorem r_make_any (x : Tm) (A : Option Addr) (c : Nat) (hW : ¬ (W < 2 ∨ 8 < W)) (hr : RF w A c l) (hl : l.length ≤ 900) (hops : ∀ y ∈ l, 0 ≤ y.op ∧ y.op < 18) (hok : ∀ y ∈ l, TmOk y) (hx : TmOk x) : Calls Tryd.prog 23 #[.agg #[.int .i64 W, .slice A l.length c], .agg #[.int .i64 x.op, .int .i64 x.v, .int .i64 x.a, .int .i64 x.b, .int .i64 x.c]] w fun e w' => ∃ A' c', e = .returned (.tuple #[.agg #[.int .i64 W, .slice A' (mkL W l x).length c'], .int .i64 (mkN W l x), .int .i64 (mkE W l x)]) ∧ RF w' A' c' (mkL W l x) ∧ Below w.heap.size w w' ∧ (∀ a, A' = some a → A = some a ∨ w.heap.size ≤ a.block) := by
  have HB0 := Lib.hid ((((Below.refl w.heap.size w).alloc (Nat.le_refl _) (.cells #[.int .i64 W, .slice A l.length c] 29)).alloc (by simp) (.cells #[.int .i64 x.op, .int .i64 x.v, .int .i64 x.a, .int .i64 x.b, .int .i64 x.c] 46)).alloc (by simp; omega) (.cells #[.int .i64 0, .slice none 0 0] 29))
  have HR := Lib.hid hr
  have HRI := Lib.hid (fun w' (hb : Below w.heap.size w w') => right_any (w := w') (W := W) x A c hW (hr.1.later hb) (by omega) hops)
  clear hr hW
  go_enter Tryd.func23, Tryd.ntmps23
  go_upto_region 1 with fail
  have HO3 := Lib.hid (show RBox _ (w.heap.size + 1 + 1) 0 none 0 0 from by
    have := heap_alloc_new ((w.alloc (.cells #[.int .i64 W, .slice A l.length c] 29)).alloc (.cells #[.int .i64 x.op, .int .i64 x.v, .int .i64 x.a, .int .i64 x.b, .int .i64 x.c] 46)) (.cells #[.int .i64 0, .slice none 0 0] 29)
    rw [show ((w.alloc (.cells #[.int .i64 W, .slice A l.length c] 29)).alloc (.cells #[.int .i64 x.op, .int .i64 x.v, .int .i64 x.a, .int .i64 x.b, .int .i64 x.c] 46)).heap.size = w.heap.size + 1 + 1 by simp] at this
    exact this)
  have HX3 := Lib.hid (show TBox (((w.alloc (.cells #[.int .i64 W, .slice A l.length c] 29)).alloc (.cells #[.int .i64 x.op, .int .i64 x.v, .int .i64 x.a, .int .i64 x.b, .int .i64 x.c] 46)).alloc (.cells #[.int .i64 0, .slice none 0 0] 29)) (w.heap.size + 1) x from by
    have := heap_alloc_new (w.alloc (.cells #[.int .i64 W, .slice A l.length c] 29)) (.cells #[.int .i64 x.op, .int .i64 x.v, .int .i64 x.a, .int .i64 x.b, .int .i64 x.c] 46)
    rw [show (w.alloc (.cells #[.int .i64 W, .slice A l.length c] 29)).heap.size = w.heap.size + 1 by simp] at this
    exact (heap_alloc_old _ _ (by simp)).trans this)
  have HT3 := Lib.hid (show RBox (((w.alloc (.cells #[.int .i64 W, .slice A l.length c] 29)).alloc (.cells #[.int .i64 x.op, .int .i64 x.v, .int .i64 x.a, .int .i64 x.b, .int .i64 x.c] 46)).alloc (.cells #[.int .i64 0, .slice none 0 0] 29)) w.heap.size W A l.length c from (heap_alloc_old _ _ (by simp; omega)).trans ((heap_alloc_old _ _ (by simp)).trans (heap_alloc_new w _)))
  generalize ((w.alloc (.cells #[.int .i64 W, .slice A l.length c] 29)).alloc (.cells #[.int .i64 x.op, .int .i64 x.v, .int .i64 x.a, .int .i64 x.b, .int .i64 x.c] 46)).alloc (.cells #[.int .i64 0, .slice none 0 0] 29) = w3 at *
  have HD := Lib.hid (show w.heap.size ≤ w.heap.size + 1 + 1 ∧ w.heap.size ≠ w.heap.size + 1 + 1 ∧ w.heap.size + 1 ≠ w.heap.size + 1 + 1 ∧ w.heap.size + 1 ≠ w.heap.size from by omega)
  generalize w.heap.size + 1 + 1 = ob at *
  generalize w.heap.size + 1 = xb at *
  obtain ⟨tb, HTE⟩ : ∃ tb, Hid (tb = w.heap.size) := ⟨_, Lib.hid rfl⟩
  have HT3 := Lib.hid (show RBox w3 tb W A l.length c by rw [HTE.out]; exact HT3.out)
  have HOPS := Lib.hid hops
  have HOKS := Lib.hid hok
  have HXO := Lib.hid hx
  rw [← HTE.out]
  obtain ⟨r0, r1⟩ := HT3.out.cells
  obtain ⟨x0, x1, x2, x3, x4⟩ := HX3.out.cells
  clear hops hok hx
  cases hkb : okB W l x with
  | false => as_aux_lemma =>
    obtain ⟨e1, e2, e3⟩ := mk_no hkb
    have HE := Lib.hid (And.intro e1 (And.intro e2 e3))
    rw [hkb] at HRI
    clear e1 e2 e3 hkb
    go_wp2_with (fail)
    refine (HRI.out _ HB0.out).mono ?_
    rintro e w4 ⟨rfl, hb4⟩
    have HB4 := Lib.hid (HB0.out.trans (hb4.mono HB0.out.size))
    have HT4 := Lib.hid (HT3.out.later hb4)
    have HO4 := Lib.hid (HO3.out.later hb4)
    obtain ⟨q0, q1⟩ := HT4.out.cells
    obtain ⟨z0, z1⟩ := HO4.out.cells
    have f0 := HO4.out.frz 0
    have f1 := HO4.out.frz 1
    clear hb4 r0 r1 x0 x1 x2 x3 x4
    go_wp2_with (fail)
    have hq := HO4.out.put W A l.length c
    have hbq := put2_below HB4.out HD.out.1 (.int .i64 W) (.slice A l.length c)
    obtain ⟨v0, v1⟩ := hq.cells
    clear hq f0 f1 z0 z1 q0 q1
    generalize (w4.setCell ⟨ob, 0, none⟩ (.int .i64 W)).setCell ⟨ob, 1, none⟩ (.slice A l.length c) = V at *
    exact bodyPost_ret (v := .tuple #[.agg #[.int .i64 W, .slice A l.length c], .int .i64 0, .int .i64 1]) (by simp [results, Tryd.results23, go_sem, v0, v1]) rfl ⟨A, c, by rw [HE.out.1, HE.out.2.1, HE.out.2.2], by rw [HE.out.2.2]; exact HR.out.later hbq, hbq, fun a e => .inl e⟩
  | true =>
    rw [hkb] at HRI
    go_wp2_with (fail)
    refine (HRI.out _ HB0.out).mono ?_
    rintro e w4 ⟨rfl, hb4⟩
    have HB4 := Lib.hid (HB0.out.trans (hb4.mono HB0.out.size))
    have HT4 := Lib.hid (HT3.out.later hb4)
    have HO4 := Lib.hid (HO3.out.later hb4)
    have HX4 := Lib.hid (HX3.out.later hb4)
    have HR4 := Lib.hid (HR.out.later HB4.out)
    have HKB := Lib.hid hkb
    clear hb4 r0 r1 x0 x1 x2 x3 x4 hkb
    have HBR := Lib.hid (Below.refl w4.heap.size w4)
    have HNO := Lib.hid (show ∀ (k : Nat) (h : k < l.length), k < 0 → l[k] ≠ x from fun k _ h => by omega)
    go_wp2_with (fail)
    go_loopw [7] (fun v wr => ∃ (j : Nat), j ≤ l.length ∧ v = .int .i64 (j : Int) ∧ Hid (∀ (k : Nat) (h : k < l.length), k < j → l[k] ≠ x) ∧ Hid (Below w4.heap.size w4 wr)) (fun v _ => l.length - (intOf v).toNat)
    case atStart => exact ⟨0, Nat.zero_le _, rfl, HNO, HBR⟩
    case round =>
      obtain ⟨j, hj, rfl, hno, hbw⟩ := hrel
      have HBW := Lib.hid (HB4.out.trans (hbw.out.mono HB4.out.size))
      have HTW := Lib.hid (HT4.out.later hbw.out)
      have HXW := Lib.hid (HX4.out.later hbw.out)
      have HOW := Lib.hid (HO4.out.later hbw.out)
      obtain ⟨r0, r1⟩ := HTW.out.cells
      by_cases hlt : j < l.length
      · obtain ⟨b0, off, hA, _, hc0⟩ := ((HR4.out.1.later hbw.out).at hlt)
        have HY := Lib.hid (HOKS.out _ (List.getElem_mem hlt))
        have HNX := Lib.hid (fun (h : l[j] ≠ x) (k : Nat) (h2 : k < l.length) (hk : k < j + 1) => show l[k] ≠ x by
          rcases Nat.lt_or_ge k j with h1 | h1
          · exact hno.out k h2 h1
          · have : k = j := by omega
            subst this
            exact h)
        have HIX := Lib.hid (fun (h : l[j] = x) => show idx l x = some j by
          unfold idx
          rw [List.findIdx?_eq_some_iff_getElem]
          exact ⟨hlt, by simpa using h, fun k hk => by simpa using hno.out k (by omega) hk⟩)
        have hnl : ¬ l.length ≤ j := by omega
        obtain ⟨x0, x1, x2, x3, x4⟩ := HXW.out.cells
        have d0 := hc0.1
        have d1 := hc0.2.1
        have d2 := hc0.2.2.1
        have d3 := hc0.2.2.2.1
        have d4 := hc0.2.2.2.2
        generalize l[j] = y at *
        subst hA
        have har : ∀ n, (Op.equalIn 9999 44 (.agg #[.int .i64 y.a, .int .i64 y.b, .int .i64 y.c]) (.agg #[.int .i64 x.a, .int .i64 x.b, .int .i64 x.c])).run Tryd.prog (wr.drewN n) = .ok (decide (y.a = x.a ∧ y.b = x.b ∧ y.c = x.c)) (wr.drewN n) := fun n => arr_eq HY.out.a HY.out.b HY.out.c HXO.out.a HXO.out.b HXO.out.c _
        clear hc0
        by_cases h0 : y.op = x.op
        · have p0 : (y.op == x.op) = true := by simpa using h0
          by_cases h1 : y.v = x.v
          · have p1 : (y.v == x.v) = true := by simpa using h1
            by_cases h2 : y.a = x.a ∧ y.b = x.b ∧ y.c = x.c
            · rw [decide_eq_true h2] at har
              obtain ⟨e1, e2, e3⟩ := mk_old HKB.out (HIX.out (Tm.ext' h0 h1 h2.1 h2.2.1 h2.2.2))
              have HE := Lib.hid (And.intro e1 (And.intro e2 e3))
              clear h0 h1 h2 e1 e2 e3
              go_wp2_with (fail)
              go_quiet (fail)
              have HT5 := Lib.hid (HTW.out.later (drewN_below wr nq))
              have HO5 := Lib.hid (HOW.out.later (drewN_below wr nq))
              have HB5 := Lib.hid (HBW.out.trans ((drewN_below wr nq).mono HBW.out.size))
              clear har x0 x1 x2 x3 x4 d0 d1 d2 d3 d4 r0 r1
              generalize wr.drewN nq = w5 at *
              obtain ⟨q0, q1⟩ := HT5.out.cells
              obtain ⟨z0, z1⟩ := HO5.out.cells
              have f0 := HO5.out.frz 0
              have f1 := HO5.out.frz 1
              go_wp2_with (fail)
              have hq := HO5.out.put W (some ⟨b0, off, none⟩) l.length c
              have hbq := put2_below HB5.out HD.out.1 (.int .i64 W) (.slice (some ⟨b0, off, none⟩) l.length c)
              obtain ⟨v0, v1⟩ := hq.cells
              clear hq f0 f1 z0 z1 q0 q1
              generalize (w5.setCell ⟨ob, 0, none⟩ (.int .i64 W)).setCell ⟨ob, 1, none⟩ (.slice (some ⟨b0, off, none⟩) l.length c) = V at *
              exact bodyPost_ret (v := .tuple #[.agg #[.int .i64 W, .slice (some ⟨b0, off, none⟩) l.length c], .int .i64 (j : Int), .int .i64 0]) (by simp [results, Tryd.results23, go_sem, v0, v1]) rfl ⟨_, c, by rw [HE.out.1, HE.out.2.1, HE.out.2.2], by rw [HE.out.2.2]; exact HR.out.later hbq, hbq, fun a e => .inl e⟩
            · rw [decide_eq_false h2] at har
              have HN2 := Lib.hid (HNX.out (fun e => h2 (by rw [e]; exact ⟨rfl, rfl, rfl⟩)))
              clear h0 h1 h2
              go_wp2_with (fail)
              go_quiet (fail)
              go_wp2_with (fail)
              exact ⟨⟨j + 1, by omega, by go_num, HN2, Lib.hid (hbw.out.trans ((drewN_below wr nq).mono hbw.out.size))⟩, by simp [intOf]; omega⟩
          · have p1 : (y.v == x.v) = false := by simpa using h1
            have HN2 := Lib.hid (HNX.out (fun e => h1 (by rw [e])))
            clear h0 h1 har
            go_wp2_with (fail)
            go_quiet (fail)
            go_wp2_with (fail)
            exact ⟨⟨j + 1, by omega, by go_num, HN2, Lib.hid (hbw.out.trans ((drewN_below wr nq).mono hbw.out.size))⟩, by simp [intOf]; omega⟩
        · have p0 : (y.op == x.op) = false := by simpa using h0
          have HN2 := Lib.hid (HNX.out (fun e => h0 (by rw [e])))
          clear h0 har
          go_wp2_with (fail)
          go_quiet (fail)
          go_wp2_with (fail)
          exact ⟨⟨j + 1, by omega, by go_num, HN2, Lib.hid (hbw.out.trans ((drewN_below wr nq).mono hbw.out.size))⟩, by simp [intOf]; omega⟩
      · obtain rfl : j = l.length := by omega
        have HIN := Lib.hid (show idx l x = none from idx_not fun hm => by
          obtain ⟨k, hk, e⟩ := List.getElem_of_mem hm
          exact hno.out k hk hk e)
        obtain ⟨e1, e2, e3⟩ := mk_new HKB.out HIN.out
        have HE := Lib.hid (And.intro e1 (And.intro e2 e3))
        have dbig : decide (16384 ≤ (l.length : Int)) = false := by simp; omega
        have dbig2 : ¬ 16384 ≤ l.length := by omega
        clear e1 e2 e3
        go_upto_region 10 with fail
        have hsl := slice_nn A c l.length HR.out.2.1 (fun h => by obtain ⟨b, off, h1, _⟩ := HR.out.1 h; exact ⟨b, off, h1⟩)
        have HAL := Lib.hid ((Below.refl wr.heap.size wr).alloc (Nat.le_refl _) (.cells #[.int .i64 x.op, .int .i64 x.v, .int .i64 x.a, .int .i64 x.b, .int .i64 x.c] 46))
        obtain ⟨X, cap, w9, hrun, hrow, hcap, hb9, hXb⟩ := ref_append (wr.alloc (.cells #[.int .i64 x.op, .int .i64 x.v, .int .i64 x.a, .int .i64 x.b, .int .i64 x.c] 46)).drew A l x ⟨wr.heap.size, 0, none⟩ ((HR.out.later HBW.out).1.later HAL.out.drew) (fun h => (HR.out.2.2 h).1) (by omega) (World.news_of_block (cs := #[.int .i64 x.op, .int .i64 x.v, .int .i64 x.a, .int .i64 x.b, .int .i64 x.c]) (heap_alloc_new wr _))
        have HRUN := Lib.hid hrun
        have HXN := Lib.hid (show ∀ a, X = some a → w.heap.size ≤ a.block from fun a e => by
          have h1 := hXb a e
          have h2 := HBW.out.size
          have h3 : (wr.alloc (.cells #[.int .i64 x.op, .int .i64 x.v, .int .i64 x.a, .int .i64 x.b, .int .i64 x.c] 46)).drew.heap.size = wr.heap.size + 1 := by show (wr.alloc (.cells #[.int .i64 x.op, .int .i64 x.v, .int .i64 x.a, .int .i64 x.b, .int .i64 x.c] 46)).heap.size = _; simp
          omega)
        have HXB := Lib.hid (show ∀ a, X = some a → a.block ≠ ob from fun a e => by
          have h1 := hXb a e
          have h2 : ob < wr.heap.size := Go.Proofs.YtjgkcicgjnjepaaDoor.hlt HOW.out
          have h3 : (wr.alloc (.cells #[.int .i64 x.op, .int .i64 x.v, .int .i64 x.a, .int .i64 x.b, .int .i64 x.c] 46)).drew.heap.size = wr.heap.size + 1 := by show (wr.alloc (.cells #[.int .i64 x.op, .int .i64 x.v, .int .i64 x.a, .int .i64 x.b, .int .i64 x.c] 46)).heap.size = _; simp
          omega)
        have HROWX := Lib.hid (show TRow (w9.setCell ⟨tb, 1, none⟩ (.slice X (l.length + 1) cap)) X (l ++ [x]) from hrow.stays (by simp) (fun a e _ => hfar (p := ⟨tb, 1, none⟩) (by
          have h1 := hXb a e
          have h2 : tb < wr.heap.size := Go.Proofs.YtjgkcicgjnjepaaDoor.hlt HTW.out
          have h3 : (wr.alloc (.cells #[.int .i64 x.op, .int .i64 x.v, .int .i64 x.a, .int .i64 x.b, .int .i64 x.c] 46)).drew.heap.size = wr.heap.size + 1 := by show (wr.alloc (.cells #[.int .i64 x.op, .int .i64 x.v, .int .i64 x.a, .int .i64 x.b, .int .i64 x.c] 46)).heap.size = _; simp
          show a.block ≠ tb
          omega) _))
        have HROW := Lib.hid hrow
        have HCAP := Lib.hid hcap
        have HB9 := Lib.hid (show Below wr.heap.size wr w9 from HAL.out.drew.trans (hb9.mono HAL.out.drew.size))
        have HG := Lib.hid (fun w10 (h : Hid (w10 = w9)) => show w10.cell? ⟨tb, 1, none⟩ = some (.slice A l.length c) ∧ w10.frozen? ⟨tb, 1, none⟩ = false from by
          rw [h.out]
          exact ⟨(HTW.out.later HB9.out).cells.2, (HTW.out.later HB9.out).frz 1⟩)
        obtain ⟨x0, x1, x2, x3, x4⟩ := HXW.out.cells
        have ca1 := (HTW.out.later HAL.out).cells.2
        obtain ⟨y5, y6, y7, y8, y9⟩ := (HXW.out.later HAL.out).cells
        clear hrun hrow hcap hb9 hXb
        have HXT := Lib.hid (show xb ≠ tb by rw [HTE.out]; exact HD.out.2.2.2)
        have HK0 := Lib.hid HXW.out.cells
        have HK1 := Lib.hid (HXW.out.later HAL.out).cells
        have HKG := Lib.hid (fun w10 (h : Hid (w10 = w9)) => show TBox w10 xb x ∧ ∀ v, TBox (w10.setCell ⟨tb, 1, none⟩ v) xb x from by
          rw [h.out]
          exact ⟨HXW.out.later HB9.out, fun v => (hfar (p := ⟨tb, 1, none⟩) HXT.out v).trans (HXW.out.later HB9.out)⟩)
        clear hsl ca1 y5 y6 y7 y8 y9
        have hsl := slice_nn A c l.length HR.out.2.1 (fun h => by obtain ⟨b, off, h1, _⟩ := HR.out.1 h; exact ⟨b, off, h1⟩)
        have ca1 := (HTW.out.later HAL.out).cells.2
        have HFI := Lib.hid (show RBox (w9.setCell ⟨tb, 1, none⟩ (.slice X (l.length + 1) cap)) tb W X (l.length + 1) cap ∧ RBox (w9.setCell ⟨tb, 1, none⟩ (.slice X (l.length + 1) cap)) ob 0 none 0 0 ∧ RF (w9.setCell ⟨tb, 1, none⟩ (.slice X (l.length + 1) cap)) X cap (l ++ [x]) ∧ Below w.heap.size w (w9.setCell ⟨tb, 1, none⟩ (.slice X (l.length + 1) cap)) from by
          have hB9 := HBW.out.trans (HB9.out.mono HBW.out.size)
          refine ⟨?_, (hfar (p := ⟨tb, 1, none⟩) (show ob ≠ tb by rw [HTE.out]; exact Ne.symm HD.out.2.1) _).trans (HOW.out.later HB9.out), ⟨HROWX.out, by rw [List.length_append]; exact HCAP.out, fun h => by simp at h⟩, hB9.setCell (p := ⟨tb, 1, none⟩) (by rw [HTE.out]; exact Nat.le_refl _) _⟩
          unfold RBox
          rw [hset (i := 1) (HTW.out.later HB9.out)]
          rfl)
        have HEND := Lib.hid (fun w10 (h : Hid (w10 = w9)) => show RBox (w10.setCell ⟨tb, 1, none⟩ (.slice X (l.length + 1) cap)) tb W X (l.length + 1) cap ∧ RBox (w10.setCell ⟨tb, 1, none⟩ (.slice X (l.length + 1) cap)) ob 0 none 0 0 ∧ RF (w10.setCell ⟨tb, 1, none⟩ (.slice X (l.length + 1) cap)) X cap (l ++ [x]) ∧ Below w.heap.size w (w10.setCell ⟨tb, 1, none⟩ (.slice X (l.length + 1) cap)) from by
          rw [h.out]
          exact HFI.out)
        go_cut [7] (fun s7 wx => s7 = .int .i64 (l.length : Int) ∧ Hid (RBox wx tb W X (l.length + 1) cap) ∧ Hid (RBox wx ob 0 none 0 0) ∧ Hid (RF wx X cap (l ++ [x])) ∧ Hid (Below w.heap.size w wx))
        case first =>
          refine wp_region_held_drew (S := fun w' => w'.cell? ⟨xb, 0, none⟩ = some (.int .i64 x.op) ∧ w'.cell? ⟨xb, 1, none⟩ = some (.int .i64 x.v) ∧ w'.cell? ⟨xb, 2, none⟩ = some (.int .i64 x.a) ∧ w'.cell? ⟨xb, 3, none⟩ = some (.int .i64 x.b) ∧ w'.cell? ⟨xb, 4, none⟩ = some (.int .i64 x.c)) (by kernel_rfl) HK0.out (fun _ => ?_)
          refine wpAnyH_take (i := 0) (oi := { dst := some 34, op := Op.fieldAddr 29 (Operand.tmp 2) 1, type := 0, pos := "ref.go:109", after := #[], guard := none }) (v := .pointer (some ⟨tb, 1, none⟩)) rfl (by kernel_rfl) (by kernel_rfl) (by kernel_rfl) (fun _ _ _ h => h) (Or.inl ⟨by rfl, ?_⟩) HK0.out ?_
          · (intro w' hSw; go_simp)
          simp only [Act.put, List.setIfInBounds_toArray, List.set_cons_zero, List.set_cons_succ]
          refine wpAnyH_take (i := 2) (oi := { dst := some 36, op := Op.fieldAddr 29 (Operand.tmp 2) 1, type := 0, pos := "ref.go:109", after := #[], guard := none }) (v := .pointer (some ⟨tb, 1, none⟩)) rfl (by kernel_rfl) (by kernel_rfl) (by kernel_rfl) (fun _ _ _ h => h) (Or.inl ⟨by rfl, ?_⟩) HK0.out ?_
          · (intro w' hSw; go_simp)
          simp only [Act.put, List.setIfInBounds_toArray, List.set_cons_zero, List.set_cons_succ]
          refine wpAnyH_take (i := 5) (oi := { dst := some 39, op := Op.fieldAddr 29 (Operand.tmp 2) 1, type := 0, pos := "ref.go:109", after := #[], guard := none }) (v := .pointer (some ⟨tb, 1, none⟩)) rfl (by kernel_rfl) (by kernel_rfl) (by kernel_rfl) (fun _ _ _ h => h) (Or.inl ⟨by rfl, ?_⟩) HK0.out ?_
          · (intro w' hSw; go_simp)
          simp only [Act.put, List.setIfInBounds_toArray, List.set_cons_zero, List.set_cons_succ]
          refine wpAnyH_take (i := 9) (oi := { dst := some 43, op := Op.load 46 (Operand.tmp 3), type := 46, pos := "ref.go:109", after := #[], guard := none }) (v := .agg #[.int .i64 x.op, .int .i64 x.v, .int .i64 x.a, .int .i64 x.b, .int .i64 x.c]) rfl (by kernel_rfl) (by kernel_rfl) (by kernel_rfl) (fun _ _ _ h => h) (Or.inl ⟨by rfl, ?_⟩) HK0.out ?_
          · (intro w' hSw; obtain ⟨z0, z1, z2, z3, z4⟩ := hSw; go_simp)
          simp only [Act.put, List.setIfInBounds_toArray, List.set_cons_zero, List.set_cons_succ]
          refine wpAnyH_ready (rs := [1, 3, 6, 10]) (by kernel_rfl) (by simp) (AllReadyH.cons (o := { dst := some 35, op := Op.load 22 (Operand.tmp 34), type := 22, pos := "ref.go:109", after := #[{ on := 0, ground := Ground.data }], guard := none }) rfl (fun K hK => ?_) (AllReadyH.cons (o := { dst := some 37, op := Op.load 22 (Operand.tmp 36), type := 22, pos := "ref.go:109", after := #[{ on := 2, ground := Ground.data }], guard := none }) rfl (fun K hK => ?_) (AllReadyH.cons (o := { dst := some 40, op := Op.load 22 (Operand.tmp 39), type := 22, pos := "ref.go:109", after := #[{ on := 5, ground := Ground.data }], guard := none }) rfl (fun K hK => ?_) (AllReadyH.cons (o := { dst := some 44, op := Op.buildSlice 22 1 #[(0, Operand.tmp 43)], type := 22, pos := "ref.go:109", after := #[{ on := 9, ground := Ground.data }], guard := none }) rfl (fun K hK => ?_) AllReadyH.nil))))
          · go_simp
            refine hK.out _ _ HK0.out (fun _ => ?_)
            clear hK K
            try simp only [Act.put, List.setIfInBounds_toArray, List.set_cons_zero, List.set_cons_succ]
            refine wpAnyH_ready (rs := [3, 6, 10]) (by kernel_rfl) (by simp) (AllReadyH.cons (o := { dst := some 37, op := Op.load 22 (Operand.tmp 36), type := 22, pos := "ref.go:109", after := #[{ on := 2, ground := Ground.data }], guard := none }) rfl (fun K hK => ?_) (AllReadyH.cons (o := { dst := some 40, op := Op.load 22 (Operand.tmp 39), type := 22, pos := "ref.go:109", after := #[{ on := 5, ground := Ground.data }], guard := none }) rfl (fun K hK => ?_) (AllReadyH.cons (o := { dst := some 44, op := Op.buildSlice 22 1 #[(0, Operand.tmp 43)], type := 22, pos := "ref.go:109", after := #[{ on := 9, ground := Ground.data }], guard := none }) rfl (fun K hK => ?_) AllReadyH.nil)))
            · go_simp
              refine hK.out _ _ HK0.out (fun _ => ?_)
              clear hK K
              try simp only [Act.put, List.setIfInBounds_toArray, List.set_cons_zero, List.set_cons_succ]
              refine wpAnyH_take (i := 4) (oi := { dst := some 38, op := Op.call { callee := Callee.builtin Builtin.len, args := #[Operand.tmp 37], argTypes := #[22] }, type := 3, pos := "ref.go:109", after := #[{ on := 3, ground := Ground.data }], guard := none }) (v := .int .i64 (l.length : Int)) rfl (by kernel_rfl) (by kernel_rfl) (by kernel_rfl) (fun _ _ _ h => h) (Or.inl ⟨by rfl, ?_⟩) HK0.out ?_
              · (intro w' hSw; go_simp)
              simp only [Act.put, List.setIfInBounds_toArray, List.set_cons_zero, List.set_cons_succ]
              refine wpAnyH_ready (rs := [6, 10]) (by kernel_rfl) (by simp) (AllReadyH.cons (o := { dst := some 40, op := Op.load 22 (Operand.tmp 39), type := 22, pos := "ref.go:109", after := #[{ on := 5, ground := Ground.data }], guard := none }) rfl (fun K hK => ?_) (AllReadyH.cons (o := { dst := some 44, op := Op.buildSlice 22 1 #[(0, Operand.tmp 43)], type := 22, pos := "ref.go:109", after := #[{ on := 9, ground := Ground.data }], guard := none }) rfl (fun K hK => ?_) AllReadyH.nil))
              · go_simp
                refine hK.out _ _ HK0.out (fun _ => ?_)
                clear hK K
                try simp only [Act.put, List.setIfInBounds_toArray, List.set_cons_zero, List.set_cons_succ]
                refine wpAnyH_take (i := 7) (oi := { dst := some 41, op := Op.call { callee := Callee.builtin Builtin.len, args := #[Operand.tmp 40], argTypes := #[22] }, type := 3, pos := "ref.go:109", after := #[{ on := 6, ground := Ground.data }], guard := none }) (v := .int .i64 (l.length : Int)) rfl (by kernel_rfl) (by kernel_rfl) (by kernel_rfl) (fun _ _ _ h => h) (Or.inl ⟨by rfl, ?_⟩) HK0.out ?_
                · (intro w' hSw; go_simp)
                simp only [Act.put, List.setIfInBounds_toArray, List.set_cons_zero, List.set_cons_succ]
                refine wpAnyH_take (i := 8) (oi := { dst := some 42, op := Op.slice 22 (Operand.tmp 35) none (some (Operand.tmp 38)) (some (Operand.tmp 41)), type := 22, pos := "ref.go:109", after := #[{ on := 1, ground := Ground.data }, { on := 4, ground := Ground.data }, { on := 7, ground := Ground.data }], guard := none }) (v := .slice A l.length l.length) rfl (by kernel_rfl) (by kernel_rfl) (by kernel_rfl) (fun _ _ _ h => h) (Or.inl ⟨by rfl, ?_⟩) HK0.out ?_
                · (intro w' hSw; go_simp)
                simp only [Act.put, List.setIfInBounds_toArray, List.set_cons_zero, List.set_cons_succ]
                refine wpAnyH_ready (rs := [10]) (by kernel_rfl) (by simp) (AllReadyH.cons (o := { dst := some 44, op := Op.buildSlice 22 1 #[(0, Operand.tmp 43)], type := 22, pos := "ref.go:109", after := #[{ on := 9, ground := Ground.data }], guard := none }) rfl (fun K hK => ?_) AllReadyH.nil)
                · go_simp
                  refine hK.out _ _ HK1.out (fun _ => ?_)
                  clear hK K
                  try simp only [Act.put, List.setIfInBounds_toArray, List.set_cons_zero, List.set_cons_succ]
                  refine wpAnyH_ready (rs := [11]) (by kernel_rfl) (by simp) (AllReadyH.cons (o := { dst := some 45, op := Op.call { callee := Callee.builtin Builtin.append, args := #[Operand.tmp 42, Operand.tmp 44], argTypes := #[22, 22] }, type := 22, pos := "ref.go:109", after := #[{ on := 8, ground := Ground.data }, { on := 10, ground := Ground.data }], guard := none }) rfl (fun K hK => ?_) AllReadyH.nil)
                  refine step_append_by (by rfl) _ _ 22 22 (by rfl) _ _ (by rfl) (by rfl) _ _ HRUN.out ?_
                  intro w10 hw10
                  obtain ⟨y1, y2⟩ := HG.out w10 hw10
                  have HK10 := Lib.hid (HKG.out w10 hw10)
                  have HFIN := Lib.hid (HEND.out w10 hw10)
                  clear hw10
                  refine hK.out _ _ HK10.out.1.cells (fun _ => ?_)
                  clear hK K
                  try simp only [Act.put, List.setIfInBounds_toArray, List.set_cons_zero, List.set_cons_succ]
                  refine wpAnyH_take (i := 12) (oi := { dst := some 46, op := Op.fieldAddr 29 (Operand.tmp 2) 1, type := 0, pos := "ref.go:109", after := #[{ on := 0, ground := Ground.phase }, { on := 1, ground := Ground.phase }, { on := 2, ground := Ground.phase }, { on := 3, ground := Ground.phase }, { on := 4, ground := Ground.phase }, { on := 5, ground := Ground.phase }, { on := 6, ground := Ground.phase }, { on := 7, ground := Ground.phase }, { on := 8, ground := Ground.phase }, { on := 9, ground := Ground.phase }, { on := 10, ground := Ground.phase }, { on := 11, ground := Ground.phase }], guard := none }) (v := .pointer (some ⟨tb, 1, none⟩)) rfl (by kernel_rfl) (by kernel_rfl) (by kernel_rfl) (fun _ _ _ h => h) (Or.inl ⟨by rfl, ?_⟩) HK10.out.1.cells ?_
                  · (intro w' hSw; go_simp)
                  simp only [Act.put, List.setIfInBounds_toArray, List.set_cons_zero, List.set_cons_succ]
                  refine wpAnyH_ready (rs := [13]) (by kernel_rfl) (by simp) (AllReadyH.cons (o := { dst := none, op := Op.store 22 (Operand.tmp 46) (Operand.tmp 45), type := 0, pos := "ref.go:109", after := #[{ on := 12, ground := Ground.data }, { on := 11, ground := Ground.data }, { on := 11, ground := Ground.chain }, { on := 0, ground := Ground.phase }, { on := 1, ground := Ground.phase }, { on := 2, ground := Ground.phase }, { on := 3, ground := Ground.phase }, { on := 4, ground := Ground.phase }, { on := 5, ground := Ground.phase }, { on := 6, ground := Ground.phase }, { on := 7, ground := Ground.phase }, { on := 8, ground := Ground.phase }, { on := 9, ground := Ground.phase }, { on := 10, ground := Ground.phase }, { on := 11, ground := Ground.phase }], guard := none }) rfl (fun K hK => ?_) AllReadyH.nil)
                  go_simp
                  refine hK.out _ _ (HK10.out.2 _).cells (fun _ => ?_)
                  clear hK K
                  try simp only [Act.put, List.setIfInBounds_toArray, List.set_cons_zero, List.set_cons_succ]
                  refine wpAnyH_done (by kernel_rfl) ?_ _
                  go_wp2_with (fail)
                  go_meet
                  case rel => exact ⟨rfl, HFIN.out.1, HFIN.out.2.1, HFIN.out.2.2.1, HFIN.out.2.2.2⟩
              · go_simp
                refine hK.out _ _ HK1.out (fun _ => ?_)
                clear hK K
                try simp only [Act.put, List.setIfInBounds_toArray, List.set_cons_zero, List.set_cons_succ]
                refine wpAnyH_ready (rs := [6]) (by kernel_rfl) (by simp) (AllReadyH.cons (o := { dst := some 40, op := Op.load 22 (Operand.tmp 39), type := 22, pos := "ref.go:109", after := #[{ on := 5, ground := Ground.data }], guard := none }) rfl (fun K hK => ?_) AllReadyH.nil)
                · go_simp
                  refine hK.out _ _ HK1.out (fun _ => ?_)
                  clear hK K
                  try simp only [Act.put, List.setIfInBounds_toArray, List.set_cons_zero, List.set_cons_succ]
                  refine wpAnyH_take (i := 7) (oi := { dst := some 41, op := Op.call { callee := Callee.builtin Builtin.len, args := #[Operand.tmp 40], argTypes := #[22] }, type := 3, pos := "ref.go:109", after := #[{ on := 6, ground := Ground.data }], guard := none }) (v := .int .i64 (l.length : Int)) rfl (by kernel_rfl) (by kernel_rfl) (by kernel_rfl) (fun _ _ _ h => h) (Or.inl ⟨by rfl, ?_⟩) HK1.out ?_
                  · (intro w' hSw; go_simp)
                  simp only [Act.put, List.setIfInBounds_toArray, List.set_cons_zero, List.set_cons_succ]
                  refine wpAnyH_take (i := 8) (oi := { dst := some 42, op := Op.slice 22 (Operand.tmp 35) none (some (Operand.tmp 38)) (some (Operand.tmp 41)), type := 22, pos := "ref.go:109", after := #[{ on := 1, ground := Ground.data }, { on := 4, ground := Ground.data }, { on := 7, ground := Ground.data }], guard := none }) (v := .slice A l.length l.length) rfl (by kernel_rfl) (by kernel_rfl) (by kernel_rfl) (fun _ _ _ h => h) (Or.inl ⟨by rfl, ?_⟩) HK1.out ?_
                  · (intro w' hSw; go_simp)
                  simp only [Act.put, List.setIfInBounds_toArray, List.set_cons_zero, List.set_cons_succ]
                  refine wpAnyH_ready (rs := [11]) (by kernel_rfl) (by simp) (AllReadyH.cons (o := { dst := some 45, op := Op.call { callee := Callee.builtin Builtin.append, args := #[Operand.tmp 42, Operand.tmp 44], argTypes := #[22, 22] }, type := 22, pos := "ref.go:109", after := #[{ on := 8, ground := Ground.data }, { on := 10, ground := Ground.data }], guard := none }) rfl (fun K hK => ?_) AllReadyH.nil)
                  refine step_append_by (by rfl) _ _ 22 22 (by rfl) _ _ (by rfl) (by rfl) _ _ HRUN.out ?_
                  intro w10 hw10
                  obtain ⟨y1, y2⟩ := HG.out w10 hw10
                  have HK10 := Lib.hid (HKG.out w10 hw10)
                  have HFIN := Lib.hid (HEND.out w10 hw10)
                  clear hw10
                  refine hK.out _ _ HK10.out.1.cells (fun _ => ?_)
                  clear hK K
                  try simp only [Act.put, List.setIfInBounds_toArray, List.set_cons_zero, List.set_cons_succ]
                  refine wpAnyH_take (i := 12) (oi := { dst := some 46, op := Op.fieldAddr 29 (Operand.tmp 2) 1, type := 0, pos := "ref.go:109", after := #[{ on := 0, ground := Ground.phase }, { on := 1, ground := Ground.phase }, { on := 2, ground := Ground.phase }, { on := 3, ground := Ground.phase }, { on := 4, ground := Ground.phase }, { on := 5, ground := Ground.phase }, { on := 6, ground := Ground.phase }, { on := 7, ground := Ground.phase }, { on := 8, ground := Ground.phase }, { on := 9, ground := Ground.phase }, { on := 10, ground := Ground.phase }, { on := 11, ground := Ground.phase }], guard := none }) (v := .pointer (some ⟨tb, 1, none⟩)) rfl (by kernel_rfl) (by kernel_rfl) (by kernel_rfl) (fun _ _ _ h => h) (Or.inl ⟨by rfl, ?_⟩) HK10.out.1.cells ?_
                  · (intro w' hSw; go_simp)
                  simp only [Act.put, List.setIfInBounds_toArray, List.set_cons_zero, List.set_cons_succ]
                  refine wpAnyH_ready (rs := [13]) (by kernel_rfl) (by simp) (AllReadyH.cons (o := { dst := none, op := Op.store 22 (Operand.tmp 46) (Operand.tmp 45), type := 0, pos := "ref.go:109", after := #[{ on := 12, ground := Ground.data }, { on := 11, ground := Ground.data }, { on := 11, ground := Ground.chain }, { on := 0, ground := Ground.phase }, { on := 1, ground := Ground.phase }, { on := 2, ground := Ground.phase }, { on := 3, ground := Ground.phase }, { on := 4, ground := Ground.phase }, { on := 5, ground := Ground.phase }, { on := 6, ground := Ground.phase }, { on := 7, ground := Ground.phase }, { on := 8, ground := Ground.phase }, { on := 9, ground := Ground.phase }, { on := 10, ground := Ground.phase }, { on := 11, ground := Ground.phase }], guard := none }) rfl (fun K hK => ?_) AllReadyH.nil)
                  go_simp
                  refine hK.out _ _ (HK10.out.2 _).cells (fun _ => ?_)
                  clear hK K
                  try simp only [Act.put, List.setIfInBounds_toArray, List.set_cons_zero, List.set_cons_succ]
                  refine wpAnyH_done (by kernel_rfl) ?_ _
                  go_wp2_with (fail)
                  go_meet
                  case rel => exact ⟨rfl, HFIN.out.1, HFIN.out.2.1, HFIN.out.2.2.1, HFIN.out.2.2.2⟩
            · go_simp
              refine hK.out _ _ HK0.out (fun _ => ?_)
              clear hK K
              try simp only [Act.put, List.setIfInBounds_toArray, List.set_cons_zero, List.set_cons_succ]
              refine wpAnyH_take (i := 7) (oi := { dst := some 41, op := Op.call { callee := Callee.builtin Builtin.len, args := #[Operand.tmp 40], argTypes := #[22] }, type := 3, pos := "ref.go:109", after := #[{ on := 6, ground := Ground.data }], guard := none }) (v := .int .i64 (l.length : Int)) rfl (by kernel_rfl) (by kernel_rfl) (by kernel_rfl) (fun _ _ _ h => h) (Or.inl ⟨by rfl, ?_⟩) HK0.out ?_
              · (intro w' hSw; go_simp)
              simp only [Act.put, List.setIfInBounds_toArray, List.set_cons_zero, List.set_cons_succ]
              refine wpAnyH_ready (rs := [3, 10]) (by kernel_rfl) (by simp) (AllReadyH.cons (o := { dst := some 37, op := Op.load 22 (Operand.tmp 36), type := 22, pos := "ref.go:109", after := #[{ on := 2, ground := Ground.data }], guard := none }) rfl (fun K hK => ?_) (AllReadyH.cons (o := { dst := some 44, op := Op.buildSlice 22 1 #[(0, Operand.tmp 43)], type := 22, pos := "ref.go:109", after := #[{ on := 9, ground := Ground.data }], guard := none }) rfl (fun K hK => ?_) AllReadyH.nil))
              · go_simp
                refine hK.out _ _ HK0.out (fun _ => ?_)
                clear hK K
                try simp only [Act.put, List.setIfInBounds_toArray, List.set_cons_zero, List.set_cons_succ]
                refine wpAnyH_take (i := 4) (oi := { dst := some 38, op := Op.call { callee := Callee.builtin Builtin.len, args := #[Operand.tmp 37], argTypes := #[22] }, type := 3, pos := "ref.go:109", after := #[{ on := 3, ground := Ground.data }], guard := none }) (v := .int .i64 (l.length : Int)) rfl (by kernel_rfl) (by kernel_rfl) (by kernel_rfl) (fun _ _ _ h => h) (Or.inl ⟨by rfl, ?_⟩) HK0.out ?_
                · (intro w' hSw; go_simp)
                simp only [Act.put, List.setIfInBounds_toArray, List.set_cons_zero, List.set_cons_succ]
                refine wpAnyH_take (i := 8) (oi := { dst := some 42, op := Op.slice 22 (Operand.tmp 35) none (some (Operand.tmp 38)) (some (Operand.tmp 41)), type := 22, pos := "ref.go:109", after := #[{ on := 1, ground := Ground.data }, { on := 4, ground := Ground.data }, { on := 7, ground := Ground.data }], guard := none }) (v := .slice A l.length l.length) rfl (by kernel_rfl) (by kernel_rfl) (by kernel_rfl) (fun _ _ _ h => h) (Or.inl ⟨by rfl, ?_⟩) HK0.out ?_
                · (intro w' hSw; go_simp)
                simp only [Act.put, List.setIfInBounds_toArray, List.set_cons_zero, List.set_cons_succ]
                refine wpAnyH_ready (rs := [10]) (by kernel_rfl) (by simp) (AllReadyH.cons (o := { dst := some 44, op := Op.buildSlice 22 1 #[(0, Operand.tmp 43)], type := 22, pos := "ref.go:109", after := #[{ on := 9, ground := Ground.data }], guard := none }) rfl (fun K hK => ?_) AllReadyH.nil)
                · go_simp
                  refine hK.out _ _ HK1.out (fun _ => ?_)
                  clear hK K
                  try simp only [Act.put, List.setIfInBounds_toArray, List.set_cons_zero, List.set_cons_succ]
                  refine wpAnyH_ready (rs := [11]) (by kernel_rfl) (by simp) (AllReadyH.cons (o := { dst := some 45, op := Op.call { callee := Callee.builtin Builtin.append, args := #[Operand.tmp 42, Operand.tmp 44], argTypes := #[22, 22] }, type := 22, pos := "ref.go:109", after := #[{ on := 8, ground := Ground.data }, { on := 10, ground := Ground.data }], guard := none }) rfl (fun K hK => ?_) AllReadyH.nil)
                  refine step_append_by (by rfl) _ _ 22 22 (by rfl) _ _ (by rfl) (by rfl) _ _ HRUN.out ?_
                  intro w10 hw10
                  obtain ⟨y1, y2⟩ := HG.out w10 hw10
                  have HK10 := Lib.hid (HKG.out w10 hw10)
                  have HFIN := Lib.hid (HEND.out w10 hw10)
                  clear hw10
                  refine hK.out _ _ HK10.out.1.cells (fun _ => ?_)
                  clear hK K
                  try simp only [Act.put, List.setIfInBounds_toArray, List.set_cons_zero, List.set_cons_succ]
                  refine wpAnyH_take (i := 12) (oi := { dst := some 46, op := Op.fieldAddr 29 (Operand.tmp 2) 1, type := 0, pos := "ref.go:109", after := #[{ on := 0, ground := Ground.phase }, { on := 1, ground := Ground.phase }, { on := 2, ground := Ground.phase }, { on := 3, ground := Ground.phase }, { on := 4, ground := Ground.phase }, { on := 5, ground := Ground.phase }, { on := 6, ground := Ground.phase }, { on := 7, ground := Ground.phase }, { on := 8, ground := Ground.phase }, { on := 9, ground := Ground.phase }, { on := 10, ground := Ground.phase }, { on := 11, ground := Ground.phase }], guard := none }) (v := .pointer (some ⟨tb, 1, none⟩)) rfl (by kernel_rfl) (by kernel_rfl) (by kernel_rfl) (fun _ _ _ h => h) (Or.inl ⟨by rfl, ?_⟩) HK10.out.1.cells ?_
                  · (intro w' hSw; go_simp)
                  simp only [Act.put, List.setIfInBounds_toArray, List.set_cons_zero, List.set_cons_succ]
                  refine wpAnyH_ready (rs := [13]) (by kernel_rfl) (by simp) (AllReadyH.cons (o := { dst := none, op := Op.store 22 (Operand.tmp 46) (Operand.tmp 45), type := 0, pos := "ref.go:109", after := #[{ on := 12, ground := Ground.data }, { on := 11, ground := Ground.data }, { on := 11, ground := Ground.chain }, { on := 0, ground := Ground.phase }, { on := 1, ground := Ground.phase }, { on := 2, ground := Ground.phase }, { on := 3, ground := Ground.phase }, { on := 4, ground := Ground.phase }, { on := 5, ground := Ground.phase }, { on := 6, ground := Ground.phase }, { on := 7, ground := Ground.phase }, { on := 8, ground := Ground.phase }, { on := 9, ground := Ground.phase }, { on := 10, ground := Ground.phase }, { on := 11, ground := Ground.phase }], guard := none }) rfl (fun K hK => ?_) AllReadyH.nil)
                  go_simp
                  refine hK.out _ _ (HK10.out.2 _).cells (fun _ => ?_)
                  clear hK K
                  try simp only [Act.put, List.setIfInBounds_toArray, List.set_cons_zero, List.set_cons_succ]
                  refine wpAnyH_done (by kernel_rfl) ?_ _
                  go_wp2_with (fail)
                  go_meet
                  case rel => exact ⟨rfl, HFIN.out.1, HFIN.out.2.1, HFIN.out.2.2.1, HFIN.out.2.2.2⟩
              · go_simp
                refine hK.out _ _ HK1.out (fun _ => ?_)
                clear hK K
                try simp only [Act.put, List.setIfInBounds_toArray, List.set_cons_zero, List.set_cons_succ]
                refine wpAnyH_ready (rs := [3]) (by kernel_rfl) (by simp) (AllReadyH.cons (o := { dst := some 37, op := Op.load 22 (Operand.tmp 36), type := 22, pos := "ref.go:109", after := #[{ on := 2, ground := Ground.data }], guard := none }) rfl (fun K hK => ?_) AllReadyH.nil)
                · go_simp
                  refine hK.out _ _ HK1.out (fun _ => ?_)
                  clear hK K
                  try simp only [Act.put, List.setIfInBounds_toArray, List.set_cons_zero, List.set_cons_succ]
                  refine wpAnyH_take (i := 4) (oi := { dst := some 38, op := Op.call { callee := Callee.builtin Builtin.len, args := #[Operand.tmp 37], argTypes := #[22] }, type := 3, pos := "ref.go:109", after := #[{ on := 3, ground := Ground.data }], guard := none }) (v := .int .i64 (l.length : Int)) rfl (by kernel_rfl) (by kernel_rfl) (by kernel_rfl) (fun _ _ _ h => h) (Or.inl ⟨by rfl, ?_⟩) HK1.out ?_
                  · (intro w' hSw; go_simp)
                  simp only [Act.put, List.setIfInBounds_toArray, List.set_cons_zero, List.set_cons_succ]
                  refine wpAnyH_take (i := 8) (oi := { dst := some 42, op := Op.slice 22 (Operand.tmp 35) none (some (Operand.tmp 38)) (some (Operand.tmp 41)), type := 22, pos := "ref.go:109", after := #[{ on := 1, ground := Ground.data }, { on := 4, ground := Ground.data }, { on := 7, ground := Ground.data }], guard := none }) (v := .slice A l.length l.length) rfl (by kernel_rfl) (by kernel_rfl) (by kernel_rfl) (fun _ _ _ h => h) (Or.inl ⟨by rfl, ?_⟩) HK1.out ?_
                  · (intro w' hSw; go_simp)
                  simp only [Act.put, List.setIfInBounds_toArray, List.set_cons_zero, List.set_cons_succ]
                  refine wpAnyH_ready (rs := [11]) (by kernel_rfl) (by simp) (AllReadyH.cons (o := { dst := some 45, op := Op.call { callee := Callee.builtin Builtin.append, args := #[Operand.tmp 42, Operand.tmp 44], argTypes := #[22, 22] }, type := 22, pos := "ref.go:109", after := #[{ on := 8, ground := Ground.data }, { on := 10, ground := Ground.data }], guard := none }) rfl (fun K hK => ?_) AllReadyH.nil)
                  refine step_append_by (by rfl) _ _ 22 22 (by rfl) _ _ (by rfl) (by rfl) _ _ HRUN.out ?_
                  intro w10 hw10
                  obtain ⟨y1, y2⟩ := HG.out w10 hw10
                  have HK10 := Lib.hid (HKG.out w10 hw10)
                  have HFIN := Lib.hid (HEND.out w10 hw10)
                  clear hw10
                  refine hK.out _ _ HK10.out.1.cells (fun _ => ?_)
                  clear hK K
                  try simp only [Act.put, List.setIfInBounds_toArray, List.set_cons_zero, List.set_cons_succ]
                  refine wpAnyH_take (i := 12) (oi := { dst := some 46, op := Op.fieldAddr 29 (Operand.tmp 2) 1, type := 0, pos := "ref.go:109", after := #[{ on := 0, ground := Ground.phase }, { on := 1, ground := Ground.phase }, { on := 2, ground := Ground.phase }, { on := 3, ground := Ground.phase }, { on := 4, ground := Ground.phase }, { on := 5, ground := Ground.phase }, { on := 6, ground := Ground.phase }, { on := 7, ground := Ground.phase }, { on := 8, ground := Ground.phase }, { on := 9, ground := Ground.phase }, { on := 10, ground := Ground.phase }, { on := 11, ground := Ground.phase }], guard := none }) (v := .pointer (some ⟨tb, 1, none⟩)) rfl (by kernel_rfl) (by kernel_rfl) (by kernel_rfl) (fun _ _ _ h => h) (Or.inl ⟨by rfl, ?_⟩) HK10.out.1.cells ?_
                  · (intro w' hSw; go_simp)
                  simp only [Act.put, List.setIfInBounds_toArray, List.set_cons_zero, List.set_cons_succ]
                  refine wpAnyH_ready (rs := [13]) (by kernel_rfl) (by simp) (AllReadyH.cons (o := { dst := none, op := Op.store 22 (Operand.tmp 46) (Operand.tmp 45), type := 0, pos := "ref.go:109", after := #[{ on := 12, ground := Ground.data }, { on := 11, ground := Ground.data }, { on := 11, ground := Ground.chain }, { on := 0, ground := Ground.phase }, { on := 1, ground := Ground.phase }, { on := 2, ground := Ground.phase }, { on := 3, ground := Ground.phase }, { on := 4, ground := Ground.phase }, { on := 5, ground := Ground.phase }, { on := 6, ground := Ground.phase }, { on := 7, ground := Ground.phase }, { on := 8, ground := Ground.phase }, { on := 9, ground := Ground.phase }, { on := 10, ground := Ground.phase }, { on := 11, ground := Ground.phase }], guard := none }) rfl (fun K hK => ?_) AllReadyH.nil)
                  go_simp
                  refine hK.out _ _ (HK10.out.2 _).cells (fun _ => ?_)
                  clear hK K
                  try simp only [Act.put, List.setIfInBounds_toArray, List.set_cons_zero, List.set_cons_succ]
                  refine wpAnyH_done (by kernel_rfl) ?_ _
                  go_wp2_with (fail)
                  go_meet
                  case rel => exact ⟨rfl, HFIN.out.1, HFIN.out.2.1, HFIN.out.2.2.1, HFIN.out.2.2.2⟩
            · go_simp
              refine hK.out _ _ HK1.out (fun _ => ?_)
              clear hK K
              try simp only [Act.put, List.setIfInBounds_toArray, List.set_cons_zero, List.set_cons_succ]
              refine wpAnyH_ready (rs := [3, 6]) (by kernel_rfl) (by simp) (AllReadyH.cons (o := { dst := some 37, op := Op.load 22 (Operand.tmp 36), type := 22, pos := "ref.go:109", after := #[{ on := 2, ground := Ground.data }], guard := none }) rfl (fun K hK => ?_) (AllReadyH.cons (o := { dst := some 40, op := Op.load 22 (Operand.tmp 39), type := 22, pos := "ref.go:109", after := #[{ on := 5, ground := Ground.data }], guard := none }) rfl (fun K hK => ?_) AllReadyH.nil))
              · go_simp
                refine hK.out _ _ HK1.out (fun _ => ?_)
                clear hK K
                try simp only [Act.put, List.setIfInBounds_toArray, List.set_cons_zero, List.set_cons_succ]
                refine wpAnyH_take (i := 4) (oi := { dst := some 38, op := Op.call { callee := Callee.builtin Builtin.len, args := #[Operand.tmp 37], argTypes := #[22] }, type := 3, pos := "ref.go:109", after := #[{ on := 3, ground := Ground.data }], guard := none }) (v := .int .i64 (l.length : Int)) rfl (by kernel_rfl) (by kernel_rfl) (by kernel_rfl) (fun _ _ _ h => h) (Or.inl ⟨by rfl, ?_⟩) HK1.out ?_
                · (intro w' hSw; go_simp)
                simp only [Act.put, List.setIfInBounds_toArray, List.set_cons_zero, List.set_cons_succ]
                refine wpAnyH_ready (rs := [6]) (by kernel_rfl) (by simp) (AllReadyH.cons (o := { dst := some 40, op := Op.load 22 (Operand.tmp 39), type := 22, pos := "ref.go:109", after := #[{ on := 5, ground := Ground.data }], guard := none }) rfl (fun K hK => ?_) AllReadyH.nil)
                · go_simp
                  refine hK.out _ _ HK1.out (fun _ => ?_)
                  clear hK K
                  try simp only [Act.put, List.setIfInBounds_toArray, List.set_cons_zero, List.set_cons_succ]
                  refine wpAnyH_take (i := 7) (oi := { dst := some 41, op := Op.call { callee := Callee.builtin Builtin.len, args := #[Operand.tmp 40], argTypes := #[22] }, type := 3, pos := "ref.go:109", after := #[{ on := 6, ground := Ground.data }], guard := none }) (v := .int .i64 (l.length : Int)) rfl (by kernel_rfl) (by kernel_rfl) (by kernel_rfl) (fun _ _ _ h => h) (Or.inl ⟨by rfl, ?_⟩) HK1.out ?_
                  · (intro w' hSw; go_simp)
                  simp only [Act.put, List.setIfInBounds_toArray, List.set_cons_zero, List.set_cons_succ]
                  refine wpAnyH_take (i := 8) (oi := { dst := some 42, op := Op.slice 22 (Operand.tmp 35) none (some (Operand.tmp 38)) (some (Operand.tmp 41)), type := 22, pos := "ref.go:109", after := #[{ on := 1, ground := Ground.data }, { on := 4, ground := Ground.data }, { on := 7, ground := Ground.data }], guard := none }) (v := .slice A l.length l.length) rfl (by kernel_rfl) (by kernel_rfl) (by kernel_rfl) (fun _ _ _ h => h) (Or.inl ⟨by rfl, ?_⟩) HK1.out ?_
                  · (intro w' hSw; go_simp)
                  simp only [Act.put, List.setIfInBounds_toArray, List.set_cons_zero, List.set_cons_succ]
                  refine wpAnyH_ready (rs := [11]) (by kernel_rfl) (by simp) (AllReadyH.cons (o := { dst := some 45, op := Op.call { callee := Callee.builtin Builtin.append, args := #[Operand.tmp 42, Operand.tmp 44], argTypes := #[22, 22] }, type := 22, pos := "ref.go:109", after := #[{ on := 8, ground := Ground.data }, { on := 10, ground := Ground.data }], guard := none }) rfl (fun K hK => ?_) AllReadyH.nil)
                  refine step_append_by (by rfl) _ _ 22 22 (by rfl) _ _ (by rfl) (by rfl) _ _ HRUN.out ?_
                  intro w10 hw10
                  obtain ⟨y1, y2⟩ := HG.out w10 hw10
                  have HK10 := Lib.hid (HKG.out w10 hw10)
                  have HFIN := Lib.hid (HEND.out w10 hw10)
                  clear hw10
                  refine hK.out _ _ HK10.out.1.cells (fun _ => ?_)
                  clear hK K
                  try simp only [Act.put, List.setIfInBounds_toArray, List.set_cons_zero, List.set_cons_succ]
                  refine wpAnyH_take (i := 12) (oi := { dst := some 46, op := Op.fieldAddr 29 (Operand.tmp 2) 1, type := 0, pos := "ref.go:109", after := #[{ on := 0, ground := Ground.phase }, { on := 1, ground := Ground.phase }, { on := 2, ground := Ground.phase }, { on := 3, ground := Ground.phase }, { on := 4, ground := Ground.phase }, { on := 5, ground := Ground.phase }, { on := 6, ground := Ground.phase }, { on := 7, ground := Ground.phase }, { on := 8, ground := Ground.phase }, { on := 9, ground := Ground.phase }, { on := 10, ground := Ground.phase }, { on := 11, ground := Ground.phase }], guard := none }) (v := .pointer (some ⟨tb, 1, none⟩)) rfl (by kernel_rfl) (by kernel_rfl) (by kernel_rfl) (fun _ _ _ h => h) (Or.inl ⟨by rfl, ?_⟩) HK10.out.1.cells ?_
                  · (intro w' hSw; go_simp)
                  simp only [Act.put, List.setIfInBounds_toArray, List.set_cons_zero, List.set_cons_succ]
                  refine wpAnyH_ready (rs := [13]) (by kernel_rfl) (by simp) (AllReadyH.cons (o := { dst := none, op := Op.store 22 (Operand.tmp 46) (Operand.tmp 45), type := 0, pos := "ref.go:109", after := #[{ on := 12, ground := Ground.data }, { on := 11, ground := Ground.data }, { on := 11, ground := Ground.chain }, { on := 0, ground := Ground.phase }, { on := 1, ground := Ground.phase }, { on := 2, ground := Ground.phase }, { on := 3, ground := Ground.phase }, { on := 4, ground := Ground.phase }, { on := 5, ground := Ground.phase }, { on := 6, ground := Ground.phase }, { on := 7, ground := Ground.phase }, { on := 8, ground := Ground.phase }, { on := 9, ground := Ground.phase }, { on := 10, ground := Ground.phase }, { on := 11, ground := Ground.phase }], guard := none }) rfl (fun K hK => ?_) AllReadyH.nil)
                  go_simp
                  refine hK.out _ _ (HK10.out.2 _).cells (fun _ => ?_)
                  clear hK K
                  try simp only [Act.put, List.setIfInBounds_toArray, List.set_cons_zero, List.set_cons_succ]
                  refine wpAnyH_done (by kernel_rfl) ?_ _
                  go_wp2_with (fail)
                  go_meet
                  case rel => exact ⟨rfl, HFIN.out.1, HFIN.out.2.1, HFIN.out.2.2.1, HFIN.out.2.2.2⟩
              · go_simp
                refine hK.out _ _ HK1.out (fun _ => ?_)
                clear hK K
                try simp only [Act.put, List.setIfInBounds_toArray, List.set_cons_zero, List.set_cons_succ]
                refine wpAnyH_take (i := 7) (oi := { dst := some 41, op := Op.call { callee := Callee.builtin Builtin.len, args := #[Operand.tmp 40], argTypes := #[22] }, type := 3, pos := "ref.go:109", after := #[{ on := 6, ground := Ground.data }], guard := none }) (v := .int .i64 (l.length : Int)) rfl (by kernel_rfl) (by kernel_rfl) (by kernel_rfl) (fun _ _ _ h => h) (Or.inl ⟨by rfl, ?_⟩) HK1.out ?_
                · (intro w' hSw; go_simp)
                simp only [Act.put, List.setIfInBounds_toArray, List.set_cons_zero, List.set_cons_succ]
                refine wpAnyH_ready (rs := [3]) (by kernel_rfl) (by simp) (AllReadyH.cons (o := { dst := some 37, op := Op.load 22 (Operand.tmp 36), type := 22, pos := "ref.go:109", after := #[{ on := 2, ground := Ground.data }], guard := none }) rfl (fun K hK => ?_) AllReadyH.nil)
                · go_simp
                  refine hK.out _ _ HK1.out (fun _ => ?_)
                  clear hK K
                  try simp only [Act.put, List.setIfInBounds_toArray, List.set_cons_zero, List.set_cons_succ]
                  refine wpAnyH_take (i := 4) (oi := { dst := some 38, op := Op.call { callee := Callee.builtin Builtin.len, args := #[Operand.tmp 37], argTypes := #[22] }, type := 3, pos := "ref.go:109", after := #[{ on := 3, ground := Ground.data }], guard := none }) (v := .int .i64 (l.length : Int)) rfl (by kernel_rfl) (by kernel_rfl) (by kernel_rfl) (fun _ _ _ h => h) (Or.inl ⟨by rfl, ?_⟩) HK1.out ?_
                  · (intro w' hSw; go_simp)
                  simp only [Act.put, List.setIfInBounds_toArray, List.set_cons_zero, List.set_cons_succ]
                  refine wpAnyH_take (i := 8) (oi := { dst := some 42, op := Op.slice 22 (Operand.tmp 35) none (some (Operand.tmp 38)) (some (Operand.tmp 41)), type := 22, pos := "ref.go:109", after := #[{ on := 1, ground := Ground.data }, { on := 4, ground := Ground.data }, { on := 7, ground := Ground.data }], guard := none }) (v := .slice A l.length l.length) rfl (by kernel_rfl) (by kernel_rfl) (by kernel_rfl) (fun _ _ _ h => h) (Or.inl ⟨by rfl, ?_⟩) HK1.out ?_
                  · (intro w' hSw; go_simp)
                  simp only [Act.put, List.setIfInBounds_toArray, List.set_cons_zero, List.set_cons_succ]
                  refine wpAnyH_ready (rs := [11]) (by kernel_rfl) (by simp) (AllReadyH.cons (o := { dst := some 45, op := Op.call { callee := Callee.builtin Builtin.append, args := #[Operand.tmp 42, Operand.tmp 44], argTypes := #[22, 22] }, type := 22, pos := "ref.go:109", after := #[{ on := 8, ground := Ground.data }, { on := 10, ground := Ground.data }], guard := none }) rfl (fun K hK => ?_) AllReadyH.nil)
                  refine step_append_by (by rfl) _ _ 22 22 (by rfl) _ _ (by rfl) (by rfl) _ _ HRUN.out ?_
                  intro w10 hw10
                  obtain ⟨y1, y2⟩ := HG.out w10 hw10
                  have HK10 := Lib.hid (HKG.out w10 hw10)
                  have HFIN := Lib.hid (HEND.out w10 hw10)
                  clear hw10
                  refine hK.out _ _ HK10.out.1.cells (fun _ => ?_)
                  clear hK K
                  try simp only [Act.put, List.setIfInBounds_toArray, List.set_cons_zero, List.set_cons_succ]
                  refine wpAnyH_take (i := 12) (oi := { dst := some 46, op := Op.fieldAddr 29 (Operand.tmp 2) 1, type := 0, pos := "ref.go:109", after := #[{ on := 0, ground := Ground.phase }, { on := 1, ground := Ground.phase }, { on := 2, ground := Ground.phase }, { on := 3, ground := Ground.phase }, { on := 4, ground := Ground.phase }, { on := 5, ground := Ground.phase }, { on := 6, ground := Ground.phase }, { on := 7, ground := Ground.phase }, { on := 8, ground := Ground.phase }, { on := 9, ground := Ground.phase }, { on := 10, ground := Ground.phase }, { on := 11, ground := Ground.phase }], guard := none }) (v := .pointer (some ⟨tb, 1, none⟩)) rfl (by kernel_rfl) (by kernel_rfl) (by kernel_rfl) (fun _ _ _ h => h) (Or.inl ⟨by rfl, ?_⟩) HK10.out.1.cells ?_
                  · (intro w' hSw; go_simp)
                  simp only [Act.put, List.setIfInBounds_toArray, List.set_cons_zero, List.set_cons_succ]
                  refine wpAnyH_ready (rs := [13]) (by kernel_rfl) (by simp) (AllReadyH.cons (o := { dst := none, op := Op.store 22 (Operand.tmp 46) (Operand.tmp 45), type := 0, pos := "ref.go:109", after := #[{ on := 12, ground := Ground.data }, { on := 11, ground := Ground.data }, { on := 11, ground := Ground.chain }, { on := 0, ground := Ground.phase }, { on := 1, ground := Ground.phase }, { on := 2, ground := Ground.phase }, { on := 3, ground := Ground.phase }, { on := 4, ground := Ground.phase }, { on := 5, ground := Ground.phase }, { on := 6, ground := Ground.phase }, { on := 7, ground := Ground.phase }, { on := 8, ground := Ground.phase }, { on := 9, ground := Ground.phase }, { on := 10, ground := Ground.phase }, { on := 11, ground := Ground.phase }], guard := none }) rfl (fun K hK => ?_) AllReadyH.nil)
                  go_simp
                  refine hK.out _ _ (HK10.out.2 _).cells (fun _ => ?_)
                  clear hK K
                  try simp only [Act.put, List.setIfInBounds_toArray, List.set_cons_zero, List.set_cons_succ]
                  refine wpAnyH_done (by kernel_rfl) ?_ _
                  go_wp2_with (fail)
                  go_meet
                  case rel => exact ⟨rfl, HFIN.out.1, HFIN.out.2.1, HFIN.out.2.2.1, HFIN.out.2.2.2⟩
          · go_simp
            refine hK.out _ _ HK0.out (fun _ => ?_)
            clear hK K
            try simp only [Act.put, List.setIfInBounds_toArray, List.set_cons_zero, List.set_cons_succ]
            refine wpAnyH_take (i := 4) (oi := { dst := some 38, op := Op.call { callee := Callee.builtin Builtin.len, args := #[Operand.tmp 37], argTypes := #[22] }, type := 3, pos := "ref.go:109", after := #[{ on := 3, ground := Ground.data }], guard := none }) (v := .int .i64 (l.length : Int)) rfl (by kernel_rfl) (by kernel_rfl) (by kernel_rfl) (fun _ _ _ h => h) (Or.inl ⟨by rfl, ?_⟩) HK0.out ?_
            · (intro w' hSw; go_simp)
            simp only [Act.put, List.setIfInBounds_toArray, List.set_cons_zero, List.set_cons_succ]
            refine wpAnyH_ready (rs := [1, 6, 10]) (by kernel_rfl) (by simp) (AllReadyH.cons (o := { dst := some 35, op := Op.load 22 (Operand.tmp 34), type := 22, pos := "ref.go:109", after := #[{ on := 0, ground := Ground.data }], guard := none }) rfl (fun K hK => ?_) (AllReadyH.cons (o := { dst := some 40, op := Op.load 22 (Operand.tmp 39), type := 22, pos := "ref.go:109", after := #[{ on := 5, ground := Ground.data }], guard := none }) rfl (fun K hK => ?_) (AllReadyH.cons (o := { dst := some 44, op := Op.buildSlice 22 1 #[(0, Operand.tmp 43)], type := 22, pos := "ref.go:109", after := #[{ on := 9, ground := Ground.data }], guard := none }) rfl (fun K hK => ?_) AllReadyH.nil)))
            · go_simp
              refine hK.out _ _ HK0.out (fun _ => ?_)
              clear hK K
              try simp only [Act.put, List.setIfInBounds_toArray, List.set_cons_zero, List.set_cons_succ]
              refine wpAnyH_ready (rs := [6, 10]) (by kernel_rfl) (by simp) (AllReadyH.cons (o := { dst := some 40, op := Op.load 22 (Operand.tmp 39), type := 22, pos := "ref.go:109", after := #[{ on := 5, ground := Ground.data }], guard := none }) rfl (fun K hK => ?_) (AllReadyH.cons (o := { dst := some 44, op := Op.buildSlice 22 1 #[(0, Operand.tmp 43)], type := 22, pos := "ref.go:109", after := #[{ on := 9, ground := Ground.data }], guard := none }) rfl (fun K hK => ?_) AllReadyH.nil))
              · go_simp
                refine hK.out _ _ HK0.out (fun _ => ?_)
                clear hK K
                try simp only [Act.put, List.setIfInBounds_toArray, List.set_cons_zero, List.set_cons_succ]
                refine wpAnyH_take (i := 7) (oi := { dst := some 41, op := Op.call { callee := Callee.builtin Builtin.len, args := #[Operand.tmp 40], argTypes := #[22] }, type := 3, pos := "ref.go:109", after := #[{ on := 6, ground := Ground.data }], guard := none }) (v := .int .i64 (l.length : Int)) rfl (by kernel_rfl) (by kernel_rfl) (by kernel_rfl) (fun _ _ _ h => h) (Or.inl ⟨by rfl, ?_⟩) HK0.out ?_
                · (intro w' hSw; go_simp)
                simp only [Act.put, List.setIfInBounds_toArray, List.set_cons_zero, List.set_cons_succ]
                refine wpAnyH_take (i := 8) (oi := { dst := some 42, op := Op.slice 22 (Operand.tmp 35) none (some (Operand.tmp 38)) (some (Operand.tmp 41)), type := 22, pos := "ref.go:109", after := #[{ on := 1, ground := Ground.data }, { on := 4, ground := Ground.data }, { on := 7, ground := Ground.data }], guard := none }) (v := .slice A l.length l.length) rfl (by kernel_rfl) (by kernel_rfl) (by kernel_rfl) (fun _ _ _ h => h) (Or.inl ⟨by rfl, ?_⟩) HK0.out ?_
                · (intro w' hSw; go_simp)
                simp only [Act.put, List.setIfInBounds_toArray, List.set_cons_zero, List.set_cons_succ]
                refine wpAnyH_ready (rs := [10]) (by kernel_rfl) (by simp) (AllReadyH.cons (o := { dst := some 44, op := Op.buildSlice 22 1 #[(0, Operand.tmp 43)], type := 22, pos := "ref.go:109", after := #[{ on := 9, ground := Ground.data }], guard := none }) rfl (fun K hK => ?_) AllReadyH.nil)
                · go_simp
                  refine hK.out _ _ HK1.out (fun _ => ?_)
                  clear hK K
                  try simp only [Act.put, List.setIfInBounds_toArray, List.set_cons_zero, List.set_cons_succ]
                  refine wpAnyH_ready (rs := [11]) (by kernel_rfl) (by simp) (AllReadyH.cons (o := { dst := some 45, op := Op.call { callee := Callee.builtin Builtin.append, args := #[Operand.tmp 42, Operand.tmp 44], argTypes := #[22, 22] }, type := 22, pos := "ref.go:109", after := #[{ on := 8, ground := Ground.data }, { on := 10, ground := Ground.data }], guard := none }) rfl (fun K hK => ?_) AllReadyH.nil)
                  refine step_append_by (by rfl) _ _ 22 22 (by rfl) _ _ (by rfl) (by rfl) _ _ HRUN.out ?_
                  intro w10 hw10
                  obtain ⟨y1, y2⟩ := HG.out w10 hw10
                  have HK10 := Lib.hid (HKG.out w10 hw10)
                  have HFIN := Lib.hid (HEND.out w10 hw10)
                  clear hw10
                  refine hK.out _ _ HK10.out.1.cells (fun _ => ?_)
                  clear hK K
                  try simp only [Act.put, List.setIfInBounds_toArray, List.set_cons_zero, List.set_cons_succ]
                  refine wpAnyH_take (i := 12) (oi := { dst := some 46, op := Op.fieldAddr 29 (Operand.tmp 2) 1, type := 0, pos := "ref.go:109", after := #[{ on := 0, ground := Ground.phase }, { on := 1, ground := Ground.phase }, { on := 2, ground := Ground.phase }, { on := 3, ground := Ground.phase }, { on := 4, ground := Ground.phase }, { on := 5, ground := Ground.phase }, { on := 6, ground := Ground.phase }, { on := 7, ground := Ground.phase }, { on := 8, ground := Ground.phase }, { on := 9, ground := Ground.phase }, { on := 10, ground := Ground.phase }, { on := 11, ground := Ground.phase }], guard := none }) (v := .pointer (some ⟨tb, 1, none⟩)) rfl (by kernel_rfl) (by kernel_rfl) (by kernel_rfl) (fun _ _ _ h => h) (Or.inl ⟨by rfl, ?_⟩) HK10.out.1.cells ?_
                  · (intro w' hSw; go_simp)
                  simp only [Act.put, List.setIfInBounds_toArray, List.set_cons_zero, List.set_cons_succ]
                  refine wpAnyH_ready (rs := [13]) (by kernel_rfl) (by simp) (AllReadyH.cons (o := { dst := none, op := Op.store 22 (Operand.tmp 46) (Operand.tmp 45), type := 0, pos := "ref.go:109", after := #[{ on := 12, ground := Ground.data }, { on := 11, ground := Ground.data }, { on := 11, ground := Ground.chain }, { on := 0, ground := Ground.phase }, { on := 1, ground := Ground.phase }, { on := 2, ground := Ground.phase }, { on := 3, ground := Ground.phase }, { on := 4, ground := Ground.phase }, { on := 5, ground := Ground.phase }, { on := 6, ground := Ground.phase }, { on := 7, ground := Ground.phase }, { on := 8, ground := Ground.phase }, { on := 9, ground := Ground.phase }, { on := 10, ground := Ground.phase }, { on := 11, ground := Ground.phase }], guard := none }) rfl (fun K hK => ?_) AllReadyH.nil)
                  go_simp
                  refine hK.out _ _ (HK10.out.2 _).cells (fun _ => ?_)
                  clear hK K
                  try simp only [Act.put, List.setIfInBounds_toArray, List.set_cons_zero, List.set_cons_succ]
                  refine wpAnyH_done (by kernel_rfl) ?_ _
                  go_wp2_with (fail)
                  go_meet
                  case rel => exact ⟨rfl, HFIN.out.1, HFIN.out.2.1, HFIN.out.2.2.1, HFIN.out.2.2.2⟩
              · go_simp
                refine hK.out _ _ HK1.out (fun _ => ?_)
                clear hK K
                try simp only [Act.put, List.setIfInBounds_toArray, List.set_cons_zero, List.set_cons_succ]
                refine wpAnyH_ready (rs := [6]) (by kernel_rfl) (by simp) (AllReadyH.cons (o := { dst := some 40, op := Op.load 22 (Operand.tmp 39), type := 22, pos := "ref.go:109", after := #[{ on := 5, ground := Ground.data }], guard := none }) rfl (fun K hK => ?_) AllReadyH.nil)
                · go_simp
                  refine hK.out _ _ HK1.out (fun _ => ?_)
                  clear hK K
                  try simp only [Act.put, List.setIfInBounds_toArray, List.set_cons_zero, List.set_cons_succ]
                  refine wpAnyH_take (i := 7) (oi := { dst := some 41, op := Op.call { callee := Callee.builtin Builtin.len, args := #[Operand.tmp 40], argTypes := #[22] }, type := 3, pos := "ref.go:109", after := #[{ on := 6, ground := Ground.data }], guard := none }) (v := .int .i64 (l.length : Int)) rfl (by kernel_rfl) (by kernel_rfl) (by kernel_rfl) (fun _ _ _ h => h) (Or.inl ⟨by rfl, ?_⟩) HK1.out ?_
                  · (intro w' hSw; go_simp)
                  simp only [Act.put, List.setIfInBounds_toArray, List.set_cons_zero, List.set_cons_succ]
                  refine wpAnyH_take (i := 8) (oi := { dst := some 42, op := Op.slice 22 (Operand.tmp 35) none (some (Operand.tmp 38)) (some (Operand.tmp 41)), type := 22, pos := "ref.go:109", after := #[{ on := 1, ground := Ground.data }, { on := 4, ground := Ground.data }, { on := 7, ground := Ground.data }], guard := none }) (v := .slice A l.length l.length) rfl (by kernel_rfl) (by kernel_rfl) (by kernel_rfl) (fun _ _ _ h => h) (Or.inl ⟨by rfl, ?_⟩) HK1.out ?_
                  · (intro w' hSw; go_simp)
                  simp only [Act.put, List.setIfInBounds_toArray, List.set_cons_zero, List.set_cons_succ]
                  refine wpAnyH_ready (rs := [11]) (by kernel_rfl) (by simp) (AllReadyH.cons (o := { dst := some 45, op := Op.call { callee := Callee.builtin Builtin.append, args := #[Operand.tmp 42, Operand.tmp 44], argTypes := #[22, 22] }, type := 22, pos := "ref.go:109", after := #[{ on := 8, ground := Ground.data }, { on := 10, ground := Ground.data }], guard := none }) rfl (fun K hK => ?_) AllReadyH.nil)
                  refine step_append_by (by rfl) _ _ 22 22 (by rfl) _ _ (by rfl) (by rfl) _ _ HRUN.out ?_
                  intro w10 hw10
                  obtain ⟨y1, y2⟩ := HG.out w10 hw10
                  have HK10 := Lib.hid (HKG.out w10 hw10)
                  have HFIN := Lib.hid (HEND.out w10 hw10)
                  clear hw10
                  refine hK.out _ _ HK10.out.1.cells (fun _ => ?_)
                  clear hK K
                  try simp only [Act.put, List.setIfInBounds_toArray, List.set_cons_zero, List.set_cons_succ]
                  refine wpAnyH_take (i := 12) (oi := { dst := some 46, op := Op.fieldAddr 29 (Operand.tmp 2) 1, type := 0, pos := "ref.go:109", after := #[{ on := 0, ground := Ground.phase }, { on := 1, ground := Ground.phase }, { on := 2, ground := Ground.phase }, { on := 3, ground := Ground.phase }, { on := 4, ground := Ground.phase }, { on := 5, ground := Ground.phase }, { on := 6, ground := Ground.phase }, { on := 7, ground := Ground.phase }, { on := 8, ground := Ground.phase }, { on := 9, ground := Ground.phase }, { on := 10, ground := Ground.phase }, { on := 11, ground := Ground.phase }], guard := none }) (v := .pointer (some ⟨tb, 1, none⟩)) rfl (by kernel_rfl) (by kernel_rfl) (by kernel_rfl) (fun _ _ _ h => h) (Or.inl ⟨by rfl, ?_⟩) HK10.out.1.cells ?_
                  · (intro w' hSw; go_simp)
                  simp only [Act.put, List.setIfInBounds_toArray, List.set_cons_zero, List.set_cons_succ]
                  refine wpAnyH_ready (rs := [13]) (by kernel_rfl) (by simp) (AllReadyH.cons (o := { dst := none, op := Op.store 22 (Operand.tmp 46) (Operand.tmp 45), type := 0, pos := "ref.go:109", after := #[{ on := 12, ground := Ground.data }, { on := 11, ground := Ground.data }, { on := 11, ground := Ground.chain }, { on := 0, ground := Ground.phase }, { on := 1, ground := Ground.phase }, { on := 2, ground := Ground.phase }, { on := 3, ground := Ground.phase }, { on := 4, ground := Ground.phase }, { on := 5, ground := Ground.phase }, { on := 6, ground := Ground.phase }, { on := 7, ground := Ground.phase }, { on := 8, ground := Ground.phase }, { on := 9, ground := Ground.phase }, { on := 10, ground := Ground.phase }, { on := 11, ground := Ground.phase }], guard := none }) rfl (fun K hK => ?_) AllReadyH.nil)
                  go_simp
                  refine hK.out _ _ (HK10.out.2 _).cells (fun _ => ?_)
                  clear hK K
                  try simp only [Act.put, List.setIfInBounds_toArray, List.set_cons_zero, List.set_cons_succ]
                  refine wpAnyH_done (by kernel_rfl) ?_ _
                  go_wp2_with (fail)
                  go_meet
                  case rel => exact ⟨rfl, HFIN.out.1, HFIN.out.2.1, HFIN.out.2.2.1, HFIN.out.2.2.2⟩
            · go_simp
              refine hK.out _ _ HK0.out (fun _ => ?_)
              clear hK K
              try simp only [Act.put, List.setIfInBounds_toArray, List.set_cons_zero, List.set_cons_succ]
              refine wpAnyH_take (i := 7) (oi := { dst := some 41, op := Op.call { callee := Callee.builtin Builtin.len, args := #[Operand.tmp 40], argTypes := #[22] }, type := 3, pos := "ref.go:109", after := #[{ on := 6, ground := Ground.data }], guard := none }) (v := .int .i64 (l.length : Int)) rfl (by kernel_rfl) (by kernel_rfl) (by kernel_rfl) (fun _ _ _ h => h) (Or.inl ⟨by rfl, ?_⟩) HK0.out ?_
              · (intro w' hSw; go_simp)
              simp only [Act.put, List.setIfInBounds_toArray, List.set_cons_zero, List.set_cons_succ]
              refine wpAnyH_ready (rs := [1, 10]) (by kernel_rfl) (by simp) (AllReadyH.cons (o := { dst := some 35, op := Op.load 22 (Operand.tmp 34), type := 22, pos := "ref.go:109", after := #[{ on := 0, ground := Ground.data }], guard := none }) rfl (fun K hK => ?_) (AllReadyH.cons (o := { dst := some 44, op := Op.buildSlice 22 1 #[(0, Operand.tmp 43)], type := 22, pos := "ref.go:109", after := #[{ on := 9, ground := Ground.data }], guard := none }) rfl (fun K hK => ?_) AllReadyH.nil))
              · go_simp
                refine hK.out _ _ HK0.out (fun _ => ?_)
                clear hK K
                try simp only [Act.put, List.setIfInBounds_toArray, List.set_cons_zero, List.set_cons_succ]
                refine wpAnyH_take (i := 8) (oi := { dst := some 42, op := Op.slice 22 (Operand.tmp 35) none (some (Operand.tmp 38)) (some (Operand.tmp 41)), type := 22, pos := "ref.go:109", after := #[{ on := 1, ground := Ground.data }, { on := 4, ground := Ground.data }, { on := 7, ground := Ground.data }], guard := none }) (v := .slice A l.length l.length) rfl (by kernel_rfl) (by kernel_rfl) (by kernel_rfl) (fun _ _ _ h => h) (Or.inl ⟨by rfl, ?_⟩) HK0.out ?_
                · (intro w' hSw; go_simp)
                simp only [Act.put, List.setIfInBounds_toArray, List.set_cons_zero, List.set_cons_succ]
                refine wpAnyH_ready (rs := [10]) (by kernel_rfl) (by simp) (AllReadyH.cons (o := { dst := some 44, op := Op.buildSlice 22 1 #[(0, Operand.tmp 43)], type := 22, pos := "ref.go:109", after := #[{ on := 9, ground := Ground.data }], guard := none }) rfl (fun K hK => ?_) AllReadyH.nil)
                · go_simp
                  refine hK.out _ _ HK1.out (fun _ => ?_)
                  clear hK K
                  try simp only [Act.put, List.setIfInBounds_toArray, List.set_cons_zero, List.set_cons_succ]
                  refine wpAnyH_ready (rs := [11]) (by kernel_rfl) (by simp) (AllReadyH.cons (o := { dst := some 45, op := Op.call { callee := Callee.builtin Builtin.append, args := #[Operand.tmp 42, Operand.tmp 44], argTypes := #[22, 22] }, type := 22, pos := "ref.go:109", after := #[{ on := 8, ground := Ground.data }, { on := 10, ground := Ground.data }], guard := none }) rfl (fun K hK => ?_) AllReadyH.nil)
                  refine step_append_by (by rfl) _ _ 22 22 (by rfl) _ _ (by rfl) (by rfl) _ _ HRUN.out ?_
                  intro w10 hw10
                  obtain ⟨y1, y2⟩ := HG.out w10 hw10
                  have HK10 := Lib.hid (HKG.out w10 hw10)
                  have HFIN := Lib.hid (HEND.out w10 hw10)
                  clear hw10
                  refine hK.out _ _ HK10.out.1.cells (fun _ => ?_)
                  clear hK K
                  try simp only [Act.put, List.setIfInBounds_toArray, List.set_cons_zero, List.set_cons_succ]
                  refine wpAnyH_take (i := 12) (oi := { dst := some 46, op := Op.fieldAddr 29 (Operand.tmp 2) 1, type := 0, pos := "ref.go:109", after := #[{ on := 0, ground := Ground.phase }, { on := 1, ground := Ground.phase }, { on := 2, ground := Ground.phase }, { on := 3, ground := Ground.phase }, { on := 4, ground := Ground.phase }, { on := 5, ground := Ground.phase }, { on := 6, ground := Ground.phase }, { on := 7, ground := Ground.phase }, { on := 8, ground := Ground.phase }, { on := 9, ground := Ground.phase }, { on := 10, ground := Ground.phase }, { on := 11, ground := Ground.phase }], guard := none }) (v := .pointer (some ⟨tb, 1, none⟩)) rfl (by kernel_rfl) (by kernel_rfl) (by kernel_rfl) (fun _ _ _ h => h) (Or.inl ⟨by rfl, ?_⟩) HK10.out.1.cells ?_
                  · (intro w' hSw; go_simp)
                  simp only [Act.put, List.setIfInBounds_toArray, List.set_cons_zero, List.set_cons_succ]
                  refine wpAnyH_ready (rs := [13]) (by kernel_rfl) (by simp) (AllReadyH.cons (o := { dst := none, op := Op.store 22 (Operand.tmp 46) (Operand.tmp 45), type := 0, pos := "ref.go:109", after := #[{ on := 12, ground := Ground.data }, { on := 11, ground := Ground.data }, { on := 11, ground := Ground.chain }, { on := 0, ground := Ground.phase }, { on := 1, ground := Ground.phase }, { on := 2, ground := Ground.phase }, { on := 3, ground := Ground.phase }, { on := 4, ground := Ground.phase }, { on := 5, ground := Ground.phase }, { on := 6, ground := Ground.phase }, { on := 7, ground := Ground.phase }, { on := 8, ground := Ground.phase }, { on := 9, ground := Ground.phase }, { on := 10, ground := Ground.phase }, { on := 11, ground := Ground.phase }], guard := none }) rfl (fun K hK => ?_) AllReadyH.nil)
                  go_simp
                  refine hK.out _ _ (HK10.out.2 _).cells (fun _ => ?_)
                  clear hK K
                  try simp only [Act.put, List.setIfInBounds_toArray, List.set_cons_zero, List.set_cons_succ]
                  refine wpAnyH_done (by kernel_rfl) ?_ _
                  go_wp2_with (fail)
                  go_meet
                  case rel => exact ⟨rfl, HFIN.out.1, HFIN.out.2.1, HFIN.out.2.2.1, HFIN.out.2.2.2⟩
              · go_simp
                refine hK.out _ _ HK1.out (fun _ => ?_)
                clear hK K
                try simp only [Act.put, List.setIfInBounds_toArray, List.set_cons_zero, List.set_cons_succ]
                refine wpAnyH_ready (rs := [1]) (by kernel_rfl) (by simp) (AllReadyH.cons (o := { dst := some 35, op := Op.load 22 (Operand.tmp 34), type := 22, pos := "ref.go:109", after := #[{ on := 0, ground := Ground.data }], guard := none }) rfl (fun K hK => ?_) AllReadyH.nil)
                · go_simp
                  refine hK.out _ _ HK1.out (fun _ => ?_)
                  clear hK K
                  try simp only [Act.put, List.setIfInBounds_toArray, List.set_cons_zero, List.set_cons_succ]
                  refine wpAnyH_take (i := 8) (oi := { dst := some 42, op := Op.slice 22 (Operand.tmp 35) none (some (Operand.tmp 38)) (some (Operand.tmp 41)), type := 22, pos := "ref.go:109", after := #[{ on := 1, ground := Ground.data }, { on := 4, ground := Ground.data }, { on := 7, ground := Ground.data }], guard := none }) (v := .slice A l.length l.length) rfl (by kernel_rfl) (by kernel_rfl) (by kernel_rfl) (fun _ _ _ h => h) (Or.inl ⟨by rfl, ?_⟩) HK1.out ?_
                  · (intro w' hSw; go_simp)
                  simp only [Act.put, List.setIfInBounds_toArray, List.set_cons_zero, List.set_cons_succ]
                  refine wpAnyH_ready (rs := [11]) (by kernel_rfl) (by simp) (AllReadyH.cons (o := { dst := some 45, op := Op.call { callee := Callee.builtin Builtin.append, args := #[Operand.tmp 42, Operand.tmp 44], argTypes := #[22, 22] }, type := 22, pos := "ref.go:109", after := #[{ on := 8, ground := Ground.data }, { on := 10, ground := Ground.data }], guard := none }) rfl (fun K hK => ?_) AllReadyH.nil)
                  refine step_append_by (by rfl) _ _ 22 22 (by rfl) _ _ (by rfl) (by rfl) _ _ HRUN.out ?_
                  intro w10 hw10
                  obtain ⟨y1, y2⟩ := HG.out w10 hw10
                  have HK10 := Lib.hid (HKG.out w10 hw10)
                  have HFIN := Lib.hid (HEND.out w10 hw10)
                  clear hw10
                  refine hK.out _ _ HK10.out.1.cells (fun _ => ?_)
                  clear hK K
                  try simp only [Act.put, List.setIfInBounds_toArray, List.set_cons_zero, List.set_cons_succ]
                  refine wpAnyH_take (i := 12) (oi := { dst := some 46, op := Op.fieldAddr 29 (Operand.tmp 2) 1, type := 0, pos := "ref.go:109", after := #[{ on := 0, ground := Ground.phase }, { on := 1, ground := Ground.phase }, { on := 2, ground := Ground.phase }, { on := 3, ground := Ground.phase }, { on := 4, ground := Ground.phase }, { on := 5, ground := Ground.phase }, { on := 6, ground := Ground.phase }, { on := 7, ground := Ground.phase }, { on := 8, ground := Ground.phase }, { on := 9, ground := Ground.phase }, { on := 10, ground := Ground.phase }, { on := 11, ground := Ground.phase }], guard := none }) (v := .pointer (some ⟨tb, 1, none⟩)) rfl (by kernel_rfl) (by kernel_rfl) (by kernel_rfl) (fun _ _ _ h => h) (Or.inl ⟨by rfl, ?_⟩) HK10.out.1.cells ?_
                  · (intro w' hSw; go_simp)
                  simp only [Act.put, List.setIfInBounds_toArray, List.set_cons_zero, List.set_cons_succ]
                  refine wpAnyH_ready (rs := [13]) (by kernel_rfl) (by simp) (AllReadyH.cons (o := { dst := none, op := Op.store 22 (Operand.tmp 46) (Operand.tmp 45), type := 0, pos := "ref.go:109", after := #[{ on := 12, ground := Ground.data }, { on := 11, ground := Ground.data }, { on := 11, ground := Ground.chain }, { on := 0, ground := Ground.phase }, { on := 1, ground := Ground.phase }, { on := 2, ground := Ground.phase }, { on := 3, ground := Ground.phase }, { on := 4, ground := Ground.phase }, { on := 5, ground := Ground.phase }, { on := 6, ground := Ground.phase }, { on := 7, ground := Ground.phase }, { on := 8, ground := Ground.phase }, { on := 9, ground := Ground.phase }, { on := 10, ground := Ground.phase }, { on := 11, ground := Ground.phase }], guard := none }) rfl (fun K hK => ?_) AllReadyH.nil)
                  go_simp
                  refine hK.out _ _ (HK10.out.2 _).cells (fun _ => ?_)
                  clear hK K
                  try simp only [Act.put, List.setIfInBounds_toArray, List.set_cons_zero, List.set_cons_succ]
                  refine wpAnyH_done (by kernel_rfl) ?_ _
                  go_wp2_with (fail)
                  go_meet
                  case rel => exact ⟨rfl, HFIN.out.1, HFIN.out.2.1, HFIN.out.2.2.1, HFIN.out.2.2.2⟩
            · go_simp
              refine hK.out _ _ HK1.out (fun _ => ?_)
              clear hK K
              try simp only [Act.put, List.setIfInBounds_toArray, List.set_cons_zero, List.set_cons_succ]
              refine wpAnyH_ready (rs := [1, 6]) (by kernel_rfl) (by simp) (AllReadyH.cons (o := { dst := some 35, op := Op.load 22 (Operand.tmp 34), type := 22, pos := "ref.go:109", after := #[{ on := 0, ground := Ground.data }], guard := none }) rfl (fun K hK => ?_) (AllReadyH.cons (o := { dst := some 40, op := Op.load 22 (Operand.tmp 39), type := 22, pos := "ref.go:109", after := #[{ on := 5, ground := Ground.data }], guard := none }) rfl (fun K hK => ?_) AllReadyH.nil))
              · go_simp
                refine hK.out _ _ HK1.out (fun _ => ?_)
                clear hK K
                try simp only [Act.put, List.setIfInBounds_toArray, List.set_cons_zero, List.set_cons_succ]
                refine wpAnyH_ready (rs := [6]) (by kernel_rfl) (by simp) (AllReadyH.cons (o := { dst := some 40, op := Op.load 22 (Operand.tmp 39), type := 22, pos := "ref.go:109", after := #[{ on := 5, ground := Ground.data }], guard := none }) rfl (fun K hK => ?_) AllReadyH.nil)
                · go_simp
                  refine hK.out _ _ HK1.out (fun _ => ?_)
                  clear hK K
                  try simp only [Act.put, List.setIfInBounds_toArray, List.set_cons_zero, List.set_cons_succ]
                  refine wpAnyH_take (i := 7) (oi := { dst := some 41, op := Op.call { callee := Callee.builtin Builtin.len, args := #[Operand.tmp 40], argTypes := #[22] }, type := 3, pos := "ref.go:109", after := #[{ on := 6, ground := Ground.data }], guard := none }) (v := .int .i64 (l.length : Int)) rfl (by kernel_rfl) (by kernel_rfl) (by kernel_rfl) (fun _ _ _ h => h) (Or.inl ⟨by rfl, ?_⟩) HK1.out ?_
                  · (intro w' hSw; go_simp)
                  simp only [Act.put, List.setIfInBounds_toArray, List.set_cons_zero, List.set_cons_succ]
                  refine wpAnyH_take (i := 8) (oi := { dst := some 42, op := Op.slice 22 (Operand.tmp 35) none (some (Operand.tmp 38)) (some (Operand.tmp 41)), type := 22, pos := "ref.go:109", after := #[{ on := 1, ground := Ground.data }, { on := 4, ground := Ground.data }, { on := 7, ground := Ground.data }], guard := none }) (v := .slice A l.length l.length) rfl (by kernel_rfl) (by kernel_rfl) (by kernel_rfl) (fun _ _ _ h => h) (Or.inl ⟨by rfl, ?_⟩) HK1.out ?_
                  · (intro w' hSw; go_simp)
                  simp only [Act.put, List.setIfInBounds_toArray, List.set_cons_zero, List.set_cons_succ]
                  refine wpAnyH_ready (rs := [11]) (by kernel_rfl) (by simp) (AllReadyH.cons (o := { dst := some 45, op := Op.call { callee := Callee.builtin Builtin.append, args := #[Operand.tmp 42, Operand.tmp 44], argTypes := #[22, 22] }, type := 22, pos := "ref.go:109", after := #[{ on := 8, ground := Ground.data }, { on := 10, ground := Ground.data }], guard := none }) rfl (fun K hK => ?_) AllReadyH.nil)
                  refine step_append_by (by rfl) _ _ 22 22 (by rfl) _ _ (by rfl) (by rfl) _ _ HRUN.out ?_
                  intro w10 hw10
                  obtain ⟨y1, y2⟩ := HG.out w10 hw10
                  have HK10 := Lib.hid (HKG.out w10 hw10)
                  have HFIN := Lib.hid (HEND.out w10 hw10)
                  clear hw10
                  refine hK.out _ _ HK10.out.1.cells (fun _ => ?_)
                  clear hK K
                  try simp only [Act.put, List.setIfInBounds_toArray, List.set_cons_zero, List.set_cons_succ]
                  refine wpAnyH_take (i := 12) (oi := { dst := some 46, op := Op.fieldAddr 29 (Operand.tmp 2) 1, type := 0, pos := "ref.go:109", after := #[{ on := 0, ground := Ground.phase }, { on := 1, ground := Ground.phase }, { on := 2, ground := Ground.phase }, { on := 3, ground := Ground.phase }, { on := 4, ground := Ground.phase }, { on := 5, ground := Ground.phase }, { on := 6, ground := Ground.phase }, { on := 7, ground := Ground.phase }, { on := 8, ground := Ground.phase }, { on := 9, ground := Ground.phase }, { on := 10, ground := Ground.phase }, { on := 11, ground := Ground.phase }], guard := none }) (v := .pointer (some ⟨tb, 1, none⟩)) rfl (by kernel_rfl) (by kernel_rfl) (by kernel_rfl) (fun _ _ _ h => h) (Or.inl ⟨by rfl, ?_⟩) HK10.out.1.cells ?_
                  · (intro w' hSw; go_simp)
                  simp only [Act.put, List.setIfInBounds_toArray, List.set_cons_zero, List.set_cons_succ]
                  refine wpAnyH_ready (rs := [13]) (by kernel_rfl) (by simp) (AllReadyH.cons (o := { dst := none, op := Op.store 22 (Operand.tmp 46) (Operand.tmp 45), type := 0, pos := "ref.go:109", after := #[{ on := 12, ground := Ground.data }, { on := 11, ground := Ground.data }, { on := 11, ground := Ground.chain }, { on := 0, ground := Ground.phase }, { on := 1, ground := Ground.phase }, { on := 2, ground := Ground.phase }, { on := 3, ground := Ground.phase }, { on := 4, ground := Ground.phase }, { on := 5, ground := Ground.phase }, { on := 6, ground := Ground.phase }, { on := 7, ground := Ground.phase }, { on := 8, ground := Ground.phase }, { on := 9, ground := Ground.phase }, { on := 10, ground := Ground.phase }, { on := 11, ground := Ground.phase }], guard := none }) rfl (fun K hK => ?_) AllReadyH.nil)
                  go_simp
                  refine hK.out _ _ (HK10.out.2 _).cells (fun _ => ?_)
                  clear hK K
                  try simp only [Act.put, List.setIfInBounds_toArray, List.set_cons_zero, List.set_cons_succ]
                  refine wpAnyH_done (by kernel_rfl) ?_ _
                  go_wp2_with (fail)
                  go_meet
                  case rel => exact ⟨rfl, HFIN.out.1, HFIN.out.2.1, HFIN.out.2.2.1, HFIN.out.2.2.2⟩
              · go_simp
                refine hK.out _ _ HK1.out (fun _ => ?_)
                clear hK K
                try simp only [Act.put, List.setIfInBounds_toArray, List.set_cons_zero, List.set_cons_succ]
                refine wpAnyH_take (i := 7) (oi := { dst := some 41, op := Op.call { callee := Callee.builtin Builtin.len, args := #[Operand.tmp 40], argTypes := #[22] }, type := 3, pos := "ref.go:109", after := #[{ on := 6, ground := Ground.data }], guard := none }) (v := .int .i64 (l.length : Int)) rfl (by kernel_rfl) (by kernel_rfl) (by kernel_rfl) (fun _ _ _ h => h) (Or.inl ⟨by rfl, ?_⟩) HK1.out ?_
                · (intro w' hSw; go_simp)
                simp only [Act.put, List.setIfInBounds_toArray, List.set_cons_zero, List.set_cons_succ]
                refine wpAnyH_ready (rs := [1]) (by kernel_rfl) (by simp) (AllReadyH.cons (o := { dst := some 35, op := Op.load 22 (Operand.tmp 34), type := 22, pos := "ref.go:109", after := #[{ on := 0, ground := Ground.data }], guard := none }) rfl (fun K hK => ?_) AllReadyH.nil)
                · go_simp
                  refine hK.out _ _ HK1.out (fun _ => ?_)
                  clear hK K
                  try simp only [Act.put, List.setIfInBounds_toArray, List.set_cons_zero, List.set_cons_succ]
                  refine wpAnyH_take (i := 8) (oi := { dst := some 42, op := Op.slice 22 (Operand.tmp 35) none (some (Operand.tmp 38)) (some (Operand.tmp 41)), type := 22, pos := "ref.go:109", after := #[{ on := 1, ground := Ground.data }, { on := 4, ground := Ground.data }, { on := 7, ground := Ground.data }], guard := none }) (v := .slice A l.length l.length) rfl (by kernel_rfl) (by kernel_rfl) (by kernel_rfl) (fun _ _ _ h => h) (Or.inl ⟨by rfl, ?_⟩) HK1.out ?_
                  · (intro w' hSw; go_simp)
                  simp only [Act.put, List.setIfInBounds_toArray, List.set_cons_zero, List.set_cons_succ]
                  refine wpAnyH_ready (rs := [11]) (by kernel_rfl) (by simp) (AllReadyH.cons (o := { dst := some 45, op := Op.call { callee := Callee.builtin Builtin.append, args := #[Operand.tmp 42, Operand.tmp 44], argTypes := #[22, 22] }, type := 22, pos := "ref.go:109", after := #[{ on := 8, ground := Ground.data }, { on := 10, ground := Ground.data }], guard := none }) rfl (fun K hK => ?_) AllReadyH.nil)
                  refine step_append_by (by rfl) _ _ 22 22 (by rfl) _ _ (by rfl) (by rfl) _ _ HRUN.out ?_
                  intro w10 hw10
                  obtain ⟨y1, y2⟩ := HG.out w10 hw10
                  have HK10 := Lib.hid (HKG.out w10 hw10)
                  have HFIN := Lib.hid (HEND.out w10 hw10)
                  clear hw10
                  refine hK.out _ _ HK10.out.1.cells (fun _ => ?_)
                  clear hK K
                  try simp only [Act.put, List.setIfInBounds_toArray, List.set_cons_zero, List.set_cons_succ]
                  refine wpAnyH_take (i := 12) (oi := { dst := some 46, op := Op.fieldAddr 29 (Operand.tmp 2) 1, type := 0, pos := "ref.go:109", after := #[{ on := 0, ground := Ground.phase }, { on := 1, ground := Ground.phase }, { on := 2, ground := Ground.phase }, { on := 3, ground := Ground.phase }, { on := 4, ground := Ground.phase }, { on := 5, ground := Ground.phase }, { on := 6, ground := Ground.phase }, { on := 7, ground := Ground.phase }, { on := 8, ground := Ground.phase }, { on := 9, ground := Ground.phase }, { on := 10, ground := Ground.phase }, { on := 11, ground := Ground.phase }], guard := none }) (v := .pointer (some ⟨tb, 1, none⟩)) rfl (by kernel_rfl) (by kernel_rfl) (by kernel_rfl) (fun _ _ _ h => h) (Or.inl ⟨by rfl, ?_⟩) HK10.out.1.cells ?_
                  · (intro w' hSw; go_simp)
                  simp only [Act.put, List.setIfInBounds_toArray, List.set_cons_zero, List.set_cons_succ]
                  refine wpAnyH_ready (rs := [13]) (by kernel_rfl) (by simp) (AllReadyH.cons (o := { dst := none, op := Op.store 22 (Operand.tmp 46) (Operand.tmp 45), type := 0, pos := "ref.go:109", after := #[{ on := 12, ground := Ground.data }, { on := 11, ground := Ground.data }, { on := 11, ground := Ground.chain }, { on := 0, ground := Ground.phase }, { on := 1, ground := Ground.phase }, { on := 2, ground := Ground.phase }, { on := 3, ground := Ground.phase }, { on := 4, ground := Ground.phase }, { on := 5, ground := Ground.phase }, { on := 6, ground := Ground.phase }, { on := 7, ground := Ground.phase }, { on := 8, ground := Ground.phase }, { on := 9, ground := Ground.phase }, { on := 10, ground := Ground.phase }, { on := 11, ground := Ground.phase }], guard := none }) rfl (fun K hK => ?_) AllReadyH.nil)
                  go_simp
                  refine hK.out _ _ (HK10.out.2 _).cells (fun _ => ?_)
                  clear hK K
                  try simp only [Act.put, List.setIfInBounds_toArray, List.set_cons_zero, List.set_cons_succ]
                  refine wpAnyH_done (by kernel_rfl) ?_ _
                  go_wp2_with (fail)
                  go_meet
                  case rel => exact ⟨rfl, HFIN.out.1, HFIN.out.2.1, HFIN.out.2.2.1, HFIN.out.2.2.2⟩
          · go_simp
            refine hK.out _ _ HK0.out (fun _ => ?_)
            clear hK K
            try simp only [Act.put, List.setIfInBounds_toArray, List.set_cons_zero, List.set_cons_succ]
            refine wpAnyH_take (i := 7) (oi := { dst := some 41, op := Op.call { callee := Callee.builtin Builtin.len, args := #[Operand.tmp 40], argTypes := #[22] }, type := 3, pos := "ref.go:109", after := #[{ on := 6, ground := Ground.data }], guard := none }) (v := .int .i64 (l.length : Int)) rfl (by kernel_rfl) (by kernel_rfl) (by kernel_rfl) (fun _ _ _ h => h) (Or.inl ⟨by rfl, ?_⟩) HK0.out ?_
            · (intro w' hSw; go_simp)
            simp only [Act.put, List.setIfInBounds_toArray, List.set_cons_zero, List.set_cons_succ]
            refine wpAnyH_ready (rs := [1, 3, 10]) (by kernel_rfl) (by simp) (AllReadyH.cons (o := { dst := some 35, op := Op.load 22 (Operand.tmp 34), type := 22, pos := "ref.go:109", after := #[{ on := 0, ground := Ground.data }], guard := none }) rfl (fun K hK => ?_) (AllReadyH.cons (o := { dst := some 37, op := Op.load 22 (Operand.tmp 36), type := 22, pos := "ref.go:109", after := #[{ on := 2, ground := Ground.data }], guard := none }) rfl (fun K hK => ?_) (AllReadyH.cons (o := { dst := some 44, op := Op.buildSlice 22 1 #[(0, Operand.tmp 43)], type := 22, pos := "ref.go:109", after := #[{ on := 9, ground := Ground.data }], guard := none }) rfl (fun K hK => ?_) AllReadyH.nil)))
            · go_simp
              refine hK.out _ _ HK0.out (fun _ => ?_)
              clear hK K
              try simp only [Act.put, List.setIfInBounds_toArray, List.set_cons_zero, List.set_cons_succ]
              refine wpAnyH_ready (rs := [3, 10]) (by kernel_rfl) (by simp) (AllReadyH.cons (o := { dst := some 37, op := Op.load 22 (Operand.tmp 36), type := 22, pos := "ref.go:109", after := #[{ on := 2, ground := Ground.data }], guard := none }) rfl (fun K hK => ?_) (AllReadyH.cons (o := { dst := some 44, op := Op.buildSlice 22 1 #[(0, Operand.tmp 43)], type := 22, pos := "ref.go:109", after := #[{ on := 9, ground := Ground.data }], guard := none }) rfl (fun K hK => ?_) AllReadyH.nil))
              · go_simp
                refine hK.out _ _ HK0.out (fun _ => ?_)
                clear hK K
                try simp only [Act.put, List.setIfInBounds_toArray, List.set_cons_zero, List.set_cons_succ]
                refine wpAnyH_take (i := 4) (oi := { dst := some 38, op := Op.call { callee := Callee.builtin Builtin.len, args := #[Operand.tmp 37], argTypes := #[22] }, type := 3, pos := "ref.go:109", after := #[{ on := 3, ground := Ground.data }], guard := none }) (v := .int .i64 (l.length : Int)) rfl (by kernel_rfl) (by kernel_rfl) (by kernel_rfl) (fun _ _ _ h => h) (Or.inl ⟨by rfl, ?_⟩) HK0.out ?_
                · (intro w' hSw; go_simp)
                simp only [Act.put, List.setIfInBounds_toArray, List.set_cons_zero, List.set_cons_succ]
                refine wpAnyH_take (i := 8) (oi := { dst := some 42, op := Op.slice 22 (Operand.tmp 35) none (some (Operand.tmp 38)) (some (Operand.tmp 41)), type := 22, pos := "ref.go:109", after := #[{ on := 1, ground := Ground.data }, { on := 4, ground := Ground.data }, { on := 7, ground := Ground.data }], guard := none }) (v := .slice A l.length l.length) rfl (by kernel_rfl) (by kernel_rfl) (by kernel_rfl) (fun _ _ _ h => h) (Or.inl ⟨by rfl, ?_⟩) HK0.out ?_
                · (intro w' hSw; go_simp)
                simp only [Act.put, List.setIfInBounds_toArray, List.set_cons_zero, List.set_cons_succ]
                refine wpAnyH_ready (rs := [10]) (by kernel_rfl) (by simp) (AllReadyH.cons (o := { dst := some 44, op := Op.buildSlice 22 1 #[(0, Operand.tmp 43)], type := 22, pos := "ref.go:109", after := #[{ on := 9, ground := Ground.data }], guard := none }) rfl (fun K hK => ?_) AllReadyH.nil)
                · go_simp
                  refine hK.out _ _ HK1.out (fun _ => ?_)
                  clear hK K
                  try simp only [Act.put, List.setIfInBounds_toArray, List.set_cons_zero, List.set_cons_succ]
                  refine wpAnyH_ready (rs := [11]) (by kernel_rfl) (by simp) (AllReadyH.cons (o := { dst := some 45, op := Op.call { callee := Callee.builtin Builtin.append, args := #[Operand.tmp 42, Operand.tmp 44], argTypes := #[22, 22] }, type := 22, pos := "ref.go:109", after := #[{ on := 8, ground := Ground.data }, { on := 10, ground := Ground.data }], guard := none }) rfl (fun K hK => ?_) AllReadyH.nil)
                  refine step_append_by (by rfl) _ _ 22 22 (by rfl) _ _ (by rfl) (by rfl) _ _ HRUN.out ?_
                  intro w10 hw10
                  obtain ⟨y1, y2⟩ := HG.out w10 hw10
                  have HK10 := Lib.hid (HKG.out w10 hw10)
                  have HFIN := Lib.hid (HEND.out w10 hw10)
                  clear hw10
                  refine hK.out _ _ HK10.out.1.cells (fun _ => ?_)
                  clear hK K
                  try simp only [Act.put, List.setIfInBounds_toArray, List.set_cons_zero, List.set_cons_succ]
                  refine wpAnyH_take (i := 12) (oi := { dst := some 46, op := Op.fieldAddr 29 (Operand.tmp 2) 1, type := 0, pos := "ref.go:109", after := #[{ on := 0, ground := Ground.phase }, { on := 1, ground := Ground.phase }, { on := 2, ground := Ground.phase }, { on := 3, ground := Ground.phase }, { on := 4, ground := Ground.phase }, { on := 5, ground := Ground.phase }, { on := 6, ground := Ground.phase }, { on := 7, ground := Ground.phase }, { on := 8, ground := Ground.phase }, { on := 9, ground := Ground.phase }, { on := 10, ground := Ground.phase }, { on := 11, ground := Ground.phase }], guard := none }) (v := .pointer (some ⟨tb, 1, none⟩)) rfl (by kernel_rfl) (by kernel_rfl) (by kernel_rfl) (fun _ _ _ h => h) (Or.inl ⟨by rfl, ?_⟩) HK10.out.1.cells ?_
                  · (intro w' hSw; go_simp)
                  simp only [Act.put, List.setIfInBounds_toArray, List.set_cons_zero, List.set_cons_succ]
                  refine wpAnyH_ready (rs := [13]) (by kernel_rfl) (by simp) (AllReadyH.cons (o := { dst := none, op := Op.store 22 (Operand.tmp 46) (Operand.tmp 45), type := 0, pos := "ref.go:109", after := #[{ on := 12, ground := Ground.data }, { on := 11, ground := Ground.data }, { on := 11, ground := Ground.chain }, { on := 0, ground := Ground.phase }, { on := 1, ground := Ground.phase }, { on := 2, ground := Ground.phase }, { on := 3, ground := Ground.phase }, { on := 4, ground := Ground.phase }, { on := 5, ground := Ground.phase }, { on := 6, ground := Ground.phase }, { on := 7, ground := Ground.phase }, { on := 8, ground := Ground.phase }, { on := 9, ground := Ground.phase }, { on := 10, ground := Ground.phase }, { on := 11, ground := Ground.phase }], guard := none }) rfl (fun K hK => ?_) AllReadyH.nil)
                  go_simp
                  refine hK.out _ _ (HK10.out.2 _).cells (fun _ => ?_)
                  clear hK K
                  try simp only [Act.put, List.setIfInBounds_toArray, List.set_cons_zero, List.set_cons_succ]
                  refine wpAnyH_done (by kernel_rfl) ?_ _
                  go_wp2_with (fail)
                  go_meet
                  case rel => exact ⟨rfl, HFIN.out.1, HFIN.out.2.1, HFIN.out.2.2.1, HFIN.out.2.2.2⟩
              · go_simp
                refine hK.out _ _ HK1.out (fun _ => ?_)
                clear hK K
                try simp only [Act.put, List.setIfInBounds_toArray, List.set_cons_zero, List.set_cons_succ]
                refine wpAnyH_ready (rs := [3]) (by kernel_rfl) (by simp) (AllReadyH.cons (o := { dst := some 37, op := Op.load 22 (Operand.tmp 36), type := 22, pos := "ref.go:109", after := #[{ on := 2, ground := Ground.data }], guard := none }) rfl (fun K hK => ?_) AllReadyH.nil)
                · go_simp
                  refine hK.out _ _ HK1.out (fun _ => ?_)
                  clear hK K
                  try simp only [Act.put, List.setIfInBounds_toArray, List.set_cons_zero, List.set_cons_succ]
                  refine wpAnyH_take (i := 4) (oi := { dst := some 38, op := Op.call { callee := Callee.builtin Builtin.len, args := #[Operand.tmp 37], argTypes := #[22] }, type := 3, pos := "ref.go:109", after := #[{ on := 3, ground := Ground.data }], guard := none }) (v := .int .i64 (l.length : Int)) rfl (by kernel_rfl) (by kernel_rfl) (by kernel_rfl) (fun _ _ _ h => h) (Or.inl ⟨by rfl, ?_⟩) HK1.out ?_
                  · (intro w' hSw; go_simp)
                  simp only [Act.put, List.setIfInBounds_toArray, List.set_cons_zero, List.set_cons_succ]
                  refine wpAnyH_take (i := 8) (oi := { dst := some 42, op := Op.slice 22 (Operand.tmp 35) none (some (Operand.tmp 38)) (some (Operand.tmp 41)), type := 22, pos := "ref.go:109", after := #[{ on := 1, ground := Ground.data }, { on := 4, ground := Ground.data }, { on := 7, ground := Ground.data }], guard := none }) (v := .slice A l.length l.length) rfl (by kernel_rfl) (by kernel_rfl) (by kernel_rfl) (fun _ _ _ h => h) (Or.inl ⟨by rfl, ?_⟩) HK1.out ?_
                  · (intro w' hSw; go_simp)
                  simp only [Act.put, List.setIfInBounds_toArray, List.set_cons_zero, List.set_cons_succ]
                  refine wpAnyH_ready (rs := [11]) (by kernel_rfl) (by simp) (AllReadyH.cons (o := { dst := some 45, op := Op.call { callee := Callee.builtin Builtin.append, args := #[Operand.tmp 42, Operand.tmp 44], argTypes := #[22, 22] }, type := 22, pos := "ref.go:109", after := #[{ on := 8, ground := Ground.data }, { on := 10, ground := Ground.data }], guard := none }) rfl (fun K hK => ?_) AllReadyH.nil)
                  refine step_append_by (by rfl) _ _ 22 22 (by rfl) _ _ (by rfl) (by rfl) _ _ HRUN.out ?_
                  intro w10 hw10
                  obtain ⟨y1, y2⟩ := HG.out w10 hw10
                  have HK10 := Lib.hid (HKG.out w10 hw10)
                  have HFIN := Lib.hid (HEND.out w10 hw10)
                  clear hw10
                  refine hK.out _ _ HK10.out.1.cells (fun _ => ?_)
                  clear hK K
                  try simp only [Act.put, List.setIfInBounds_toArray, List.set_cons_zero, List.set_cons_succ]
                  refine wpAnyH_take (i := 12) (oi := { dst := some 46, op := Op.fieldAddr 29 (Operand.tmp 2) 1, type := 0, pos := "ref.go:109", after := #[{ on := 0, ground := Ground.phase }, { on := 1, ground := Ground.phase }, { on := 2, ground := Ground.phase }, { on := 3, ground := Ground.phase }, { on := 4, ground := Ground.phase }, { on := 5, ground := Ground.phase }, { on := 6, ground := Ground.phase }, { on := 7, ground := Ground.phase }, { on := 8, ground := Ground.phase }, { on := 9, ground := Ground.phase }, { on := 10, ground := Ground.phase }, { on := 11, ground := Ground.phase }], guard := none }) (v := .pointer (some ⟨tb, 1, none⟩)) rfl (by kernel_rfl) (by kernel_rfl) (by kernel_rfl) (fun _ _ _ h => h) (Or.inl ⟨by rfl, ?_⟩) HK10.out.1.cells ?_
                  · (intro w' hSw; go_simp)
                  simp only [Act.put, List.setIfInBounds_toArray, List.set_cons_zero, List.set_cons_succ]
                  refine wpAnyH_ready (rs := [13]) (by kernel_rfl) (by simp) (AllReadyH.cons (o := { dst := none, op := Op.store 22 (Operand.tmp 46) (Operand.tmp 45), type := 0, pos := "ref.go:109", after := #[{ on := 12, ground := Ground.data }, { on := 11, ground := Ground.data }, { on := 11, ground := Ground.chain }, { on := 0, ground := Ground.phase }, { on := 1, ground := Ground.phase }, { on := 2, ground := Ground.phase }, { on := 3, ground := Ground.phase }, { on := 4, ground := Ground.phase }, { on := 5, ground := Ground.phase }, { on := 6, ground := Ground.phase }, { on := 7, ground := Ground.phase }, { on := 8, ground := Ground.phase }, { on := 9, ground := Ground.phase }, { on := 10, ground := Ground.phase }, { on := 11, ground := Ground.phase }], guard := none }) rfl (fun K hK => ?_) AllReadyH.nil)
                  go_simp
                  refine hK.out _ _ (HK10.out.2 _).cells (fun _ => ?_)
                  clear hK K
                  try simp only [Act.put, List.setIfInBounds_toArray, List.set_cons_zero, List.set_cons_succ]
                  refine wpAnyH_done (by kernel_rfl) ?_ _
                  go_wp2_with (fail)
                  go_meet
                  case rel => exact ⟨rfl, HFIN.out.1, HFIN.out.2.1, HFIN.out.2.2.1, HFIN.out.2.2.2⟩
            · go_simp
              refine hK.out _ _ HK0.out (fun _ => ?_)
              clear hK K
              try simp only [Act.put, List.setIfInBounds_toArray, List.set_cons_zero, List.set_cons_succ]
              refine wpAnyH_take (i := 4) (oi := { dst := some 38, op := Op.call { callee := Callee.builtin Builtin.len, args := #[Operand.tmp 37], argTypes := #[22] }, type := 3, pos := "ref.go:109", after := #[{ on := 3, ground := Ground.data }], guard := none }) (v := .int .i64 (l.length : Int)) rfl (by kernel_rfl) (by kernel_rfl) (by kernel_rfl) (fun _ _ _ h => h) (Or.inl ⟨by rfl, ?_⟩) HK0.out ?_
              · (intro w' hSw; go_simp)
              simp only [Act.put, List.setIfInBounds_toArray, List.set_cons_zero, List.set_cons_succ]
              refine wpAnyH_ready (rs := [1, 10]) (by kernel_rfl) (by simp) (AllReadyH.cons (o := { dst := some 35, op := Op.load 22 (Operand.tmp 34), type := 22, pos := "ref.go:109", after := #[{ on := 0, ground := Ground.data }], guard := none }) rfl (fun K hK => ?_) (AllReadyH.cons (o := { dst := some 44, op := Op.buildSlice 22 1 #[(0, Operand.tmp 43)], type := 22, pos := "ref.go:109", after := #[{ on := 9, ground := Ground.data }], guard := none }) rfl (fun K hK => ?_) AllReadyH.nil))
              · go_simp
                refine hK.out _ _ HK0.out (fun _ => ?_)
                clear hK K
                try simp only [Act.put, List.setIfInBounds_toArray, List.set_cons_zero, List.set_cons_succ]
                refine wpAnyH_take (i := 8) (oi := { dst := some 42, op := Op.slice 22 (Operand.tmp 35) none (some (Operand.tmp 38)) (some (Operand.tmp 41)), type := 22, pos := "ref.go:109", after := #[{ on := 1, ground := Ground.data }, { on := 4, ground := Ground.data }, { on := 7, ground := Ground.data }], guard := none }) (v := .slice A l.length l.length) rfl (by kernel_rfl) (by kernel_rfl) (by kernel_rfl) (fun _ _ _ h => h) (Or.inl ⟨by rfl, ?_⟩) HK0.out ?_
                · (intro w' hSw; go_simp)
                simp only [Act.put, List.setIfInBounds_toArray, List.set_cons_zero, List.set_cons_succ]
                refine wpAnyH_ready (rs := [10]) (by kernel_rfl) (by simp) (AllReadyH.cons (o := { dst := some 44, op := Op.buildSlice 22 1 #[(0, Operand.tmp 43)], type := 22, pos := "ref.go:109", after := #[{ on := 9, ground := Ground.data }], guard := none }) rfl (fun K hK => ?_) AllReadyH.nil)
                · go_simp
                  refine hK.out _ _ HK1.out (fun _ => ?_)
                  clear hK K
                  try simp only [Act.put, List.setIfInBounds_toArray, List.set_cons_zero, List.set_cons_succ]
                  refine wpAnyH_ready (rs := [11]) (by kernel_rfl) (by simp) (AllReadyH.cons (o := { dst := some 45, op := Op.call { callee := Callee.builtin Builtin.append, args := #[Operand.tmp 42, Operand.tmp 44], argTypes := #[22, 22] }, type := 22, pos := "ref.go:109", after := #[{ on := 8, ground := Ground.data }, { on := 10, ground := Ground.data }], guard := none }) rfl (fun K hK => ?_) AllReadyH.nil)
                  refine step_append_by (by rfl) _ _ 22 22 (by rfl) _ _ (by rfl) (by rfl) _ _ HRUN.out ?_
                  intro w10 hw10
                  obtain ⟨y1, y2⟩ := HG.out w10 hw10
                  have HK10 := Lib.hid (HKG.out w10 hw10)
                  have HFIN := Lib.hid (HEND.out w10 hw10)
                  clear hw10
                  refine hK.out _ _ HK10.out.1.cells (fun _ => ?_)
                  clear hK K
                  try simp only [Act.put, List.setIfInBounds_toArray, List.set_cons_zero, List.set_cons_succ]
                  refine wpAnyH_take (i := 12) (oi := { dst := some 46, op := Op.fieldAddr 29 (Operand.tmp 2) 1, type := 0, pos := "ref.go:109", after := #[{ on := 0, ground := Ground.phase }, { on := 1, ground := Ground.phase }, { on := 2, ground := Ground.phase }, { on := 3, ground := Ground.phase }, { on := 4, ground := Ground.phase }, { on := 5, ground := Ground.phase }, { on := 6, ground := Ground.phase }, { on := 7, ground := Ground.phase }, { on := 8, ground := Ground.phase }, { on := 9, ground := Ground.phase }, { on := 10, ground := Ground.phase }, { on := 11, ground := Ground.phase }], guard := none }) (v := .pointer (some ⟨tb, 1, none⟩)) rfl (by kernel_rfl) (by kernel_rfl) (by kernel_rfl) (fun _ _ _ h => h) (Or.inl ⟨by rfl, ?_⟩) HK10.out.1.cells ?_
                  · (intro w' hSw; go_simp)
                  simp only [Act.put, List.setIfInBounds_toArray, List.set_cons_zero, List.set_cons_succ]
                  refine wpAnyH_ready (rs := [13]) (by kernel_rfl) (by simp) (AllReadyH.cons (o := { dst := none, op := Op.store 22 (Operand.tmp 46) (Operand.tmp 45), type := 0, pos := "ref.go:109", after := #[{ on := 12, ground := Ground.data }, { on := 11, ground := Ground.data }, { on := 11, ground := Ground.chain }, { on := 0, ground := Ground.phase }, { on := 1, ground := Ground.phase }, { on := 2, ground := Ground.phase }, { on := 3, ground := Ground.phase }, { on := 4, ground := Ground.phase }, { on := 5, ground := Ground.phase }, { on := 6, ground := Ground.phase }, { on := 7, ground := Ground.phase }, { on := 8, ground := Ground.phase }, { on := 9, ground := Ground.phase }, { on := 10, ground := Ground.phase }, { on := 11, ground := Ground.phase }], guard := none }) rfl (fun K hK => ?_) AllReadyH.nil)
                  go_simp
                  refine hK.out _ _ (HK10.out.2 _).cells (fun _ => ?_)
                  clear hK K
                  try simp only [Act.put, List.setIfInBounds_toArray, List.set_cons_zero, List.set_cons_succ]
                  refine wpAnyH_done (by kernel_rfl) ?_ _
                  go_wp2_with (fail)
                  go_meet
                  case rel => exact ⟨rfl, HFIN.out.1, HFIN.out.2.1, HFIN.out.2.2.1, HFIN.out.2.2.2⟩
              · go_simp
                refine hK.out _ _ HK1.out (fun _ => ?_)
                clear hK K
                try simp only [Act.put, List.setIfInBounds_toArray, List.set_cons_zero, List.set_cons_succ]
                refine wpAnyH_ready (rs := [1]) (by kernel_rfl) (by simp) (AllReadyH.cons (o := { dst := some 35, op := Op.load 22 (Operand.tmp 34), type := 22, pos := "ref.go:109", after := #[{ on := 0, ground := Ground.data }], guard := none }) rfl (fun K hK => ?_) AllReadyH.nil)
                · go_simp
                  refine hK.out _ _ HK1.out (fun _ => ?_)
                  clear hK K
                  try simp only [Act.put, List.setIfInBounds_toArray, List.set_cons_zero, List.set_cons_succ]
                  refine wpAnyH_take (i := 8) (oi := { dst := some 42, op := Op.slice 22 (Operand.tmp 35) none (some (Operand.tmp 38)) (some (Operand.tmp 41)), type := 22, pos := "ref.go:109", after := #[{ on := 1, ground := Ground.data }, { on := 4, ground := Ground.data }, { on := 7, ground := Ground.data }], guard := none }) (v := .slice A l.length l.length) rfl (by kernel_rfl) (by kernel_rfl) (by kernel_rfl) (fun _ _ _ h => h) (Or.inl ⟨by rfl, ?_⟩) HK1.out ?_
                  · (intro w' hSw; go_simp)
                  simp only [Act.put, List.setIfInBounds_toArray, List.set_cons_zero, List.set_cons_succ]
                  refine wpAnyH_ready (rs := [11]) (by kernel_rfl) (by simp) (AllReadyH.cons (o := { dst := some 45, op := Op.call { callee := Callee.builtin Builtin.append, args := #[Operand.tmp 42, Operand.tmp 44], argTypes := #[22, 22] }, type := 22, pos := "ref.go:109", after := #[{ on := 8, ground := Ground.data }, { on := 10, ground := Ground.data }], guard := none }) rfl (fun K hK => ?_) AllReadyH.nil)
                  refine step_append_by (by rfl) _ _ 22 22 (by rfl) _ _ (by rfl) (by rfl) _ _ HRUN.out ?_
                  intro w10 hw10
                  obtain ⟨y1, y2⟩ := HG.out w10 hw10
                  have HK10 := Lib.hid (HKG.out w10 hw10)
                  have HFIN := Lib.hid (HEND.out w10 hw10)
                  clear hw10
                  refine hK.out _ _ HK10.out.1.cells (fun _ => ?_)
                  clear hK K
                  try simp only [Act.put, List.setIfInBounds_toArray, List.set_cons_zero, List.set_cons_succ]
                  refine wpAnyH_take (i := 12) (oi := { dst := some 46, op := Op.fieldAddr 29 (Operand.tmp 2) 1, type := 0, pos := "ref.go:109", after := #[{ on := 0, ground := Ground.phase }, { on := 1, ground := Ground.phase }, { on := 2, ground := Ground.phase }, { on := 3, ground := Ground.phase }, { on := 4, ground := Ground.phase }, { on := 5, ground := Ground.phase }, { on := 6, ground := Ground.phase }, { on := 7, ground := Ground.phase }, { on := 8, ground := Ground.phase }, { on := 9, ground := Ground.phase }, { on := 10, ground := Ground.phase }, { on := 11, ground := Ground.phase }], guard := none }) (v := .pointer (some ⟨tb, 1, none⟩)) rfl (by kernel_rfl) (by kernel_rfl) (by kernel_rfl) (fun _ _ _ h => h) (Or.inl ⟨by rfl, ?_⟩) HK10.out.1.cells ?_
                  · (intro w' hSw; go_simp)
                  simp only [Act.put, List.setIfInBounds_toArray, List.set_cons_zero, List.set_cons_succ]
                  refine wpAnyH_ready (rs := [13]) (by kernel_rfl) (by simp) (AllReadyH.cons (o := { dst := none, op := Op.store 22 (Operand.tmp 46) (Operand.tmp 45), type := 0, pos := "ref.go:109", after := #[{ on := 12, ground := Ground.data }, { on := 11, ground := Ground.data }, { on := 11, ground := Ground.chain }, { on := 0, ground := Ground.phase }, { on := 1, ground := Ground.phase }, { on := 2, ground := Ground.phase }, { on := 3, ground := Ground.phase }, { on := 4, ground := Ground.phase }, { on := 5, ground := Ground.phase }, { on := 6, ground := Ground.phase }, { on := 7, ground := Ground.phase }, { on := 8, ground := Ground.phase }, { on := 9, ground := Ground.phase }, { on := 10, ground := Ground.phase }, { on := 11, ground := Ground.phase }], guard := none }) rfl (fun K hK => ?_) AllReadyH.nil)
                  go_simp
                  refine hK.out _ _ (HK10.out.2 _).cells (fun _ => ?_)
                  clear hK K
                  try simp only [Act.put, List.setIfInBounds_toArray, List.set_cons_zero, List.set_cons_succ]
                  refine wpAnyH_done (by kernel_rfl) ?_ _
                  go_wp2_with (fail)
                  go_meet
                  case rel => exact ⟨rfl, HFIN.out.1, HFIN.out.2.1, HFIN.out.2.2.1, HFIN.out.2.2.2⟩
            · go_simp
              refine hK.out _ _ HK1.out (fun _ => ?_)
              clear hK K
              try simp only [Act.put, List.setIfInBounds_toArray, List.set_cons_zero, List.set_cons_succ]
              refine wpAnyH_ready (rs := [1, 3]) (by kernel_rfl) (by simp) (AllReadyH.cons (o := { dst := some 35, op := Op.load 22 (Operand.tmp 34), type := 22, pos := "ref.go:109", after := #[{ on := 0, ground := Ground.data }], guard := none }) rfl (fun K hK => ?_) (AllReadyH.cons (o := { dst := some 37, op := Op.load 22 (Operand.tmp 36), type := 22, pos := "ref.go:109", after := #[{ on := 2, ground := Ground.data }], guard := none }) rfl (fun K hK => ?_) AllReadyH.nil))
              · go_simp
                refine hK.out _ _ HK1.out (fun _ => ?_)
                clear hK K
                try simp only [Act.put, List.setIfInBounds_toArray, List.set_cons_zero, List.set_cons_succ]
                refine wpAnyH_ready (rs := [3]) (by kernel_rfl) (by simp) (AllReadyH.cons (o := { dst := some 37, op := Op.load 22 (Operand.tmp 36), type := 22, pos := "ref.go:109", after := #[{ on := 2, ground := Ground.data }], guard := none }) rfl (fun K hK => ?_) AllReadyH.nil)
                · go_simp
                  refine hK.out _ _ HK1.out (fun _ => ?_)
                  clear hK K
                  try simp only [Act.put, List.setIfInBounds_toArray, List.set_cons_zero, List.set_cons_succ]
                  refine wpAnyH_take (i := 4) (oi := { dst := some 38, op := Op.call { callee := Callee.builtin Builtin.len, args := #[Operand.tmp 37], argTypes := #[22] }, type := 3, pos := "ref.go:109", after := #[{ on := 3, ground := Ground.data }], guard := none }) (v := .int .i64 (l.length : Int)) rfl (by kernel_rfl) (by kernel_rfl) (by kernel_rfl) (fun _ _ _ h => h) (Or.inl ⟨by rfl, ?_⟩) HK1.out ?_
                  · (intro w' hSw; go_simp)
                  simp only [Act.put, List.setIfInBounds_toArray, List.set_cons_zero, List.set_cons_succ]
                  refine wpAnyH_take (i := 8) (oi := { dst := some 42, op := Op.slice 22 (Operand.tmp 35) none (some (Operand.tmp 38)) (some (Operand.tmp 41)), type := 22, pos := "ref.go:109", after := #[{ on := 1, ground := Ground.data }, { on := 4, ground := Ground.data }, { on := 7, ground := Ground.data }], guard := none }) (v := .slice A l.length l.length) rfl (by kernel_rfl) (by kernel_rfl) (by kernel_rfl) (fun _ _ _ h => h) (Or.inl ⟨by rfl, ?_⟩) HK1.out ?_
                  · (intro w' hSw; go_simp)
                  simp only [Act.put, List.setIfInBounds_toArray, List.set_cons_zero, List.set_cons_succ]
                  refine wpAnyH_ready (rs := [11]) (by kernel_rfl) (by simp) (AllReadyH.cons (o := { dst := some 45, op := Op.call { callee := Callee.builtin Builtin.append, args := #[Operand.tmp 42, Operand.tmp 44], argTypes := #[22, 22] }, type := 22, pos := "ref.go:109", after := #[{ on := 8, ground := Ground.data }, { on := 10, ground := Ground.data }], guard := none }) rfl (fun K hK => ?_) AllReadyH.nil)
                  refine step_append_by (by rfl) _ _ 22 22 (by rfl) _ _ (by rfl) (by rfl) _ _ HRUN.out ?_
                  intro w10 hw10
                  obtain ⟨y1, y2⟩ := HG.out w10 hw10
                  have HK10 := Lib.hid (HKG.out w10 hw10)
                  have HFIN := Lib.hid (HEND.out w10 hw10)
                  clear hw10
                  refine hK.out _ _ HK10.out.1.cells (fun _ => ?_)
                  clear hK K
                  try simp only [Act.put, List.setIfInBounds_toArray, List.set_cons_zero, List.set_cons_succ]
                  refine wpAnyH_take (i := 12) (oi := { dst := some 46, op := Op.fieldAddr 29 (Operand.tmp 2) 1, type := 0, pos := "ref.go:109", after := #[{ on := 0, ground := Ground.phase }, { on := 1, ground := Ground.phase }, { on := 2, ground := Ground.phase }, { on := 3, ground := Ground.phase }, { on := 4, ground := Ground.phase }, { on := 5, ground := Ground.phase }, { on := 6, ground := Ground.phase }, { on := 7, ground := Ground.phase }, { on := 8, ground := Ground.phase }, { on := 9, ground := Ground.phase }, { on := 10, ground := Ground.phase }, { on := 11, ground := Ground.phase }], guard := none }) (v := .pointer (some ⟨tb, 1, none⟩)) rfl (by kernel_rfl) (by kernel_rfl) (by kernel_rfl) (fun _ _ _ h => h) (Or.inl ⟨by rfl, ?_⟩) HK10.out.1.cells ?_
                  · (intro w' hSw; go_simp)
                  simp only [Act.put, List.setIfInBounds_toArray, List.set_cons_zero, List.set_cons_succ]
                  refine wpAnyH_ready (rs := [13]) (by kernel_rfl) (by simp) (AllReadyH.cons (o := { dst := none, op := Op.store 22 (Operand.tmp 46) (Operand.tmp 45), type := 0, pos := "ref.go:109", after := #[{ on := 12, ground := Ground.data }, { on := 11, ground := Ground.data }, { on := 11, ground := Ground.chain }, { on := 0, ground := Ground.phase }, { on := 1, ground := Ground.phase }, { on := 2, ground := Ground.phase }, { on := 3, ground := Ground.phase }, { on := 4, ground := Ground.phase }, { on := 5, ground := Ground.phase }, { on := 6, ground := Ground.phase }, { on := 7, ground := Ground.phase }, { on := 8, ground := Ground.phase }, { on := 9, ground := Ground.phase }, { on := 10, ground := Ground.phase }, { on := 11, ground := Ground.phase }], guard := none }) rfl (fun K hK => ?_) AllReadyH.nil)
                  go_simp
                  refine hK.out _ _ (HK10.out.2 _).cells (fun _ => ?_)
                  clear hK K
                  try simp only [Act.put, List.setIfInBounds_toArray, List.set_cons_zero, List.set_cons_succ]
                  refine wpAnyH_done (by kernel_rfl) ?_ _
                  go_wp2_with (fail)
                  go_meet
                  case rel => exact ⟨rfl, HFIN.out.1, HFIN.out.2.1, HFIN.out.2.2.1, HFIN.out.2.2.2⟩
              · go_simp
                refine hK.out _ _ HK1.out (fun _ => ?_)
                clear hK K
                try simp only [Act.put, List.setIfInBounds_toArray, List.set_cons_zero, List.set_cons_succ]
                refine wpAnyH_take (i := 4) (oi := { dst := some 38, op := Op.call { callee := Callee.builtin Builtin.len, args := #[Operand.tmp 37], argTypes := #[22] }, type := 3, pos := "ref.go:109", after := #[{ on := 3, ground := Ground.data }], guard := none }) (v := .int .i64 (l.length : Int)) rfl (by kernel_rfl) (by kernel_rfl) (by kernel_rfl) (fun _ _ _ h => h) (Or.inl ⟨by rfl, ?_⟩) HK1.out ?_
                · (intro w' hSw; go_simp)
                simp only [Act.put, List.setIfInBounds_toArray, List.set_cons_zero, List.set_cons_succ]
                refine wpAnyH_ready (rs := [1]) (by kernel_rfl) (by simp) (AllReadyH.cons (o := { dst := some 35, op := Op.load 22 (Operand.tmp 34), type := 22, pos := "ref.go:109", after := #[{ on := 0, ground := Ground.data }], guard := none }) rfl (fun K hK => ?_) AllReadyH.nil)
                · go_simp
                  refine hK.out _ _ HK1.out (fun _ => ?_)
                  clear hK K
                  try simp only [Act.put, List.setIfInBounds_toArray, List.set_cons_zero, List.set_cons_succ]
                  refine wpAnyH_take (i := 8) (oi := { dst := some 42, op := Op.slice 22 (Operand.tmp 35) none (some (Operand.tmp 38)) (some (Operand.tmp 41)), type := 22, pos := "ref.go:109", after := #[{ on := 1, ground := Ground.data }, { on := 4, ground := Ground.data }, { on := 7, ground := Ground.data }], guard := none }) (v := .slice A l.length l.length) rfl (by kernel_rfl) (by kernel_rfl) (by kernel_rfl) (fun _ _ _ h => h) (Or.inl ⟨by rfl, ?_⟩) HK1.out ?_
                  · (intro w' hSw; go_simp)
                  simp only [Act.put, List.setIfInBounds_toArray, List.set_cons_zero, List.set_cons_succ]
                  refine wpAnyH_ready (rs := [11]) (by kernel_rfl) (by simp) (AllReadyH.cons (o := { dst := some 45, op := Op.call { callee := Callee.builtin Builtin.append, args := #[Operand.tmp 42, Operand.tmp 44], argTypes := #[22, 22] }, type := 22, pos := "ref.go:109", after := #[{ on := 8, ground := Ground.data }, { on := 10, ground := Ground.data }], guard := none }) rfl (fun K hK => ?_) AllReadyH.nil)
                  refine step_append_by (by rfl) _ _ 22 22 (by rfl) _ _ (by rfl) (by rfl) _ _ HRUN.out ?_
                  intro w10 hw10
                  obtain ⟨y1, y2⟩ := HG.out w10 hw10
                  have HK10 := Lib.hid (HKG.out w10 hw10)
                  have HFIN := Lib.hid (HEND.out w10 hw10)
                  clear hw10
                  refine hK.out _ _ HK10.out.1.cells (fun _ => ?_)
                  clear hK K
                  try simp only [Act.put, List.setIfInBounds_toArray, List.set_cons_zero, List.set_cons_succ]
                  refine wpAnyH_take (i := 12) (oi := { dst := some 46, op := Op.fieldAddr 29 (Operand.tmp 2) 1, type := 0, pos := "ref.go:109", after := #[{ on := 0, ground := Ground.phase }, { on := 1, ground := Ground.phase }, { on := 2, ground := Ground.phase }, { on := 3, ground := Ground.phase }, { on := 4, ground := Ground.phase }, { on := 5, ground := Ground.phase }, { on := 6, ground := Ground.phase }, { on := 7, ground := Ground.phase }, { on := 8, ground := Ground.phase }, { on := 9, ground := Ground.phase }, { on := 10, ground := Ground.phase }, { on := 11, ground := Ground.phase }], guard := none }) (v := .pointer (some ⟨tb, 1, none⟩)) rfl (by kernel_rfl) (by kernel_rfl) (by kernel_rfl) (fun _ _ _ h => h) (Or.inl ⟨by rfl, ?_⟩) HK10.out.1.cells ?_
                  · (intro w' hSw; go_simp)
                  simp only [Act.put, List.setIfInBounds_toArray, List.set_cons_zero, List.set_cons_succ]
                  refine wpAnyH_ready (rs := [13]) (by kernel_rfl) (by simp) (AllReadyH.cons (o := { dst := none, op := Op.store 22 (Operand.tmp 46) (Operand.tmp 45), type := 0, pos := "ref.go:109", after := #[{ on := 12, ground := Ground.data }, { on := 11, ground := Ground.data }, { on := 11, ground := Ground.chain }, { on := 0, ground := Ground.phase }, { on := 1, ground := Ground.phase }, { on := 2, ground := Ground.phase }, { on := 3, ground := Ground.phase }, { on := 4, ground := Ground.phase }, { on := 5, ground := Ground.phase }, { on := 6, ground := Ground.phase }, { on := 7, ground := Ground.phase }, { on := 8, ground := Ground.phase }, { on := 9, ground := Ground.phase }, { on := 10, ground := Ground.phase }, { on := 11, ground := Ground.phase }], guard := none }) rfl (fun K hK => ?_) AllReadyH.nil)
                  go_simp
                  refine hK.out _ _ (HK10.out.2 _).cells (fun _ => ?_)
                  clear hK K
                  try simp only [Act.put, List.setIfInBounds_toArray, List.set_cons_zero, List.set_cons_succ]
                  refine wpAnyH_done (by kernel_rfl) ?_ _
                  go_wp2_with (fail)
                  go_meet
                  case rel => exact ⟨rfl, HFIN.out.1, HFIN.out.2.1, HFIN.out.2.2.1, HFIN.out.2.2.2⟩
          · go_simp
            refine hK.out _ _ HK1.out (fun _ => ?_)
            clear hK K
            try simp only [Act.put, List.setIfInBounds_toArray, List.set_cons_zero, List.set_cons_succ]
            refine wpAnyH_ready (rs := [1, 3, 6]) (by kernel_rfl) (by simp) (AllReadyH.cons (o := { dst := some 35, op := Op.load 22 (Operand.tmp 34), type := 22, pos := "ref.go:109", after := #[{ on := 0, ground := Ground.data }], guard := none }) rfl (fun K hK => ?_) (AllReadyH.cons (o := { dst := some 37, op := Op.load 22 (Operand.tmp 36), type := 22, pos := "ref.go:109", after := #[{ on := 2, ground := Ground.data }], guard := none }) rfl (fun K hK => ?_) (AllReadyH.cons (o := { dst := some 40, op := Op.load 22 (Operand.tmp 39), type := 22, pos := "ref.go:109", after := #[{ on := 5, ground := Ground.data }], guard := none }) rfl (fun K hK => ?_) AllReadyH.nil)))
            · go_simp
              refine hK.out _ _ HK1.out (fun _ => ?_)
              clear hK K
              try simp only [Act.put, List.setIfInBounds_toArray, List.set_cons_zero, List.set_cons_succ]
              refine wpAnyH_ready (rs := [3, 6]) (by kernel_rfl) (by simp) (AllReadyH.cons (o := { dst := some 37, op := Op.load 22 (Operand.tmp 36), type := 22, pos := "ref.go:109", after := #[{ on := 2, ground := Ground.data }], guard := none }) rfl (fun K hK => ?_) (AllReadyH.cons (o := { dst := some 40, op := Op.load 22 (Operand.tmp 39), type := 22, pos := "ref.go:109", after := #[{ on := 5, ground := Ground.data }], guard := none }) rfl (fun K hK => ?_) AllReadyH.nil))
              · go_simp
                refine hK.out _ _ HK1.out (fun _ => ?_)
                clear hK K
                try simp only [Act.put, List.setIfInBounds_toArray, List.set_cons_zero, List.set_cons_succ]
                refine wpAnyH_take (i := 4) (oi := { dst := some 38, op := Op.call { callee := Callee.builtin Builtin.len, args := #[Operand.tmp 37], argTypes := #[22] }, type := 3, pos := "ref.go:109", after := #[{ on := 3, ground := Ground.data }], guard := none }) (v := .int .i64 (l.length : Int)) rfl (by kernel_rfl) (by kernel_rfl) (by kernel_rfl) (fun _ _ _ h => h) (Or.inl ⟨by rfl, ?_⟩) HK1.out ?_
                · (intro w' hSw; go_simp)
                simp only [Act.put, List.setIfInBounds_toArray, List.set_cons_zero, List.set_cons_succ]
                refine wpAnyH_ready (rs := [6]) (by kernel_rfl) (by simp) (AllReadyH.cons (o := { dst := some 40, op := Op.load 22 (Operand.tmp 39), type := 22, pos := "ref.go:109", after := #[{ on := 5, ground := Ground.data }], guard := none }) rfl (fun K hK => ?_) AllReadyH.nil)
                · go_simp
                  refine hK.out _ _ HK1.out (fun _ => ?_)
                  clear hK K
                  try simp only [Act.put, List.setIfInBounds_toArray, List.set_cons_zero, List.set_cons_succ]
                  refine wpAnyH_take (i := 7) (oi := { dst := some 41, op := Op.call { callee := Callee.builtin Builtin.len, args := #[Operand.tmp 40], argTypes := #[22] }, type := 3, pos := "ref.go:109", after := #[{ on := 6, ground := Ground.data }], guard := none }) (v := .int .i64 (l.length : Int)) rfl (by kernel_rfl) (by kernel_rfl) (by kernel_rfl) (fun _ _ _ h => h) (Or.inl ⟨by rfl, ?_⟩) HK1.out ?_
                  · (intro w' hSw; go_simp)
                  simp only [Act.put, List.setIfInBounds_toArray, List.set_cons_zero, List.set_cons_succ]
                  refine wpAnyH_take (i := 8) (oi := { dst := some 42, op := Op.slice 22 (Operand.tmp 35) none (some (Operand.tmp 38)) (some (Operand.tmp 41)), type := 22, pos := "ref.go:109", after := #[{ on := 1, ground := Ground.data }, { on := 4, ground := Ground.data }, { on := 7, ground := Ground.data }], guard := none }) (v := .slice A l.length l.length) rfl (by kernel_rfl) (by kernel_rfl) (by kernel_rfl) (fun _ _ _ h => h) (Or.inl ⟨by rfl, ?_⟩) HK1.out ?_
                  · (intro w' hSw; go_simp)
                  simp only [Act.put, List.setIfInBounds_toArray, List.set_cons_zero, List.set_cons_succ]
                  refine wpAnyH_ready (rs := [11]) (by kernel_rfl) (by simp) (AllReadyH.cons (o := { dst := some 45, op := Op.call { callee := Callee.builtin Builtin.append, args := #[Operand.tmp 42, Operand.tmp 44], argTypes := #[22, 22] }, type := 22, pos := "ref.go:109", after := #[{ on := 8, ground := Ground.data }, { on := 10, ground := Ground.data }], guard := none }) rfl (fun K hK => ?_) AllReadyH.nil)
                  refine step_append_by (by rfl) _ _ 22 22 (by rfl) _ _ (by rfl) (by rfl) _ _ HRUN.out ?_
                  intro w10 hw10
                  obtain ⟨y1, y2⟩ := HG.out w10 hw10
                  have HK10 := Lib.hid (HKG.out w10 hw10)
                  have HFIN := Lib.hid (HEND.out w10 hw10)
                  clear hw10
                  refine hK.out _ _ HK10.out.1.cells (fun _ => ?_)
                  clear hK K
                  try simp only [Act.put, List.setIfInBounds_toArray, List.set_cons_zero, List.set_cons_succ]
                  refine wpAnyH_take (i := 12) (oi := { dst := some 46, op := Op.fieldAddr 29 (Operand.tmp 2) 1, type := 0, pos := "ref.go:109", after := #[{ on := 0, ground := Ground.phase }, { on := 1, ground := Ground.phase }, { on := 2, ground := Ground.phase }, { on := 3, ground := Ground.phase }, { on := 4, ground := Ground.phase }, { on := 5, ground := Ground.phase }, { on := 6, ground := Ground.phase }, { on := 7, ground := Ground.phase }, { on := 8, ground := Ground.phase }, { on := 9, ground := Ground.phase }, { on := 10, ground := Ground.phase }, { on := 11, ground := Ground.phase }], guard := none }) (v := .pointer (some ⟨tb, 1, none⟩)) rfl (by kernel_rfl) (by kernel_rfl) (by kernel_rfl) (fun _ _ _ h => h) (Or.inl ⟨by rfl, ?_⟩) HK10.out.1.cells ?_
                  · (intro w' hSw; go_simp)
                  simp only [Act.put, List.setIfInBounds_toArray, List.set_cons_zero, List.set_cons_succ]
                  refine wpAnyH_ready (rs := [13]) (by kernel_rfl) (by simp) (AllReadyH.cons (o := { dst := none, op := Op.store 22 (Operand.tmp 46) (Operand.tmp 45), type := 0, pos := "ref.go:109", after := #[{ on := 12, ground := Ground.data }, { on := 11, ground := Ground.data }, { on := 11, ground := Ground.chain }, { on := 0, ground := Ground.phase }, { on := 1, ground := Ground.phase }, { on := 2, ground := Ground.phase }, { on := 3, ground := Ground.phase }, { on := 4, ground := Ground.phase }, { on := 5, ground := Ground.phase }, { on := 6, ground := Ground.phase }, { on := 7, ground := Ground.phase }, { on := 8, ground := Ground.phase }, { on := 9, ground := Ground.phase }, { on := 10, ground := Ground.phase }, { on := 11, ground := Ground.phase }], guard := none }) rfl (fun K hK => ?_) AllReadyH.nil)
                  go_simp
                  refine hK.out _ _ (HK10.out.2 _).cells (fun _ => ?_)
                  clear hK K
                  try simp only [Act.put, List.setIfInBounds_toArray, List.set_cons_zero, List.set_cons_succ]
                  refine wpAnyH_done (by kernel_rfl) ?_ _
                  go_wp2_with (fail)
                  go_meet
                  case rel => exact ⟨rfl, HFIN.out.1, HFIN.out.2.1, HFIN.out.2.2.1, HFIN.out.2.2.2⟩
              · go_simp
                refine hK.out _ _ HK1.out (fun _ => ?_)
                clear hK K
                try simp only [Act.put, List.setIfInBounds_toArray, List.set_cons_zero, List.set_cons_succ]
                refine wpAnyH_take (i := 7) (oi := { dst := some 41, op := Op.call { callee := Callee.builtin Builtin.len, args := #[Operand.tmp 40], argTypes := #[22] }, type := 3, pos := "ref.go:109", after := #[{ on := 6, ground := Ground.data }], guard := none }) (v := .int .i64 (l.length : Int)) rfl (by kernel_rfl) (by kernel_rfl) (by kernel_rfl) (fun _ _ _ h => h) (Or.inl ⟨by rfl, ?_⟩) HK1.out ?_
                · (intro w' hSw; go_simp)
                simp only [Act.put, List.setIfInBounds_toArray, List.set_cons_zero, List.set_cons_succ]
                refine wpAnyH_ready (rs := [3]) (by kernel_rfl) (by simp) (AllReadyH.cons (o := { dst := some 37, op := Op.load 22 (Operand.tmp 36), type := 22, pos := "ref.go:109", after := #[{ on := 2, ground := Ground.data }], guard := none }) rfl (fun K hK => ?_) AllReadyH.nil)
                · go_simp
                  refine hK.out _ _ HK1.out (fun _ => ?_)
                  clear hK K
                  try simp only [Act.put, List.setIfInBounds_toArray, List.set_cons_zero, List.set_cons_succ]
                  refine wpAnyH_take (i := 4) (oi := { dst := some 38, op := Op.call { callee := Callee.builtin Builtin.len, args := #[Operand.tmp 37], argTypes := #[22] }, type := 3, pos := "ref.go:109", after := #[{ on := 3, ground := Ground.data }], guard := none }) (v := .int .i64 (l.length : Int)) rfl (by kernel_rfl) (by kernel_rfl) (by kernel_rfl) (fun _ _ _ h => h) (Or.inl ⟨by rfl, ?_⟩) HK1.out ?_
                  · (intro w' hSw; go_simp)
                  simp only [Act.put, List.setIfInBounds_toArray, List.set_cons_zero, List.set_cons_succ]
                  refine wpAnyH_take (i := 8) (oi := { dst := some 42, op := Op.slice 22 (Operand.tmp 35) none (some (Operand.tmp 38)) (some (Operand.tmp 41)), type := 22, pos := "ref.go:109", after := #[{ on := 1, ground := Ground.data }, { on := 4, ground := Ground.data }, { on := 7, ground := Ground.data }], guard := none }) (v := .slice A l.length l.length) rfl (by kernel_rfl) (by kernel_rfl) (by kernel_rfl) (fun _ _ _ h => h) (Or.inl ⟨by rfl, ?_⟩) HK1.out ?_
                  · (intro w' hSw; go_simp)
                  simp only [Act.put, List.setIfInBounds_toArray, List.set_cons_zero, List.set_cons_succ]
                  refine wpAnyH_ready (rs := [11]) (by kernel_rfl) (by simp) (AllReadyH.cons (o := { dst := some 45, op := Op.call { callee := Callee.builtin Builtin.append, args := #[Operand.tmp 42, Operand.tmp 44], argTypes := #[22, 22] }, type := 22, pos := "ref.go:109", after := #[{ on := 8, ground := Ground.data }, { on := 10, ground := Ground.data }], guard := none }) rfl (fun K hK => ?_) AllReadyH.nil)
                  refine step_append_by (by rfl) _ _ 22 22 (by rfl) _ _ (by rfl) (by rfl) _ _ HRUN.out ?_
                  intro w10 hw10
                  obtain ⟨y1, y2⟩ := HG.out w10 hw10
                  have HK10 := Lib.hid (HKG.out w10 hw10)
                  have HFIN := Lib.hid (HEND.out w10 hw10)
                  clear hw10
                  refine hK.out _ _ HK10.out.1.cells (fun _ => ?_)
                  clear hK K
                  try simp only [Act.put, List.setIfInBounds_toArray, List.set_cons_zero, List.set_cons_succ]
                  refine wpAnyH_take (i := 12) (oi := { dst := some 46, op := Op.fieldAddr 29 (Operand.tmp 2) 1, type := 0, pos := "ref.go:109", after := #[{ on := 0, ground := Ground.phase }, { on := 1, ground := Ground.phase }, { on := 2, ground := Ground.phase }, { on := 3, ground := Ground.phase }, { on := 4, ground := Ground.phase }, { on := 5, ground := Ground.phase }, { on := 6, ground := Ground.phase }, { on := 7, ground := Ground.phase }, { on := 8, ground := Ground.phase }, { on := 9, ground := Ground.phase }, { on := 10, ground := Ground.phase }, { on := 11, ground := Ground.phase }], guard := none }) (v := .pointer (some ⟨tb, 1, none⟩)) rfl (by kernel_rfl) (by kernel_rfl) (by kernel_rfl) (fun _ _ _ h => h) (Or.inl ⟨by rfl, ?_⟩) HK10.out.1.cells ?_
                  · (intro w' hSw; go_simp)
                  simp only [Act.put, List.setIfInBounds_toArray, List.set_cons_zero, List.set_cons_succ]
                  refine wpAnyH_ready (rs := [13]) (by kernel_rfl) (by simp) (AllReadyH.cons (o := { dst := none, op := Op.store 22 (Operand.tmp 46) (Operand.tmp 45), type := 0, pos := "ref.go:109", after := #[{ on := 12, ground := Ground.data }, { on := 11, ground := Ground.data }, { on := 11, ground := Ground.chain }, { on := 0, ground := Ground.phase }, { on := 1, ground := Ground.phase }, { on := 2, ground := Ground.phase }, { on := 3, ground := Ground.phase }, { on := 4, ground := Ground.phase }, { on := 5, ground := Ground.phase }, { on := 6, ground := Ground.phase }, { on := 7, ground := Ground.phase }, { on := 8, ground := Ground.phase }, { on := 9, ground := Ground.phase }, { on := 10, ground := Ground.phase }, { on := 11, ground := Ground.phase }], guard := none }) rfl (fun K hK => ?_) AllReadyH.nil)
                  go_simp
                  refine hK.out _ _ (HK10.out.2 _).cells (fun _ => ?_)
                  clear hK K
                  try simp only [Act.put, List.setIfInBounds_toArray, List.set_cons_zero, List.set_cons_succ]
                  refine wpAnyH_done (by kernel_rfl) ?_ _
                  go_wp2_with (fail)
                  go_meet
                  case rel => exact ⟨rfl, HFIN.out.1, HFIN.out.2.1, HFIN.out.2.2.1, HFIN.out.2.2.2⟩
            · go_simp
              refine hK.out _ _ HK1.out (fun _ => ?_)
              clear hK K
              try simp only [Act.put, List.setIfInBounds_toArray, List.set_cons_zero, List.set_cons_succ]
              refine wpAnyH_take (i := 4) (oi := { dst := some 38, op := Op.call { callee := Callee.builtin Builtin.len, args := #[Operand.tmp 37], argTypes := #[22] }, type := 3, pos := "ref.go:109", after := #[{ on := 3, ground := Ground.data }], guard := none }) (v := .int .i64 (l.length : Int)) rfl (by kernel_rfl) (by kernel_rfl) (by kernel_rfl) (fun _ _ _ h => h) (Or.inl ⟨by rfl, ?_⟩) HK1.out ?_
              · (intro w' hSw; go_simp)
              simp only [Act.put, List.setIfInBounds_toArray, List.set_cons_zero, List.set_cons_succ]
              refine wpAnyH_ready (rs := [1, 6]) (by kernel_rfl) (by simp) (AllReadyH.cons (o := { dst := some 35, op := Op.load 22 (Operand.tmp 34), type := 22, pos := "ref.go:109", after := #[{ on := 0, ground := Ground.data }], guard := none }) rfl (fun K hK => ?_) (AllReadyH.cons (o := { dst := some 40, op := Op.load 22 (Operand.tmp 39), type := 22, pos := "ref.go:109", after := #[{ on := 5, ground := Ground.data }], guard := none }) rfl (fun K hK => ?_) AllReadyH.nil))
              · go_simp
                refine hK.out _ _ HK1.out (fun _ => ?_)
                clear hK K
                try simp only [Act.put, List.setIfInBounds_toArray, List.set_cons_zero, List.set_cons_succ]
                refine wpAnyH_ready (rs := [6]) (by kernel_rfl) (by simp) (AllReadyH.cons (o := { dst := some 40, op := Op.load 22 (Operand.tmp 39), type := 22, pos := "ref.go:109", after := #[{ on := 5, ground := Ground.data }], guard := none }) rfl (fun K hK => ?_) AllReadyH.nil)
                · go_simp
                  refine hK.out _ _ HK1.out (fun _ => ?_)
                  clear hK K
                  try simp only [Act.put, List.setIfInBounds_toArray, List.set_cons_zero, List.set_cons_succ]
                  refine wpAnyH_take (i := 7) (oi := { dst := some 41, op := Op.call { callee := Callee.builtin Builtin.len, args := #[Operand.tmp 40], argTypes := #[22] }, type := 3, pos := "ref.go:109", after := #[{ on := 6, ground := Ground.data }], guard := none }) (v := .int .i64 (l.length : Int)) rfl (by kernel_rfl) (by kernel_rfl) (by kernel_rfl) (fun _ _ _ h => h) (Or.inl ⟨by rfl, ?_⟩) HK1.out ?_
                  · (intro w' hSw; go_simp)
                  simp only [Act.put, List.setIfInBounds_toArray, List.set_cons_zero, List.set_cons_succ]
                  refine wpAnyH_take (i := 8) (oi := { dst := some 42, op := Op.slice 22 (Operand.tmp 35) none (some (Operand.tmp 38)) (some (Operand.tmp 41)), type := 22, pos := "ref.go:109", after := #[{ on := 1, ground := Ground.data }, { on := 4, ground := Ground.data }, { on := 7, ground := Ground.data }], guard := none }) (v := .slice A l.length l.length) rfl (by kernel_rfl) (by kernel_rfl) (by kernel_rfl) (fun _ _ _ h => h) (Or.inl ⟨by rfl, ?_⟩) HK1.out ?_
                  · (intro w' hSw; go_simp)
                  simp only [Act.put, List.setIfInBounds_toArray, List.set_cons_zero, List.set_cons_succ]
                  refine wpAnyH_ready (rs := [11]) (by kernel_rfl) (by simp) (AllReadyH.cons (o := { dst := some 45, op := Op.call { callee := Callee.builtin Builtin.append, args := #[Operand.tmp 42, Operand.tmp 44], argTypes := #[22, 22] }, type := 22, pos := "ref.go:109", after := #[{ on := 8, ground := Ground.data }, { on := 10, ground := Ground.data }], guard := none }) rfl (fun K hK => ?_) AllReadyH.nil)
                  refine step_append_by (by rfl) _ _ 22 22 (by rfl) _ _ (by rfl) (by rfl) _ _ HRUN.out ?_
                  intro w10 hw10
                  obtain ⟨y1, y2⟩ := HG.out w10 hw10
                  have HK10 := Lib.hid (HKG.out w10 hw10)
                  have HFIN := Lib.hid (HEND.out w10 hw10)
                  clear hw10
                  refine hK.out _ _ HK10.out.1.cells (fun _ => ?_)
                  clear hK K
                  try simp only [Act.put, List.setIfInBounds_toArray, List.set_cons_zero, List.set_cons_succ]
                  refine wpAnyH_take (i := 12) (oi := { dst := some 46, op := Op.fieldAddr 29 (Operand.tmp 2) 1, type := 0, pos := "ref.go:109", after := #[{ on := 0, ground := Ground.phase }, { on := 1, ground := Ground.phase }, { on := 2, ground := Ground.phase }, { on := 3, ground := Ground.phase }, { on := 4, ground := Ground.phase }, { on := 5, ground := Ground.phase }, { on := 6, ground := Ground.phase }, { on := 7, ground := Ground.phase }, { on := 8, ground := Ground.phase }, { on := 9, ground := Ground.phase }, { on := 10, ground := Ground.phase }, { on := 11, ground := Ground.phase }], guard := none }) (v := .pointer (some ⟨tb, 1, none⟩)) rfl (by kernel_rfl) (by kernel_rfl) (by kernel_rfl) (fun _ _ _ h => h) (Or.inl ⟨by rfl, ?_⟩) HK10.out.1.cells ?_
                  · (intro w' hSw; go_simp)
                  simp only [Act.put, List.setIfInBounds_toArray, List.set_cons_zero, List.set_cons_succ]
                  refine wpAnyH_ready (rs := [13]) (by kernel_rfl) (by simp) (AllReadyH.cons (o := { dst := none, op := Op.store 22 (Operand.tmp 46) (Operand.tmp 45), type := 0, pos := "ref.go:109", after := #[{ on := 12, ground := Ground.data }, { on := 11, ground := Ground.data }, { on := 11, ground := Ground.chain }, { on := 0, ground := Ground.phase }, { on := 1, ground := Ground.phase }, { on := 2, ground := Ground.phase }, { on := 3, ground := Ground.phase }, { on := 4, ground := Ground.phase }, { on := 5, ground := Ground.phase }, { on := 6, ground := Ground.phase }, { on := 7, ground := Ground.phase }, { on := 8, ground := Ground.phase }, { on := 9, ground := Ground.phase }, { on := 10, ground := Ground.phase }, { on := 11, ground := Ground.phase }], guard := none }) rfl (fun K hK => ?_) AllReadyH.nil)
                  go_simp
                  refine hK.out _ _ (HK10.out.2 _).cells (fun _ => ?_)
                  clear hK K
                  try simp only [Act.put, List.setIfInBounds_toArray, List.set_cons_zero, List.set_cons_succ]
                  refine wpAnyH_done (by kernel_rfl) ?_ _
                  go_wp2_with (fail)
                  go_meet
                  case rel => exact ⟨rfl, HFIN.out.1, HFIN.out.2.1, HFIN.out.2.2.1, HFIN.out.2.2.2⟩
              · go_simp
                refine hK.out _ _ HK1.out (fun _ => ?_)
                clear hK K
                try simp only [Act.put, List.setIfInBounds_toArray, List.set_cons_zero, List.set_cons_succ]
                refine wpAnyH_take (i := 7) (oi := { dst := some 41, op := Op.call { callee := Callee.builtin Builtin.len, args := #[Operand.tmp 40], argTypes := #[22] }, type := 3, pos := "ref.go:109", after := #[{ on := 6, ground := Ground.data }], guard := none }) (v := .int .i64 (l.length : Int)) rfl (by kernel_rfl) (by kernel_rfl) (by kernel_rfl) (fun _ _ _ h => h) (Or.inl ⟨by rfl, ?_⟩) HK1.out ?_
                · (intro w' hSw; go_simp)
                simp only [Act.put, List.setIfInBounds_toArray, List.set_cons_zero, List.set_cons_succ]
                refine wpAnyH_ready (rs := [1]) (by kernel_rfl) (by simp) (AllReadyH.cons (o := { dst := some 35, op := Op.load 22 (Operand.tmp 34), type := 22, pos := "ref.go:109", after := #[{ on := 0, ground := Ground.data }], guard := none }) rfl (fun K hK => ?_) AllReadyH.nil)
                · go_simp
                  refine hK.out _ _ HK1.out (fun _ => ?_)
                  clear hK K
                  try simp only [Act.put, List.setIfInBounds_toArray, List.set_cons_zero, List.set_cons_succ]
                  refine wpAnyH_take (i := 8) (oi := { dst := some 42, op := Op.slice 22 (Operand.tmp 35) none (some (Operand.tmp 38)) (some (Operand.tmp 41)), type := 22, pos := "ref.go:109", after := #[{ on := 1, ground := Ground.data }, { on := 4, ground := Ground.data }, { on := 7, ground := Ground.data }], guard := none }) (v := .slice A l.length l.length) rfl (by kernel_rfl) (by kernel_rfl) (by kernel_rfl) (fun _ _ _ h => h) (Or.inl ⟨by rfl, ?_⟩) HK1.out ?_
                  · (intro w' hSw; go_simp)
                  simp only [Act.put, List.setIfInBounds_toArray, List.set_cons_zero, List.set_cons_succ]
                  refine wpAnyH_ready (rs := [11]) (by kernel_rfl) (by simp) (AllReadyH.cons (o := { dst := some 45, op := Op.call { callee := Callee.builtin Builtin.append, args := #[Operand.tmp 42, Operand.tmp 44], argTypes := #[22, 22] }, type := 22, pos := "ref.go:109", after := #[{ on := 8, ground := Ground.data }, { on := 10, ground := Ground.data }], guard := none }) rfl (fun K hK => ?_) AllReadyH.nil)
                  refine step_append_by (by rfl) _ _ 22 22 (by rfl) _ _ (by rfl) (by rfl) _ _ HRUN.out ?_
                  intro w10 hw10
                  obtain ⟨y1, y2⟩ := HG.out w10 hw10
                  have HK10 := Lib.hid (HKG.out w10 hw10)
                  have HFIN := Lib.hid (HEND.out w10 hw10)
                  clear hw10
                  refine hK.out _ _ HK10.out.1.cells (fun _ => ?_)
                  clear hK K
                  try simp only [Act.put, List.setIfInBounds_toArray, List.set_cons_zero, List.set_cons_succ]
                  refine wpAnyH_take (i := 12) (oi := { dst := some 46, op := Op.fieldAddr 29 (Operand.tmp 2) 1, type := 0, pos := "ref.go:109", after := #[{ on := 0, ground := Ground.phase }, { on := 1, ground := Ground.phase }, { on := 2, ground := Ground.phase }, { on := 3, ground := Ground.phase }, { on := 4, ground := Ground.phase }, { on := 5, ground := Ground.phase }, { on := 6, ground := Ground.phase }, { on := 7, ground := Ground.phase }, { on := 8, ground := Ground.phase }, { on := 9, ground := Ground.phase }, { on := 10, ground := Ground.phase }, { on := 11, ground := Ground.phase }], guard := none }) (v := .pointer (some ⟨tb, 1, none⟩)) rfl (by kernel_rfl) (by kernel_rfl) (by kernel_rfl) (fun _ _ _ h => h) (Or.inl ⟨by rfl, ?_⟩) HK10.out.1.cells ?_
                  · (intro w' hSw; go_simp)
                  simp only [Act.put, List.setIfInBounds_toArray, List.set_cons_zero, List.set_cons_succ]
                  refine wpAnyH_ready (rs := [13]) (by kernel_rfl) (by simp) (AllReadyH.cons (o := { dst := none, op := Op.store 22 (Operand.tmp 46) (Operand.tmp 45), type := 0, pos := "ref.go:109", after := #[{ on := 12, ground := Ground.data }, { on := 11, ground := Ground.data }, { on := 11, ground := Ground.chain }, { on := 0, ground := Ground.phase }, { on := 1, ground := Ground.phase }, { on := 2, ground := Ground.phase }, { on := 3, ground := Ground.phase }, { on := 4, ground := Ground.phase }, { on := 5, ground := Ground.phase }, { on := 6, ground := Ground.phase }, { on := 7, ground := Ground.phase }, { on := 8, ground := Ground.phase }, { on := 9, ground := Ground.phase }, { on := 10, ground := Ground.phase }, { on := 11, ground := Ground.phase }], guard := none }) rfl (fun K hK => ?_) AllReadyH.nil)
                  go_simp
                  refine hK.out _ _ (HK10.out.2 _).cells (fun _ => ?_)
                  clear hK K
                  try simp only [Act.put, List.setIfInBounds_toArray, List.set_cons_zero, List.set_cons_succ]
                  refine wpAnyH_done (by kernel_rfl) ?_ _
                  go_wp2_with (fail)
                  go_meet
                  case rel => exact ⟨rfl, HFIN.out.1, HFIN.out.2.1, HFIN.out.2.2.1, HFIN.out.2.2.2⟩
            · go_simp
              refine hK.out _ _ HK1.out (fun _ => ?_)
              clear hK K
              try simp only [Act.put, List.setIfInBounds_toArray, List.set_cons_zero, List.set_cons_succ]
              refine wpAnyH_take (i := 7) (oi := { dst := some 41, op := Op.call { callee := Callee.builtin Builtin.len, args := #[Operand.tmp 40], argTypes := #[22] }, type := 3, pos := "ref.go:109", after := #[{ on := 6, ground := Ground.data }], guard := none }) (v := .int .i64 (l.length : Int)) rfl (by kernel_rfl) (by kernel_rfl) (by kernel_rfl) (fun _ _ _ h => h) (Or.inl ⟨by rfl, ?_⟩) HK1.out ?_
              · (intro w' hSw; go_simp)
              simp only [Act.put, List.setIfInBounds_toArray, List.set_cons_zero, List.set_cons_succ]
              refine wpAnyH_ready (rs := [1, 3]) (by kernel_rfl) (by simp) (AllReadyH.cons (o := { dst := some 35, op := Op.load 22 (Operand.tmp 34), type := 22, pos := "ref.go:109", after := #[{ on := 0, ground := Ground.data }], guard := none }) rfl (fun K hK => ?_) (AllReadyH.cons (o := { dst := some 37, op := Op.load 22 (Operand.tmp 36), type := 22, pos := "ref.go:109", after := #[{ on := 2, ground := Ground.data }], guard := none }) rfl (fun K hK => ?_) AllReadyH.nil))
              · go_simp
                refine hK.out _ _ HK1.out (fun _ => ?_)
                clear hK K
                try simp only [Act.put, List.setIfInBounds_toArray, List.set_cons_zero, List.set_cons_succ]
                refine wpAnyH_ready (rs := [3]) (by kernel_rfl) (by simp) (AllReadyH.cons (o := { dst := some 37, op := Op.load 22 (Operand.tmp 36), type := 22, pos := "ref.go:109", after := #[{ on := 2, ground := Ground.data }], guard := none }) rfl (fun K hK => ?_) AllReadyH.nil)
                · go_simp
                  refine hK.out _ _ HK1.out (fun _ => ?_)
                  clear hK K
                  try simp only [Act.put, List.setIfInBounds_toArray, List.set_cons_zero, List.set_cons_succ]
                  refine wpAnyH_take (i := 4) (oi := { dst := some 38, op := Op.call { callee := Callee.builtin Builtin.len, args := #[Operand.tmp 37], argTypes := #[22] }, type := 3, pos := "ref.go:109", after := #[{ on := 3, ground := Ground.data }], guard := none }) (v := .int .i64 (l.length : Int)) rfl (by kernel_rfl) (by kernel_rfl) (by kernel_rfl) (fun _ _ _ h => h) (Or.inl ⟨by rfl, ?_⟩) HK1.out ?_
                  · (intro w' hSw; go_simp)
                  simp only [Act.put, List.setIfInBounds_toArray, List.set_cons_zero, List.set_cons_succ]
                  refine wpAnyH_take (i := 8) (oi := { dst := some 42, op := Op.slice 22 (Operand.tmp 35) none (some (Operand.tmp 38)) (some (Operand.tmp 41)), type := 22, pos := "ref.go:109", after := #[{ on := 1, ground := Ground.data }, { on := 4, ground := Ground.data }, { on := 7, ground := Ground.data }], guard := none }) (v := .slice A l.length l.length) rfl (by kernel_rfl) (by kernel_rfl) (by kernel_rfl) (fun _ _ _ h => h) (Or.inl ⟨by rfl, ?_⟩) HK1.out ?_
                  · (intro w' hSw; go_simp)
                  simp only [Act.put, List.setIfInBounds_toArray, List.set_cons_zero, List.set_cons_succ]
                  refine wpAnyH_ready (rs := [11]) (by kernel_rfl) (by simp) (AllReadyH.cons (o := { dst := some 45, op := Op.call { callee := Callee.builtin Builtin.append, args := #[Operand.tmp 42, Operand.tmp 44], argTypes := #[22, 22] }, type := 22, pos := "ref.go:109", after := #[{ on := 8, ground := Ground.data }, { on := 10, ground := Ground.data }], guard := none }) rfl (fun K hK => ?_) AllReadyH.nil)
                  refine step_append_by (by rfl) _ _ 22 22 (by rfl) _ _ (by rfl) (by rfl) _ _ HRUN.out ?_
                  intro w10 hw10
                  obtain ⟨y1, y2⟩ := HG.out w10 hw10
                  have HK10 := Lib.hid (HKG.out w10 hw10)
                  have HFIN := Lib.hid (HEND.out w10 hw10)
                  clear hw10
                  refine hK.out _ _ HK10.out.1.cells (fun _ => ?_)
                  clear hK K
                  try simp only [Act.put, List.setIfInBounds_toArray, List.set_cons_zero, List.set_cons_succ]
                  refine wpAnyH_take (i := 12) (oi := { dst := some 46, op := Op.fieldAddr 29 (Operand.tmp 2) 1, type := 0, pos := "ref.go:109", after := #[{ on := 0, ground := Ground.phase }, { on := 1, ground := Ground.phase }, { on := 2, ground := Ground.phase }, { on := 3, ground := Ground.phase }, { on := 4, ground := Ground.phase }, { on := 5, ground := Ground.phase }, { on := 6, ground := Ground.phase }, { on := 7, ground := Ground.phase }, { on := 8, ground := Ground.phase }, { on := 9, ground := Ground.phase }, { on := 10, ground := Ground.phase }, { on := 11, ground := Ground.phase }], guard := none }) (v := .pointer (some ⟨tb, 1, none⟩)) rfl (by kernel_rfl) (by kernel_rfl) (by kernel_rfl) (fun _ _ _ h => h) (Or.inl ⟨by rfl, ?_⟩) HK10.out.1.cells ?_
                  · (intro w' hSw; go_simp)
                  simp only [Act.put, List.setIfInBounds_toArray, List.set_cons_zero, List.set_cons_succ]
                  refine wpAnyH_ready (rs := [13]) (by kernel_rfl) (by simp) (AllReadyH.cons (o := { dst := none, op := Op.store 22 (Operand.tmp 46) (Operand.tmp 45), type := 0, pos := "ref.go:109", after := #[{ on := 12, ground := Ground.data }, { on := 11, ground := Ground.data }, { on := 11, ground := Ground.chain }, { on := 0, ground := Ground.phase }, { on := 1, ground := Ground.phase }, { on := 2, ground := Ground.phase }, { on := 3, ground := Ground.phase }, { on := 4, ground := Ground.phase }, { on := 5, ground := Ground.phase }, { on := 6, ground := Ground.phase }, { on := 7, ground := Ground.phase }, { on := 8, ground := Ground.phase }, { on := 9, ground := Ground.phase }, { on := 10, ground := Ground.phase }, { on := 11, ground := Ground.phase }], guard := none }) rfl (fun K hK => ?_) AllReadyH.nil)
                  go_simp
                  refine hK.out _ _ (HK10.out.2 _).cells (fun _ => ?_)
                  clear hK K
                  try simp only [Act.put, List.setIfInBounds_toArray, List.set_cons_zero, List.set_cons_succ]
                  refine wpAnyH_done (by kernel_rfl) ?_ _
                  go_wp2_with (fail)
                  go_meet
                  case rel => exact ⟨rfl, HFIN.out.1, HFIN.out.2.1, HFIN.out.2.2.1, HFIN.out.2.2.2⟩
              · go_simp
                refine hK.out _ _ HK1.out (fun _ => ?_)
                clear hK K
                try simp only [Act.put, List.setIfInBounds_toArray, List.set_cons_zero, List.set_cons_succ]
                refine wpAnyH_take (i := 4) (oi := { dst := some 38, op := Op.call { callee := Callee.builtin Builtin.len, args := #[Operand.tmp 37], argTypes := #[22] }, type := 3, pos := "ref.go:109", after := #[{ on := 3, ground := Ground.data }], guard := none }) (v := .int .i64 (l.length : Int)) rfl (by kernel_rfl) (by kernel_rfl) (by kernel_rfl) (fun _ _ _ h => h) (Or.inl ⟨by rfl, ?_⟩) HK1.out ?_
                · (intro w' hSw; go_simp)
                simp only [Act.put, List.setIfInBounds_toArray, List.set_cons_zero, List.set_cons_succ]
                refine wpAnyH_ready (rs := [1]) (by kernel_rfl) (by simp) (AllReadyH.cons (o := { dst := some 35, op := Op.load 22 (Operand.tmp 34), type := 22, pos := "ref.go:109", after := #[{ on := 0, ground := Ground.data }], guard := none }) rfl (fun K hK => ?_) AllReadyH.nil)
                · go_simp
                  refine hK.out _ _ HK1.out (fun _ => ?_)
                  clear hK K
                  try simp only [Act.put, List.setIfInBounds_toArray, List.set_cons_zero, List.set_cons_succ]
                  refine wpAnyH_take (i := 8) (oi := { dst := some 42, op := Op.slice 22 (Operand.tmp 35) none (some (Operand.tmp 38)) (some (Operand.tmp 41)), type := 22, pos := "ref.go:109", after := #[{ on := 1, ground := Ground.data }, { on := 4, ground := Ground.data }, { on := 7, ground := Ground.data }], guard := none }) (v := .slice A l.length l.length) rfl (by kernel_rfl) (by kernel_rfl) (by kernel_rfl) (fun _ _ _ h => h) (Or.inl ⟨by rfl, ?_⟩) HK1.out ?_
                  · (intro w' hSw; go_simp)
                  simp only [Act.put, List.setIfInBounds_toArray, List.set_cons_zero, List.set_cons_succ]
                  refine wpAnyH_ready (rs := [11]) (by kernel_rfl) (by simp) (AllReadyH.cons (o := { dst := some 45, op := Op.call { callee := Callee.builtin Builtin.append, args := #[Operand.tmp 42, Operand.tmp 44], argTypes := #[22, 22] }, type := 22, pos := "ref.go:109", after := #[{ on := 8, ground := Ground.data }, { on := 10, ground := Ground.data }], guard := none }) rfl (fun K hK => ?_) AllReadyH.nil)
                  refine step_append_by (by rfl) _ _ 22 22 (by rfl) _ _ (by rfl) (by rfl) _ _ HRUN.out ?_
                  intro w10 hw10
                  obtain ⟨y1, y2⟩ := HG.out w10 hw10
                  have HK10 := Lib.hid (HKG.out w10 hw10)
                  have HFIN := Lib.hid (HEND.out w10 hw10)
                  clear hw10
                  refine hK.out _ _ HK10.out.1.cells (fun _ => ?_)
                  clear hK K
                  try simp only [Act.put, List.setIfInBounds_toArray, List.set_cons_zero, List.set_cons_succ]
                  refine wpAnyH_take (i := 12) (oi := { dst := some 46, op := Op.fieldAddr 29 (Operand.tmp 2) 1, type := 0, pos := "ref.go:109", after := #[{ on := 0, ground := Ground.phase }, { on := 1, ground := Ground.phase }, { on := 2, ground := Ground.phase }, { on := 3, ground := Ground.phase }, { on := 4, ground := Ground.phase }, { on := 5, ground := Ground.phase }, { on := 6, ground := Ground.phase }, { on := 7, ground := Ground.phase }, { on := 8, ground := Ground.phase }, { on := 9, ground := Ground.phase }, { on := 10, ground := Ground.phase }, { on := 11, ground := Ground.phase }], guard := none }) (v := .pointer (some ⟨tb, 1, none⟩)) rfl (by kernel_rfl) (by kernel_rfl) (by kernel_rfl) (fun _ _ _ h => h) (Or.inl ⟨by rfl, ?_⟩) HK10.out.1.cells ?_
                  · (intro w' hSw; go_simp)
                  simp only [Act.put, List.setIfInBounds_toArray, List.set_cons_zero, List.set_cons_succ]
                  refine wpAnyH_ready (rs := [13]) (by kernel_rfl) (by simp) (AllReadyH.cons (o := { dst := none, op := Op.store 22 (Operand.tmp 46) (Operand.tmp 45), type := 0, pos := "ref.go:109", after := #[{ on := 12, ground := Ground.data }, { on := 11, ground := Ground.data }, { on := 11, ground := Ground.chain }, { on := 0, ground := Ground.phase }, { on := 1, ground := Ground.phase }, { on := 2, ground := Ground.phase }, { on := 3, ground := Ground.phase }, { on := 4, ground := Ground.phase }, { on := 5, ground := Ground.phase }, { on := 6, ground := Ground.phase }, { on := 7, ground := Ground.phase }, { on := 8, ground := Ground.phase }, { on := 9, ground := Ground.phase }, { on := 10, ground := Ground.phase }, { on := 11, ground := Ground.phase }], guard := none }) rfl (fun K hK => ?_) AllReadyH.nil)
                  go_simp
                  refine hK.out _ _ (HK10.out.2 _).cells (fun _ => ?_)
                  clear hK K
                  try simp only [Act.put, List.setIfInBounds_toArray, List.set_cons_zero, List.set_cons_succ]
                  refine wpAnyH_done (by kernel_rfl) ?_ _
                  go_wp2_with (fail)
                  go_meet
                  case rel => exact ⟨rfl, HFIN.out.1, HFIN.out.2.1, HFIN.out.2.2.1, HFIN.out.2.2.2⟩
        case rest =>
          obtain ⟨rfl, h1, h2, h3, h4⟩ := hcut
          have HTC := Lib.hid h1.out
          have HOC := Lib.hid h2.out
          have HRC := Lib.hid h3.out
          have HBC := Lib.hid h4.out
          clear h1 h2 h3 h4
          generalize wc = wd at *
          obtain ⟨c0, c1⟩ := HTC.out.cells
          obtain ⟨z0, z1⟩ := HOC.out.cells
          have f0 := HOC.out.frz 0
          have f1 := HOC.out.frz 1
          have hw1 : IntKind.i64.wrap (((l.length + 1 : Nat) : Int) - 1) = (l.length : Int) := by rw [w64 (by omega)]; omega
          have hw2 : IntKind.i64.wrap ((l.length : Int) + 1 - 1) = (l.length : Int) := by rw [w64 (by omega)]; omega
          clear hsl ca1
          go_wp2_with (fail)
          have HTD := Lib.hid (show RBox ((wd.setCell ⟨ob, 0, none⟩ (.int .i64 W)).setCell ⟨ob, 1, none⟩ (.slice X (l.length + 1) cap)) tb W X (l.length + 1) cap from (hfar (p := ⟨ob, 1, none⟩) (show tb ≠ ob by rw [HTE.out]; exact HD.out.2.1) _).trans ((hfar (p := ⟨ob, 0, none⟩) (show tb ≠ ob by rw [HTE.out]; exact HD.out.2.1) _).trans HTC.out))
          go_region_held3 (fun w' => w'.cell? ⟨tb, 0, none⟩ = some (.int .i64 W) ∧ w'.cell? ⟨tb, 1, none⟩ = some (.slice X (l.length + 1) cap)) (first | exact HTC.out.cells | exact HTD.out.cells) (fail)
          all_goals
            have hw3 : IntKind.i64.wrap (l.length : Int) = (l.length : Int) := w64 (by omega)
            have hq := HOC.out.put W X (l.length + 1) cap
            have hbq := (put2_below HBC.out HD.out.1 (.int .i64 W) (.slice X (l.length + 1) cap)).drew
            have hrq : RF ((wd.setCell ⟨ob, 0, none⟩ (.int .i64 W)).setCell ⟨ob, 1, none⟩ (.slice X (l.length + 1) cap)).drew X cap (l ++ [x]) := ⟨HRC.out.1.stays (by show wd.heap.size ≤ ((wd.setCell ⟨ob, 0, none⟩ (.int .i64 W)).setCell ⟨ob, 1, none⟩ (.slice X (l.length + 1) cap)).heap.size; simp) (fun a e _ => (hfar (p := ⟨ob, 1, none⟩) (HXB.out a e) _).trans (hfar (p := ⟨ob, 0, none⟩) (HXB.out a e) _)), HRC.out.2⟩
            obtain ⟨q0, q1⟩ := hq.cells
            have v0 : ((wd.setCell ⟨ob, 0, none⟩ (.int .i64 W)).setCell ⟨ob, 1, none⟩ (.slice X (l.length + 1) cap)).drew.cell? ⟨ob, 0, none⟩ = some (.int .i64 W) := q0
            have v1 : ((wd.setCell ⟨ob, 0, none⟩ (.int .i64 W)).setCell ⟨ob, 1, none⟩ (.slice X (l.length + 1) cap)).drew.cell? ⟨ob, 1, none⟩ = some (.slice X (l.length + 1) cap) := q1
            clear hq q0 q1 f0 f1 z0 z1 c0 c1 hw1 hw2 HTD
            generalize ((wd.setCell ⟨ob, 0, none⟩ (.int .i64 W)).setCell ⟨ob, 1, none⟩ (.slice X (l.length + 1) cap)).drew = V at *
            rw [hw3]
            go_wp2_with (fail)
            exact bodyPost_ret (v := .tuple #[.agg #[.int .i64 W, .slice X (l.length + 1) cap], .int .i64 (l.length : Int), .int .i64 0]) (by simp [results, Tryd.results23, go_sem, v0, v1]) rfl ⟨X, cap, by rw [HE.out.1, HE.out.2.1, HE.out.2.2, List.length_append]; rfl, by rw [HE.out.2.2]; exact hrq, hbq, fun a e => .inr (HXN.out a e)⟩
end
end Go.Proofs.YtjgkcicgjnjepaaDoor
