/- What is proved: the reference of package gates: an And that needs a gate. -/
import Derived.Test.YtbcabnbgkicfdaaGaRAn
import Derived.ArgAppend
set_option linter.unusedVariables false
set_option linter.unusedSimpArgs false
namespace Go.Proofs.Ytbcabnbgkicfdaa
open Go.RowKit Go.Maps

theorem rstep_append {P : Program} {ops : Array Oper} {o : Oper} {a : Act} {K : Act → World → Prop} {Q : Exit → Act → World → Prop} {E : Prop} {w : World} (hgd : o.guard = none) (s x : Operand) (t u : TypeId)
    (ho : o.op = .call { callee := .builtin .append, args := #[s, x], argTypes := #[t, u] }) (sv xv : Value) (hs : a.eval s = sv) (hx : a.eval x = xv) (v : Value) (w' : World)
    (hr : (Builtin.append_ #[t, u] o.type #[sv, xv]).run P w = .ok v w') (h : ∀ w2, Hid (w2 = w') → K (a.put o.dst v) w2) : if Region.wanted o (yielded ops a.tmps) = true then Oper.wp P o a w K Q else E := by
  have hw : Region.wanted o (yielded ops a.tmps) = true := by simp [Region.wanted, hgd]
  rw [if_pos hw]
  unfold Oper.wp execOp
  simp only [ho, resolve, invoke, builtin, Sem.run_bind, Sem.run_pure, Result.andThen_ok, List.map_toArray, List.map_cons, List.map_nil, hs, hx, hr]
  exact h _ (Lib.hid rfl)
/-- a gate behind a circuit's gates, in a slice with no room -/
theorem g_ref_append (w : World) (A : Option Addr) (l : List Gt) (x : Gt) (ad : Addr) (hr : GRow w A l) (hA : l = [] → A = none) (hl : l.length ≤ 1000) (hx : ∀ j u, (gcs x)[j]? = some u → w.cell? (ad.add j) = some u) :
    ∃ X cap w', (Builtin.append_ #[28, 28] 28 #[.slice A l.length l.length, .slice (some ad) 1 1]).run Try.prog w = .ok (.slice X (l.length + 1) cap) w' ∧ GRow w' X (l ++ [x]) ∧ l.length + 1 ≤ cap ∧ Below w.heap.size w w' ∧ (∀ a, X = some a → w.heap.size ≤ a.block) := by
  obtain ⟨i0, hi0, hz0, hz1, hz2⟩ := info_parts infoGt
  have key : ∃ v' w', (Builtin.append_ #[28, 28] 28 #[.slice A l.length l.length, .slice (some ad) 1 1]).run Try.prog w = .ok v' w' ∧ w'.ownsRow w.heap.size 76 2 v' (l.length + 1) (gcl l ++ gcs x) ∧ w.grownBy w' none := by
    by_cases h0 : l = []
    · subst h0
      rw [hA rfl]
      obtain ⟨v', w', h1, h2, h3, _⟩ := run_append_own (P := Try.prog) w w.heap.size 28 28 76 i0 _ 2 16 Try.underlying28 hi0 hz0 hz1 hz2 rfl (by decide) (.slice none 0 0) 0 [] (World.ownsRow_nil w _ _ _) ad 1 1 (gcs x) rfl hx (gcs_one x) (by unfold maxLen; omega) (by omega) (Nat.le_refl _)
      exact ⟨v', w', h1, h2, h3⟩
    · obtain ⟨ad0, rfl, hcs⟩ := hr.cells (List.length_pos_iff.2 h0)
      exact run_append_arg_grows (P := Try.prog) w 28 28 76 i0 _ 2 16 Try.underlying28 hi0 hz0 hz1 hz2 rfl (by decide) ad0 l.length l.length (gcl l) (gcl_len l) hcs ad 1 1 (gcs x) rfl hx (by omega) (by unfold maxLen; omega) (by omega)
  obtain ⟨v', w', h1, h2, h3⟩ := key
  have h4 : GOwn w' w.heap.size v' (l ++ [x]) := by
    unfold GOwn
    rw [gcl_append, List.length_append, show gcl [x] = gcs x by simp [gcl]]
    exact h2
  obtain ⟨X, cap, rfl, h5, h6, h7⟩ := h4.form
  rw [List.length_append] at h1 h5
  exact ⟨X, cap, w', h1, h6, h5, ⟨h3.os, h3.tape, h3.output, h3.size, fun k hk => h3.block k hk (by simp)⟩, fun a e => (own_block' h4 (h7 a e)).1⟩
set_option maxRecDepth 100000 in
theorem g_slice_nn (A : Option Addr) (c n : Nat) (hn : n ≤ c) (hA : 0 < n → ∃ b off, A = some ⟨b, off, none⟩) (w : World) : (Instr.sliceAt 28 (.slice A n c) none (some (.int .i64 (n : Int))) (some (.int .i64 (n : Int)))).run Try.prog w = .ok (.slice A n n) w := by
  have hu : Try.prog.underlying 28 = some (.slice (Try.prog.elem 28)) := Try.underlying28
  have s : (sizeOf (Try.prog.elem 28)).run Try.prog w = .ok 2 w := by kernel_rfl
  rw [run_sliceAt_slice _ _ _ _ _ _ hu, run_slice_hm w 28 A n c hu .i64 .i64 (n : Int) (n : Int) (by omega) (Int.le_refl _) (by omega), s]
  simp only [Result.andThen_ok, Int.toNat_natCast, sliced, Nat.sub_zero, Nat.zero_mul]
  rcases Nat.eq_zero_or_pos n with h | h
  · subst h; simp
  · obtain ⟨b, off, rfl⟩ := hA h
    rw [if_neg (by omega)]
    simp [Addr.add]
theorem row_put {w : World} {X : Option Addr} {l : List Gt} (h : GRow w X l) {p : Nat} (hp : ∀ a, X = some a → a.block ≠ p) (i : Nat) (v : Value) : GRow (w.setCell ⟨p, i, none⟩ v) X l :=
  h.stays (by simp) fun a ha _ => hfar (p := ⟨p, i, none⟩) (hp a ha) v
section
variable {I : Int} {A : Option Addr} {c : Nat} {gs : List Gt} {w : World}
set_option maxRecDepth 100000 in
set_option maxHeartbeats 8000000 in
theorem r_And_gate (x y : Int) (hI : 0 ≤ I ∧ I ≤ 1024) (hr : GRow w A gs) (hc : gs.length ≤ c) (hA : gs = [] → A = none) (hok : ∀ g ∈ gs, GtOk g) (hn : gs.length ≤ 1000) (hx : litB I gs.length x = true) (hy : litB I gs.length y = true) (hz : andK x y = none) :
    Calls Try.prog 51 #[.agg #[.int .i64 I, .slice A gs.length c, .int .i64 0], .int .i64 x, .int .i64 y] w (RAns I A w (andL gs x y) 0 (andN I gs x y)) := by
  have HR := Lib.hid hr
  have HCC := Lib.hid hc
  have HAA := Lib.hid hA
  have HOKS := Lib.hid hok
  have HII := Lib.hid hI
  have bx := rlit_small hx hI hn
  have by' := rlit_small hy hI hn
  have HLX := Lib.hid (fun w => show Calls Try.prog 97 #[.agg #[.int .i64 I, .slice A gs.length c], .int .i64 x] w fun e w' => e = .returned (.bool true) ∧ Below w.heap.size w w' from (r_isLit_any I A gs.length c (by omega) x w).mono fun e w' ⟨⟨b, h1, h2⟩, h3⟩ => ⟨by rw [h1, h2 hI, hx], h3⟩)
  have HLY := Lib.hid (fun w => show Calls Try.prog 97 #[.agg #[.int .i64 I, .slice A gs.length c], .int .i64 y] w fun e w' => e = .returned (.bool true) ∧ Below w.heap.size w w' from (r_isLit_any I A gs.length c (by omega) y w).mono fun e w' ⟨⟨b, h1, h2⟩, h3⟩ => ⟨by rw [h1, h2 hI, hy], h3⟩)
  have HNT := Lib.hid (fun w => r_not_any y (by omega) w)
  have HND := Lib.hid (fun w => r_nodes_any I (by omega) A gs.length c (by omega) w)
  have dge : decide (65536 ≤ nds I gs.length) = false := decide_eq_false (by unfold nds; omega)
  obtain ⟨q0, q1, q2, q3, q4, q5⟩ := andK_none hz
  have d0 : (x == 0) = false := by simpa using q0
  have d1 : (y == 0) = false := by simpa using q1
  have d2 : (x == 1) = false := by simpa using q2
  have d3 : (y == 1) = false := by simpa using q3
  have d4 : (x == y) = false := by simpa using q4
  have d5 : (x == notP y) = false := by simpa using q5
  have HGO := Lib.hid (show GtOk (gat x y) from ⟨i64o_of (by unfold gat; simp only; omega), i64o_of (by unfold gat; simp only; omega)⟩)
  have HMM := Lib.hid (show (if y < x then y else x) = (gat x y).x ∧ (if x < y then y else x) = (gat x y).y from by
    unfold gat
    simp only
    constructor <;> split <;> omega)
  have HOLD := Lib.hid (fun (j : Nat) (h : j < gs.length) (e : gs[j] = gat x y) (hno : ∀ (k : Nat) (h : k < gs.length), k < j → gs[k] ≠ gat x y) => and_old (I := I) hz (show gix gs (gat x y) = some j by
    unfold gix
    rw [List.findIdx?_eq_some_iff_getElem]
    exact ⟨h, by simpa using e, fun k hk => by simpa using hno k (by omega) hk⟩))
  have HNEW := Lib.hid (fun (hno : ∀ (k : Nat) (h : k < gs.length), gs[k] ≠ gat x y) => and_new (I := I) hz (gix_not (fun hm => by
    obtain ⟨k, hk, e⟩ := List.getElem_of_mem hm
    exact hno k hk e)))
  generalize andN I gs x y = zz at *
  generalize andL gs x y = LL at *
  generalize gat x y = g at *
  have HSL := Lib.hid (fun w => g_slice_nn A c gs.length hc (fun h0 => by obtain ⟨b, off, h, _⟩ := hr h0; exact ⟨b, off, h⟩) w)
  have HN1 := Lib.hid hn
  have hw1 : IntKind.i64.wrap (1 + I) = 1 + I := IntWalk.i64_in _ (by omega)
  have hwj : ∀ j : Nat, j ≤ 1000 → IntKind.i64.wrap (1 + I + (j : Int)) = 1 + I + (j : Int) ∧ IntKind.i64.wrap (2 * (1 + I + (j : Int))) = 2 * (1 + I + (j : Int)) := fun j hj => ⟨IntWalk.i64_in _ (by omega), IntWalk.i64_in _ (by omega)⟩
  have HWJ := Lib.hid hwj
  clear hr hc hA hok hI hx hy hz q0 q1 q2 q3 q4 q5 bx by' hwj
  have HB0 := Lib.hid (((Below.refl w.heap.size w).alloc (Nat.le_refl _) (.cells #[.int .i64 I, .slice A gs.length c, .int .i64 0] 32)).alloc (by simp) (.cells #[.int .i64 0, .slice none 0 0, .int .i64 0] 32))
  have HO0 := Lib.hid (show RBx ((w.alloc (.cells #[.int .i64 I, .slice A gs.length c, .int .i64 0] 32)).alloc (.cells #[.int .i64 0, .slice none 0 0, .int .i64 0] 32)) (w.heap.size + 1) 0 none 0 0 0 from by
    have := RBx.new (w.alloc (.cells #[.int .i64 I, .slice A gs.length c, .int .i64 0] 32)) 0 none 0 0 0
    rwa [show (w.alloc (.cells #[.int .i64 I, .slice A gs.length c, .int .i64 0] 32)).heap.size = w.heap.size + 1 by simp] at this)
  have HP0 := Lib.hid (show RBx ((w.alloc (.cells #[.int .i64 I, .slice A gs.length c, .int .i64 0] 32)).alloc (.cells #[.int .i64 0, .slice none 0 0, .int .i64 0] 32)) w.heap.size I A gs.length c 0 from (heap_alloc_old _ _ (by simp)).trans (RBx.new w I A gs.length c 0))
  go_enter Try.func51, Try.ntmps51
  go_upto_region 1 with fail
  generalize hgw : (w.alloc (.cells #[.int .i64 I, .slice A gs.length c, .int .i64 0] 32)).alloc (.cells #[.int .i64 0, .slice none 0 0, .int .i64 0] 32) = w2 at *
  clear hgw
  have HD := Lib.hid (show w.heap.size ≤ w.heap.size + 1 ∧ w.heap.size ≠ w.heap.size + 1 from by omega)
  generalize w.heap.size + 1 = ob at *
  obtain ⟨pb, HPE⟩ : ∃ pb, Hid (pb = w.heap.size) := ⟨_, Lib.hid rfl⟩
  have HP0 := Lib.hid (show RBx w2 pb I A gs.length c 0 by rw [HPE.out]; exact HP0.out)
  have HD := Lib.hid (show w.heap.size ≤ pb ∧ w.heap.size ≤ ob ∧ pb ≠ ob by rw [HPE.out]; exact ⟨Nat.le_refl _, HD.out⟩)
  rw [← HPE.out]
  obtain ⟨q0, q1, q2⟩ := HP0.out.cells
  go_wp2_with (fail)
  clear q0 q1 q2
  refine (HLX.out _).mono ?_
  rintro e w3 ⟨rfl, hb⟩
  have HP3 := Lib.hid (HP0.out.later hb)
  have HO3 := Lib.hid (HO0.out.later hb)
  have HB3 := Lib.hid (HB0.out.trans (hb.mono HB0.out.size))
  clear hb
  obtain ⟨q0, q1, q2⟩ := HP3.out.cells
  go_wp2_with (fail)
  clear q0 q1 q2
  refine (HLY.out _).mono ?_
  rintro e w4 ⟨rfl, hb⟩
  have HP4 := Lib.hid (HP3.out.later hb)
  have HO4 := Lib.hid (HO3.out.later hb)
  have HB4 := Lib.hid (HB3.out.trans (hb.mono HB3.out.size))
  clear hb
  obtain ⟨q0, q1, q2⟩ := HP4.out.cells
  go_wp2_with (fail)
  clear q0 q1 q2
  refine (HNT.out _).mono ?_
  rintro e wx ⟨rfl, hwx⟩
  obtain rfl := hwx.symm
  obtain ⟨q0, q1, q2⟩ := HP4.out.cells
  go_upto_region 13 with fail
  clear q0 q1 q2
  rw [HMM.out.1, HMM.out.2]
  have hba := (Below.refl w4.heap.size w4).alloc (Nat.le_refl _) (.cells #[.int .i64 g.x, .int .i64 g.y] 76)
  have HP5 := Lib.hid (HP4.out.later hba)
  have HO5 := Lib.hid (HO4.out.later hba)
  have HB5 := Lib.hid (HB4.out.trans (hba.mono HB4.out.size))
  have HR5 := Lib.hid (HR.out.later HB5.out)
  have HG5 := Lib.hid (GBox.new w4 g)
  have HGN := Lib.hid (show w4.heap.size ≠ pb ∧ w4.heap.size ≠ ob from ⟨by have := Go.Proofs.Ytbcabnbgkicfdaa.hlt HP4.out; omega, by have := Go.Proofs.Ytbcabnbgkicfdaa.hlt HO4.out; omega⟩)
  clear hba
  generalize hgw : w4.alloc (.cells #[.int .i64 g.x, .int .i64 g.y] 76) = w5 at *
  clear hgw
  generalize w4.heap.size = gb at *
  go_wp2_with (fail)
  go_loopw [9] (fun v wr => ∃ (j : Nat), j ≤ gs.length ∧ v = .int .i64 (j : Int) ∧ Hid (∀ (k : Nat) (h : k < gs.length), k < j → gs[k] ≠ g) ∧ Hid (Below w5.heap.size w5 wr)) (fun v _ => gs.length - (intOf v).toNat)
  case atStart => exact ⟨0, Nat.zero_le _, rfl, Lib.hid (fun k _ h => by omega), Lib.hid (Below.refl _ _)⟩
  case round =>
    obtain ⟨j, hj, rfl, hno, hbw⟩ := hrel
    have HP6 := Lib.hid (HP5.out.later hbw.out)
    have HO6 := Lib.hid (HO5.out.later hbw.out)
    have HB6 := Lib.hid (HB5.out.trans (hbw.out.mono HB5.out.size))
    have HG6 := Lib.hid (HG5.out.later hbw.out)
    obtain ⟨q0, q1, q2⟩ := HP6.out.cells
    by_cases hlt' : j < gs.length
    · obtain ⟨b0, off, hA0, _, hc0⟩ := (HR5.out.later hbw.out).at hlt'
      have HY := Lib.hid (HOKS.out _ (List.getElem_mem hlt'))
      have HNX := Lib.hid (fun (h : gs[j] ≠ g) (k : Nat) (h2 : k < gs.length) (hk : k < j + 1) => show gs[k] ≠ g by
        rcases Nat.lt_or_ge k j with h1 | h1
        · exact hno.out k h2 h1
        · have : k = j := by omega
          subst this
          exact h)
      have HIX := Lib.hid (fun (h : gs[j] = g) => HOLD.out j hlt' h hno.out)
      have hnl : ¬ gs.length ≤ j := by omega
      have HJ1 := Lib.hid (show j ≤ 1000 by have := HN1.out; omega)
      obtain ⟨g0, g1⟩ := HG6.out.cells
      obtain ⟨y0, y1⟩ := hc0
      generalize gs[j] = yy at *
      subst hA0
      have heq : ∀ n, (Op.equalIn 10000 76 (.agg #[.int .i64 yy.x, .int .i64 yy.y]) (.agg #[.int .i64 g.x, .int .i64 g.y])).run Try.prog (wr.drewN n) = .ok (decide (yy = g)) (wr.drewN n) := fun n => gt_eq 9998 HY.out HGO.out _
      by_cases hyy : yy = g
      · obtain ⟨e1, e2⟩ := HIX.out hyy
        subst e1
        subst e2
        rw [decide_eq_true hyy] at heq
        clear hyy HIX HNX
        go_wp2_with (fail)
        go_quiet (fail)
        have hd := drewN_below wr nq
        have HP7 := Lib.hid (HP6.out.later hd)
        have HO7 := Lib.hid (HO6.out.later hd)
        have HB7 := Lib.hid (HB6.out.trans (hd.mono HB6.out.size))
        clear hd q0 q1 q2 g0 g1 y0 y1 heq
        generalize wr.drewN nq = w7 at *
        obtain ⟨hw2, hw3⟩ := HWJ.out j HJ1.out
        have hd := (show Below w7.heap.size w7 w7.drew from (Below.refl _ _).drew)
        replace HP7 := Lib.hid (HP7.out.later hd)
        replace HO7 := Lib.hid (HO7.out.later hd)
        replace HB7 := Lib.hid (HB7.out.trans (hd.mono HB7.out.size))
        clear hd
        go_upto_region 17 with fail
        refine wp_region_noPanic ?_
        refine wp_region_held_drew (S := fun w' => w'.cell? ⟨pb, 0, none⟩ = some (.int .i64 I) ∧ w'.cell? ⟨pb, 1, none⟩ = some (.slice (some ⟨b0, off, none⟩) (LL.length) c) ∧ w'.cell? ⟨pb, 2, none⟩ = some (.int .i64 0)) (by kernel_rfl) HP7.out.cells (fun _ => ?_)
        generalize w7.drew = w7 at *
        refine wpAnyH_take (i := 0) (oi := { dst := some 78, op := Op.load 32 (Operand.tmp 3), type := 32, pos := "ref.go:67", after := #[], guard := none }) (v := .agg #[.int .i64 I, .slice (some ⟨b0, off, none⟩) (LL.length) c, .int .i64 0]) rfl (by kernel_rfl) (by kernel_rfl) (by kernel_rfl) (fun _ _ _ h => h) (Or.inl ⟨by rfl, ?_⟩) HP7.out.cells ?_
        · (intro w' hSw; obtain ⟨z3, z4, z5⟩ := hSw; go_simp)
        simp only [Act.put, List.setIfInBounds_toArray, List.set_cons_zero, List.set_cons_succ]
        refine wpAnyH_take (i := 1) (oi := { dst := some 79, op := Op.fieldAddr 32 (Operand.tmp 3) 0, type := 0, pos := "ref.go:67", after := #[{ on := 8, ground := Ground.gcOnly Departure.lateStores }], guard := none }) (v := .pointer (some ⟨pb, 0, none⟩)) rfl (by kernel_rfl) (by kernel_rfl) (by kernel_rfl) (fun _ _ _ h => h) (Or.inl ⟨by rfl, ?_⟩) HP7.out.cells ?_
        · (intro w' hSw; go_simp)
        simp only [Act.put, List.setIfInBounds_toArray, List.set_cons_zero, List.set_cons_succ]
        refine wpAnyH_take (i := 2) (oi := { dst := some 80, op := Op.fieldAddr 30 (Operand.tmp 79) 0, type := 0, pos := "ref.go:67", after := #[{ on := 1, ground := Ground.data }, { on := 8, ground := Ground.gcOnly Departure.lateStores }], guard := none }) (v := .pointer (some ⟨pb, 0, none⟩)) rfl (by kernel_rfl) (by kernel_rfl) (by kernel_rfl) (fun _ _ _ h => h) (Or.inl ⟨by rfl, ?_⟩) HP7.out.cells ?_
        · (intro w' hSw; go_simp)
        simp only [Act.put, List.setIfInBounds_toArray, List.set_cons_zero, List.set_cons_succ]
        refine wpAnyH_take (i := 3) (oi := { dst := some 81, op := Op.load 3 (Operand.tmp 80), type := 3, pos := "ref.go:67", after := #[{ on := 2, ground := Ground.data }, { on := 8, ground := Ground.gcOnly Departure.lateStores }], guard := none }) (v := .int .i64 I) rfl (by kernel_rfl) (by kernel_rfl) (by kernel_rfl) (fun _ _ _ h => h) (Or.inl ⟨by rfl, ?_⟩) HP7.out.cells ?_
        · (intro w' hSw; obtain ⟨z3, z4, z5⟩ := hSw; go_simp)
        simp only [Act.put, List.setIfInBounds_toArray, List.set_cons_zero, List.set_cons_succ]
        refine wpAnyH_take (i := 4) (oi := { dst := some 82, op := Op.binOp BinOp.add 3 (Operand.const (Value.int IntKind.i64 1)) (Operand.tmp 81) 3, type := 3, pos := "ref.go:67", after := #[{ on := 3, ground := Ground.data }, { on := 8, ground := Ground.gcOnly Departure.lateStores }], guard := none }) (v := .int .i64 (1 + I)) rfl (by kernel_rfl) (by kernel_rfl) (by kernel_rfl) (fun _ _ _ h => h) (Or.inl ⟨by rfl, ?_⟩) HP7.out.cells ?_
        · (intro w' hSw; go_simp)
        simp only [Act.put, List.setIfInBounds_toArray, List.set_cons_zero, List.set_cons_succ]
        refine wpAnyH_take (i := 5) (oi := { dst := some 83, op := Op.move (Operand.tmp 9), type := 3, pos := "ref.go:67", after := #[{ on := 8, ground := Ground.gcOnly Departure.lateStores }], guard := none }) (v := .int .i64 (j : Int)) rfl (by kernel_rfl) (by kernel_rfl) (by kernel_rfl) (fun _ _ _ h => h) (Or.inl ⟨by rfl, ?_⟩) HP7.out.cells ?_
        · (intro w' hSw; go_simp)
        simp only [Act.put, List.setIfInBounds_toArray, List.set_cons_zero, List.set_cons_succ]
        refine wpAnyH_take (i := 6) (oi := { dst := some 84, op := Op.binOp BinOp.add 3 (Operand.tmp 82) (Operand.tmp 83) 3, type := 3, pos := "ref.go:67", after := #[{ on := 4, ground := Ground.data }, { on := 5, ground := Ground.data }, { on := 8, ground := Ground.gcOnly Departure.lateStores }], guard := none }) (v := .int .i64 (1 + I + (j : Int))) rfl (by kernel_rfl) (by kernel_rfl) (by kernel_rfl) (fun _ _ _ h => h) (Or.inl ⟨by rfl, ?_⟩) HP7.out.cells ?_
        · (intro w' hSw; go_simp)
        simp only [Act.put, List.setIfInBounds_toArray, List.set_cons_zero, List.set_cons_succ]
        refine wpAnyH_take (i := 7) (oi := { dst := some 85, op := Op.binOp BinOp.mul 3 (Operand.const (Value.int IntKind.i64 2)) (Operand.tmp 84) 3, type := 3, pos := "ref.go:67", after := #[{ on := 6, ground := Ground.data }, { on := 8, ground := Ground.gcOnly Departure.lateStores }], guard := none }) (v := .int .i64 (2 * (1 + I + (j : Int)))) rfl (by kernel_rfl) (by kernel_rfl) (by kernel_rfl) (fun _ _ _ h => h) (Or.inl ⟨by rfl, ?_⟩) HP7.out.cells ?_
        · (intro w' hSw; go_simp)
        simp only [Act.put, List.setIfInBounds_toArray, List.set_cons_zero, List.set_cons_succ]
        refine wpAnyH_ready (rs := [8]) (by kernel_rfl) (by simp) (AllReadyH.cons (o := { dst := none, op := Op.store 32 (Operand.tmp 6) (Operand.tmp 78), type := 0, pos := "ref.go:67", after := #[{ on := 0, ground := Ground.data }, { on := 0, ground := Ground.phase }, { on := 1, ground := Ground.textOnly Departure.lateStores }, { on := 2, ground := Ground.textOnly Departure.lateStores }, { on := 3, ground := Ground.textOnly Departure.lateStores }, { on := 4, ground := Ground.textOnly Departure.lateStores }, { on := 5, ground := Ground.textOnly Departure.lateStores }, { on := 6, ground := Ground.textOnly Departure.lateStores }, { on := 7, ground := Ground.textOnly Departure.lateStores }], guard := none }) rfl (fun K hK => ?_) AllReadyH.nil)
        obtain ⟨z0, z1, z2⟩ := HO7.out.cells
        have f0 := HO7.out.frz 0
        have f1 := HO7.out.frz 1
        have f2 := HO7.out.frz 2
        have HTD := Lib.hid (show RBx (((w7.setCell ⟨ob, 0, none⟩ (.int .i64 I)).setCell ⟨ob, 1, none⟩ (.slice (some ⟨b0, off, none⟩) (LL.length) c)).setCell ⟨ob, 2, none⟩ (.int .i64 0)) pb I (some ⟨b0, off, none⟩) (LL.length) c 0 from ((HP7.out.far HD.out.2.2.symm 0 _).far HD.out.2.2.symm 1 _).far HD.out.2.2.symm 2 _)
        go_simp
        refine hK.out _ _ HTD.out.cells (fun _ => ?_)
        clear hK K
        try simp only [Act.put, List.setIfInBounds_toArray, List.set_cons_zero, List.set_cons_succ]
        refine wpAnyH_take (i := 9) (oi := { dst := some 7, op := Op.assign (Operand.tmp 85), type := 3, pos := "ref.go:67", after := #[{ on := 7, ground := Ground.data }, { on := 8, ground := Ground.chain }, { on := 0, ground := Ground.phase }, { on := 1, ground := Ground.phase }, { on := 2, ground := Ground.phase }, { on := 3, ground := Ground.phase }, { on := 4, ground := Ground.phase }, { on := 5, ground := Ground.phase }, { on := 6, ground := Ground.phase }, { on := 7, ground := Ground.phase }, { on := 8, ground := Ground.phase }], guard := none }) (v := .int .i64 (2 * (1 + I + (j : Int)))) rfl (by kernel_rfl) (by kernel_rfl) (by kernel_rfl) (fun _ _ _ h => h) (Or.inl ⟨by rfl, ?_⟩) HTD.out.cells ?_
        · (intro w' hSw; go_simp)
        simp only [Act.put, List.setIfInBounds_toArray, List.set_cons_zero, List.set_cons_succ]
        refine wpAnyH_done (by kernel_rfl) ?_ _
        refine NoPanic.normal ?_
        have hq := HO7.out.put I (some ⟨b0, off, none⟩) (LL.length) c 0
        have hbq := put3_below HB7.out HD.out.2.1 (.int .i64 I) (.slice (some ⟨b0, off, none⟩) (LL.length) c) (.int .i64 0)
        obtain ⟨v0, v1, v2⟩ := hq.cells
        clear hq f0 f1 f2 z0 z1 z2 HTD
        generalize ((w7.setCell ⟨ob, 0, none⟩ (.int .i64 I)).setCell ⟨ob, 1, none⟩ (.slice (some ⟨b0, off, none⟩) (LL.length) c)).setCell ⟨ob, 2, none⟩ (.int .i64 0) = V at *
        go_wp2_with (fail)
        exact bodyPost_ret (v := .tuple #[.agg #[.int .i64 I, .slice (some ⟨b0, off, none⟩) (LL.length) c, .int .i64 0], .int .i64 (2 * (1 + I + (j : Int)))]) (by simp [results, Try.results51, go_sem, v0, v1, v2]) rfl ⟨_, c, rfl, HR.out.later hbq, HCC.out, HAA.out, fun a e => .inl e, hbq⟩
      · have HNE := Lib.hid (HNX.out hyy)
        rw [decide_eq_false hyy] at heq
        clear hyy HIX HNX
        go_wp2_with (fail)
        go_quiet (fail)
        have HB7 := Lib.hid (hbw.out.trans ((drewN_below wr nq).mono hbw.out.size))
        go_wp2_with (fail)
        exact ⟨⟨j + 1, by omega, by go_num, HNE, HB7⟩, by simp [intOf]; omega⟩
    · obtain rfl : j = gs.length := by omega
      obtain ⟨e1, e2⟩ := HNEW.out (fun k h => hno.out k h h)
      subst e1
      subst e2
      clear HOLD HNEW HOKS hno
      go_wp2_with (fail)
      clear q0 q1 q2
      refine (HND.out _).mono ?_
      rintro e w7 ⟨rfl, hb⟩
      have HP7 := Lib.hid (HP6.out.later hb)
      have HO7 := Lib.hid (HO6.out.later hb)
      have HB7 := Lib.hid (HB6.out.trans (hb.mono HB6.out.size))
      have HG7 := Lib.hid (HG6.out.later hb)
      clear hb
      obtain ⟨q0, q1, q2⟩ := HP7.out.cells
      go_upto_region 22 with fail
      clear q0 q1 q2
      have hd := (show Below w7.heap.size w7 w7.drew from (Below.refl _ _).drew)
      replace HP7 := Lib.hid (HP7.out.later hd)
      replace HO7 := Lib.hid (HO7.out.later hd)
      replace HB7 := Lib.hid (HB7.out.trans (hd.mono HB7.out.size))
      replace HG7 := Lib.hid (HG7.out.later hd)
      clear hd
      refine wp_region_noPanic ?_
      refine wp_region_held_drew (S := fun w' => w'.cell? ⟨gb, 0, none⟩ = some (.int .i64 g.x) ∧ w'.cell? ⟨gb, 1, none⟩ = some (.int .i64 g.y)) (by kernel_rfl) HG7.out.cells (fun _ => ?_)
      generalize w7.drew = w7 at *
      refine wpAnyH_take (i := 0) (oi := { dst := some 96, op := Op.fieldAddr 32 (Operand.tmp 3) 0, type := 0, pos := "ref.go:75", after := #[], guard := none }) (v := .pointer (some ⟨pb, 0, none⟩)) rfl (by kernel_rfl) (by kernel_rfl) (by kernel_rfl) (fun _ _ _ h => h) (Or.inl ⟨by rfl, ?_⟩) HG7.out.cells ?_
      · (intro w' hSw; go_simp)
      simp only [Act.put, List.setIfInBounds_toArray, List.set_cons_zero, List.set_cons_succ]
      refine wpAnyH_take (i := 1) (oi := { dst := some 97, op := Op.fieldAddr 30 (Operand.tmp 96) 1, type := 0, pos := "ref.go:75", after := #[{ on := 0, ground := Ground.data }], guard := none }) (v := .pointer (some ⟨pb, 1, none⟩)) rfl (by kernel_rfl) (by kernel_rfl) (by kernel_rfl) (fun _ _ _ h => h) (Or.inl ⟨by rfl, ?_⟩) HG7.out.cells ?_
      · (intro w' hSw; go_simp)
      simp only [Act.put, List.setIfInBounds_toArray, List.set_cons_zero, List.set_cons_succ]
      refine wpAnyH_take (i := 3) (oi := { dst := some 99, op := Op.move (Operand.tmp 10), type := 3, pos := "ref.go:75", after := #[], guard := none }) (v := .int .i64 (gs.length : Int)) rfl (by kernel_rfl) (by kernel_rfl) (by kernel_rfl) (fun _ _ _ h => h) (Or.inl ⟨by rfl, ?_⟩) HG7.out.cells ?_
      · (intro w' hSw; go_simp)
      simp only [Act.put, List.setIfInBounds_toArray, List.set_cons_zero, List.set_cons_succ]
      refine wpAnyH_take (i := 4) (oi := { dst := some 100, op := Op.move (Operand.tmp 10), type := 3, pos := "ref.go:75", after := #[], guard := none }) (v := .int .i64 (gs.length : Int)) rfl (by kernel_rfl) (by kernel_rfl) (by kernel_rfl) (fun _ _ _ h => h) (Or.inl ⟨by rfl, ?_⟩) HG7.out.cells ?_
      · (intro w' hSw; go_simp)
      simp only [Act.put, List.setIfInBounds_toArray, List.set_cons_zero, List.set_cons_succ]
      refine wpAnyH_take (i := 6) (oi := { dst := some 102, op := Op.load 76 (Operand.tmp 8), type := 76, pos := "ref.go:75", after := #[], guard := none }) (v := .agg #[.int .i64 g.x, .int .i64 g.y]) rfl (by kernel_rfl) (by kernel_rfl) (by kernel_rfl) (fun _ _ _ h => h) (Or.inl ⟨by rfl, ?_⟩) HG7.out.cells ?_
      · (intro w' hSw; obtain ⟨y0, y1⟩ := hSw; go_simp)
      simp only [Act.put, List.setIfInBounds_toArray, List.set_cons_zero, List.set_cons_succ]
      refine wpAnyH_ready (rs := [2, 7]) (by kernel_rfl) (by simp) (AllReadyH.cons (o := { dst := some 98, op := Op.load 28 (Operand.tmp 97), type := 28, pos := "ref.go:75", after := #[{ on := 1, ground := Ground.data }], guard := none }) rfl (fun K hK => ?_) (AllReadyH.cons (o := { dst := some 103, op := Op.buildSlice 28 1 #[(0, Operand.tmp 102)], type := 28, pos := "ref.go:75", after := #[{ on := 6, ground := Ground.data }], guard := none }) rfl (fun K hK => ?_) AllReadyH.nil))
      · obtain ⟨q0, q1, q2⟩ := HP7.out.cells
        go_simp
        clear q0 q1 q2
        refine hK.out _ _ HG7.out.cells (fun _ => ?_)
        clear hK K
        try simp only [Act.put, List.setIfInBounds_toArray, List.set_cons_zero, List.set_cons_succ]
        refine wpAnyH_take (i := 5) (oi := { dst := some 101, op := Op.slice 28 (Operand.tmp 98) none (some (Operand.tmp 99)) (some (Operand.tmp 100)), type := 28, pos := "ref.go:75", after := #[{ on := 2, ground := Ground.data }, { on := 3, ground := Ground.data }, { on := 4, ground := Ground.data }], guard := none }) (v := .slice A gs.length gs.length) rfl (by kernel_rfl) (by kernel_rfl) (by kernel_rfl) (fun _ _ _ h => h) (Or.inl ⟨by rfl, ?_⟩) HG7.out.cells ?_
        · (intro w' hSw; have hsl := HSL.out; go_simp)
        simp only [Act.put, List.setIfInBounds_toArray, List.set_cons_zero, List.set_cons_succ]
        refine wpAnyH_ready (rs := [7]) (by kernel_rfl) (by simp) (AllReadyH.cons (o := { dst := some 103, op := Op.buildSlice 28 1 #[(0, Operand.tmp 102)], type := 28, pos := "ref.go:75", after := #[{ on := 6, ground := Ground.data }], guard := none }) rfl (fun K hK => ?_) AllReadyH.nil)
        have hba := (Below.refl w7.heap.size w7).alloc (Nat.le_refl _) (.cells #[.int .i64 g.x, .int .i64 g.y] 76)
        have HP8 := Lib.hid (HP7.out.later hba)
        have HO8 := Lib.hid (HO7.out.later hba)
        have HB8 := Lib.hid (HB7.out.trans (hba.mono HB7.out.size))
        have HG8 := Lib.hid (HG7.out.later hba)
        have HSB := Lib.hid (GBox.new w7 g)
        clear hba
        go_simp
        generalize hgw : w7.alloc (.cells #[.int .i64 g.x, .int .i64 g.y] 76) = w8 at *
        clear hgw
        generalize w7.heap.size = sb at *
        refine hK.out _ _ HG8.out.cells (fun _ => ?_)
        clear hK K
        try simp only [Act.put, List.setIfInBounds_toArray, List.set_cons_zero, List.set_cons_succ]
        refine wpAnyH_ready (rs := [8]) (by kernel_rfl) (by simp) (AllReadyH.cons (o := { dst := some 104, op := Op.call { callee := Callee.builtin Builtin.append, args := #[Operand.tmp 101, Operand.tmp 103], argTypes := #[28, 28] }, type := 28, pos := "ref.go:75", after := #[{ on := 5, ground := Ground.data }, { on := 7, ground := Ground.data }], guard := none }) rfl (fun K hK => ?_) AllReadyH.nil)
        obtain ⟨X, cap, w9, hrun, hrow, hle, hbel, hX⟩ := g_ref_append w8 A gs g ⟨sb, 0, none⟩ (HR.out.later HB8.out) HAA.out HN1.out (fun j u hu => by
          obtain ⟨s0, s1⟩ := HSB.out.cells
          have hj : j < 2 := (List.getElem?_eq_some_iff.1 hu).1
          have : j = 0 ∨ j = 1 := by omega
          rcases this with rfl | rfl <;> simp only [gcs, List.getElem?_cons_zero, List.getElem?_cons_succ, Option.some.injEq] at hu <;> subst hu
          · exact s0
          · exact s1)
        have HP9 := Lib.hid (HP8.out.later hbel)
        have HO9 := Lib.hid (HO8.out.later hbel)
        have HB9 := Lib.hid (HB8.out.trans (hbel.mono HB8.out.size))
        have HG9 := Lib.hid (HG8.out.later hbel)
        have HX9 := Lib.hid hrow
        have HLE := Lib.hid hle
        have HXO := Lib.hid (show ∀ a, X = some a → a.block ≠ ob from fun a ha => by have h1 := hX a ha; have h2 := Go.Proofs.Ytbcabnbgkicfdaa.hlt HO8.out; omega)
        have HXP := Lib.hid (show ∀ a, X = some a → a.block ≠ pb from fun a ha => by have h1 := hX a ha; have h2 := Go.Proofs.Ytbcabnbgkicfdaa.hlt HP8.out; omega)
        have HXF := Lib.hid (show ∀ a, X = some a → w.heap.size ≤ a.block from fun a ha => by have h1 := hX a ha; have h2 := HB8.out.size; omega)
        refine rstep_append (by rfl) _ _ 28 28 (by rfl) _ _ (by rfl) (by rfl) _ _ hrun ?_
        intro wy hwy
        obtain rfl := hwy.out.symm
        clear hwy hrun hrow hle hbel hX
        refine hK.out _ _ HG9.out.cells (fun _ => ?_)
        clear hK K
        try simp only [Act.put, List.setIfInBounds_toArray, List.set_cons_zero, List.set_cons_succ]
        refine wpAnyH_take (i := 9) (oi := { dst := some 105, op := Op.fieldAddr 32 (Operand.tmp 3) 0, type := 0, pos := "ref.go:75", after := #[{ on := 0, ground := Ground.phase }, { on := 1, ground := Ground.phase }, { on := 2, ground := Ground.phase }, { on := 3, ground := Ground.phase }, { on := 4, ground := Ground.phase }, { on := 5, ground := Ground.phase }, { on := 6, ground := Ground.phase }, { on := 7, ground := Ground.phase }, { on := 8, ground := Ground.phase }], guard := none }) (v := .pointer (some ⟨pb, 0, none⟩)) rfl (by kernel_rfl) (by kernel_rfl) (by kernel_rfl) (fun _ _ _ h => h) (Or.inl ⟨by rfl, ?_⟩) HG9.out.cells ?_
        · (intro w' hSw; go_simp)
        simp only [Act.put, List.setIfInBounds_toArray, List.set_cons_zero, List.set_cons_succ]
        refine wpAnyH_take (i := 10) (oi := { dst := some 106, op := Op.fieldAddr 30 (Operand.tmp 105) 1, type := 0, pos := "ref.go:75", after := #[{ on := 9, ground := Ground.data }, { on := 0, ground := Ground.phase }, { on := 1, ground := Ground.phase }, { on := 2, ground := Ground.phase }, { on := 3, ground := Ground.phase }, { on := 4, ground := Ground.phase }, { on := 5, ground := Ground.phase }, { on := 6, ground := Ground.phase }, { on := 7, ground := Ground.phase }, { on := 8, ground := Ground.phase }], guard := none }) (v := .pointer (some ⟨pb, 1, none⟩)) rfl (by kernel_rfl) (by kernel_rfl) (by kernel_rfl) (fun _ _ _ h => h) (Or.inl ⟨by rfl, ?_⟩) HG9.out.cells ?_
        · (intro w' hSw; go_simp)
        simp only [Act.put, List.setIfInBounds_toArray, List.set_cons_zero, List.set_cons_succ]
        refine wpAnyH_ready (rs := [11]) (by kernel_rfl) (by simp) (AllReadyH.cons (o := { dst := none, op := Op.store 28 (Operand.tmp 106) (Operand.tmp 104), type := 0, pos := "ref.go:75", after := #[{ on := 10, ground := Ground.data }, { on := 8, ground := Ground.data }, { on := 8, ground := Ground.chain }, { on := 0, ground := Ground.phase }, { on := 1, ground := Ground.phase }, { on := 2, ground := Ground.phase }, { on := 3, ground := Ground.phase }, { on := 4, ground := Ground.phase }, { on := 5, ground := Ground.phase }, { on := 6, ground := Ground.phase }, { on := 7, ground := Ground.phase }, { on := 8, ground := Ground.phase }], guard := none }) rfl (fun K hK => ?_) AllReadyH.nil)
        obtain ⟨q0, q1, q2⟩ := HP9.out.cells
        have t1 := HP9.out.frz 1
        have HP10 := Lib.hid (HP9.out.putS X (gs.length + 1) cap)
        have HO10 := Lib.hid (HO9.out.far HD.out.2.2 1 (.slice X (gs.length + 1) cap))
        have HB10 := Lib.hid (HB9.out.setCell (p := ⟨pb, 1, none⟩) HD.out.1 (.slice X (gs.length + 1) cap))
        have HX10 := Lib.hid (row_put HX9.out HXP.out 1 (.slice X (gs.length + 1) cap))
        have HG10 := Lib.hid (show GBox (w9.setCell ⟨pb, 1, none⟩ (.slice X (gs.length + 1) cap)) gb g from (hfar (p := ⟨pb, 1, none⟩) HGN.out.1 _).trans HG9.out)
        go_simp
        generalize hgw : w9.setCell ⟨pb, 1, none⟩ (.slice X (gs.length + 1) cap) = w10 at *
        clear hgw q0 q1 q2 t1
        refine hK.out _ _ HG10.out.cells (fun _ => ?_)
        clear hK K
        try simp only [Act.put, List.setIfInBounds_toArray, List.set_cons_zero, List.set_cons_succ]
        refine wpAnyH_done (by kernel_rfl) ?_ _
        refine NoPanic.normal ?_
        have hwl : IntKind.i64.wrap (1 + I + (gs.length : Int)) = 1 + I + (gs.length : Int) ∧ IntKind.i64.wrap (2 * (1 + I + (gs.length : Int))) = 2 * (1 + I + (gs.length : Int)) := HWJ.out gs.length HN1.out
        obtain ⟨hw2, hw3⟩ := hwl
        have hd := (show Below w10.heap.size w10 w10.drew from (Below.refl _ _).drew)
        replace HP10 := Lib.hid (HP10.out.later hd)
        replace HO10 := Lib.hid (HO10.out.later hd)
        replace HB10 := Lib.hid (HB10.out.trans (hd.mono HB10.out.size))
        replace HX10 := Lib.hid (HX10.out.later hd)
        clear hd
        go_upto_region 23 with fail
        refine wp_region_noPanic ?_
        refine wp_region_held_drew (S := fun w' => w'.cell? ⟨pb, 0, none⟩ = some (.int .i64 I) ∧ w'.cell? ⟨pb, 1, none⟩ = some (.slice X (gs.length + 1) cap) ∧ w'.cell? ⟨pb, 2, none⟩ = some (.int .i64 0)) (by kernel_rfl) HP10.out.cells (fun _ => ?_)
        generalize w10.drew = w10 at *
        refine wpAnyH_take (i := 0) (oi := { dst := some 107, op := Op.load 32 (Operand.tmp 3), type := 32, pos := "ref.go:76", after := #[], guard := none }) (v := .agg #[.int .i64 I, .slice X (gs.length + 1) cap, .int .i64 0]) rfl (by kernel_rfl) (by kernel_rfl) (by kernel_rfl) (fun _ _ _ h => h) (Or.inl ⟨by rfl, ?_⟩) HP10.out.cells ?_
        · (intro w' hSw; obtain ⟨z3, z4, z5⟩ := hSw; go_simp)
        simp only [Act.put, List.setIfInBounds_toArray, List.set_cons_zero, List.set_cons_succ]
        refine wpAnyH_take (i := 1) (oi := { dst := some 108, op := Op.fieldAddr 32 (Operand.tmp 3) 0, type := 0, pos := "ref.go:76", after := #[{ on := 8, ground := Ground.gcOnly Departure.lateStores }], guard := none }) (v := .pointer (some ⟨pb, 0, none⟩)) rfl (by kernel_rfl) (by kernel_rfl) (by kernel_rfl) (fun _ _ _ h => h) (Or.inl ⟨by rfl, ?_⟩) HP10.out.cells ?_
        · (intro w' hSw; go_simp)
        simp only [Act.put, List.setIfInBounds_toArray, List.set_cons_zero, List.set_cons_succ]
        refine wpAnyH_take (i := 2) (oi := { dst := some 109, op := Op.fieldAddr 30 (Operand.tmp 108) 0, type := 0, pos := "ref.go:76", after := #[{ on := 1, ground := Ground.data }, { on := 8, ground := Ground.gcOnly Departure.lateStores }], guard := none }) (v := .pointer (some ⟨pb, 0, none⟩)) rfl (by kernel_rfl) (by kernel_rfl) (by kernel_rfl) (fun _ _ _ h => h) (Or.inl ⟨by rfl, ?_⟩) HP10.out.cells ?_
        · (intro w' hSw; go_simp)
        simp only [Act.put, List.setIfInBounds_toArray, List.set_cons_zero, List.set_cons_succ]
        refine wpAnyH_take (i := 3) (oi := { dst := some 110, op := Op.load 3 (Operand.tmp 109), type := 3, pos := "ref.go:76", after := #[{ on := 2, ground := Ground.data }, { on := 8, ground := Ground.gcOnly Departure.lateStores }], guard := none }) (v := .int .i64 I) rfl (by kernel_rfl) (by kernel_rfl) (by kernel_rfl) (fun _ _ _ h => h) (Or.inl ⟨by rfl, ?_⟩) HP10.out.cells ?_
        · (intro w' hSw; obtain ⟨z3, z4, z5⟩ := hSw; go_simp)
        simp only [Act.put, List.setIfInBounds_toArray, List.set_cons_zero, List.set_cons_succ]
        refine wpAnyH_take (i := 4) (oi := { dst := some 111, op := Op.binOp BinOp.add 3 (Operand.const (Value.int IntKind.i64 1)) (Operand.tmp 110) 3, type := 3, pos := "ref.go:76", after := #[{ on := 3, ground := Ground.data }, { on := 8, ground := Ground.gcOnly Departure.lateStores }], guard := none }) (v := .int .i64 (1 + I)) rfl (by kernel_rfl) (by kernel_rfl) (by kernel_rfl) (fun _ _ _ h => h) (Or.inl ⟨by rfl, ?_⟩) HP10.out.cells ?_
        · (intro w' hSw; go_simp)
        simp only [Act.put, List.setIfInBounds_toArray, List.set_cons_zero, List.set_cons_succ]
        refine wpAnyH_take (i := 5) (oi := { dst := some 112, op := Op.move (Operand.tmp 10), type := 3, pos := "ref.go:76", after := #[{ on := 8, ground := Ground.gcOnly Departure.lateStores }], guard := none }) (v := .int .i64 (gs.length : Int)) rfl (by kernel_rfl) (by kernel_rfl) (by kernel_rfl) (fun _ _ _ h => h) (Or.inl ⟨by rfl, ?_⟩) HP10.out.cells ?_
        · (intro w' hSw; go_simp)
        simp only [Act.put, List.setIfInBounds_toArray, List.set_cons_zero, List.set_cons_succ]
        refine wpAnyH_take (i := 6) (oi := { dst := some 113, op := Op.binOp BinOp.add 3 (Operand.tmp 111) (Operand.tmp 112) 3, type := 3, pos := "ref.go:76", after := #[{ on := 4, ground := Ground.data }, { on := 5, ground := Ground.data }, { on := 8, ground := Ground.gcOnly Departure.lateStores }], guard := none }) (v := .int .i64 (1 + I + (gs.length : Int))) rfl (by kernel_rfl) (by kernel_rfl) (by kernel_rfl) (fun _ _ _ h => h) (Or.inl ⟨by rfl, ?_⟩) HP10.out.cells ?_
        · (intro w' hSw; go_simp)
        simp only [Act.put, List.setIfInBounds_toArray, List.set_cons_zero, List.set_cons_succ]
        refine wpAnyH_take (i := 7) (oi := { dst := some 114, op := Op.binOp BinOp.mul 3 (Operand.const (Value.int IntKind.i64 2)) (Operand.tmp 113) 3, type := 3, pos := "ref.go:76", after := #[{ on := 6, ground := Ground.data }, { on := 8, ground := Ground.gcOnly Departure.lateStores }], guard := none }) (v := .int .i64 (2 * (1 + I + (gs.length : Int)))) rfl (by kernel_rfl) (by kernel_rfl) (by kernel_rfl) (fun _ _ _ h => h) (Or.inl ⟨by rfl, ?_⟩) HP10.out.cells ?_
        · (intro w' hSw; go_simp)
        simp only [Act.put, List.setIfInBounds_toArray, List.set_cons_zero, List.set_cons_succ]
        refine wpAnyH_ready (rs := [8]) (by kernel_rfl) (by simp) (AllReadyH.cons (o := { dst := none, op := Op.store 32 (Operand.tmp 6) (Operand.tmp 107), type := 0, pos := "ref.go:76", after := #[{ on := 0, ground := Ground.data }, { on := 0, ground := Ground.phase }, { on := 1, ground := Ground.textOnly Departure.lateStores }, { on := 2, ground := Ground.textOnly Departure.lateStores }, { on := 3, ground := Ground.textOnly Departure.lateStores }, { on := 4, ground := Ground.textOnly Departure.lateStores }, { on := 5, ground := Ground.textOnly Departure.lateStores }, { on := 6, ground := Ground.textOnly Departure.lateStores }, { on := 7, ground := Ground.textOnly Departure.lateStores }], guard := none }) rfl (fun K hK => ?_) AllReadyH.nil)
        obtain ⟨z0, z1, z2⟩ := HO10.out.cells
        have f0 := HO10.out.frz 0
        have f1 := HO10.out.frz 1
        have f2 := HO10.out.frz 2
        have HTD := Lib.hid (show RBx (((w10.setCell ⟨ob, 0, none⟩ (.int .i64 I)).setCell ⟨ob, 1, none⟩ (.slice X (gs.length + 1) cap)).setCell ⟨ob, 2, none⟩ (.int .i64 0)) pb I X (gs.length + 1) cap 0 from ((HP10.out.far HD.out.2.2.symm 0 _).far HD.out.2.2.symm 1 _).far HD.out.2.2.symm 2 _)
        go_simp
        refine hK.out _ _ HTD.out.cells (fun _ => ?_)
        clear hK K
        try simp only [Act.put, List.setIfInBounds_toArray, List.set_cons_zero, List.set_cons_succ]
        refine wpAnyH_take (i := 9) (oi := { dst := some 7, op := Op.assign (Operand.tmp 114), type := 3, pos := "ref.go:76", after := #[{ on := 7, ground := Ground.data }, { on := 8, ground := Ground.chain }, { on := 0, ground := Ground.phase }, { on := 1, ground := Ground.phase }, { on := 2, ground := Ground.phase }, { on := 3, ground := Ground.phase }, { on := 4, ground := Ground.phase }, { on := 5, ground := Ground.phase }, { on := 6, ground := Ground.phase }, { on := 7, ground := Ground.phase }, { on := 8, ground := Ground.phase }], guard := none }) (v := .int .i64 (2 * (1 + I + (gs.length : Int)))) rfl (by kernel_rfl) (by kernel_rfl) (by kernel_rfl) (fun _ _ _ h => h) (Or.inl ⟨by rfl, ?_⟩) HTD.out.cells ?_
        · (intro w' hSw; go_simp)
        simp only [Act.put, List.setIfInBounds_toArray, List.set_cons_zero, List.set_cons_succ]
        refine wpAnyH_done (by kernel_rfl) ?_ _
        refine NoPanic.normal ?_
        have hq := HO10.out.put I X (gs.length + 1) cap 0
        have hbq := put3_below HB10.out HD.out.2.1 (.int .i64 I) (.slice X (gs.length + 1) cap) (.int .i64 0)
        obtain ⟨v0, v1, v2⟩ := hq.cells
        have hrq := row_put (row_put (row_put HX10.out HXO.out 0 (.int .i64 I)) HXO.out 1 (.slice X (gs.length + 1) cap)) HXO.out 2 (.int .i64 0)
        clear hq f0 f1 f2 z0 z1 z2 HTD
        generalize ((w10.setCell ⟨ob, 0, none⟩ (.int .i64 I)).setCell ⟨ob, 1, none⟩ (.slice X (gs.length + 1) cap)).setCell ⟨ob, 2, none⟩ (.int .i64 0) = V at *
        go_wp2_with (fail)
        exact bodyPost_ret (v := .tuple #[.agg #[.int .i64 I, .slice X (gs.length + 1) cap, .int .i64 0], .int .i64 (2 * (1 + I + (gs.length : Int)))]) (by simp [results, Try.results51, go_sem, v0, v1, v2]) rfl ⟨X, cap, by rw [List.length_append]; rfl, hrq, by rw [List.length_append]; exact HLE.out, fun h => by simp at h, fun a e => .inr (HXF.out a e), hbq⟩
      · have hba := (Below.refl w7.heap.size w7).alloc (Nat.le_refl _) (.cells #[.int .i64 g.x, .int .i64 g.y] 76)
        have HP8 := Lib.hid (HP7.out.later hba)
        have HO8 := Lib.hid (HO7.out.later hba)
        have HB8 := Lib.hid (HB7.out.trans (hba.mono HB7.out.size))
        have HG8 := Lib.hid (HG7.out.later hba)
        have HSB := Lib.hid (GBox.new w7 g)
        clear hba
        go_simp
        generalize hgw : w7.alloc (.cells #[.int .i64 g.x, .int .i64 g.y] 76) = w8 at *
        clear hgw
        generalize w7.heap.size = sb at *
        refine hK.out _ _ HG8.out.cells (fun _ => ?_)
        clear hK K
        try simp only [Act.put, List.setIfInBounds_toArray, List.set_cons_zero, List.set_cons_succ]
        refine wpAnyH_ready (rs := [2]) (by kernel_rfl) (by simp) (AllReadyH.cons (o := { dst := some 98, op := Op.load 28 (Operand.tmp 97), type := 28, pos := "ref.go:75", after := #[{ on := 1, ground := Ground.data }], guard := none }) rfl (fun K hK => ?_) AllReadyH.nil)
        obtain ⟨q0, q1, q2⟩ := HP8.out.cells
        go_simp
        clear q0 q1 q2
        refine hK.out _ _ HG8.out.cells (fun _ => ?_)
        clear hK K
        try simp only [Act.put, List.setIfInBounds_toArray, List.set_cons_zero, List.set_cons_succ]
        refine wpAnyH_take (i := 5) (oi := { dst := some 101, op := Op.slice 28 (Operand.tmp 98) none (some (Operand.tmp 99)) (some (Operand.tmp 100)), type := 28, pos := "ref.go:75", after := #[{ on := 2, ground := Ground.data }, { on := 3, ground := Ground.data }, { on := 4, ground := Ground.data }], guard := none }) (v := .slice A gs.length gs.length) rfl (by kernel_rfl) (by kernel_rfl) (by kernel_rfl) (fun _ _ _ h => h) (Or.inl ⟨by rfl, ?_⟩) HG8.out.cells ?_
        · (intro w' hSw; have hsl := HSL.out; go_simp)
        simp only [Act.put, List.setIfInBounds_toArray, List.set_cons_zero, List.set_cons_succ]
        refine wpAnyH_ready (rs := [8]) (by kernel_rfl) (by simp) (AllReadyH.cons (o := { dst := some 104, op := Op.call { callee := Callee.builtin Builtin.append, args := #[Operand.tmp 101, Operand.tmp 103], argTypes := #[28, 28] }, type := 28, pos := "ref.go:75", after := #[{ on := 5, ground := Ground.data }, { on := 7, ground := Ground.data }], guard := none }) rfl (fun K hK => ?_) AllReadyH.nil)
        obtain ⟨X, cap, w9, hrun, hrow, hle, hbel, hX⟩ := g_ref_append w8 A gs g ⟨sb, 0, none⟩ (HR.out.later HB8.out) HAA.out HN1.out (fun j u hu => by
          obtain ⟨s0, s1⟩ := HSB.out.cells
          have hj : j < 2 := (List.getElem?_eq_some_iff.1 hu).1
          have : j = 0 ∨ j = 1 := by omega
          rcases this with rfl | rfl <;> simp only [gcs, List.getElem?_cons_zero, List.getElem?_cons_succ, Option.some.injEq] at hu <;> subst hu
          · exact s0
          · exact s1)
        have HP9 := Lib.hid (HP8.out.later hbel)
        have HO9 := Lib.hid (HO8.out.later hbel)
        have HB9 := Lib.hid (HB8.out.trans (hbel.mono HB8.out.size))
        have HG9 := Lib.hid (HG8.out.later hbel)
        have HX9 := Lib.hid hrow
        have HLE := Lib.hid hle
        have HXO := Lib.hid (show ∀ a, X = some a → a.block ≠ ob from fun a ha => by have h1 := hX a ha; have h2 := Go.Proofs.Ytbcabnbgkicfdaa.hlt HO8.out; omega)
        have HXP := Lib.hid (show ∀ a, X = some a → a.block ≠ pb from fun a ha => by have h1 := hX a ha; have h2 := Go.Proofs.Ytbcabnbgkicfdaa.hlt HP8.out; omega)
        have HXF := Lib.hid (show ∀ a, X = some a → w.heap.size ≤ a.block from fun a ha => by have h1 := hX a ha; have h2 := HB8.out.size; omega)
        refine rstep_append (by rfl) _ _ 28 28 (by rfl) _ _ (by rfl) (by rfl) _ _ hrun ?_
        intro wy hwy
        obtain rfl := hwy.out.symm
        clear hwy hrun hrow hle hbel hX
        refine hK.out _ _ HG9.out.cells (fun _ => ?_)
        clear hK K
        try simp only [Act.put, List.setIfInBounds_toArray, List.set_cons_zero, List.set_cons_succ]
        refine wpAnyH_take (i := 9) (oi := { dst := some 105, op := Op.fieldAddr 32 (Operand.tmp 3) 0, type := 0, pos := "ref.go:75", after := #[{ on := 0, ground := Ground.phase }, { on := 1, ground := Ground.phase }, { on := 2, ground := Ground.phase }, { on := 3, ground := Ground.phase }, { on := 4, ground := Ground.phase }, { on := 5, ground := Ground.phase }, { on := 6, ground := Ground.phase }, { on := 7, ground := Ground.phase }, { on := 8, ground := Ground.phase }], guard := none }) (v := .pointer (some ⟨pb, 0, none⟩)) rfl (by kernel_rfl) (by kernel_rfl) (by kernel_rfl) (fun _ _ _ h => h) (Or.inl ⟨by rfl, ?_⟩) HG9.out.cells ?_
        · (intro w' hSw; go_simp)
        simp only [Act.put, List.setIfInBounds_toArray, List.set_cons_zero, List.set_cons_succ]
        refine wpAnyH_take (i := 10) (oi := { dst := some 106, op := Op.fieldAddr 30 (Operand.tmp 105) 1, type := 0, pos := "ref.go:75", after := #[{ on := 9, ground := Ground.data }, { on := 0, ground := Ground.phase }, { on := 1, ground := Ground.phase }, { on := 2, ground := Ground.phase }, { on := 3, ground := Ground.phase }, { on := 4, ground := Ground.phase }, { on := 5, ground := Ground.phase }, { on := 6, ground := Ground.phase }, { on := 7, ground := Ground.phase }, { on := 8, ground := Ground.phase }], guard := none }) (v := .pointer (some ⟨pb, 1, none⟩)) rfl (by kernel_rfl) (by kernel_rfl) (by kernel_rfl) (fun _ _ _ h => h) (Or.inl ⟨by rfl, ?_⟩) HG9.out.cells ?_
        · (intro w' hSw; go_simp)
        simp only [Act.put, List.setIfInBounds_toArray, List.set_cons_zero, List.set_cons_succ]
        refine wpAnyH_ready (rs := [11]) (by kernel_rfl) (by simp) (AllReadyH.cons (o := { dst := none, op := Op.store 28 (Operand.tmp 106) (Operand.tmp 104), type := 0, pos := "ref.go:75", after := #[{ on := 10, ground := Ground.data }, { on := 8, ground := Ground.data }, { on := 8, ground := Ground.chain }, { on := 0, ground := Ground.phase }, { on := 1, ground := Ground.phase }, { on := 2, ground := Ground.phase }, { on := 3, ground := Ground.phase }, { on := 4, ground := Ground.phase }, { on := 5, ground := Ground.phase }, { on := 6, ground := Ground.phase }, { on := 7, ground := Ground.phase }, { on := 8, ground := Ground.phase }], guard := none }) rfl (fun K hK => ?_) AllReadyH.nil)
        obtain ⟨q0, q1, q2⟩ := HP9.out.cells
        have t1 := HP9.out.frz 1
        have HP10 := Lib.hid (HP9.out.putS X (gs.length + 1) cap)
        have HO10 := Lib.hid (HO9.out.far HD.out.2.2 1 (.slice X (gs.length + 1) cap))
        have HB10 := Lib.hid (HB9.out.setCell (p := ⟨pb, 1, none⟩) HD.out.1 (.slice X (gs.length + 1) cap))
        have HX10 := Lib.hid (row_put HX9.out HXP.out 1 (.slice X (gs.length + 1) cap))
        have HG10 := Lib.hid (show GBox (w9.setCell ⟨pb, 1, none⟩ (.slice X (gs.length + 1) cap)) gb g from (hfar (p := ⟨pb, 1, none⟩) HGN.out.1 _).trans HG9.out)
        go_simp
        generalize hgw : w9.setCell ⟨pb, 1, none⟩ (.slice X (gs.length + 1) cap) = w10 at *
        clear hgw q0 q1 q2 t1
        refine hK.out _ _ HG10.out.cells (fun _ => ?_)
        clear hK K
        try simp only [Act.put, List.setIfInBounds_toArray, List.set_cons_zero, List.set_cons_succ]
        refine wpAnyH_done (by kernel_rfl) ?_ _
        refine NoPanic.normal ?_
        have hwl : IntKind.i64.wrap (1 + I + (gs.length : Int)) = 1 + I + (gs.length : Int) ∧ IntKind.i64.wrap (2 * (1 + I + (gs.length : Int))) = 2 * (1 + I + (gs.length : Int)) := HWJ.out gs.length HN1.out
        obtain ⟨hw2, hw3⟩ := hwl
        have hd := (show Below w10.heap.size w10 w10.drew from (Below.refl _ _).drew)
        replace HP10 := Lib.hid (HP10.out.later hd)
        replace HO10 := Lib.hid (HO10.out.later hd)
        replace HB10 := Lib.hid (HB10.out.trans (hd.mono HB10.out.size))
        replace HX10 := Lib.hid (HX10.out.later hd)
        clear hd
        go_upto_region 23 with fail
        refine wp_region_noPanic ?_
        refine wp_region_held_drew (S := fun w' => w'.cell? ⟨pb, 0, none⟩ = some (.int .i64 I) ∧ w'.cell? ⟨pb, 1, none⟩ = some (.slice X (gs.length + 1) cap) ∧ w'.cell? ⟨pb, 2, none⟩ = some (.int .i64 0)) (by kernel_rfl) HP10.out.cells (fun _ => ?_)
        generalize w10.drew = w10 at *
        refine wpAnyH_take (i := 0) (oi := { dst := some 107, op := Op.load 32 (Operand.tmp 3), type := 32, pos := "ref.go:76", after := #[], guard := none }) (v := .agg #[.int .i64 I, .slice X (gs.length + 1) cap, .int .i64 0]) rfl (by kernel_rfl) (by kernel_rfl) (by kernel_rfl) (fun _ _ _ h => h) (Or.inl ⟨by rfl, ?_⟩) HP10.out.cells ?_
        · (intro w' hSw; obtain ⟨z3, z4, z5⟩ := hSw; go_simp)
        simp only [Act.put, List.setIfInBounds_toArray, List.set_cons_zero, List.set_cons_succ]
        refine wpAnyH_take (i := 1) (oi := { dst := some 108, op := Op.fieldAddr 32 (Operand.tmp 3) 0, type := 0, pos := "ref.go:76", after := #[{ on := 8, ground := Ground.gcOnly Departure.lateStores }], guard := none }) (v := .pointer (some ⟨pb, 0, none⟩)) rfl (by kernel_rfl) (by kernel_rfl) (by kernel_rfl) (fun _ _ _ h => h) (Or.inl ⟨by rfl, ?_⟩) HP10.out.cells ?_
        · (intro w' hSw; go_simp)
        simp only [Act.put, List.setIfInBounds_toArray, List.set_cons_zero, List.set_cons_succ]
        refine wpAnyH_take (i := 2) (oi := { dst := some 109, op := Op.fieldAddr 30 (Operand.tmp 108) 0, type := 0, pos := "ref.go:76", after := #[{ on := 1, ground := Ground.data }, { on := 8, ground := Ground.gcOnly Departure.lateStores }], guard := none }) (v := .pointer (some ⟨pb, 0, none⟩)) rfl (by kernel_rfl) (by kernel_rfl) (by kernel_rfl) (fun _ _ _ h => h) (Or.inl ⟨by rfl, ?_⟩) HP10.out.cells ?_
        · (intro w' hSw; go_simp)
        simp only [Act.put, List.setIfInBounds_toArray, List.set_cons_zero, List.set_cons_succ]
        refine wpAnyH_take (i := 3) (oi := { dst := some 110, op := Op.load 3 (Operand.tmp 109), type := 3, pos := "ref.go:76", after := #[{ on := 2, ground := Ground.data }, { on := 8, ground := Ground.gcOnly Departure.lateStores }], guard := none }) (v := .int .i64 I) rfl (by kernel_rfl) (by kernel_rfl) (by kernel_rfl) (fun _ _ _ h => h) (Or.inl ⟨by rfl, ?_⟩) HP10.out.cells ?_
        · (intro w' hSw; obtain ⟨z3, z4, z5⟩ := hSw; go_simp)
        simp only [Act.put, List.setIfInBounds_toArray, List.set_cons_zero, List.set_cons_succ]
        refine wpAnyH_take (i := 4) (oi := { dst := some 111, op := Op.binOp BinOp.add 3 (Operand.const (Value.int IntKind.i64 1)) (Operand.tmp 110) 3, type := 3, pos := "ref.go:76", after := #[{ on := 3, ground := Ground.data }, { on := 8, ground := Ground.gcOnly Departure.lateStores }], guard := none }) (v := .int .i64 (1 + I)) rfl (by kernel_rfl) (by kernel_rfl) (by kernel_rfl) (fun _ _ _ h => h) (Or.inl ⟨by rfl, ?_⟩) HP10.out.cells ?_
        · (intro w' hSw; go_simp)
        simp only [Act.put, List.setIfInBounds_toArray, List.set_cons_zero, List.set_cons_succ]
        refine wpAnyH_take (i := 5) (oi := { dst := some 112, op := Op.move (Operand.tmp 10), type := 3, pos := "ref.go:76", after := #[{ on := 8, ground := Ground.gcOnly Departure.lateStores }], guard := none }) (v := .int .i64 (gs.length : Int)) rfl (by kernel_rfl) (by kernel_rfl) (by kernel_rfl) (fun _ _ _ h => h) (Or.inl ⟨by rfl, ?_⟩) HP10.out.cells ?_
        · (intro w' hSw; go_simp)
        simp only [Act.put, List.setIfInBounds_toArray, List.set_cons_zero, List.set_cons_succ]
        refine wpAnyH_take (i := 6) (oi := { dst := some 113, op := Op.binOp BinOp.add 3 (Operand.tmp 111) (Operand.tmp 112) 3, type := 3, pos := "ref.go:76", after := #[{ on := 4, ground := Ground.data }, { on := 5, ground := Ground.data }, { on := 8, ground := Ground.gcOnly Departure.lateStores }], guard := none }) (v := .int .i64 (1 + I + (gs.length : Int))) rfl (by kernel_rfl) (by kernel_rfl) (by kernel_rfl) (fun _ _ _ h => h) (Or.inl ⟨by rfl, ?_⟩) HP10.out.cells ?_
        · (intro w' hSw; go_simp)
        simp only [Act.put, List.setIfInBounds_toArray, List.set_cons_zero, List.set_cons_succ]
        refine wpAnyH_take (i := 7) (oi := { dst := some 114, op := Op.binOp BinOp.mul 3 (Operand.const (Value.int IntKind.i64 2)) (Operand.tmp 113) 3, type := 3, pos := "ref.go:76", after := #[{ on := 6, ground := Ground.data }, { on := 8, ground := Ground.gcOnly Departure.lateStores }], guard := none }) (v := .int .i64 (2 * (1 + I + (gs.length : Int)))) rfl (by kernel_rfl) (by kernel_rfl) (by kernel_rfl) (fun _ _ _ h => h) (Or.inl ⟨by rfl, ?_⟩) HP10.out.cells ?_
        · (intro w' hSw; go_simp)
        simp only [Act.put, List.setIfInBounds_toArray, List.set_cons_zero, List.set_cons_succ]
        refine wpAnyH_ready (rs := [8]) (by kernel_rfl) (by simp) (AllReadyH.cons (o := { dst := none, op := Op.store 32 (Operand.tmp 6) (Operand.tmp 107), type := 0, pos := "ref.go:76", after := #[{ on := 0, ground := Ground.data }, { on := 0, ground := Ground.phase }, { on := 1, ground := Ground.textOnly Departure.lateStores }, { on := 2, ground := Ground.textOnly Departure.lateStores }, { on := 3, ground := Ground.textOnly Departure.lateStores }, { on := 4, ground := Ground.textOnly Departure.lateStores }, { on := 5, ground := Ground.textOnly Departure.lateStores }, { on := 6, ground := Ground.textOnly Departure.lateStores }, { on := 7, ground := Ground.textOnly Departure.lateStores }], guard := none }) rfl (fun K hK => ?_) AllReadyH.nil)
        obtain ⟨z0, z1, z2⟩ := HO10.out.cells
        have f0 := HO10.out.frz 0
        have f1 := HO10.out.frz 1
        have f2 := HO10.out.frz 2
        have HTD := Lib.hid (show RBx (((w10.setCell ⟨ob, 0, none⟩ (.int .i64 I)).setCell ⟨ob, 1, none⟩ (.slice X (gs.length + 1) cap)).setCell ⟨ob, 2, none⟩ (.int .i64 0)) pb I X (gs.length + 1) cap 0 from ((HP10.out.far HD.out.2.2.symm 0 _).far HD.out.2.2.symm 1 _).far HD.out.2.2.symm 2 _)
        go_simp
        refine hK.out _ _ HTD.out.cells (fun _ => ?_)
        clear hK K
        try simp only [Act.put, List.setIfInBounds_toArray, List.set_cons_zero, List.set_cons_succ]
        refine wpAnyH_take (i := 9) (oi := { dst := some 7, op := Op.assign (Operand.tmp 114), type := 3, pos := "ref.go:76", after := #[{ on := 7, ground := Ground.data }, { on := 8, ground := Ground.chain }, { on := 0, ground := Ground.phase }, { on := 1, ground := Ground.phase }, { on := 2, ground := Ground.phase }, { on := 3, ground := Ground.phase }, { on := 4, ground := Ground.phase }, { on := 5, ground := Ground.phase }, { on := 6, ground := Ground.phase }, { on := 7, ground := Ground.phase }, { on := 8, ground := Ground.phase }], guard := none }) (v := .int .i64 (2 * (1 + I + (gs.length : Int)))) rfl (by kernel_rfl) (by kernel_rfl) (by kernel_rfl) (fun _ _ _ h => h) (Or.inl ⟨by rfl, ?_⟩) HTD.out.cells ?_
        · (intro w' hSw; go_simp)
        simp only [Act.put, List.setIfInBounds_toArray, List.set_cons_zero, List.set_cons_succ]
        refine wpAnyH_done (by kernel_rfl) ?_ _
        refine NoPanic.normal ?_
        have hq := HO10.out.put I X (gs.length + 1) cap 0
        have hbq := put3_below HB10.out HD.out.2.1 (.int .i64 I) (.slice X (gs.length + 1) cap) (.int .i64 0)
        obtain ⟨v0, v1, v2⟩ := hq.cells
        have hrq := row_put (row_put (row_put HX10.out HXO.out 0 (.int .i64 I)) HXO.out 1 (.slice X (gs.length + 1) cap)) HXO.out 2 (.int .i64 0)
        clear hq f0 f1 f2 z0 z1 z2 HTD
        generalize ((w10.setCell ⟨ob, 0, none⟩ (.int .i64 I)).setCell ⟨ob, 1, none⟩ (.slice X (gs.length + 1) cap)).setCell ⟨ob, 2, none⟩ (.int .i64 0) = V at *
        go_wp2_with (fail)
        exact bodyPost_ret (v := .tuple #[.agg #[.int .i64 I, .slice X (gs.length + 1) cap, .int .i64 0], .int .i64 (2 * (1 + I + (gs.length : Int)))]) (by simp [results, Try.results51, go_sem, v0, v1, v2]) rfl ⟨X, cap, by rw [List.length_append]; rfl, hrq, by rw [List.length_append]; exact HLE.out, fun h => by simp at h, fun a e => .inr (HXF.out a e), hbq⟩
theorem r_And_yes (x y : Int) (hck : CkOk I gs) (hr : GRow w A gs) (hc : gs.length ≤ c) (hA : gs = [] → A = none) (hn : gs.length ≤ 1000) (hx : isLit I gs x) (hy : isLit I gs y) :
    Calls Try.prog 51 #[.agg #[.int .i64 I, .slice A gs.length c, .int .i64 0], .int .i64 x, .int .i64 y] w (RAns I A w (andL gs x y) 0 (andN I gs x y)) := by
  have hI : 0 ≤ I ∧ I ≤ 1024 := ⟨hck.lo, hck.hi⟩
  cases hz : andK x y with
  | some z =>
    rw [(and_some (I := I) (gs := gs) hz).1, (and_some (I := I) (gs := gs) hz).2]
    exact r_And_some x y z hI hr hc hA hn (litB_iff.2 hx) (litB_iff.2 hy) hz
  | none => exact r_And_gate x y hI hr hc hA (ck_gtOk hck (by omega)) hn (litB_iff.2 hx) (litB_iff.2 hy) hz
theorem r_And_any (e0 x y : Int) (hck : CkOk I gs) (hr : GRow w A gs) (hc : gs.length ≤ c) (hA : gs = [] → A = none) (hn : gs.length ≤ 1000) :
    Calls Try.prog 51 #[.agg #[.int .i64 I, .slice A gs.length c, .int .i64 e0], .int .i64 x, .int .i64 y] w (RAns I A w (opL e0 (litB I gs.length x && litB I gs.length y) gs (andL gs x y)) (opE e0 (litB I gs.length x && litB I gs.length y)) (opN e0 (litB I gs.length x && litB I gs.length y) (andN I gs x y))) := by
  by_cases h0 : e0 = 0
  · subst h0
    cases hb : (litB I gs.length x && litB I gs.length y) with
    | false =>
      have := r_And_bad x y ⟨hck.lo, hck.hi⟩ hr hc hA hn hb (andL gs x y) (andN I gs x y)
      rwa [hb] at this
    | true =>
      obtain ⟨e1, e2, e3⟩ := op_yes (andN I gs x y) gs (andL gs x y)
      rw [e1, e2, e3]
      simp only [Bool.and_eq_true] at hb
      exact r_And_yes x y hck hr hc hA hn (litB_iff.1 hb.1) (litB_iff.1 hb.2)
  · exact r_And_err e0 x y h0 hr hc hA _ _ _
end
end Go.Proofs.Ytbcabnbgkicfdaa
