/- What is proved: the law GatesBuild, for any steps. -/
import Derived.Test.YtbcabnbgkicfdaaGaRDo
import Derived.Test.YtbcabnbgkicfdaaGaOpB
import Derived.Test.YtbcabnbgkicfdaaGaAwk
import Derived.Test.YtbcabnbgkicfdaaBvW
set_option linter.unusedVariables false
set_option linter.unusedSimpArgs false
namespace Go.Proofs.Ytbcabnbgkicfdaa
open Go.RowKit Go.Maps

set_option maxRecDepth 100000 in
set_option maxHeartbeats 2000000 in
theorem r_New_yes (I : Int) (h : 0 ≤ I ∧ I ≤ 1024) (w : World) : Calls Try.prog 10 #[.int .i64 I] w fun e w' => e = .returned (.tuple #[.agg #[.int .i64 I, .slice none 0 0, .int .i64 0], .int .i64 0]) ∧ Below w.heap.size w w' := by
  have d1 : decide (I < 0) = false := decide_eq_false (by omega)
  have d2 : decide (1024 < I) = false := decide_eq_false (by omega)
  clear h
  have HB0 := Lib.hid ((Below.refl w.heap.size w).alloc (Nat.le_refl _) (.cells #[.int .i64 0, .slice none 0 0, .int .i64 0] 32))
  have HO0 := Lib.hid (RBx.new w 0 none 0 0 0)
  go_enter Try.func10, Try.ntmps10
  go_upto_region 1 with fail
  generalize hgw : w.alloc (.cells #[.int .i64 0, .slice none 0 0, .int .i64 0] 32) = w2 at *
  clear hgw
  obtain ⟨ob, HOE⟩ : ∃ ob, Hid (ob = w.heap.size) := ⟨_, Lib.hid rfl⟩
  have HO0 := Lib.hid (show RBx w2 ob 0 none 0 0 0 by rw [HOE.out]; exact HO0.out)
  rw [← HOE.out]
  obtain ⟨z0, z1, z2⟩ := HO0.out.cells
  have f0 := HO0.out.frz 0
  have f1 := HO0.out.frz 1
  have f2 := HO0.out.frz 2
  go_wp2_with (fail)
  have hq := HO0.out.put I none 0 0 0
  have hbq := put3_below HB0.out (show w.heap.size ≤ ob from by have := HOE.out; omega) (.int .i64 I) (.slice none 0 0) (.int .i64 0)
  obtain ⟨v0, v1, v2⟩ := hq.cells
  clear hq f0 f1 f2 z0 z1 z2
  generalize ((w2.setCell ⟨ob, 0, none⟩ (.int .i64 I)).setCell ⟨ob, 1, none⟩ (.slice none 0 0)).setCell ⟨ob, 2, none⟩ (.int .i64 0) = V at *
  exact bodyPost_ret (v := .tuple #[.agg #[.int .i64 I, .slice none 0 0, .int .i64 0], .int .i64 0]) (by simp [results, Try.results10, go_sem, v0, v1, v2]) rfl ⟨rfl, hbq⟩
set_option maxRecDepth 100000 in
set_option maxHeartbeats 2000000 in
theorem r_New_no (I : Int) (h : ¬ (0 ≤ I ∧ I ≤ 1024)) (w : World) : Calls Try.prog 10 #[.int .i64 I] w fun e w' => e = .returned (.tuple #[.agg #[.int .i64 0, .slice none 0 0, .int .i64 0], .int .i64 1]) ∧ Below w.heap.size w w' := by
  by_cases h0 : I < 0
  · have d1 : decide (I < 0) = true := decide_eq_true h0
    clear h h0
    have HB0 := Lib.hid ((Below.refl w.heap.size w).alloc (Nat.le_refl _) (.cells #[.int .i64 0, .slice none 0 0, .int .i64 0] 32))
    have HO0 := Lib.hid (RBx.new w 0 none 0 0 0)
    go_enter Try.func10, Try.ntmps10
    go_upto_region 1 with fail
    generalize hgw : w.alloc (.cells #[.int .i64 0, .slice none 0 0, .int .i64 0] 32) = w2 at *
    clear hgw
    obtain ⟨ob, HOE⟩ : ∃ ob, Hid (ob = w.heap.size) := ⟨_, Lib.hid rfl⟩
    have HO0 := Lib.hid (show RBx w2 ob 0 none 0 0 0 by rw [HOE.out]; exact HO0.out)
    rw [← HOE.out]
    obtain ⟨z0, z1, z2⟩ := HO0.out.cells
    have f0 := HO0.out.frz 0
    have f1 := HO0.out.frz 1
    have f2 := HO0.out.frz 2
    go_wp2_with (fail)
    have hq := HO0.out.put 0 none 0 0 0
    have hbq := put3_below HB0.out (show w.heap.size ≤ ob from by have := HOE.out; omega) (.int .i64 0) (.slice none 0 0) (.int .i64 0)
    obtain ⟨v0, v1, v2⟩ := hq.cells
    clear hq f0 f1 f2 z0 z1 z2
    generalize ((w2.setCell ⟨ob, 0, none⟩ (.int .i64 0)).setCell ⟨ob, 1, none⟩ (.slice none 0 0)).setCell ⟨ob, 2, none⟩ (.int .i64 0) = V at *
    exact bodyPost_ret (v := .tuple #[.agg #[.int .i64 0, .slice none 0 0, .int .i64 0], .int .i64 1]) (by simp [results, Try.results10, go_sem, v0, v1, v2]) rfl ⟨rfl, hbq⟩
  · have d1 : decide (I < 0) = false := decide_eq_false h0
    have d2 : decide (1024 < I) = true := decide_eq_true (by omega)
    clear h h0
    have HB0 := Lib.hid ((Below.refl w.heap.size w).alloc (Nat.le_refl _) (.cells #[.int .i64 0, .slice none 0 0, .int .i64 0] 32))
    have HO0 := Lib.hid (RBx.new w 0 none 0 0 0)
    go_enter Try.func10, Try.ntmps10
    go_upto_region 1 with fail
    generalize hgw : w.alloc (.cells #[.int .i64 0, .slice none 0 0, .int .i64 0] 32) = w2 at *
    clear hgw
    obtain ⟨ob, HOE⟩ : ∃ ob, Hid (ob = w.heap.size) := ⟨_, Lib.hid rfl⟩
    have HO0 := Lib.hid (show RBx w2 ob 0 none 0 0 0 by rw [HOE.out]; exact HO0.out)
    rw [← HOE.out]
    obtain ⟨z0, z1, z2⟩ := HO0.out.cells
    have f0 := HO0.out.frz 0
    have f1 := HO0.out.frz 1
    have f2 := HO0.out.frz 2
    go_wp2_with (fail)
    have hq := HO0.out.put 0 none 0 0 0
    have hbq := put3_below HB0.out (show w.heap.size ≤ ob from by have := HOE.out; omega) (.int .i64 0) (.slice none 0 0) (.int .i64 0)
    obtain ⟨v0, v1, v2⟩ := hq.cells
    clear hq f0 f1 f2 z0 z1 z2
    generalize ((w2.setCell ⟨ob, 0, none⟩ (.int .i64 0)).setCell ⟨ob, 1, none⟩ (.slice none 0 0)).setCell ⟨ob, 2, none⟩ (.int .i64 0) = V at *
    exact bodyPost_ret (v := .tuple #[.agg #[.int .i64 0, .slice none 0 0, .int .i64 0], .int .i64 1]) (by simp [results, Try.results10, go_sem, v0, v1, v2]) rfl ⟨rfl, hbq⟩
set_option maxRecDepth 100000 in
set_option maxHeartbeats 16000000 in
theorem law_build (I : Int) (A : Option Addr) (c : Nat) (os : List Op4) (x : Int) (w : World) (hl : os.length ≤ 9223372036854775807) (ho : ORow w A os) (hx : (Lit.int IntKind.i64 x).wf = true) :
    Calls Try.prog 3 #[.int .i64 I, .slice A os.length c, .int .i64 x] w fun e w' => e = .returned (.bool true) ∧ Below w.heap.size w w' := by
  have HA := Lib.hid (awake_any w)
  have hx64 : -9223372036854775808 ≤ x ∧ x ≤ 9223372036854775807 := wf_int hx
  by_cases hI : 0 ≤ I ∧ I ≤ 1024
  case neg =>
    have HN := Lib.hid (fun w => new_out I hI w)
    have HRN := Lib.hid (fun w => r_New_no I hI w)
    clear hI hl ho hx hx64
    go_enter Try.func3, Try.ntmps3
    go_wp2_with (fail)
    refine HA.out.mono ?_
    rintro e w1 ⟨rfl, hb1⟩
    go_wp2_with (fail)
    refine (HN.out _).mono ?_
    rintro e wx ⟨rfl, hwx⟩
    obtain rfl := hwx.symm
    go_wp2_with (fail)
    refine (HRN.out _).mono ?_
    rintro e w3 ⟨rfl, hb3⟩
    have HB3 := Lib.hid ((hb1.trans (hb3.mono hb1.size)).alloc (Nat.le_trans hb1.size hb3.size) (.cells #[.int .i64 0, .slice none 0 0, .int .i64 0] 32))
    clear hb1 hb3
    go_wp2_with (fail)
    go_ret
    exact ⟨rfl, HB3.out⟩
  case pos =>
    have HN := Lib.hid (fun w => new_any I hI w)
    have HRN := Lib.hid (fun w => r_New_yes I hI w)
    by_cases h40 : os.length ≤ 40
    case neg =>
      have d40 : decide (40 < (os.length : Int)) = true := decide_eq_true (by omega)
      have d40' : 40 < os.length := by omega
      clear hI hl ho hx hx64 h40
      go_enter Try.func3, Try.ntmps3
      go_wp2_with (fail)
      refine HA.out.mono ?_
      rintro e w1 ⟨rfl, hb1⟩
      go_wp2_with (fail)
      refine (HN.out _).mono ?_
      rintro e w2 ⟨bb, mb, rfl, _, hb2⟩
      go_wp2_with (fail)
      refine (HRN.out _).mono ?_
      rintro e w3 ⟨rfl, hb3⟩
      have hb4 := hb1.trans (hb2.mono hb1.size)
      have HB3 := Lib.hid ((hb4.trans (hb3.mono hb4.size)).alloc (Nat.le_trans hb4.size hb3.size) (.cells #[.int .i64 I, .slice none 0 0, .int .i64 0] 32))
      clear hb1 hb2 hb3 hb4
      go_wp2_with (fail)
      go_ret
      exact ⟨rfl, HB3.out⟩
    case pos =>
      have d40 : decide (40 < (os.length : Int)) = false := decide_eq_false (by omega)
      have d40' : ¬ 40 < os.length := by omega
      have HO := Lib.hid ho
      have HX := Lib.hid hx64
      have HL := Lib.hid h40
      have HII := Lib.hid hI
      clear hI hl ho hx hx64 h40
      go_enter Try.func3, Try.ntmps3
      go_wp2_with (fail)
      refine HA.out.mono ?_
      rintro e w1 ⟨rfl, hb1⟩
      have HB1 := Lib.hid hb1
      clear hb1
      go_wp2_with (fail)
      refine (HN.out _).mono ?_
      rintro e w2 ⟨bb, mb, rfl, ht, hb⟩
      have HT2 := Lib.hid ht
      have HB2 := Lib.hid (HB1.out.trans (hb.mono HB1.out.size))
      clear ht hb
      go_wp2_with (fail)
      refine (HRN.out _).mono ?_
      rintro e w3 ⟨rfl, hb⟩
      have hba := (Below.refl w3.heap.size w3).alloc (Nat.le_refl _) (.cells #[.int .i64 I, .slice none 0 0, .int .i64 0] 32)
      have hbc := hb.trans (hba.mono hb.size)
      have HT4 := Lib.hid (HT2.out.later hbc)
      have HB4 := Lib.hid (HB2.out.trans (hbc.mono HB2.out.size))
      have HR4 := Lib.hid (RBx.new w3 I none 0 0 0)
      have HNO := Lib.hid (show ¬ Own bb mb (.slice none 0 0) w3.heap.size from fun hw => by have := (HT2.out.lt hw).2; have := hb.size; omega)
      have HRN1 := Lib.hid (show w.heap.size ≤ w1.heap.size from HB1.out.size)
      have HRB := Lib.hid (show w.heap.size ≤ w3.heap.size from by have := HB2.out.size; have := hb.size; omega)
      clear hb hba hbc
      go_upto_region 5 with fail
      generalize hgw : w3.alloc (.cells #[.int .i64 I, .slice none 0 0, .int .i64 0] 32) = w4 at *
      clear hgw
      generalize w3.heap.size = rb at *
      go_wp2_with (fail)
      go_loopw [52] (fun jv wr => ∃ (k : Nat) (gs : List Gt) (e0 : Int) (rv : Value) (A1 : Option Addr) (c1 : Nat), k ≤ os.length ∧ jv = .int .i64 (k : Int) ∧ Hid (Bld wr w1.heap.size bb mb rv I gs e0) ∧ Hid (RBx wr rb I A1 gs.length c1 e0) ∧ Hid (GRow wr A1 gs) ∧ Hid (gs.length ≤ c1 ∧ (gs = [] → A1 = none) ∧ gs.length ≤ 3 * k) ∧ Hid (¬ Own bb mb rv rb) ∧ Hid (∀ a, A1 = some a → a.block ≠ rb ∧ ¬ Own bb mb rv a.block) ∧ Hid (Below w.heap.size w wr)) (fun jv _ => os.length - (intOf jv).toNat)
      case atStart => exact ⟨0, [], 0, _, none, 0, Nat.zero_le _, rfl, HT4, HR4, Lib.hid (GRow.nil _ _), Lib.hid ⟨Nat.le_refl _, fun _ => rfl, Nat.le_refl _⟩, HNO, Lib.hid (fun a h => by cases h), HB4⟩
      case round =>
        obtain ⟨k, gs, e0, rv, A1, c1, hk, rfl, hbd, hrb, hgr, hcl, hno, hna, hbw⟩ := hrel
        by_cases hlt' : k < os.length
        · obtain ⟨b0, off, hA0, _, hc0⟩ := (HO.out.later hbw.out) (by omega)
          obtain ⟨y0, y1, y2, y3⟩ := hc0 k hlt'
          clear hc0
          generalize os[k] = o at *
          subst hA0
          have hgn : gs.length ≤ 117 := by have := hcl.out.2.2; have := HL.out; omega
          have HGN := Lib.hid hgn
          go_upto_region 10 with fail
          have hba := (Below.refl wr.heap.size wr).alloc (Nat.le_refl _) (.cells #[.int .i64 o.k, .int .i64 o.a, .int .i64 o.b, .int .i64 o.c] 36)
          have HT6 := Lib.hid (hbd.out.later hba)
          have HR6 := Lib.hid (hrb.out.later hba)
          have HG6 := Lib.hid (hgr.out.later hba)
          have HX6 := Lib.hid (show OBox (wr.alloc (.cells #[.int .i64 o.k, .int .i64 o.a, .int .i64 o.b, .int .i64 o.c] 36)) wr.heap.size o from heap_alloc_new wr _)
          have HXN := Lib.hid (show ¬ Own bb mb rv wr.heap.size ∧ wr.heap.size ≠ rb from ⟨fun hw => by have := (hbd.out.lt hw).2; omega, by have := Go.Proofs.Ytbcabnbgkicfdaa.hlt hrb.out; omega⟩)
          have HB6 := Lib.hid (hbw.out.trans (hba.mono hbw.out.size))
          clear hba y0 y1 y2 y3
          generalize hgw : wr.alloc (.cells #[.int .i64 o.k, .int .i64 o.a, .int .i64 o.b, .int .i64 o.c] 36) = w6 at *
          clear hgw
          generalize wr.heap.size = xb at *
          have HDO := Lib.hid (r_Do_any (w := w6) (A := A1) (c := c1) o e0 HT6.out.ck HG6.out hcl.out.1 hcl.out.2.1 (by omega))
          have HSL := Lib.hid (st_len I HT6.out.ck e0 o)
          have HDP := Lib.hid (fun (W : World) (h : Bld W w1.heap.size bb mb rv I gs e0) => do_any o e0 h (by omega))
          generalize stL I gs e0 o = LL at *
          generalize stE I gs e0 o = ee at *
          generalize stN I gs e0 o = zz at *
          obtain ⟨q0, q1, q2⟩ := HR6.out.cells
          obtain ⟨x0, x1, x2, x3⟩ := HX6.out.cells
          clear hgn
          go_wp2_with (fail)
          clear q0 q1 q2 x0 x1 x2 x3
          refine HDO.out.mono ?_
          rintro e w7 ⟨A2, c2, rfl, hrow, hle, hnil, hor, hb⟩
          go_upto_region 11 with fail
          have hba := (Below.refl w7.heap.size w7).alloc (Nat.le_refl _) (.cells #[.int .i64 I, .slice A2 LL.length c2, .int .i64 ee] 32)
          have hbc := hb.trans (hba.mono hb.size)
          have HT8 := Lib.hid (HT6.out.later hbc)
          have HR8 := Lib.hid (HR6.out.later hbc)
          have HX8 := Lib.hid (show OBox (w7.alloc (.cells #[.int .i64 I, .slice A2 LL.length c2, .int .i64 ee] 32)) xb o from (hbc.block _ (Go.Proofs.Ytbcabnbgkicfdaa.hlt HX6.out)).trans HX6.out)
          have HG8 := Lib.hid (hrow.later hba)
          have HB8 := Lib.hid (HB6.out.trans (hbc.mono HB6.out.size))
          have HY8 := Lib.hid (RBx.new w7 I A2 LL.length c2 ee)
          have HLE := Lib.hid hle
          have HNL := Lib.hid hnil
          have HNA := Lib.hid (show ∀ a, A2 = some a → a.block ≠ rb ∧ ¬ Own bb mb rv a.block from fun a ha => by
            rcases hor a ha with h1 | h1
            · exact hna.out a h1
            · exact ⟨by have := Go.Proofs.Ytbcabnbgkicfdaa.hlt HR6.out; omega, fun hw => by have := (HT6.out.lt hw).2; omega⟩)
          clear hba hbc hb hrow hle hnil hor
          generalize hgw : w7.alloc (.cells #[.int .i64 I, .slice A2 LL.length c2, .int .i64 ee] 32) = w8 at *
          clear hgw
          generalize w7.heap.size = nb at *
          obtain ⟨q0, q1, q2⟩ := HR8.out.cells
          obtain ⟨n0, n1, n2⟩ := HY8.out.cells
          have f0 := HR8.out.frz 0
          have f1 := HR8.out.frz 1
          have f2 := HR8.out.frz 2
          go_upto_region 12 with fail
          have HR9 := Lib.hid ((HR8.out.put I A2 LL.length c2 ee).later (show Below _ (((w8.setCell ⟨rb, 0, none⟩ (.int .i64 I)).setCell ⟨rb, 1, none⟩ (.slice A2 LL.length c2)).setCell ⟨rb, 2, none⟩ (.int .i64 ee)) (((w8.setCell ⟨rb, 0, none⟩ (.int .i64 I)).setCell ⟨rb, 1, none⟩ (.slice A2 LL.length c2)).setCell ⟨rb, 2, none⟩ (.int .i64 ee)).drew from (Below.refl _ _).drew))
          have HT9 := Lib.hid ((HT8.out.stays (w' := ((w8.setCell ⟨rb, 0, none⟩ (.int .i64 I)).setCell ⟨rb, 1, none⟩ (.slice A2 LL.length c2)).setCell ⟨rb, 2, none⟩ (.int .i64 ee)) (fun j hj => by
            have hne : j ≠ rb := fun e => hno.out (e ▸ hj)
            exact (hfar (p := ⟨rb, 2, none⟩) hne _).trans ((hfar (p := ⟨rb, 1, none⟩) hne _).trans (hfar (p := ⟨rb, 0, none⟩) hne _)))).later (show Below _ (((w8.setCell ⟨rb, 0, none⟩ (.int .i64 I)).setCell ⟨rb, 1, none⟩ (.slice A2 LL.length c2)).setCell ⟨rb, 2, none⟩ (.int .i64 ee)) (((w8.setCell ⟨rb, 0, none⟩ (.int .i64 I)).setCell ⟨rb, 1, none⟩ (.slice A2 LL.length c2)).setCell ⟨rb, 2, none⟩ (.int .i64 ee)).drew from (Below.refl _ _).drew))
          have HX9 := Lib.hid (show OBox (((w8.setCell ⟨rb, 0, none⟩ (.int .i64 I)).setCell ⟨rb, 1, none⟩ (.slice A2 LL.length c2)).setCell ⟨rb, 2, none⟩ (.int .i64 ee)).drew xb o from ((hfar (p := ⟨rb, 2, none⟩) HXN.out.2 _).trans ((hfar (p := ⟨rb, 1, none⟩) HXN.out.2 _).trans (hfar (p := ⟨rb, 0, none⟩) HXN.out.2 _))).trans HX8.out)
          have HG9 := Lib.hid ((row_put (row_put (row_put HG8.out (fun a ha => (HNA.out a ha).1) 0 (.int .i64 I)) (fun a ha => (HNA.out a ha).1) 1 (.slice A2 LL.length c2)) (fun a ha => (HNA.out a ha).1) 2 (.int .i64 ee)).later (show Below _ (((w8.setCell ⟨rb, 0, none⟩ (.int .i64 I)).setCell ⟨rb, 1, none⟩ (.slice A2 LL.length c2)).setCell ⟨rb, 2, none⟩ (.int .i64 ee)) (((w8.setCell ⟨rb, 0, none⟩ (.int .i64 I)).setCell ⟨rb, 1, none⟩ (.slice A2 LL.length c2)).setCell ⟨rb, 2, none⟩ (.int .i64 ee)).drew from (Below.refl _ _).drew))
          have HB9 := Lib.hid ((put3_below HB8.out (show w.heap.size ≤ rb from HRB.out) (.int .i64 I) (.slice A2 LL.length c2) (.int .i64 ee)).drew)
          clear q0 q1 q2 n0 n1 n2 f0 f1 f2
          refine wp_region_noPanic ?_
          refine wp_region_held_drew (S := fun w' => (w'.cell? ⟨xb, 0, none⟩ = some (.int .i64 o.k) ∧ w'.cell? ⟨xb, 1, none⟩ = some (.int .i64 o.a) ∧ w'.cell? ⟨xb, 2, none⟩ = some (.int .i64 o.b) ∧ w'.cell? ⟨xb, 3, none⟩ = some (.int .i64 o.c)) ∧ w'.cell? ⟨rb, 0, none⟩ = some (.int .i64 I) ∧ w'.cell? ⟨rb, 1, none⟩ = some (.slice A2 LL.length c2) ∧ w'.cell? ⟨rb, 2, none⟩ = some (.int .i64 ee)) (by kernel_rfl) ⟨HX9.out.cells, HR9.out.cells⟩ (fun _ => ?_)
          generalize (((w8.setCell ⟨rb, 0, none⟩ (.int .i64 I)).setCell ⟨rb, 1, none⟩ (.slice A2 LL.length c2)).setCell ⟨rb, 2, none⟩ (.int .i64 ee)).drew = w9 at *
          refine wpAnyH_take (i := 0) (oi := { dst := some 63, op := Op.move (Operand.tmp 7), type := 24, pos := "law.go:54", after := #[], guard := none }) (v := .pointer (some ⟨bb, 0, none⟩)) rfl (by kernel_rfl) (by kernel_rfl) (by kernel_rfl) (fun _ _ _ h => h) (Or.inl ⟨by rfl, ?_⟩) ⟨HX9.out.cells, HR9.out.cells⟩ ?_
          · (intro w' hSw; go_simp)
          simp only [Act.put, List.setIfInBounds_toArray, List.set_cons_zero, List.set_cons_succ]
          refine wpAnyH_take (i := 1) (oi := { dst := some 64, op := Op.load 36 (Operand.tmp 12), type := 36, pos := "law.go:54", after := #[], guard := none }) (v := .agg #[.int .i64 o.k, .int .i64 o.a, .int .i64 o.b, .int .i64 o.c]) rfl (by kernel_rfl) (by kernel_rfl) (by kernel_rfl) (fun _ _ _ h => h) (Or.inl ⟨by rfl, ?_⟩) ⟨HX9.out.cells, HR9.out.cells⟩ ?_
          · (intro w' hSw; obtain ⟨⟨s0, s1, s2, s3⟩, s4, s5, s6⟩ := hSw; go_simp)
          simp only [Act.put, List.setIfInBounds_toArray, List.set_cons_zero, List.set_cons_succ]
          refine wpAnyH_take (i := 3) (oi := { dst := some 66, op := Op.move (Operand.tmp 14), type := 3, pos := "law.go:54", after := #[], guard := none }) (v := .int .i64 zz) rfl (by kernel_rfl) (by kernel_rfl) (by kernel_rfl) (fun _ _ _ h => h) (Or.inl ⟨by rfl, ?_⟩) ⟨HX9.out.cells, HR9.out.cells⟩ ?_
          · (intro w' hSw; go_simp)
          simp only [Act.put, List.setIfInBounds_toArray, List.set_cons_zero, List.set_cons_succ]
          refine wpAnyH_ready (rs := [2]) (by kernel_rfl) (by simp) (AllReadyH.cons (o := { dst := some 65, op := Op.call { callee := Callee.value (Operand.func 12), args := #[Operand.tmp 63, Operand.tmp 64], argTypes := #[24, 36] }, type := 3, pos := "law.go:54", after := #[{ on := 0, ground := Ground.data }, { on := 1, ground := Ground.data }], guard := none }) rfl (fun K hK => ?_) AllReadyH.nil)
          go_simp
          go_at_call 12
          refine (HDP.out _ HT9.out).mono ?_
          rintro e w10 ⟨rfl, rv10, hres⟩
          have HRO := Lib.hid (hres.far (gs := LL) (e := 0) rb (Go.Proofs.Ytbcabnbgkicfdaa.hlt HR9.out) hno.out)
          have HXF := Lib.hid (hres.far (gs := LL) (e := 0) xb (Go.Proofs.Ytbcabnbgkicfdaa.hlt HX9.out) HXN.out.1)
          have HT10 := Lib.hid hres.tab
          have HR10 := Lib.hid (show RBx w10 rb I A2 LL.length c2 ee from HRO.out.1.trans HR9.out)
          have HX10 := Lib.hid (show OBox w10 xb o from HXF.out.1.trans HX9.out)
          have HG10 := Lib.hid (HG9.out.stays hres.fr.size (fun a ha hlt2 => (hres.far (gs := LL) (e := 0) a.block hlt2 (HNA.out a ha).2).1))
          have HNA10 := Lib.hid (show ∀ a, A2 = some a → a.block ≠ rb ∧ ¬ Own bb mb rv10 a.block from fun a ha => ⟨(HNA.out a ha).1, by
            by_cases hL : LL = []
            · have := HNL.out hL; rw [this] at ha; cases ha
            · obtain ⟨b5, o5, h5, hlt5, _⟩ := HG9.out (List.length_pos_iff.2 hL)
              rw [h5] at ha; cases ha; exact (hres.far (gs := LL) (e := 0) b5 hlt5 (HNA.out _ h5).2).2⟩)
          have HB10 := Lib.hid (hres.below HT9.out HRN1.out HB9.out)
          clear hres
          refine hK.out _ _ ⟨HX10.out.cells, HR10.out.cells⟩ (fun _ => ?_)
          clear hK K
          try simp only [Act.put, List.setIfInBounds_toArray, List.set_cons_zero, List.set_cons_succ]
          refine wpAnyH_take (i := 4) (oi := { dst := some 67, op := Op.binOp BinOp.neq 3 (Operand.tmp 65) (Operand.tmp 66) 3, type := 4, pos := "law.go:54", after := #[{ on := 2, ground := Ground.data }, { on := 3, ground := Ground.data }], guard := none }) (v := .bool false) rfl (by kernel_rfl) (by kernel_rfl) (by kernel_rfl) (fun _ _ _ h => h) (Or.inl ⟨by rfl, ?_⟩) ⟨HX10.out.cells, HR10.out.cells⟩ ?_
          · (intro w' hSw; go_simp)
          simp only [Act.put, List.setIfInBounds_toArray, List.set_cons_zero, List.set_cons_succ]
          refine wpAnyH_take (i := 5) (oi := { dst := some 68, op := Op.move (Operand.tmp 67), type := 4, pos := "law.go:54", after := #[{ on := 4, ground := Ground.data }, { on := 2, ground := Ground.chain }], guard := none }) (v := .bool false) rfl (by kernel_rfl) (by kernel_rfl) (by kernel_rfl) (fun _ _ _ h => h) (Or.inl ⟨by rfl, ?_⟩) ⟨HX10.out.cells, HR10.out.cells⟩ ?_
          · (intro w' hSw; go_simp)
          simp only [Act.put, List.setIfInBounds_toArray, List.set_cons_zero, List.set_cons_succ]
          refine wpAnyH_take (i := 6) (oi := { dst := some 69, op := Op.move (Operand.tmp 7), type := 24, pos := "law.go:54", after := #[{ on := 5, ground := Ground.guard }], guard := some (5, false) }) (v := .pointer (some ⟨bb, 0, none⟩)) rfl (by kernel_rfl) (by kernel_rfl) (by kernel_rfl) (fun _ _ _ h => h) (Or.inl ⟨by rfl, ?_⟩) ⟨HX10.out.cells, HR10.out.cells⟩ ?_
          · (intro w' hSw; go_simp)
          simp only [Act.put, List.setIfInBounds_toArray, List.set_cons_zero, List.set_cons_succ]
          refine wpAnyH_take (i := 8) (oi := { dst := some 71, op := Op.fieldAddr 32 (Operand.tmp 9) 1, type := 0, pos := "law.go:54", after := #[{ on := 5, ground := Ground.guard }], guard := some (5, false) }) (v := .pointer (some ⟨rb, 2, none⟩)) rfl (by kernel_rfl) (by kernel_rfl) (by kernel_rfl) (fun _ _ _ h => h) (Or.inl ⟨by rfl, ?_⟩) ⟨HX10.out.cells, HR10.out.cells⟩ ?_
          · (intro w' hSw; go_simp)
          simp only [Act.put, List.setIfInBounds_toArray, List.set_cons_zero, List.set_cons_succ]
          refine wpAnyH_take (i := 9) (oi := { dst := some 72, op := Op.load 25 (Operand.tmp 71), type := 25, pos := "law.go:54", after := #[{ on := 8, ground := Ground.data }, { on := 5, ground := Ground.guard }], guard := some (5, false) }) (v := .int .i64 ee) rfl (by kernel_rfl) (by kernel_rfl) (by kernel_rfl) (fun _ _ _ h => h) (Or.inl ⟨by rfl, ?_⟩) ⟨HX10.out.cells, HR10.out.cells⟩ ?_
          · (intro w' hSw; obtain ⟨⟨s0, s1, s2, s3⟩, s4, s5, s6⟩ := hSw; go_simp)
          simp only [Act.put, List.setIfInBounds_toArray, List.set_cons_zero, List.set_cons_succ]
          refine wpAnyH_ready (rs := [7]) (by kernel_rfl) (by simp) (AllReadyH.cons (o := { dst := some 70, op := Op.call { callee := Callee.value (Operand.func 13), args := #[Operand.tmp 69], argTypes := #[24] }, type := 25, pos := "law.go:54", after := #[{ on := 6, ground := Ground.data }, { on := 5, ground := Ground.chain }, { on := 5, ground := Ground.guard }], guard := some (5, false) }) rfl (fun K hK => ?_) AllReadyH.nil)
          go_simp
          go_at_call 13
          refine (berr_any HT10.out).mono ?_
          rintro e wx ⟨rfl, hwx⟩
          obtain rfl := hwx.symm
          refine hK.out _ _ ⟨HX10.out.cells, HR10.out.cells⟩ (fun _ => ?_)
          clear hK K
          try simp only [Act.put, List.setIfInBounds_toArray, List.set_cons_zero, List.set_cons_succ]
          refine wpAnyH_take (i := 10) (oi := { dst := some 73, op := Op.binOp BinOp.neq 25 (Operand.tmp 70) (Operand.tmp 72) 25, type := 4, pos := "law.go:54", after := #[{ on := 7, ground := Ground.data }, { on := 9, ground := Ground.data }, { on := 5, ground := Ground.guard }], guard := some (5, false) }) (v := .bool false) rfl (by kernel_rfl) (by kernel_rfl) (by kernel_rfl) (fun _ _ _ h => h) (Or.inl ⟨by rfl, ?_⟩) ⟨HX10.out.cells, HR10.out.cells⟩ ?_
          · (intro w' hSw; go_simp)
          simp only [Act.put, List.setIfInBounds_toArray, List.set_cons_zero, List.set_cons_succ]
          refine wpAnyH_take (i := 11) (oi := { dst := some 74, op := Op.pick (Operand.tmp 68) (Operand.const (Value.bool true)) (Operand.tmp 73), type := 4, pos := "law.go:54", after := #[{ on := 5, ground := Ground.data }, { on := 10, ground := Ground.data }], guard := none }) (v := .bool false) rfl (by kernel_rfl) (by kernel_rfl) (by kernel_rfl) (fun _ _ _ h => h) (Or.inl ⟨by rfl, ?_⟩) ⟨HX10.out.cells, HR10.out.cells⟩ ?_
          · (intro w' hSw; go_simp)
          simp only [Act.put, List.setIfInBounds_toArray, List.set_cons_zero, List.set_cons_succ]
          refine wpAnyH_take (i := 12) (oi := { dst := some 75, op := Op.move (Operand.tmp 74), type := 4, pos := "law.go:54", after := #[{ on := 11, ground := Ground.data }, { on := 7, ground := Ground.chain }], guard := none }) (v := .bool false) rfl (by kernel_rfl) (by kernel_rfl) (by kernel_rfl) (fun _ _ _ h => h) (Or.inl ⟨by rfl, ?_⟩) ⟨HX10.out.cells, HR10.out.cells⟩ ?_
          · (intro w' hSw; go_simp)
          simp only [Act.put, List.setIfInBounds_toArray, List.set_cons_zero, List.set_cons_succ]
          refine wpAnyH_take (i := 13) (oi := { dst := some 76, op := Op.move (Operand.tmp 7), type := 24, pos := "law.go:54", after := #[{ on := 12, ground := Ground.guard }], guard := some (12, false) }) (v := .pointer (some ⟨bb, 0, none⟩)) rfl (by kernel_rfl) (by kernel_rfl) (by kernel_rfl) (fun _ _ _ h => h) (Or.inl ⟨by rfl, ?_⟩) ⟨HX10.out.cells, HR10.out.cells⟩ ?_
          · (intro w' hSw; go_simp)
          simp only [Act.put, List.setIfInBounds_toArray, List.set_cons_zero, List.set_cons_succ]
          refine wpAnyH_take (i := 15) (oi := { dst := some 78, op := Op.fieldAddr 32 (Operand.tmp 9) 0, type := 0, pos := "law.go:54", after := #[{ on := 12, ground := Ground.guard }], guard := some (12, false) }) (v := .pointer (some ⟨rb, 0, none⟩)) rfl (by kernel_rfl) (by kernel_rfl) (by kernel_rfl) (fun _ _ _ h => h) (Or.inl ⟨by rfl, ?_⟩) ⟨HX10.out.cells, HR10.out.cells⟩ ?_
          · (intro w' hSw; go_simp)
          simp only [Act.put, List.setIfInBounds_toArray, List.set_cons_zero, List.set_cons_succ]
          refine wpAnyH_take (i := 16) (oi := { dst := some 79, op := Op.load 30 (Operand.tmp 78), type := 30, pos := "law.go:54", after := #[{ on := 15, ground := Ground.data }, { on := 12, ground := Ground.guard }], guard := some (12, false) }) (v := .agg #[.int .i64 I, .slice A2 LL.length c2]) rfl (by kernel_rfl) (by kernel_rfl) (by kernel_rfl) (fun _ _ _ h => h) (Or.inl ⟨by rfl, ?_⟩) ⟨HX10.out.cells, HR10.out.cells⟩ ?_
          · (intro w' hSw; obtain ⟨⟨s0, s1, s2, s3⟩, s4, s5, s6⟩ := hSw; go_simp)
          simp only [Act.put, List.setIfInBounds_toArray, List.set_cons_zero, List.set_cons_succ]
          refine wpAnyH_ready (rs := [14]) (by kernel_rfl) (by simp) (AllReadyH.cons (o := { dst := some 77, op := Op.call { callee := Callee.value (Operand.func 14), args := #[Operand.tmp 76], argTypes := #[24] }, type := 3, pos := "law.go:54", after := #[{ on := 13, ground := Ground.data }, { on := 12, ground := Ground.chain }, { on := 12, ground := Ground.guard }], guard := some (12, false) }) rfl (fun K hK => ?_) AllReadyH.nil)
          go_simp
          go_at_call 14
          refine (blen_any HT10.out).mono ?_
          rintro e w11 ⟨rfl, hb⟩
          have HT11 := Lib.hid (HT10.out.later hb)
          have HR11 := Lib.hid (HR10.out.later hb)
          have HX11 := Lib.hid (show OBox w11 xb o from (hb.block _ (Go.Proofs.Ytbcabnbgkicfdaa.hlt HX10.out)).trans HX10.out)
          have HG11 := Lib.hid (HG10.out.later hb)
          have HB11 := Lib.hid (HB10.out.trans (hb.mono HB10.out.size))
          clear hb
          refine hK.out _ _ ⟨HX11.out.cells, HR11.out.cells⟩ (fun _ => ?_)
          clear hK K
          try simp only [Act.put, List.setIfInBounds_toArray, List.set_cons_zero, List.set_cons_succ]
          refine wpAnyH_ready (rs := [17]) (by kernel_rfl) (by simp) (AllReadyH.cons (o := { dst := some 80, op := Op.call { callee := Callee.value (Operand.func 15), args := #[Operand.tmp 79], argTypes := #[30] }, type := 3, pos := "law.go:54", after := #[{ on := 16, ground := Ground.data }, { on := 14, ground := Ground.chain }, { on := 12, ground := Ground.guard }], guard := some (12, false) }) rfl (fun K hK => ?_) AllReadyH.nil)
          go_simp
          go_at_call 15
          refine (r_nodes_any I (by have := HII.out; omega) A2 LL.length c2 (by have := HSL.out; have := HGN.out; omega) w11).mono ?_
          rintro e w12 ⟨rfl, hb⟩
          have HT12 := Lib.hid (HT11.out.later hb)
          have HR12 := Lib.hid (HR11.out.later hb)
          have HX12 := Lib.hid (show OBox w12 xb o from (hb.block _ (Go.Proofs.Ytbcabnbgkicfdaa.hlt HX11.out)).trans HX11.out)
          have HG12 := Lib.hid (HG11.out.later hb)
          have HB12 := Lib.hid (HB11.out.trans (hb.mono HB11.out.size))
          clear hb
          refine hK.out _ _ ⟨HX12.out.cells, HR12.out.cells⟩ (fun _ => ?_)
          clear hK K
          try simp only [Act.put, List.setIfInBounds_toArray, List.set_cons_zero, List.set_cons_succ]
          refine wpAnyH_take (i := 18) (oi := { dst := some 81, op := Op.binOp BinOp.neq 3 (Operand.tmp 77) (Operand.tmp 80) 3, type := 4, pos := "law.go:54", after := #[{ on := 14, ground := Ground.data }, { on := 17, ground := Ground.data }, { on := 12, ground := Ground.guard }], guard := some (12, false) }) (v := .bool false) rfl (by kernel_rfl) (by kernel_rfl) (by kernel_rfl) (fun _ _ _ h => h) (Or.inl ⟨by rfl, ?_⟩) ⟨HX12.out.cells, HR12.out.cells⟩ ?_
          · (intro w' hSw; go_simp)
          simp only [Act.put, List.setIfInBounds_toArray, List.set_cons_zero, List.set_cons_succ]
          refine wpAnyH_take (i := 19) (oi := { dst := some 82, op := Op.pick (Operand.tmp 75) (Operand.const (Value.bool true)) (Operand.tmp 81), type := 4, pos := "law.go:54", after := #[{ on := 12, ground := Ground.data }, { on := 18, ground := Ground.data }], guard := none }) (v := .bool false) rfl (by kernel_rfl) (by kernel_rfl) (by kernel_rfl) (fun _ _ _ h => h) (Or.inl ⟨by rfl, ?_⟩) ⟨HX12.out.cells, HR12.out.cells⟩ ?_
          · (intro w' hSw; go_simp)
          simp only [Act.put, List.setIfInBounds_toArray, List.set_cons_zero, List.set_cons_succ]
          refine wpAnyH_take (i := 20) (oi := { dst := some 83, op := Op.move (Operand.tmp 82), type := 4, pos := "law.go:54", after := #[{ on := 19, ground := Ground.data }, { on := 17, ground := Ground.chain }], guard := none }) (v := .bool false) rfl (by kernel_rfl) (by kernel_rfl) (by kernel_rfl) (fun _ _ _ h => h) (Or.inl ⟨by rfl, ?_⟩) ⟨HX12.out.cells, HR12.out.cells⟩ ?_
          · (intro w' hSw; go_simp)
          simp only [Act.put, List.setIfInBounds_toArray, List.set_cons_zero, List.set_cons_succ]
          refine wpAnyH_take (i := 21) (oi := { dst := some 84, op := Op.move (Operand.tmp 7), type := 24, pos := "law.go:54", after := #[{ on := 20, ground := Ground.guard }], guard := some (20, false) }) (v := .pointer (some ⟨bb, 0, none⟩)) rfl (by kernel_rfl) (by kernel_rfl) (by kernel_rfl) (fun _ _ _ h => h) (Or.inl ⟨by rfl, ?_⟩) ⟨HX12.out.cells, HR12.out.cells⟩ ?_
          · (intro w' hSw; go_simp)
          simp only [Act.put, List.setIfInBounds_toArray, List.set_cons_zero, List.set_cons_succ]
          refine wpAnyH_take (i := 23) (oi := { dst := some 86, op := Op.fieldAddr 32 (Operand.tmp 9) 0, type := 0, pos := "law.go:54", after := #[{ on := 20, ground := Ground.guard }], guard := some (20, false) }) (v := .pointer (some ⟨rb, 0, none⟩)) rfl (by kernel_rfl) (by kernel_rfl) (by kernel_rfl) (fun _ _ _ h => h) (Or.inl ⟨by rfl, ?_⟩) ⟨HX12.out.cells, HR12.out.cells⟩ ?_
          · (intro w' hSw; go_simp)
          simp only [Act.put, List.setIfInBounds_toArray, List.set_cons_zero, List.set_cons_succ]
          refine wpAnyH_take (i := 24) (oi := { dst := some 87, op := Op.load 30 (Operand.tmp 86), type := 30, pos := "law.go:54", after := #[{ on := 23, ground := Ground.data }, { on := 20, ground := Ground.guard }], guard := some (20, false) }) (v := .agg #[.int .i64 I, .slice A2 LL.length c2]) rfl (by kernel_rfl) (by kernel_rfl) (by kernel_rfl) (fun _ _ _ h => h) (Or.inl ⟨by rfl, ?_⟩) ⟨HX12.out.cells, HR12.out.cells⟩ ?_
          · (intro w' hSw; obtain ⟨⟨s0, s1, s2, s3⟩, s4, s5, s6⟩ := hSw; go_simp)
          simp only [Act.put, List.setIfInBounds_toArray, List.set_cons_zero, List.set_cons_succ]
          refine wpAnyH_ready (rs := [22]) (by kernel_rfl) (by simp) (AllReadyH.cons (o := { dst := some 85, op := Op.call { callee := Callee.value (Operand.func 17), args := #[Operand.tmp 84], argTypes := #[24] }, type := 30, pos := "law.go:54", after := #[{ on := 21, ground := Ground.data }, { on := 20, ground := Ground.chain }, { on := 20, ground := Ground.guard }], guard := some (20, false) }) rfl (fun K hK => ?_) AllReadyH.nil)
          go_simp
          go_at_call 17
          refine (circuit_any HT12.out).mono ?_
          rintro e w13 ⟨X, cap, rfl, ho, hb⟩
          obtain ⟨A9, c9, hX9, _, hrow9, _⟩ := ho.form
          injection hX9 with hX9 _ hc9
          subst hX9
          subst hc9
          have HCR := Lib.hid hrow9
          clear ho hrow9
          have HT13 := Lib.hid (HT12.out.later hb)
          have HR13 := Lib.hid (HR12.out.later hb)
          have HX13 := Lib.hid (show OBox w13 xb o from (hb.block _ (Go.Proofs.Ytbcabnbgkicfdaa.hlt HX12.out)).trans HX12.out)
          have HG13 := Lib.hid (HG12.out.later hb)
          have HB13 := Lib.hid (HB12.out.trans (hb.mono HB12.out.size))
          clear hb
          refine hK.out _ _ ⟨HX13.out.cells, HR13.out.cells⟩ (fun _ => ?_)
          clear hK K
          try simp only [Act.put, List.setIfInBounds_toArray, List.set_cons_zero, List.set_cons_succ]
          refine wpAnyH_ready (rs := [25]) (by kernel_rfl) (by simp) (AllReadyH.cons (o := { dst := some 88, op := Op.call { callee := Callee.value (Operand.func 16), args := #[Operand.tmp 85, Operand.tmp 87], argTypes := #[30, 30] }, type := 4, pos := "law.go:54", after := #[{ on := 22, ground := Ground.data }, { on := 24, ground := Ground.data }, { on := 22, ground := Ground.chain }, { on := 20, ground := Ground.guard }], guard := some (20, false) }) rfl (fun K hK => ?_) AllReadyH.nil)
          go_simp
          go_at_call 16
          have HSA := same_any I X cap LL I A2 c2 LL w13 HCR.out HG13.out HT13.out.gt HT13.out.gt (by have := HSL.out; have := HGN.out; omega)
          rw [decide_eq_true (p := I = I ∧ LL = LL) ⟨rfl, rfl⟩] at HSA
          refine HSA.mono ?_
          rintro e w14 ⟨rfl, hb⟩
          have HT14 := Lib.hid (HT13.out.later hb)
          have HR14 := Lib.hid (HR13.out.later hb)
          have HX14 := Lib.hid (show OBox w14 xb o from (hb.block _ (Go.Proofs.Ytbcabnbgkicfdaa.hlt HX13.out)).trans HX13.out)
          have HG14 := Lib.hid (HG13.out.later hb)
          have HB14 := Lib.hid (HB13.out.trans (hb.mono HB13.out.size))
          clear hb
          clear HSA
          refine hK.out _ _ ⟨HX14.out.cells, HR14.out.cells⟩ (fun _ => ?_)
          clear hK K
          try simp only [Act.put, List.setIfInBounds_toArray, List.set_cons_zero, List.set_cons_succ]
          refine wpAnyH_take (i := 26) (oi := { dst := some 89, op := Op.unOp UnOp.not 4 (Operand.tmp 88), type := 4, pos := "law.go:54", after := #[{ on := 25, ground := Ground.data }, { on := 20, ground := Ground.guard }], guard := some (20, false) }) (v := .bool false) rfl (by kernel_rfl) (by kernel_rfl) (by kernel_rfl) (fun _ _ _ h => h) (Or.inl ⟨by rfl, ?_⟩) ⟨HX14.out.cells, HR14.out.cells⟩ ?_
          · (intro w' hSw; go_simp)
          simp only [Act.put, List.setIfInBounds_toArray, List.set_cons_zero, List.set_cons_succ]
          refine wpAnyH_take (i := 27) (oi := { dst := some 90, op := Op.pick (Operand.tmp 83) (Operand.const (Value.bool true)) (Operand.tmp 89), type := 4, pos := "law.go:54", after := #[{ on := 20, ground := Ground.data }, { on := 26, ground := Ground.data }], guard := none }) (v := .bool false) rfl (by kernel_rfl) (by kernel_rfl) (by kernel_rfl) (fun _ _ _ h => h) (Or.inl ⟨by rfl, ?_⟩) ⟨HX14.out.cells, HR14.out.cells⟩ ?_
          · (intro w' hSw; go_simp)
          simp only [Act.put, List.setIfInBounds_toArray, List.set_cons_zero, List.set_cons_succ]
          refine wpAnyH_done (by kernel_rfl) ?_ _
          refine NoPanic.normal ?_
          have HFL := Lib.hid (show LL.length ≤ 3 * (k + 1) from by have := HSL.out; have := hcl.out.2.2; omega)
          have HKN := Lib.hid (show LL.length ≤ c2 ∧ (LL = [] → A2 = none) ∧ LL.length ≤ 3 * (k + 1) from ⟨HLE.out, HNL.out, HFL.out⟩)
          have HNR := Lib.hid HRO.out.2
          go_wp2_with (fail)
          exact ⟨⟨k + 1, LL, ee, rv10, A2, c2, by omega, by go_num, HT14, HR14, HG14, HKN, HNR, HNA10, HB14⟩, by simp [intOf]; omega⟩
        · obtain rfl : k = os.length := by omega
          have hxx := HX.out
          by_cases g1 : 1099511627776 < x
          · have e1 : decide (1099511627776 < x) = true := decide_eq_true g1
            clear hxx
            go_wp2_with (fail)
            go_ret
            exact ⟨rfl, hbw.out⟩
          · have e1 : decide (1099511627776 < x) = false := decide_eq_false g1
            by_cases g2 : x < -1099511627776
            · have e2 : decide (x < -1099511627776) = true := decide_eq_true g2
              clear hxx
              go_wp2_with (fail)
              go_ret
              exact ⟨rfl, hbw.out⟩
            · have e2 : decide (x < -1099511627776) = false := decide_eq_false g2
              have HN1 := Lib.hid (fun w => not_any x (by omega) w)
              have HN2 := Lib.hid (fun w => r_not_any x (by omega) w)
              clear hxx g1 g2
              go_wp2_with (fail)
              refine (HN1.out _).mono ?_
              rintro e wx ⟨rfl, hwx⟩
              obtain rfl := hwx.symm
              go_wp2_with (fail)
              refine (HN2.out _).mono ?_
              rintro e wx ⟨rfl, hwx⟩
              obtain rfl := hwx.symm
              go_wp2_with (fail)
              go_ret
              exact ⟨rfl, hbw.out⟩
end Go.Proofs.Ytbcabnbgkicfdaa
