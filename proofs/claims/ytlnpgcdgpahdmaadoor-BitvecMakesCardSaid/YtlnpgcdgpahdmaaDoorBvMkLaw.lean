/- What is proved: the law BitvecMakes, over the example's contract. -/
import Derived.Test.YtlnpgcdgpahdmaaDoorBvRMake
import Derived.Test.YtlnpgcdgpahdmaaDoorBvBuild
import Derived.Test.YtlnpgcdgpahdmaaDoorBvOpen
set_option linter.unusedVariables false
namespace Go.Proofs.YtlnpgcdgpahdmaaDoor
open Go.RowKit Go.Maps

set_option maxRecDepth 100000 in
set_option maxHeartbeats 4000000 in
theorem makes_out (W : Int) (A : Option Addr) (c n : Nat) (i : Int) (w : World) (ht : TabS w) (h : W < 2 ∨ 8 < W) : Calls Tryd.prog 3 #[.int .i64 W, .slice A n c, .int .i64 i] w (VYes w) := by
  have HA := Lib.hid (awake_any w ht)
  have HN := Lib.hid (fun w => new_out W h w)
  have HIW := Lib.hid (fun w => r_isWidth_any W w)
  rw [wok_no h] at HIW
  clear ht h
  go_enter Tryd.func3, Tryd.ntmps3
  go_wp2_with (fail)
  refine HA.out.mono ?_
  rintro e w1 ⟨rfl, hb1⟩
  have HB1 := Lib.hid hb1
  clear hb1
  go_wp2_with (fail)
  refine (HN.out _).mono ?_
  rintro e wx ⟨rfl, hx⟩
  obtain rfl := hx.symm
  go_wp2_with (fail)
  refine (HIW.out _).mono ?_
  rintro e wx ⟨rfl, hx⟩
  obtain rfl := hx.symm
  go_wp2_with (fail)
  go_ret
  exact ⟨rfl, HB1.out⟩
set_option maxRecDepth 100000 in
set_option maxHeartbeats 4000000 in
theorem makes_big (W : Int) (A : Option Addr) (c n : Nat) (i : Int) (w : World) (ht : TabS w) (h : ¬ (W < 2 ∨ 8 < W)) (hn : 40 < n) : Calls Tryd.prog 3 #[.int .i64 W, .slice A n c, .int .i64 i] w (VYes w) := by
  have HA := Lib.hid (awake_any w ht)
  have HN := Lib.hid (fun w => new_any W h w)
  have HIW := Lib.hid (fun w => r_isWidth_any W w)
  rw [wok_yes h] at HIW
  have d : decide (40 < (n : Int)) = true := by simp; omega
  clear ht h
  go_enter Tryd.func3, Tryd.ntmps3
  go_wp2_with (fail)
  refine HA.out.mono ?_
  rintro e w1 ⟨rfl, hb1⟩
  have HB1 := Lib.hid hb1
  clear hb1
  go_wp2_with (fail)
  refine (HN.out _).mono ?_
  rintro e w2 ⟨tb, mb, rfl, htb, hb2⟩
  have HB2 := Lib.hid (HB1.out.trans (hb2.mono HB1.out.size))
  clear hb2 htb
  go_wp2_with (fail)
  refine (HIW.out _).mono ?_
  rintro e wx ⟨rfl, hx⟩
  obtain rfl := hx.symm
  go_wp2_with (fail)
  go_ret
  exact ⟨rfl, HB2.out⟩
/-- the two tables side by side -/
structure MSt (w0 : World) (W : Int) (n₀ tb mb rb : Nat) (l : List Tm) (w : World) : Prop where
  ex : ∃ rv A c, Tab w n₀ tb mb rv W l ∧ RBox w rb W A l.length c ∧ RF w A c l ∧ ¬ Own tb mb rv rb ∧ (∀ a, A = some a → a.block < w.heap.size ∧ ¬ Own tb mb rv a.block ∧ a.block ≠ rb)
  bel : Below w0.heap.size w0 w
theorem MSt.later {w0 : World} {W : Int} {n₀ tb mb rb : Nat} {l : List Tm} {w w' : World} (h : MSt w0 W n₀ tb mb rb l w) (hb : Below w.heap.size w w') : MSt w0 W n₀ tb mb rb l w' := by
  obtain ⟨⟨rv, A, c, h1, h2, h3, h4, h5⟩, h6⟩ := h
  exact ⟨⟨rv, A, c, h1.later hb, h2.later hb, h3.later hb, h4, fun a e => ⟨Nat.lt_of_lt_of_le (h5 a e).1 hb.size, (h5 a e).2⟩⟩, h6.trans (hb.mono h6.size)⟩
set_option maxRecDepth 100000 in
set_option maxHeartbeats 8000000 in
theorem makes_in (W : Int) (A : Option Addr) (c : Nat) (ns : List Tm) (i : Int) (w : World) (ht : TabS w) (hr : TRow w A ns) (hok : ∀ x ∈ ns, TmOk x) (hn : ns.length ≤ 40) (h : ¬ (W < 2 ∨ 8 < W)) : Calls Tryd.prog 3 #[.int .i64 W, .slice A ns.length c, .int .i64 i] w (VYes w) := by
  have HA := Lib.hid (awake_any w ht)
  have HN := Lib.hid (fun w => new_any W h w)
  have HIW := Lib.hid (fun w => r_isWidth_any W w)
  rw [wok_yes h] at HIW
  have d : decide (40 < (ns.length : Int)) = false := by simp; omega
  have HT := Lib.hid ht
  have HWW := Lib.hid h
  have HR := Lib.hid hr
  have HOK := Lib.hid hok
  clear ht h hr hok
  go_enter Tryd.func3, Tryd.ntmps3
  go_wp2_with (fail)
  refine HA.out.mono ?_
  rintro e w1 ⟨rfl, hb1⟩
  have HB1 := Lib.hid hb1
  clear hb1
  go_wp2_with (fail)
  refine (HN.out _).mono ?_
  rintro e w2 ⟨tb, mb, rfl, htb, hb2⟩
  have HB2 := Lib.hid (HB1.out.trans (hb2.mono HB1.out.size))
  have HTB := Lib.hid htb
  clear hb2 htb
  go_wp2_with (fail)
  refine (HIW.out _).mono ?_
  rintro e wx ⟨rfl, hx⟩
  obtain rfl := hx.symm
  go_upto_region 9 with fail
  have hba := (Below.refl w2.heap.size w2).alloc (Nat.le_refl _) (.cells #[.int .i64 W, .slice none 0 0] 30)
  have HM0 : Hid (MSt w W w1.heap.size tb mb w2.heap.size (bldL W (ns.take 0)) (w2.alloc (.cells #[.int .i64 W, .slice none 0 0] 30))) := Lib.hid ⟨⟨.slice none 0 0, none, 0, HTB.out.later hba, heap_alloc_new w2 _, ⟨TRow.nil _ _, Nat.zero_le _, fun _ => ⟨rfl, rfl⟩⟩, fun ho => by have := (HTB.out.lt ho).2; omega, fun a e => by cases e⟩, HB2.out.trans (hba.mono HB2.out.size)⟩
  have HWI := Lib.hid (width_any (HTB.out.later hba))
  clear hba
  have HLO := Lib.hid HB2.out.size
  generalize hgw : w2.alloc (.cells #[.int .i64 W, .slice none 0 0] 30) = w3 at *
  clear hgw
  generalize w2.heap.size = rb at *
  go_wp2_with (fail)
  refine HWI.out.mono ?_
  rintro e wx ⟨rfl, hx⟩
  obtain rfl := hx.symm
  go_wp2_with (fail)
  go_loopw [52] (fun jv wr => ∃ (k : Nat), k ≤ ns.length ∧ jv = .int .i64 (k : Int) ∧ Hid (MSt w W w1.heap.size tb mb rb (bldL W (ns.take k)) wr)) (fun jv _ => ns.length - (intOf jv).toNat)
  case atStart => exact ⟨0, Nat.zero_le _, rfl, HM0⟩
  case round =>
    obtain ⟨k, hk, rfl, hm⟩ := hrel
    have HBW := Lib.hid hm.out.bel
    by_cases hlt : k < ns.length
    · obtain ⟨b0, off, hA, _, hc0⟩ := (HR.out.later hm.out.bel).at hlt
      have HX := Lib.hid (HOK.out _ (List.getElem_mem hlt))
      have HTK := Lib.hid (bld_take W ns k hlt)
      have hlen := (bld_ok W ns k (by omega)).2
      generalize ns[k] = x at *
      generalize bldL W (ns.take k) = l at *
      subst hA
      obtain ⟨d0, d1, d2, d3, d4⟩ := hc0
      go_upto_region 14 with fail
      have hbx := (Below.refl wr.heap.size wr).alloc (Nat.le_refl _) (.cells #[.int .i64 x.op, .int .i64 x.v, .int .i64 x.a, .int .i64 x.b, .int .i64 x.c] 34)
      have HBX := Lib.hid (TBox.new wr x)
      have HM5 := Lib.hid (hm.out.later hbx)
      have HXO := Lib.hid (show ∀ rv, Tab wr w1.heap.size tb mb rv W l → ¬ Own tb mb rv wr.heap.size from fun rv h ho => by have := (h.lt ho).2; omega)
      have HTW := Lib.hid (show ∃ rv A c, Tab wr w1.heap.size tb mb rv W l ∧ Tab (wr.alloc (.cells #[.int .i64 x.op, .int .i64 x.v, .int .i64 x.a, .int .i64 x.b, .int .i64 x.c] 34)) w1.heap.size tb mb rv W l ∧ RBox (wr.alloc (.cells #[.int .i64 x.op, .int .i64 x.v, .int .i64 x.a, .int .i64 x.b, .int .i64 x.c] 34)) rb W A l.length c ∧ RF (wr.alloc (.cells #[.int .i64 x.op, .int .i64 x.v, .int .i64 x.a, .int .i64 x.b, .int .i64 x.c] 34)) A c l ∧ ¬ Own tb mb rv rb ∧ (∀ a, A = some a → a.block < (wr.alloc (.cells #[.int .i64 x.op, .int .i64 x.v, .int .i64 x.a, .int .i64 x.b, .int .i64 x.c] 34)).heap.size ∧ ¬ Own tb mb rv a.block ∧ a.block ≠ rb) from by
        obtain ⟨rv, A, c, h1, h2, h3, h4, h5⟩ := hm.out.ex
        exact ⟨rv, A, c, h1, h1.later hbx, h2.later hbx, h3.later hbx, h4, fun a e => ⟨Nat.lt_of_lt_of_le (h5 a e).1 hbx.size, (h5 a e).2⟩⟩)
      clear hbx d0 d1 d2 d3 d4
      obtain ⟨rv, A2, c2, g1, g2, g3, g4, g5, g6⟩ := HTW.out
      have HXN := Lib.hid (HXO.out rv g1)
      clear g1 HTW HXO
      generalize wr.alloc (.cells #[.int .i64 x.op, .int .i64 x.v, .int .i64 x.a, .int .i64 x.b, .int .i64 x.c] 34) = w5 at *
      generalize wr.heap.size = xb at *
      have HT5 := Lib.hid g2
      have HR5 := Lib.hid g3
      have HF5 := Lib.hid g4
      have HO5 := Lib.hid g5
      have HA5 := Lib.hid g6
      have HMK := Lib.hid (make_any x g2 HX.out (HT.out.later HM5.out.bel) HWW.out (by omega))
      clear g2 g3 g4 g5 g6
      obtain ⟨x0, x1, x2, x3, x4⟩ := HBX.out.cells
      go_wp2_with (fail)
      refine HMK.out.mono ?_
      rintro e w6 ⟨rfl, rv', hmr⟩
      have HB6 := Lib.hid (hmr.later (show w.heap.size ≤ w1.heap.size from HB1.out.size) HT5.out HM5.out.bel)
      have HT6 := Lib.hid hmr.tab
      have HBX6 := Lib.hid (show TBox w6 xb x from (hmr.fr.block xb (Go.Proofs.YtlnpgcdgpahdmaaDoor.hlt HBX.out) HXN.out).trans HBX.out)
      have HR6 := Lib.hid (show RBox w6 rb W A2 l.length c2 from (hmr.fr.block rb (Go.Proofs.YtlnpgcdgpahdmaaDoor.hlt HR5.out) HO5.out).trans HR5.out)
      have HF6 := Lib.hid (show RF w6 A2 c2 l from ⟨HF5.out.1.stays hmr.fr.size (fun a e hl => hmr.fr.block a.block hl (HA5.out a e).2.1), HF5.out.2⟩)
      have HO6 := Lib.hid (show ∀ b, b < w5.heap.size → ¬ Own tb mb rv b → ¬ Own tb mb rv' b from fun b hl hno ho => by
        rcases ho with h | h | h
        · exact hno (.inl h)
        · exact hno (.inr (.inl h))
        · rcases hmr.new b h with h | h
          · exact hno (.inr (.inr h))
          · omega)
      have HS6 := Lib.hid hmr.fr.size
      have HRM := Lib.hid (r_make_any (w := w6) (W := W) x A2 c2 HWW.out HF6.out (by omega) (fun y hy => by
        obtain ⟨q, hq, e⟩ := List.getElem_of_mem hy
        have := HT5.out.tb.node hq
        rw [e] at this
        exact ⟨this.1, this.2.1⟩) HT5.out.tm HX.out)
      clear hmr x0 x1 x2 x3 x4
      obtain ⟨x0, x1, x2, x3, x4⟩ := HBX6.out.cells
      obtain ⟨r0, r1⟩ := HR6.out.cells
      go_wp2_with (fail)
      refine HRM.out.mono ?_
      rintro e w7 ⟨A7, c7, rfl, hf7, hb7, hn7⟩
      have HT7 := Lib.hid (HT6.out.later hb7)
      have HR7 := Lib.hid (HR6.out.later hb7)
      have HB7 := Lib.hid (HB6.out.trans (hb7.mono HB6.out.size))
      have HF7 := Lib.hid hf7
      have HO7 := Lib.hid (HO6.out rb (Go.Proofs.YtlnpgcdgpahdmaaDoor.hlt HR5.out) HO5.out)
      have HA7 := Lib.hid (show ∀ a, A7 = some a → a.block < w7.heap.size ∧ ¬ Own tb mb rv' a.block ∧ a.block ≠ rb from fun a e => by
        rcases hn7 a e with h | h
        · obtain ⟨q1, q2, q3⟩ := HA5.out a h
          exact ⟨Nat.lt_of_lt_of_le q1 (Nat.le_trans HS6.out hb7.size), HO6.out a.block q1 q2, q3⟩
        · refine ⟨?_, fun ho => by have := (HT6.out.lt ho).2; omega, fun e2 => by have h2 : rb < w6.heap.size := Go.Proofs.YtlnpgcdgpahdmaaDoor.hlt HR6.out; omega⟩
          by_cases h0 : mkL W l x = []
          · have := (hf7.2.2 h0).1
            rw [this] at e
            cases e
          · obtain ⟨b, off, hA, hb, _⟩ := hf7.1 (List.length_pos_iff.2 h0)
            rw [hA] at e
            cases e
            exact hb)
      clear hb7 hf7 hn7 x0 x1 x2 x3 x4 r0 r1
      generalize hl7 : mkL W l x = l7 at *
      generalize mkN W l x = n7 at *
      generalize mkE W l x = e7 at *
      go_upto_region 16 with fail
      have hbx := (Below.refl w7.heap.size w7).alloc (Nat.le_refl _) (.cells #[.int .i64 W, .slice A7 l7.length c7] 30)
      have HNX := Lib.hid (show RBox (w7.alloc (.cells #[.int .i64 W, .slice A7 l7.length c7] 30)) w7.heap.size W A7 l7.length c7 from heap_alloc_new w7 _)
      have HT8 := Lib.hid (HT7.out.later hbx)
      have HR8 := Lib.hid (HR7.out.later hbx)
      have HF8 := Lib.hid (HF7.out.later hbx)
      have HB8 := Lib.hid (HB7.out.trans (hbx.mono HB7.out.size))
      have HA8 := Lib.hid (show ∀ a, A7 = some a → a.block < (w7.alloc (.cells #[.int .i64 W, .slice A7 l7.length c7] 30)).heap.size ∧ ¬ Own tb mb rv' a.block ∧ a.block ≠ rb from fun a e => ⟨Nat.lt_of_lt_of_le (HA7.out a e).1 hbx.size, (HA7.out a e).2⟩)
      clear hbx
      generalize w7.alloc (.cells #[.int .i64 W, .slice A7 l7.length c7] 30) = w8 at *
      generalize w7.heap.size = nb at *
      obtain ⟨r0, r1⟩ := HR8.out.cells
      have f0 := HR8.out.frz 0
      have f1 := HR8.out.frz 1
      obtain ⟨s0, s1⟩ := HNX.out.cells
      go_upto_region 17 with fail
      have HM9 := Lib.hid (show MSt w W w1.heap.size tb mb rb (bldL W (ns.take (k + 1))) ((w8.setCell ⟨rb, 0, none⟩ (.int .i64 W)).setCell ⟨rb, 1, none⟩ (.slice A7 l7.length c7)) from by
        rw [HTK.out]
        refine ⟨⟨rv', A7, c7, HT8.out.stays (fun b hb => (hfar (p := ⟨rb, 1, none⟩) (fun e => HO7.out (by rw [← (show b = rb from e)]; exact hb)) _).trans (hfar (p := ⟨rb, 0, none⟩) (fun e => HO7.out (by rw [← (show b = rb from e)]; exact hb)) _)), HR8.out.put W A7 l7.length c7, ⟨HF8.out.1.stays (by simp) (fun a e _ => (hfar (p := ⟨rb, 1, none⟩) (HA8.out a e).2.2 _).trans (hfar (p := ⟨rb, 0, none⟩) (HA8.out a e).2.2 _)), HF8.out.2⟩, HO7.out, fun a e => ⟨by simpa using (HA8.out a e).1, (HA8.out a e).2⟩⟩, put2_below HB8.out HLO.out _ _⟩)
      have HTQ := Lib.hid (show Tab ((w8.setCell ⟨rb, 0, none⟩ (.int .i64 W)).setCell ⟨rb, 1, none⟩ (.slice A7 l7.length c7)) w1.heap.size tb mb rv' W l7 from HT8.out.stays (fun b hb => (hfar (p := ⟨rb, 1, none⟩) (fun e => HO7.out (by rw [← (show b = rb from e)]; exact hb)) _).trans (hfar (p := ⟨rb, 0, none⟩) (fun e => HO7.out (by rw [← (show b = rb from e)]; exact hb)) _)))
      have HRQ := Lib.hid (HR8.out.put W A7 l7.length c7)
      clear r0 r1 f0 f1 s0 s1
      generalize (w8.setCell ⟨rb, 0, none⟩ (.int .i64 W)).setCell ⟨rb, 1, none⟩ (.slice A7 l7.length c7) = w9 at *
      have HLEN := Lib.hid (fun n => len_any (HTQ.out.later (drewN_below w9 n)))
      obtain ⟨r0, r1⟩ := HRQ.out.cells
      go_quiet ((go_at_call 16; exact Calls.quiet_of_same (HLEN.out _)))
      have HMX := Lib.hid (HM9.out.later (drewN_below w9 nq))
      clear r0 r1
      generalize w9.drewN nq = w10 at *
      go_wp2_with (fail)
      exact ⟨⟨k + 1, by omega, by go_num, HMX⟩, by simp [intOf]; omega⟩
    · obtain rfl : k = ns.length := by omega
      rw [List.take_length] at hm
      obtain ⟨rv, A2, c2, g1, g2, g3, g4, g5⟩ := hm.out.ex
      generalize bldL W ns = T at *
      have HT9 := Lib.hid g1
      have HR9 := Lib.hid g2
      have HF9 := Lib.hid g3
      have hfew := g1.few
      clear g1 g2 g3 g4 g5
      by_cases hi : i < 0 ∨ (T.length : Int) ≤ i
      · have HND := Lib.hid (node_any i HT9.out)
        obtain ⟨e1, e2⟩ := nodeB_no (l := T) hi
        have HSV := Lib.hid (show sortV T i = 0 by unfold sortV; rw [e1]; rfl)
        have HNB := Lib.hid e1
        rw [e1, e2] at HND
        dsimp only at HND
        clear e1 e2
        have har : ∀ w, (Op.equalIn 9999 32 (.agg #[.int .i64 0, .int .i64 0, .int .i64 0]) (.agg #[.int .i64 0, .int .i64 0, .int .i64 0])).run Tryd.prog w = .ok true w := fun w => by
          have := arr_eq (a := 0) (b := 0) (c := 0) (d := 0) (e := 0) (f := 0) (by unfold I64o; decide) (by unfold I64o; decide) (by unfold I64o; decide) (by unfold I64o; decide) (by unfold I64o; decide) (by unfold I64o; decide) w
          simpa using this
        go_wp2_with (fail)
        refine HND.out.mono ?_
        rintro e w6 ⟨rfl, hb6⟩
        have HT6 := Lib.hid (HT9.out.later hb6)
        have HR6 := Lib.hid (HR9.out.later hb6)
        have HB6 := Lib.hid (HBW.out.trans (hb6.mono HBW.out.size))
        clear hb6
        go_upto_region 21 with fail
        have hbx := (Below.refl w6.heap.size w6).alloc (Nat.le_refl _) (.cells #[.int .i64 0, .int .i64 0, .int .i64 0, .int .i64 0, .int .i64 0] 34)
        have HBX := Lib.hid (TBox.new w6 zT)
        have HT7 := Lib.hid (HT6.out.later hbx)
        have HR7 := Lib.hid (HR6.out.later hbx)
        have HB7 := Lib.hid (HB6.out.trans (hbx.mono HB6.out.size))
        clear hbx
        dsimp only [zT] at HBX
        generalize w6.alloc (.cells #[.int .i64 0, .int .i64 0, .int .i64 0, .int .i64 0, .int .i64 0] 34) = w7 at *
        have HBX := Lib.hid (show TBox w7 w6.heap.size zT from HBX.out)
        generalize w6.heap.size = xb at *
        have HSO := Lib.hid (sort_any i HT7.out (HT.out.later HB7.out))
        rw [HSV.out, HNB.out] at HSO
        go_wp2_with (fail)
        refine HSO.out.mono ?_
        rintro e w8 ⟨rfl, hb8⟩
        have HB8 := Lib.hid (HB7.out.trans (hb8.mono HB7.out.size))
        obtain ⟨x0, x1, x2, x3, x4⟩ := (HBX.out.later hb8).cells
        obtain ⟨r0, r1⟩ := (HR7.out.later hb8).cells
        dsimp only [zT] at x0 x1 x2 x3 x4
        clear hb8
        by_cases h0 : i < 0
        · have d0 : decide (i < 0) = true := by simpa using h0
          clear hi
          go_wp2_with (fail)
          go_ret
          exact ⟨rfl, HB8.out⟩
        · have d0 : decide (i < 0) = false := by simpa using h0
          have d1 : decide ((T.length : Int) ≤ i) = true := by simp; omega
          clear hi
          go_wp2_with (fail)
          go_ret
          exact ⟨rfl, HB8.out⟩
      · obtain ⟨q, rfl⟩ : ∃ q : Nat, i = (q : Int) := ⟨i.toNat, by omega⟩
        have hq : q < T.length := by omega
        have HND := Lib.hid (node_any (q : Int) HT9.out)
        have hnb := nodeB_in hq
        have HSV := Lib.hid (show sortV T (q : Int) = srt T[q].o by unfold sortV; rw [if_pos hnb.1, hnb.2])
        have HNB := Lib.hid hnb.1
        rw [hnb.1, hnb.2] at HND
        have HX := Lib.hid (HT9.out.tm _ (List.getElem_mem hq))
        have hop := HT9.out.tb.node hq
        have HRS := Lib.hid (fun w => r_result_any T[q].op w)
        rw [if_pos (And.intro hop.1 hop.2.1)] at HRS
        have HRS := Lib.hid (show ∀ w, Calls Tryd.prog 19 #[.int .i64 T[q].op] w fun e w' => e = .returned (.int .i64 (srt T[q].o)) ∧ w' = w from HRS.out)
        have HFQ := Lib.hid (fun w' (hb : Below wr.heap.size wr w') => (HF9.out.1.later hb).at hq)
        clear hnb hop
        generalize srt T[q].o = sv at *
        generalize T[q] = x at *
        go_wp2_with (fail)
        refine HND.out.mono ?_
        rintro e w6 ⟨rfl, hb6⟩
        have HW6 := Lib.hid hb6
        clear hb6
        go_upto_region 21 with fail
        have hbx := HW6.out.trans (((Below.refl w6.heap.size w6).alloc (Nat.le_refl _) (.cells #[.int .i64 x.op, .int .i64 x.v, .int .i64 x.a, .int .i64 x.b, .int .i64 x.c] 34)).mono HW6.out.size)
        have HW7 := Lib.hid hbx
        have HBX := Lib.hid (TBox.new w6 x)
        clear hbx
        generalize w6.alloc (.cells #[.int .i64 x.op, .int .i64 x.v, .int .i64 x.a, .int .i64 x.b, .int .i64 x.c] 34) = w7 at *
        generalize w6.heap.size = xb at *
        have HSO := Lib.hid (sort_any (q : Int) (HT9.out.later HW7.out) (HT.out.later (HBW.out.trans (HW7.out.mono HBW.out.size))))
        rw [HSV.out, HNB.out] at HSO
        go_wp2_with (fail)
        refine HSO.out.mono ?_
        rintro e w8 ⟨rfl, hb8⟩
        have HW8 := Lib.hid (HW7.out.trans (hb8.mono HW7.out.size))
        obtain ⟨x0, x1, x2, x3, x4⟩ := (HBX.out.later hb8).cells
        obtain ⟨r0, r1⟩ := (HR9.out.later HW8.out).cells
        obtain ⟨b0, off, hA, _, hc0⟩ := HFQ.out _ HW8.out
        subst hA
        have d0 := hc0.1
        have d1 := hc0.2.1
        have d2 := hc0.2.2.1
        have d3 := hc0.2.2.2.1
        have d4 := hc0.2.2.2.2
        have har : ∀ n, (Op.equalIn 9999 32 (.agg #[.int .i64 x.a, .int .i64 x.b, .int .i64 x.c]) (.agg #[.int .i64 x.a, .int .i64 x.b, .int .i64 x.c])).run Tryd.prog (w8.drewN n) = .ok true (w8.drewN n) := fun n => by
          have := arr_eq HX.out.a HX.out.b HX.out.c HX.out.a HX.out.b HX.out.c (w8.drewN n)
          simpa using this
        have n1 : ¬ T.length ≤ q := by omega
        have n2 : decide ((q : Int) < 0) = false := by simp
        clear hb8 hc0 hi
        go_wp2_with (fail)
        go_quiet ((go_at_call 19; exact Calls.quiet_of_same (HRS.out _)))
        go_wp2_with (fail)
        go_ret
        exact ⟨rfl, HBW.out.trans ((HW8.out.trans ((drewN_below w8 nq).mono HW8.out.size)).mono HBW.out.size)⟩
theorem law_makes (W : Int) (A : Option Addr) (c : Nat) (ns : List Tm) (i : Int) (w : World) (ht : TabS w) (ha : TOpn w A ns) : Calls Tryd.prog 3 #[.int .i64 W, .slice A ns.length c, .int .i64 i] w fun e w' => e = .returned (.bool true) ∧ Below w.heap.size w w' := by
  by_cases h : W < 2 ∨ 8 < W
  · exact makes_out W A c _ i w ht h
  · by_cases hn : ns.length ≤ 40
    · exact makes_in W A c ns i w ht ha.2.1 ha.2.2 hn h
    · exact makes_big W A c _ i w ht h (by omega)
end Go.Proofs.YtlnpgcdgpahdmaaDoor
