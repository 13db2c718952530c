/- What is proved: the law BitvecShares, over the example's contract. -/
import Derived.Test.YtlnpgcdgpahdmaaDoorBvBuild
import Derived.Test.YtlnpgcdgpahdmaaDoorBvHas
import Derived.Test.YtlnpgcdgpahdmaaDoorBvOpen
import Derived.Test.YtlnpgcdgpahdmaaDoorBvWrLaw
set_option linter.unusedVariables false
namespace Go.Proofs.YtlnpgcdgpahdmaaDoor
open Go.RowKit Go.Maps

theorem srtOf_mono {l : List Tm} {k : Nat} {a s : Int} (h : srtOf (l.take k) a = some s) : srtOf l a = some s := by
  unfold srtOf at h ⊢
  split
  · rename_i h0
    rw [if_pos h0] at h
    cases h
  · rename_i h0
    rw [if_neg h0] at h
    rw [Option.map_eq_some_iff] at h
    obtain ⟨t, ht, hs⟩ := h
    obtain ⟨hi, e⟩ := List.getElem?_eq_some_iff.1 ht
    rw [List.getElem_take] at e
    rw [List.length_take] at hi
    rw [List.getElem?_eq_getElem (by omega), e, Option.map_some, hs]
theorem argOk_mono {l : List Tm} {k n j : Nat} {s a : Int} (h : argOk (l.take k) n j s a = true) : argOk l n j s a = true := by
  unfold argOk at h ⊢
  split
  · rename_i h0
    rw [if_pos h0] at h
    simpa using srtOf_mono (by simpa using h)
  · rename_i h0
    rw [if_neg h0] at h
    exact h
theorem TbOk.full {W : Int} {l : List Tm} (h : TbOk W l) {i : Nat} (hi : i < l.length) : okB W l l[i] = true := by
  obtain ⟨h1, h2, h3, h4, h5, h6⟩ := okB_iff.1 (h.ok i hi)
  exact okB_iff.2 ⟨h1, h2, h3, argOk_mono h4, argOk_mono h5, argOk_mono h6⟩
theorem not_before {l : List Tm} (h : l.Nodup) {k : Nat} (hk : k < l.length) : l[k] ∉ l.take k := by
  intro hm
  obtain ⟨j, hj, e⟩ := List.getElem_of_mem hm
  rw [List.getElem_take] at e
  rw [List.length_take] at hj
  exact List.pairwise_iff_getElem.1 h j k (by omega) hk (by omega) e
section
variable {w : World} {n₀ tb mb : Nat} {rv : Value} {W : Int} {l : List Tm}
set_option maxRecDepth 100000 in
set_option maxHeartbeats 1000000 in
theorem make_old (k : Nat) (hk : k < l.length) (h : Tab w n₀ tb mb rv W l) (ht : TabS w) (hW : ¬ (W < 2 ∨ 8 < W)) : Calls Tryd.prog 14 #[.pointer (some ⟨tb, 0, none⟩), .agg #[.int .i64 (l[k]).op, .int .i64 (l[k]).v, .int .i64 (l[k]).a, .int .i64 (l[k]).b, .int .i64 (l[k]).c]] w fun e w' => e = .returned (.tuple #[.int .i64 (k : Int), .int .i64 0]) ∧ Below w.heap.size w w' := by
  have hx := h.tm _ (List.getElem_mem hk)
  have hok := h.tb.full hk
  have hi := idx_of h.tb.nd hk rfl
  generalize l[k] = x at *
  have hb1 := (Below.refl w.heap.size w).alloc (Nat.le_refl _) (.cells #[.int .i64 x.op, .int .i64 x.v, .int .i64 x.a, .int .i64 x.b, .int .i64 x.c] 34)
  have HB1 := Lib.hid hb1
  have HP := Lib.hid (possible_any x (h.later hb1) hx (ht.later hb1) hW)
  have HBX := Lib.hid (TBox.new w x)
  have HH := Lib.hid h
  have HX := Lib.hid hx
  rw [hok] at HP
  have HI := Lib.hid hi
  clear h hx ht hb1 hW hok hi
  go_enter Tryd.func14, Tryd.ntmps14
  go_wp2_with (fail)
  refine HP.out.mono ?_
  rintro e w2 ⟨rfl, hb2⟩
  have HB2 := Lib.hid (HB1.out.trans (hb2.mono HB1.out.size))
  have HBX2 := Lib.hid (HBX.out.later hb2)
  have HH2 := Lib.hid (HH.out.later HB2.out)
  have hlk : ∀ n, (Instr.lookup 66 (.map (some mb)) (.agg #[.int .i64 x.op, .int .i64 x.v, .int .i64 x.a, .int .i64 x.b, .int .i64 x.c]) true).run Tryd.prog (w2.drewN n) = .ok (.tuple #[.int .i64 (k : Int), .bool true]) (w2.drewN n) := fun n => by
    have := (HH2.out.later (drewN_below w2 n)).look HX.out
    rw [HI.out] at this
    exact this
  have c2 : w2.cell? ⟨tb, 2, none⟩ = some (.map (some mb)) := Lib.cell_of_heap HH2.out.box 2
  obtain ⟨x0, x1, x2, x3, x4⟩ := HBX2.out.cells
  clear hb2
  go_wp2_with (fail)
  go_quiet (fail)
  go_wp2_with (fail)
  go_ret2
  exact ⟨rfl, HB2.out.trans ((drewN_below w2 nq).mono HB2.out.size)⟩
end
set_option maxRecDepth 100000 in
set_option maxHeartbeats 4000000 in
theorem shares_big (W : Int) (A : Option Addr) (c n : Nat) (w : World) (ht : TabS w) (h : 40 < n) (hn : n ≤ 9223372036854775807) : Calls Tryd.prog 5 #[.int .i64 W, .slice A n c] w (VYes w) := by
  have HA := Lib.hid (awake_any w ht)
  have d : decide (40 < (n : Int)) = true := by simp; omega
  clear ht h hn
  go_enter Tryd.func5, Tryd.ntmps5
  go_wp2_with (fail)
  refine HA.out.mono ?_
  rintro e w1 ⟨rfl, hb1⟩
  have HB1 := Lib.hid hb1
  clear hb1
  go_wp2_with (fail)
  go_ret
  exact ⟨rfl, HB1.out⟩
set_option maxRecDepth 100000 in
set_option maxHeartbeats 4000000 in
theorem shares_out (W : Int) (A : Option Addr) (c n : Nat) (w : World) (ht : TabS w) (hn : n ≤ 40) (h : W < 2 ∨ 8 < W) : Calls Tryd.prog 5 #[.int .i64 W, .slice A n c] w (VYes w) := by
  have HA := Lib.hid (awake_any w ht)
  have d : decide (40 < (n : Int)) = false := by simp; omega
  have HIW := Lib.hid (fun w => r_isWidth_any W w)
  rw [wok_no h] at HIW
  clear ht h hn
  go_enter Tryd.func5, Tryd.ntmps5
  go_wp2_with (fail)
  refine HA.out.mono ?_
  rintro e w1 ⟨rfl, hb1⟩
  have HB1 := Lib.hid hb1
  clear hb1
  go_wp2_with (fail)
  refine (HIW.out _).mono ?_
  rintro e wx ⟨rfl, hx⟩
  obtain rfl := hx.symm
  go_wp2_with (fail)
  go_ret
  exact ⟨rfl, HB1.out⟩
set_option maxRecDepth 100000 in
set_option maxHeartbeats 8000000 in
theorem shares_in (W : Int) (A : Option Addr) (c : Nat) (ns : List Tm) (w : World) (ht : TabS w) (hr : TRow w A ns) (hok : ∀ x ∈ ns, TmOk x) (hn : ns.length ≤ 40) (h : ¬ (W < 2 ∨ 8 < W)) : Calls Tryd.prog 5 #[.int .i64 W, .slice A ns.length c] w (VYes w) := by
  have HA := Lib.hid (awake_any w ht)
  have d : decide (40 < (ns.length : Int)) = false := by simp; omega
  have HIW := Lib.hid (fun w => r_isWidth_any W w)
  rw [wok_yes h] at HIW
  have HT := Lib.hid ht
  have HWW := Lib.hid h
  have hlen := (bld_ok W ns ns.length (Nat.le_refl _)).2
  rw [List.take_length] at hlen
  have HBU := Lib.hid (fun w1 (hb : Below w.heap.size w w1) => build_any W A c ns w1 (ht.later hb) h (hr.later hb) hok (by omega))
  clear ht h hr hok
  generalize bldL W ns = T at *
  have d2 : decide ((ns.length : Int) < (T.length : Int)) = false := by simp; omega
  go_enter Tryd.func5, Tryd.ntmps5
  go_wp2_with (fail)
  refine HA.out.mono ?_
  rintro e w1 ⟨rfl, hb1⟩
  have HB1 := Lib.hid hb1
  clear hb1
  go_wp2_with (fail)
  refine (HIW.out _).mono ?_
  rintro e wx ⟨rfl, hx⟩
  obtain rfl := hx.symm
  go_wp2_with (fail)
  refine (HBU.out _ HB1.out).mono ?_
  rintro e w2 ⟨tb, mb, rv, rfl, htb, hb2⟩
  have HB2 := Lib.hid (HB1.out.trans (hb2.mono HB1.out.size))
  have HTB := Lib.hid htb
  have HL := Lib.hid (len_any htb)
  clear hb2 htb
  go_wp2_with (fail)
  refine HL.out.mono ?_
  rintro e wx ⟨rfl, hx⟩
  obtain rfl := hx.symm
  obtain ⟨nb, HNB⟩ : ∃ nb, Hid (nb = w2.heap.size) := ⟨_, Lib.hid rfl⟩
  have HNIL := Lib.hid (show TOwn w2 nb (.slice none 0 0) (T.take 0) from World.ownsRow_nil _ _ _ _)
  have HBR := Lib.hid (Below.refl nb w2)
  go_wp2_with (fail)
  go_loopw [7, 33] (fun v jv wr => ∃ (k : Nat), k ≤ T.length ∧ jv = .int .i64 (k : Int) ∧ Hid (TOwn wr nb v (T.take k)) ∧ Hid (Below nb w2 wr)) (fun _ jv _ => T.length - (intOf jv).toNat)
  case atStart => exact ⟨0, Nat.zero_le _, rfl, HNIL, HBR⟩
  case round =>
    obtain ⟨k, hk, rfl, hz, hbw⟩ := hrel
    have HSZ := Lib.hid (show nb ≤ wr.heap.size by have := hbw.out.size; rw [HNB.out]; exact this)
    have HBW := Lib.hid (show Below w2.heap.size w2 wr by rw [← HNB.out]; exact hbw.out)
    have HTW := Lib.hid (HTB.out.later HBW.out)
    have HB3 := Lib.hid (HB2.out.trans (HBW.out.mono HB2.out.size))
    by_cases hlt : k < T.length
    · have HND := Lib.hid (node_any (k : Int) HTW.out)
      rw [(nodeB_in hlt).1, (nodeB_in hlt).2] at HND
      have HMK := Lib.hid (fun w5 (hb : Below wr.heap.size wr w5) => make_old k hlt (HTW.out.later hb) (HT.out.later (HB3.out.trans (hb.mono HB3.out.size))) HWW.out)
      have HX := Lib.hid (HTB.out.tm _ (List.getElem_mem hlt))
      have HNOT := Lib.hid (not_before HTB.out.tb.nd hlt)
      have HOKT := Lib.hid (show ∀ y ∈ T.take k, TmOk y from fun y hy => HTB.out.tm y (List.mem_of_mem_take hy))
      have HTK := Lib.hid (List.take_succ_eq_append_getElem hlt)
      have hfew := HTB.out.few
      have hlk : (T.take k).length = k := by rw [List.length_take]; omega
      obtain ⟨_, _, _, n4, n5, n6⟩ := HTB.out.tb.node hlt
      have n7 : T[k].a = (k : Int) → k = 0 := fun e => by
        obtain ⟨_, _, _, g4, _, _⟩ := okB_iff.1 (HTB.out.tb.ok k hlt)
        have := arg_lt g4
        rw [hlk] at this
        omega
      generalize T[k] = x at *
      have da : decide ((k : Int) < x.a) = false := by simp; omega
      have db : decide ((k : Int) < x.b) = false := by simp; omega
      have dc : decide ((k : Int) < x.c) = false := by simp; omega
      obtain ⟨q, hq⟩ : ∃ q, (x.a == (k : Int)) = q := ⟨_, rfl⟩
      have dq : q = true → decide (0 < (k : Int)) = false := fun e => by
        rw [e] at hq
        have := n7 (by simpa using hq)
        simp
        omega
      have DQ := Lib.hid dq
      obtain ⟨A', c', hv, _, hrow, _⟩ := hz.out.form
      have HROW := Lib.hid hrow
      have HZ := Lib.hid hz.out
      rw [hlk] at hv
      subst hv
      clear hrow n4 n5 n6 n7 dq hbw hz
      go_wp2_with (fail)
      refine HND.out.mono ?_
      rintro e w3 ⟨rfl, hb3⟩
      have HW3 := Lib.hid hb3
      clear hb3
      go_upto_region 14 with fail
      have HBX := Lib.hid (TBox.new w3 x)
      have HW4 := Lib.hid (HW3.out.trans (((Below.refl w3.heap.size w3).alloc (Nat.le_refl _) (.cells #[.int .i64 x.op, .int .i64 x.v, .int .i64 x.a, .int .i64 x.b, .int .i64 x.c] 34)).mono HW3.out.size))
      generalize w3.alloc (.cells #[.int .i64 x.op, .int .i64 x.v, .int .i64 x.a, .int .i64 x.b, .int .i64 x.c] 34) = w4 at *
      generalize w3.heap.size = xb at *
      obtain ⟨x0, x1, x2, x3, x4⟩ := HBX.out.cells
      go_wp2_with (fail)
      refine (HMK.out _ HW4.out).mono ?_
      rintro e w5 ⟨rfl, hb5⟩
      have HW5 := Lib.hid (HW4.out.trans (hb5.mono HW4.out.size))
      have HBX5 := Lib.hid (HBX.out.later hb5)
      have HCN := Lib.hid (contains_not A' c' (T.take k) x w5 (HROW.out.later HW5.out) HOKT.out HX.out HNOT.out (by omega))
      rw [hlk] at HCN
      clear hb5 x0 x1 x2 x3 x4
      obtain ⟨x0, x1, x2, x3, x4⟩ := HBX5.out.cells
      go_wp2_with (fail)
      refine HCN.out.mono ?_
      rintro e w6 ⟨rfl, hb6⟩
      have HW6 := Lib.hid (HW5.out.trans (hb6.mono HW5.out.size))
      have HBX6 := Lib.hid (HBX5.out.later hb6)
      clear hb6 x0 x1 x2 x3 x4
      obtain ⟨x0, x1, x2, x3, x4⟩ := HBX6.out.cells
      obtain ⟨i0, hi0, hz0, hz1, hz2⟩ := info_parts infoTm
      have HZ6 := Lib.hid (show TOwn w6 nb (.slice A' k c') (T.take k) from own_stays HZ.out fun b e => HW6.out.block b (own_block' HZ.out e).2.1)
      have HOK6 := Lib.hid (show ∀ b, Value.ownBlock (.slice A' k c') = some b → nb ≤ b from fun b e => (own_block' HZ6.out e).1)
      have HSZ6 := Lib.hid (show nb ≤ w6.heap.size from Nat.le_trans HSZ.out HW6.out.size)
      have HOA := Lib.hid (show (w6.alloc (.cells #[.int .i64 x.op, .int .i64 x.v, .int .i64 x.a, .int .i64 x.b, .int .i64 x.c] 34)).ownsRow nb 34 5 (.slice A' k c') k (tcl (T.take k)) by have := HZ6.out; unfold TOwn at this; rw [hlk] at this; exact World.ownsRow.alloc this _)
      have HNB2 := Lib.hid (show ∀ (j : Nat) (u : Value), (tcs x)[j]? = some u → (w6.alloc (.cells #[.int .i64 x.op, .int .i64 x.v, .int .i64 x.a, .int .i64 x.b, .int .i64 x.c] 34)).cell? ((⟨w6.heap.size, 0, none⟩ : Addr).add j) = some u from World.news_of_block (cs := #[.int .i64 x.op, .int .i64 x.v, .int .i64 x.a, .int .i64 x.b, .int .i64 x.c]) (heap_alloc_new w6 _))
      have HB6 := Lib.hid (show Below nb w2 w6 by rw [HNB.out]; exact HBW.out.trans (HW6.out.mono HBW.out.size))
      cases q with
      | false =>
        go_wp2_with (at_builtin; refine wpList_append_own _ rfl _ _ 22 rfl nb 34 i0 _ 5 40 Tryd.underlying22 hi0 hz0 hz1 hz2 rfl (by decide) _ _ _ rfl HOA.out ⟨w6.heap.size, 0, none⟩ 1 1 (tcs x) rfl rfl HNB2.out (tcs_one x) ?c3 ?c4 ?c5 ?_)
        case c3 => unfold maxLen; omega
        case c4 => omega
        case c5 => have := HSZ6.out; simp; omega
        intro v' w7 hown' hgrow _
        have HZ7 := Lib.hid (show TOwn w7 nb v' (T.take (k + 1)) by
          unfold TOwn
          rw [HTK.out, tcl_append, List.length_append, hlk]
          exact hown')
        have HB7 := Lib.hid (HB6.out.trans (((Below.refl w6.heap.size w6).alloc (Nat.le_refl _) (.cells #[.int .i64 x.op, .int .i64 x.v, .int .i64 x.a, .int .i64 x.b, .int .i64 x.c] 34)).mono HSZ6.out) |>.grown hgrow (by have := HSZ6.out; simp; omega) (fun b e => HOK6.out b e))
        clear hown' hgrow
        go_wp2_with (fail)
        go_simp
        exact ⟨⟨u4, v', _, _, _, _, _, .int .i64 ((k : Int) + 1), ⟨k + 1, by omega, by go_num, HZ7⟩, rfl, rfl, rfl, rfl, rfl, rfl, rfl, rfl⟩, by simp [intOf]; omega⟩
      | true =>
        have dk := DQ.out rfl
        have dk1 : ¬ 0 < k := by simpa using dk
        have dk2 : decide (0 < k) = false := by simpa using dk1
        go_wp2_with (at_builtin; refine wpList_append_own _ rfl _ _ 22 rfl nb 34 i0 _ 5 40 Tryd.underlying22 hi0 hz0 hz1 hz2 rfl (by decide) _ _ _ rfl HOA.out ⟨w6.heap.size, 0, none⟩ 1 1 (tcs x) rfl rfl HNB2.out (tcs_one x) ?c3 ?c4 ?c5 ?_)
        case c3 => unfold maxLen; omega
        case c4 => omega
        case c5 => have := HSZ6.out; simp; omega
        intro v' w7 hown' hgrow _
        have HZ7 := Lib.hid (show TOwn w7 nb v' (T.take (k + 1)) by
          unfold TOwn
          rw [HTK.out, tcl_append, List.length_append, hlk]
          exact hown')
        have HB7 := Lib.hid (HB6.out.trans (((Below.refl w6.heap.size w6).alloc (Nat.le_refl _) (.cells #[.int .i64 x.op, .int .i64 x.v, .int .i64 x.a, .int .i64 x.b, .int .i64 x.c] 34)).mono HSZ6.out) |>.grown hgrow (by have := HSZ6.out; simp; omega) (fun b e => HOK6.out b e))
        clear hown' hgrow
        go_wp2_with (fail)
        go_simp
        exact ⟨⟨u4, v', _, _, _, _, _, .int .i64 ((k : Int) + 1), ⟨k + 1, by omega, by go_num, HZ7⟩, rfl, rfl, rfl, rfl, rfl, rfl, rfl, rfl⟩, by simp [intOf]; omega⟩
    · obtain rfl : k = T.length := by omega
      have HLN := Lib.hid (len_any HTW.out)
      go_wp2_with (fail)
      refine HLN.out.mono ?_
      rintro e wx ⟨rfl, hx⟩
      obtain rfl := hx.symm
      go_wp2_with (fail)
      go_ret
      exact ⟨by simp, HB3.out⟩
theorem law_shares (W : Int) (A : Option Addr) (c : Nat) (ns : List Tm) (w : World) (ht : TabS w) (ha : TOpn w A ns) : Calls Tryd.prog 5 #[.int .i64 W, .slice A ns.length c] w fun e w' => e = .returned (.bool true) ∧ Below w.heap.size w w' := by
  by_cases hn : ns.length ≤ 40
  · by_cases h : W < 2 ∨ 8 < W
    · exact shares_out W A c _ w ht hn h
    · exact shares_in W A c ns w ht ha.2.1 ha.2.2 hn h
  · exact shares_big W A c _ w ht (by omega) ha.1
end Go.Proofs.YtlnpgcdgpahdmaaDoor
