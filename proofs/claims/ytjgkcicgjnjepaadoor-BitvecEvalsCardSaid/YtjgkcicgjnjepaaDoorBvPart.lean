/- What is proved: parts of bitvec's tables: the nodes of a node in increasing order; Size. -/
import Derived.Test.YtjgkcicgjnjepaaDoorBvEv
import Derived.Test.YtjgkcicgjnjepaaDoorBvPoss
import Derived.Test.YtjgkcicgjnjepaaDoorBvSl
set_option linter.unusedVariables false
namespace Go.Proofs.YtjgkcicgjnjepaaDoor
open Go.RowKit Go.Maps

theorem grown_trans {a b c : World} {x : Option Nat} (h : a.grownBy b x) (k : b.grownBy c x) : a.grownBy c x :=
  ⟨k.os.trans h.os, k.tape.trans h.tape, k.output.trans h.output, Nat.le_trans h.size k.size, fun i hi hne => (k.block i (Nat.lt_of_lt_of_le hi h.size) hne).trans (h.block i hi hne)⟩
theorem grown_set (w : World) (b i : Nat) (v : Value) : w.grownBy (w.setCell ⟨b, i, none⟩ v) (some b) :=
  ⟨rfl, rfl, rfl, by simp [World.setCell], fun k _ hne => Below.heap_setCell w ⟨b, i, none⟩ v k (fun e => hne (by rw [e]))⟩
theorem grown_below {w w' : World} (h : Below w.heap.size w w') (x : Option Nat) : w.grownBy w' x := ⟨h.os, h.tape, h.output, h.size, fun k hk _ => h.block k hk⟩
theorem args_len (x : Tm) : x.args.length = cnt x.o := by
  unfold Tm.args
  rw [List.length_take]
  have := cnt_le x.o
  simp
  omega
theorem args_get (x : Tm) {j : Nat} (hj : j < x.args.length) : x.args[j] = (x.arg j).toNat := by
  have h3 := cnt_le x.o
  have hj2 : j < cnt x.o := by rw [args_len] at hj; exact hj
  have e : x.args[j]? = some (x.arg j).toNat := by
    unfold Tm.args
    rw [List.getElem?_take, if_pos hj2]
    have : j = 0 ∨ j = 1 ∨ j = 2 := by omega
    rcases this with rfl | rfl | rfl <;> rfl
  exact (List.getElem?_eq_some_iff.1 e).2
/-- the marks while the arguments of a node are marked -/
def mkJ (l : List Tm) (i r : Nat) (x : Tm) (j : Nat) : Nat → Bool := fun k => mkS l i r k || (x.args.take j).contains k
theorem mkJ_zero (l : List Tm) (i r : Nat) (x : Tm) : mkJ l i r x 0 = mkS l i r := by
  funext k
  simp [mkJ]
theorem mkJ_succ (l : List Tm) (i r : Nat) (x : Tm) {j : Nat} (hj : j < cnt x.o) : setB (mkJ l i r x j) (x.arg j).toNat = mkJ l i r x (j + 1) := by
  funext k
  have hj2 : j < x.args.length := by rw [args_len]; exact hj
  unfold setB mkJ
  rw [List.take_succ_eq_append_getElem hj2, args_get x hj2]
  by_cases e : k = (x.arg j).toNat
  · rw [if_pos e]
    simp [e]
  · rw [if_neg e]
    simp [e]
theorem mkJ_end {l : List Tm} {i r k : Nat} (hk : k < l.length) (hr : i - r = k) (hm : mkS l i r k = true) : mkJ l i r l[k] (cnt l[k].o) = mkS l i (r + 1) := by
  funext q
  unfold mkJ
  simp only [mkS]
  rw [hr, hm, argsAt_eq hk, List.take_of_length_le (by rw [args_len]; exact Nat.le_refl _), Bool.true_and]
theorem mkS_skip {l : List Tm} {i r : Nat} (hm : mkS l i r (i - r) = false) : mkS l i (r + 1) = mkS l i r := by
  funext q
  simp only [mkS]
  rw [hm, Bool.false_and, Bool.or_false]
/-- what is collected behind r rounds -/
def accN (l : List Tm) (i r : Nat) : List Nat := ((List.range r).map (fun s => i - s)).filter (mrk l i)
theorem acc_succ (l : List Tm) (i r : Nat) : accN l i (r + 1) = accN l i r ++ (if mrk l i (i - r) = true then [i - r] else []) := by
  unfold accN
  rw [List.range_succ, List.map_append, List.filter_append]
  congr 1
  simp only [List.map_cons, List.map_nil, List.filter_cons, List.filter_nil]
theorem acc_len (l : List Tm) (i r : Nat) : (accN l i r).length ≤ r := by
  unfold accN
  have := List.length_filter_le (mrk l i) ((List.range r).map (fun s => i - s))
  simpa using this
def prt (l : List Tm) (i : Nat) : List Nat := (List.range (i + 1)).filter (mrk l i)
theorem acc_end (l : List Tm) (i : Nat) : (accN l i (i + 1)).reverse = prt l i := by
  unfold accN prt
  rw [← List.filter_reverse]
  congr 1
  apply List.ext_getElem
  · simp
  · intro j h1 h2
    simp at h1 h2 ⊢
    omega
theorem zl_reverse (l : List Nat) : (zl l).reverse = zl l.reverse := by simp [zl]
/-- what parts returns: nothing, or the nodes of a node -/
def prtZ (l : List Tm) (i : Int) : List Nat := if 0 ≤ i ∧ i < (l.length : Int) then prt l i.toNat else []

theorem barr_first (w : World) (n i : Nat) : BArr (w.alloc (.cells ((hdr (fun _ => .bool false) n).setIfInBounds i (.bool true)) 4)) w.heap.size n (fun k => decide (k = i)) := by
  refine ⟨_, heap_alloc_new w _, by simp [hdr], fun v hv => ?_⟩
  rw [hdr_set, hdr_get _ hv]
  by_cases e : v = i <;> simp [e]
section
variable {w : World} {n₀ tb mb : Nat} {rv : Value} {W : Int} {l : List Tm}
theorem parts_out (i : Int) (h : Tab w n₀ tb mb rv W l) (hi : i < 0 ∨ (l.length : Int) ≤ i) : Calls Tryd.prog 24 #[.pointer (some ⟨tb, 0, none⟩), .int .i64 i] w fun e w' => e = .returned (.slice none 0 0) ∧ w' = w := by
  obtain ⟨A, c, rfl, _⟩ := h.form
  have c1 : w.cell? ⟨tb, 1, none⟩ = some (.slice A l.length c) := Lib.cell_of_heap h.box 1
  clear h
  by_cases h0 : i < 0
  · clear hi
    go_enter Tryd.func24, Tryd.ntmps24
    go_wp2_with (fail)
    go_ret
    exact ⟨rfl, rfl⟩
  · have h1 : (l.length : Int) ≤ i := by omega
    have d0 : decide (i < 0) = false := by simpa using h0
    have d1 : decide ((l.length : Int) ≤ i) = true := by simpa using h1
    clear hi
    go_enter Tryd.func24, Tryd.ntmps24
    go_wp2_with (fail)
    go_ret
    exact ⟨rfl, rfl⟩
set_option maxRecDepth 100000 in
set_option maxHeartbeats 2000000 in
theorem parts_in (i : Nat) (h : Tab w n₀ tb mb rv W l) (ht : TabS w) (hi : i < l.length) : Calls Tryd.prog 24 #[.pointer (some ⟨tb, 0, none⟩), .int .i64 (i : Int)] w fun e w' => ∃ v, e = .returned v ∧ ZOwn w' w.heap.size v (zl (prt l i)) ∧ Below w.heap.size w w' := by
  obtain ⟨A, c, hrv, hlc, hrow, hown⟩ := h.form
  clear hown
  have HRV := Lib.hid hrv
  have c1 : w.cell? ⟨tb, 1, none⟩ = some (.slice A l.length c) := by rw [← hrv]; exact Lib.cell_of_heap h.box 1
  have HH := Lib.hid h
  have HT := Lib.hid ht
  have HROW := Lib.hid hrow
  have hfew := h.few
  have HTB := Lib.hid h.tb
  have d0 : decide ((i : Int) < 0) = false := by simp
  have d1 : decide ((l.length : Int) ≤ (i : Int)) = false := by simp; omega
  have hnle : ¬ l.length ≤ i := by omega
  have hw1 : IntKind.i64.wrap ((i : Int) + 1) = (i : Int) + 1 := w64 (by omega)
  have hmk := do_make_bl (i + 1) (by omega)
  rw [show (((i + 1 : Nat) : Int)) = (i : Int) + 1 by omega] at hmk
  have HB0 := Lib.hid (BArr.new w (i + 1))
  have hb0 := HB0.out.frz i
  have hbc := HB0.out.cell (show i < i + 1 by omega)
  have HS0 := Lib.hid (barr_first w (i + 1) i)
  have HW1 := Lib.hid ((Below.refl w.heap.size w).alloc (Nat.le_refl _) (.cells ((hdr (fun _ => .bool false) (i + 1)).setIfInBounds i (.bool true)) 4))
  have HZ1 := Lib.hid (show w.heap.size + 1 ≤ (w.alloc (.cells ((hdr (fun _ => .bool false) (i + 1)).setIfInBounds i (.bool true)) 4)).heap.size by simp)
  clear h ht hrow hrv hlc
  go_enter Tryd.func24, Tryd.ntmps24
  go_wp2_with (fail)
  have HS1 := Lib.hid (show BArr _ w.heap.size (i + 1) (mkS l i 0) from HS0.out)
  clear hmk HS0 d0 d1 hw1 c1 hb0 hbc HB0
  generalize w.alloc (.cells ((hdr (fun _ => .bool false) (i + 1)).setIfInBounds i (.bool true)) 4) = w1 at *
  obtain ⟨nb, HNB⟩ : ∃ nb, Hid (nb = w.heap.size) := ⟨_, Lib.hid rfl⟩
  have HW1 := Lib.hid (show Below nb w w1 by rw [HNB.out]; exact HW1.out)
  have HS1 := Lib.hid (show BArr w1 nb (i + 1) (mkS l i 0) by rw [HNB.out]; exact HS1.out)
  have HZ1 := Lib.hid (show nb + 1 ≤ w1.heap.size by rw [HNB.out]; exact HZ1.out)
  have HNIL := Lib.hid (show ZOwn w1 (nb + 1) (.slice none 0 0) (zl (accN l i 0)) from World.ownsRow_nil _ _ _ _)
  rw [← HNB.out]
  go_loopw [6, 7] (fun v kv wr => ∃ (r : Nat) (q : Int), r ≤ i + 1 ∧ kv = .int .i64 q ∧ Hid (q = (i : Int) - (r : Int)) ∧ Hid (ZOwn wr (nb + 1) v (zl (accN l i r))) ∧ Hid (BArr wr nb (i + 1) (mkS l i r)) ∧ Hid (Below nb w wr) ∧ Hid (nb + 1 ≤ wr.heap.size)) (fun _ kv _ => (intOf kv + 1).toNat)
  case atStart => exact ⟨0, (i : Int), Nat.zero_le _, rfl, Lib.hid (by simp), HNIL, HS1, HW1, HZ1⟩
  case round =>
    obtain ⟨r, q, hr, rfl, hq, hz, hbr, hbw, hsz⟩ := hrel
    by_cases hlt : r ≤ i
    · obtain ⟨k, rfl⟩ : ∃ k : Nat, q = (k : Int) := ⟨q.toNat, by have := hq.out; omega⟩
      have hk : i - r = k := by have := hq.out; omega
      have hki : k < i + 1 := by omega
      have hkl : k < l.length := by omega
      have HK := Lib.hid hk
      have q1 := hbr.out.cell hki
      have hwk : IntKind.i64.wrap ((k : Int) - 1) = (k : Int) - 1 := w64 (by omega)
      have hset := mkS_set HTB.out hi (k := k) (i + 1) r (by omega) (Nat.le_refl _) (by omega)
      cases hm : mkS l i r k with
      | false =>
        rw [hm] at q1
        have HACC := Lib.hid (show accN l i (r + 1) = accN l i r by
          rw [acc_succ, hk, show mrk l i k = false from hset.trans hm, if_neg (by decide), List.append_nil])
        have HMK := Lib.hid (mkS_skip (l := l) (i := i) (r := r) (by rw [hk]; exact hm))
        have HQ := Lib.hid (show (k : Int) - 1 = (i : Int) - ((r + 1 : Nat) : Int) by omega)
        clear hset hm hk hq
        go_wp2_with (fail)
        exact ⟨⟨r + 1, (k : Int) - 1, by omega, rfl, HQ, Lib.hid (by rw [HACC.out]; exact hz.out), Lib.hid (by rw [HMK.out]; exact hbr.out), hbw, hsz⟩, by simp [intOf]⟩
      | true =>
        rw [hm] at q1
        have HACC := Lib.hid (show zl (accN l i (r + 1)) = zl (accN l i r) ++ [(k : Int)] by
          rw [acc_succ, hk, show mrk l i k = true from hset.trans hm, if_pos rfl, zl_append]; rfl)
        have HM := Lib.hid hm
        have HQ := Lib.hid (show (k : Int) - 1 = (i : Int) - ((r + 1 : Nat) : Int) by omega)
        have hal := acc_len l i r
        have hzl := zl_len (accN l i r)
        obtain ⟨i0, hi0, hz0, hz1, hz2⟩ := info_parts infoInt
        have HOK := Lib.hid hz.out.lt
        clear hset hm hk hq
        go_wp2_with (at_builtin; refine wpList_append_own _ rfl _ _ 23 rfl (nb + 1) 3 i0 _ 1 8 Tryd.underlying23 hi0 hz0 hz1 hz2 rfl (by decide) _ _ _ rfl (hz.out.alloc _) ⟨wr.heap.size, 0, none⟩ 1 1 [.int .i64 (k : Int)] rfl rfl ?c1 ?c2 ?c3 ?c4 ?c5 ?_)
        case c1 => exact World.news_of_block (cs := #[.int .i64 (k : Int)]) (heap_alloc_new wr _)
        case c2 => intro u hu; simp at hu; subst hu; rfl
        case c3 => unfold maxLen; omega
        case c4 => omega
        case c5 => have := hsz.out; simp; omega
        intro v' w4 hown' hgrow _
        have HZ4 := Lib.hid (show ZOwn w4 (nb + 1) v' (zl (accN l i (r + 1))) by
          show w4.ownsRow _ _ _ _ _ _
          rw [HACC.out, zcells_append, List.length_append, zl_len]
          exact hown')
        have hs4 := hgrow.size
        have hal4 : (wr.alloc (.cells #[.int .i64 (k : Int)] 3)).heap.size = wr.heap.size + 1 := by simp
        have HB4 := Lib.hid (hbw.out.trans (((Below.refl wr.heap.size wr).alloc (Nat.le_refl _) (.cells #[.int .i64 (k : Int)] 3)).mono (by have := hsz.out; omega : nb ≤ wr.heap.size) |>.grown hgrow (by have := hsz.out; rw [hal4]; omega) (fun b e => by have := (HOK.out b e).1; omega)))
        have HBR4 := Lib.hid (show BArr w4 nb (i + 1) (mkS l i r) from hbr.out.eq ((hgrow.block nb (by have := hsz.out; omega) (fun e => by have := (HOK.out nb e.symm).1; omega)).trans (heap_alloc_old _ _ (by have := hsz.out; omega))))
        have HSZ4 := Lib.hid (show nb + 1 ≤ w4.heap.size by have := hsz.out; omega)
        have HTR4 := Lib.hid (HH.out.later (show Below w.heap.size w w4 by rw [← HNB.out]; exact HB4.out))
        have HTS4 := Lib.hid (HT.out.later (show Below w.heap.size w w4 by rw [← HNB.out]; exact HB4.out))
        clear hown' hgrow hs4 hal4 q1
        have c1 : w4.cell? ⟨tb, 1, none⟩ = some (.slice A l.length c) := by rw [← HRV.out]; exact Lib.cell_of_heap HTR4.out.box 1
        obtain ⟨b0, off, hA, hb0, hc0⟩ := (HROW.out.later (show Below w.heap.size w w4 by rw [← HNB.out]; exact HB4.out)).at hkl
        obtain ⟨o1, o2, _⟩ := HTB.out.node hkl
        have HEND := Lib.hid (mkJ_end hkl HK.out HM.out)
        have HJS := Lib.hid (fun j (hj : j < cnt l[k].o) => mkJ_succ l i r l[k] hj)
        have HJ0 := Lib.hid (mkJ_zero l i r l[k])
        have HAL := Lib.hid (show ∀ j, j < cnt l[k].o → ∃ a : Nat, l[k].arg j = (a : Int) ∧ a < i + 1 from fun j hj => by
          obtain ⟨_, _, _, h4, h5, h6⟩ := okB_iff.1 (HTB.out.ok k hkl)
          have h3 := cnt_le l[k].o
          have : j = 0 ∨ j = 1 ∨ j = 2 := by omega
          rcases this with rfl | rfl | rfl
          · obtain ⟨q0, q1, _⟩ := arg_need hj h4
            rw [List.length_take] at q1
            exact ⟨l[k].a.toNat, by show l[k].a = _; omega, by omega⟩
          · obtain ⟨q0, q1, _⟩ := arg_need hj h5
            rw [List.length_take] at q1
            exact ⟨l[k].b.toNat, by show l[k].b = _; omega, by omega⟩
          · obtain ⟨q0, q1, _⟩ := arg_need hj h6
            rw [List.length_take] at q1
            exact ⟨l[k].c.toNat, by show l[k].c = _; omega, by omega⟩)
        generalize l[k] = x at *
        obtain ⟨d0, d1, d2, d3, d4⟩ := hc0
        have hop := (o_lt o1 o2).2
        have ho := (o_lt o1 o2).1
        subst hA
        have hdk : decide ((k : Int) < 0) = false := by simp
        clear HZ1 HS1 HW1 HNIL o1 o2 hzl
        go_upto_region 12 with fail
        have HBX := Lib.hid (show TBox (w4.alloc (.cells #[.int .i64 (x.o : Int), .int .i64 x.v, .int .i64 x.a, .int .i64 x.b, .int .i64 x.c] 46)) w4.heap.size x from by have := TBox.new w4 x; rw [hop] at this; exact this)
        have HW5 := Lib.hid ((Below.refl w4.heap.size w4).alloc (Nat.le_refl _) (.cells #[.int .i64 (x.o : Int), .int .i64 x.v, .int .i64 x.a, .int .i64 x.b, .int .i64 x.c] 46))
        clear c1 d0 d1 d2 d3 d4 hb0 hdk
        generalize w4.alloc (.cells #[.int .i64 (x.o : Int), .int .i64 x.v, .int .i64 x.a, .int .i64 x.b, .int .i64 x.c] 46) = w5 at *
        have HOP := Lib.hid hop
        obtain ⟨x0, x1, x2, x3, x4⟩ := HBX.out.cells
        rw [hop] at x0
        obtain ⟨t0, t1, t2, t3, t4⟩ := HTS4.out.later HW5.out x.o ho
        have hs := slice3 w4.heap.size (cnt x.o) (cnt_le x.o)
        have HX4 := Lib.hid (show nb + 1 ≤ w4.heap.size from HSZ4.out)
        have HXL := Lib.hid (show w4.heap.size < w5.heap.size from Go.Proofs.YtjgkcicgjnjepaaDoor.hlt HBX.out)
        have HBR5 := Lib.hid (HBR4.out.later HW5.out)
        have HC3 := Lib.hid (cnt_le x.o)
        have HB5 := Lib.hid (HB4.out.trans (HW5.out.mono (by have := HSZ4.out; omega)))
        have HZ5 := Lib.hid (HZ4.out.later HW5.out)
        clear hop t0 t2 t3 t4
        generalize w4.heap.size = xb at *
        go_wp2_with (fail)
        go_loopw [57] (fun jv ws => ∃ j : Nat, j ≤ cnt x.o ∧ jv = .int .i64 (j : Int) ∧ Hid (BArr ws nb (i + 1) (mkJ l i r x j)) ∧ Hid (w5.grownBy ws (some nb))) (fun jv _ => cnt x.o - (intOf jv).toNat)
        case atStart => exact ⟨0, Nat.zero_le _, rfl, Lib.hid (by rw [HJ0.out]; exact HBR5.out), Lib.hid (World.grownBy.refl _ _)⟩
        case round =>
          obtain ⟨j, hj, rfl, hbj, hgj⟩ := hrel
          by_cases hlj : j < cnt x.o
          · obtain ⟨a, ha, hai⟩ := HAL.out j hlj
            have hj3 : j < 3 := by have := HC3.out; omega
            have q2 := HBX.out.arg hj3
            rw [ha] at q2
            have q3 : wr.cell? ⟨xb, 2 + j, none⟩ = some (.int .i64 (a : Int)) := (World.cell?_of_block (a := ⟨xb, 2 + j, none⟩) (hgj.out.block xb HXL.out (fun e => by have := HX4.out; injection e with e; omega))).trans q2
            have q4 := hbj.out.cell hai
            have q5 := hbj.out.frz a
            have HJS2 := Lib.hid (HJS.out j hlj)
            rw [ha, Int.toNat_natCast] at HJS2
            have HJ2 := Lib.hid (hbj.out.set hai)
            rw [HJS2.out] at HJ2
            have HG2 := Lib.hid (grown_trans hgj.out (grown_set wr nb a (.bool true)))
            have hda : decide ((a : Int) < 0) = false := by simp
            clear q2 ha
            generalize mkJ l i r x j = mf at *
            go_wp2_with (fail)
            exact ⟨⟨j + 1, by omega, by go_num, HJ2, HG2⟩, by simp [intOf]; omega⟩
          · obtain rfl : j = cnt x.o := by omega
            have HBE := Lib.hid (show BArr wr nb (i + 1) (mkS l i (r + 1)) by rw [← HEND.out]; exact hbj.out)
            have HZE := Lib.hid (show ZOwn wr (nb + 1) v' (zl (accN l i (r + 1))) from own_stays HZ5.out fun b e => hgj.out.block b (own_block' HZ5.out e).2.1 (fun e2 => by have := (own_block' HZ5.out e).1; injection e2 with e2; omega))
            have HWE := Lib.hid (HB5.out.grown hgj.out (by have := HX4.out; have := HXL.out; omega) (fun b e => by injection e with e; omega))
            have hsz' := hgj.out.size
            have HSE := Lib.hid (show nb + 1 ≤ wr.heap.size by have := HX4.out; have := HXL.out; omega)
            clear hsz'
            go_wp2_with (fail)
            exact ⟨⟨r + 1, (k : Int) - 1, by omega, rfl, HQ, HZE, HBE, HWE, HSE⟩, by simp [intOf]⟩
    · have hq1 : q = -1 := by have := hq.out; omega
      subst hq1
      obtain rfl : r = i + 1 := by omega
      obtain ⟨Az, cz, hv, hcz, _⟩ := hz.out.form
      subst hv
      have HREV := Lib.hid (rev_own (n := (zl (accN l i (i + 1))).length) rfl (show ZOwn wr (nb + 1) _ _ from hz.out) (by rw [zl_len]; have := acc_len l i (i + 1); omega))
      rw [zl_reverse, acc_end] at HREV
      have HL := Lib.hid (show (prt l i).length = (zl (accN l i (i + 1))).length by rw [zl_len, ← acc_end, List.length_reverse])
      go_wp2_with (fail)
      refine HREV.out.mono ?_
      rintro e w2 ⟨rfl, hz2, hs2, _, hb2⟩
      have HZ2 := Lib.hid hz2
      have HB2 := Lib.hid (hbw.out.trans (hb2.mono (by omega)))
      clear hz2 hs2 hb2
      go_wp2_with (fail)
      go_ret
      rw [HNB.out] at *
      exact ⟨_, rfl, own_down HZ2.out (by omega), HB2.out⟩
end
end Go.Proofs.YtjgkcicgjnjepaaDoor
