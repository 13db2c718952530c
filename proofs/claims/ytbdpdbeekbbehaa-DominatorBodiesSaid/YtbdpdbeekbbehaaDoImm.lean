/- What is proved: immediate gives the tree of dominators of a view of a flow. -/
import Derived.Test.YtbdpdbeekbbehaaDoIst
import Derived.Sort.LoopGhostIn
set_option linter.unusedVariables false
namespace Go.Proofs.Ytbdpdbeekbbehaa
open Go.RowKit Go.Shelf
attribute [local go_sem] Oper.semAt_some

theorem ZOwn.nat {w : World} {B c m : Nat} {A : Option Addr} {L : List Nat} (h : ZOwn w B (.slice A m c) (zl L)) (h0 : 0 < L.length) : ∃ b, A = some ⟨b, 0, none⟩ ∧ B ≤ b ∧ b < w.heap.size ∧ L.length ≤ c ∧ ∀ (i : Nat) (h : i < L.length), w.cell? ⟨b, i, none⟩ = some (.int .i64 ((L[i] : Nat) : Int)) := by
  obtain ⟨A', c', e, hc, h1⟩ := h.form
  cases e
  rw [zl_len] at hc
  obtain ⟨b, h2, _, h3, h4, _, h5⟩ := h1 (by rw [zl_len]; exact h0)
  exact ⟨b, h2, h3, h4, hc, fun i hi => by rw [h5 i (by rw [zl_len]; exact hi), zl_get]⟩
/-- what immediate gives -/
def ImRes (E : Nat → List Nat) (n r : Nat) (w : World) (e : Ending) (W : World) : Prop :=
  ∃ ob ov, e = .returned (.slice (some ⟨ob, 0, none⟩) n n) ∧ IArr W ob n ov ∧ w.heap.size ≤ ob ∧ DTree E r ov ∧ (∀ v, ov v = -1 ∨ ∃ c : Nat, ov v = (c : Int) ∧ c < n) ∧ Below w.heap.size w W

set_option maxRecDepth 100000 in
set_option maxHeartbeats 4000000 in
theorem immediate_any {E B : Nat → List Nat} {n r g1 g2 : Nat} {c1 c2 : Array Value} (w : World) (hG : Gr E n) (hGB : Gr B n) (hB : ∀ q x, q ∈ B x ↔ x ∈ E q) (hX : NxOk E n g1 c1 w) (hXB : NxOk B n g2 c2 w) (e1 : ∀ args w, (callFunc g1 args).run Try.prog w = .ok (.enter g1 args) w) (e2 : ∀ args w, (callFunc g2 args).run Try.prog w = .ok (.enter g2 args) w) (hr : r < n) (hn : n ≤ 30) :
    Calls Try.prog 46 #[.agg #[.int .i64 (n : Int), .int .i64 (r : Int), .func (.func g1) #[] c1, .func (.func g2) #[] c2]] w (ImRes E n r w) := by
  have HG := Lib.hid hG
  have HGB := Lib.hid hGB
  have HB := Lib.hid hB
  have HX := Lib.hid hX
  have HXB := Lib.hid hXB
  have hmk := do_make_in n (by omega)
  clear hG hGB hB hX hXB
  refine (callsIn_wide (n := 9)).1 ?_
  refine callsIn_of_wp_marks Try.func46 rfl trivial ?_ rfl
  simp only [Try.ntmps46, List.size_toArray, List.length_cons, List.length_nil, Nat.reduceAdd, Nat.reduceSub, Array.replicate_succ, Array.replicate_zero, List.push_toArray, List.append_toArray, List.nil_append, List.cons_append]
  gi_wp2_with (fail)
  have HBV := Lib.hid (heap_alloc_new w (.cells #[.int .i64 (n : Int), .int .i64 (r : Int), .func (.func g1) #[] c1, .func (.func g2) #[] c2] 57))
  have HB1 := Lib.hid ((Below.refl w.heap.size w).alloc (Nat.le_refl _) (.cells #[.int .i64 (n : Int), .int .i64 (r : Int), .func (.func g1) #[] c1, .func (.func g2) #[] c2] 57))
  have hz1 : (w.alloc (.cells #[.int .i64 (n : Int), .int .i64 (r : Int), .func (.func g1) #[] c1, .func (.func g2) #[] c2] 57)).heap.size = w.heap.size + 1 := by simp
  generalize (w.alloc (.cells #[.int .i64 (n : Int), .int .i64 (r : Int), .func (.func g1) #[] c1, .func (.func g2) #[] c2] 57)) = w1 at *
  have hb2 := (Below.refl w1.heap.size w1).alloc (Nat.le_refl _) (.cells #[.int .i64 (r : Int)] 3)
  have hr2 : NRow (w1.alloc (.cells #[.int .i64 (r : Int)] 3)).heap.size (w1.alloc (.cells #[.int .i64 (r : Int)] 3)) (some ⟨w.heap.size + 1, 0, none⟩) [r] := fun _ => ⟨w.heap.size + 1, 0, rfl, by simp; omega, fun i hi => by
    obtain rfl : i = 0 := by simpa using hi
    rw [← hz1]
    exact Lib.cell_of_heap (heap_alloc_new w1 _) 0⟩
  have HBV2 := Lib.hid ((hb2.block _ (hlt HBV.out)).trans HBV.out)
  have HB2 := Lib.hid (HB1.out.trans (hb2.mono HB1.out.size))
  have HB2s := Lib.hid (show w.heap.size < (w1.alloc (.cells #[.int .i64 (r : Int)] 3)).heap.size by simp; omega)
  have HS := Lib.hid (search_any (w1.alloc (.cells #[.int .i64 (r : Int)] 3)) HG.out (HX.out.later HB2.out) e1 (some ⟨w.heap.size + 1, 0, none⟩) 1 [r] hr2 (by simpa using hr) (by simp))
  clear hb2 hr2 HBV HB1
  generalize (w1.alloc (.cells #[.int .i64 (r : Int)] 3)) = w2 at *
  refine ⟨trivial, (callsIn_wide.2 HS.out).mono ?_⟩
  rintro e w3 ⟨X, cX, L, sn', rfl, ho, hv, hb3⟩
  have HBV3 := Lib.hid ((hb3.block _ (hlt HBV2.out)).trans HBV2.out)
  have HB3 := Lib.hid (HB2.out.trans (hb3.mono HB2.out.size))
  have HPO := Lib.hid hv.post
  have HLT := Lib.hid (show ∀ v ∈ L, v < n from fun v h => (hv.new v h).2.1)
  have hr0 : r ∈ L := (HPO.out.mem r).2 (.here trivial)
  have hlen : 0 < L.length := List.length_pos_of_mem hr0
  have HLN := Lib.hid (show L.length ≤ n from nodup_len hv.nd HLT.out)
  obtain ⟨fb, rfl, hfl, hfb, hcap, hfc⟩ := ho.nat hlen
  have HFC := Lib.hid hfc
  have HFB := Lib.hid hfb
  have b0 := Lib.cell_of_heap HBV3.out 0
  have hmk3 := hmk w3
  clear ho hv hb3 hfc HS HBV2 HB2
  gi_wp2_with (fail)
  clear hmk3 b0
  have HPA := Lib.hid (IArr.new w3 n)
  have HAL := Lib.hid (((Below.refl w3.heap.size w3).alloc (Nat.le_refl _) (.cells (hdr (fun _ => .int .i64 0) n) 3)).alloc (by simp) (.cells #[.slice (some ⟨w3.heap.size, 0, none⟩) n n] 29))
  have hpb4 := (heap_alloc_old (w3.alloc (.cells (hdr (fun _ => .int .i64 0) n) 3)) (.cells #[.slice (some ⟨w3.heap.size, 0, none⟩) n n] 29) (r := w3.heap.size) (by simp))
  have HPA4 := Lib.hid (HPA.out.eq hpb4)
  have hpx := heap_alloc_new (w3.alloc (.cells (hdr (fun _ => .int .i64 0) n) 3)) (.cells #[.slice (some ⟨w3.heap.size, 0, none⟩) n n] 29)
  rw [World.size_alloc] at hpx
  have HPX := Lib.hid (show Bx _ (w3.heap.size + 1) 29 _ from hpx)
  clear hpb4 hpx HPA
  generalize ((w3.alloc (.cells (hdr (fun _ => .int .i64 0) n) 3)).alloc (.cells #[.slice (some ⟨w3.heap.size, 0, none⟩) n n] 29)) = w4 at *
  have HBV4 := Lib.hid ((HAL.out.block _ (hlt HBV3.out)).trans HBV3.out)
  have HB4 := Lib.hid (HB3.out.trans (HAL.out.mono HB3.out.size))
  have HFC4 := Lib.hid (show ∀ (i : Nat) (h : i < L.length), w4.cell? ⟨fb, i, none⟩ = some (.int .i64 ((L[i] : Nat) : Int)) from fun i hi => (HAL.out.cell (p := ⟨fb, i, none⟩) hfb).trans (HFC.out i hi))
  have HSZ := Lib.hid (show w.heap.size < w3.heap.size ∧ fb < w3.heap.size ∧ w.heap.size < fb from ⟨hlt HBV3.out, hfb, by have := HB2s.out; omega⟩)
  obtain ⟨pb, hpb⟩ : ∃ pb, pb = w3.heap.size := ⟨_, rfl⟩
  rw [← hpb] at HSZ HPA4 HPX HAL
  rw [← hpb]
  clear HBV3 HB3 HFC HFB hfb hpb HAL hfl
  gi_loopw [26] (fun i wr => ∃ (k : Nat) (f : Nat → Int), k ≤ L.length ∧ i = .int .i64 (k : Int) ∧ Hid (IArr wr pb n f) ∧ Hid (∀ (i : Nat) (h : i < L.length), i < k → f L[i] = (i : Int)) ∧ Hid (∀ v, 0 ≤ f v) ∧ Hid (∀ b, b ≠ pb → wr.heap[b]? = w4.heap[b]?) ∧ Hid (Below w.heap.size w wr)) (fun i _ => L.length - (intOf i).toNat)
  case atStart => exact ⟨0, _, Nat.zero_le _, rfl, HPA4, Lib.hid (fun i h h0 => by omega), Lib.hid (fun v => Int.le_refl _), Lib.hid (fun b _ => rfl), HB4⟩
  case round =>
    obtain ⟨k, f, hk, rfl, hia, hf, hf0, hst, hbw⟩ := hrel
    have HBX := Lib.hid (show Bx wr (pb + 1) 29 (.slice (some ⟨pb, 0, none⟩) n n) from (hst.out _ (by omega)).trans HPX.out)
    by_cases hlt' : k < L.length
    · have r0 : wr.cell? ⟨fb, k, none⟩ = some (.int .i64 ((L[k] : Nat) : Int)) := (World.cell?_of_block (a := ⟨fb, k, none⟩) (hst.out fb (by have := HSZ.out; omega))).trans (HFC4.out k hlt')
      have hxn := HLT.out _ (List.getElem_mem hlt')
      have c0 := HBX.out.cell
      obtain ⟨x, HXX⟩ : ∃ x, Hid (L[k] = x) := ⟨_, Lib.hid rfl⟩
      rw [HXX.out] at r0 hxn
      have z0 := hia.out.frz x
      have c1 := hia.out.cell hxn
      have HI2 := Lib.hid (hia.out.set hxn (k : Int))
      have HF2 := Lib.hid (show ∀ (i : Nat) (h : i < L.length), i < k + 1 → setF f x (k : Int) L[i] = (i : Int) from fun i h hik => by
        unfold setF
        by_cases e : i = k
        · subst e; rw [if_pos HXX.out]
        · rw [if_neg (fun e2 => e ((List.getElem_inj HPO.out.nd).1 (e2.trans HXX.out.symm)))]
          exact hf.out i h (by omega))
      have HF3 := Lib.hid (show ∀ v, 0 ≤ setF f x (k : Int) v from fun v => by
        unfold setF
        split
        · omega
        · exact hf0.out v)
      have HS2 := Lib.hid (show ∀ b, b ≠ pb → (wr.setCell ⟨pb, x, none⟩ (.int .i64 (k : Int))).heap[b]? = w4.heap[b]? from fun b hb => (hfar hb _).trans (hst.out b hb))
      have HB5 := Lib.hid (hbw.out.setCell (p := ⟨pb, x, none⟩) (by have := HSZ.out; simp; omega) (.int .i64 (k : Int)))
      have HME := Lib.hid (show k + 1 ≤ L.length ∧ L.length - (k + 1) < L.length - k by omega)
      have hln := HLN.out
      clear hia hf hf0 hst hbw
      gi_wp2_with (fail)
      exact ⟨⟨k + 1, _, HME.out.1, by go_num, HI2, HF2, HF3, HS2, HB5⟩, by have := HME.out.2; simp only [intOf, Int.toNat_natCast]; first | exact this | (simp; omega)⟩
    · obtain rfl : k = L.length := by omega
      obtain ⟨pl, hple⟩ : ∃ pl : Nat → Nat, pl = fun v => (f v).toNat := ⟨_, rfl⟩
      have HPL := Lib.hid (show Pl L pl from fun i h => by rw [hple]; show (f L[i]).toNat = i; rw [hf.out i h h]; simp)
      have HIA := Lib.hid (hia.out.ext (f' := fun v => ((pl v : Nat) : Int)) (fun v _ => by have := hf0.out v; rw [hple]; show f v = (((f v).toNat : Nat) : Int); omega))
      have HBV5 := Lib.hid ((hst.out _ (by have := HSZ.out; omega)).trans HBV4.out)
      have HFC5 := Lib.hid (show ∀ (i : Nat) (h : i < L.length), wr.cell? ⟨fb, i, none⟩ = some (.int .i64 ((L[i] : Nat) : Int)) from fun i hi => (World.cell?_of_block (a := ⟨fb, i, none⟩) (hst.out fb (by have := HSZ.out; omega))).trans (HFC4.out i hi))
      clear hple hia hf hf0 hst HPA4 HPX HBV4 HFC4 HB4
      have hbw5 := hbw
      generalize wr = w5 at *
      have b0 : (w5.alloc (.cells #[.int .i64 (-1)] 3)).cell? ⟨w.heap.size, 0, none⟩ = some (.int .i64 (n : Int)) := Lib.cell_of_heap ((heap_alloc_old w5 _ (hlt HBV5.out)).trans HBV5.out) 0
      have HAL5 := Lib.hid ((Below.refl w5.heap.size w5).alloc (Nat.le_refl _) (.cells #[.int .i64 (-1)] 3))
      have HRP := Lib.hid (repeat_any (-1) w5.heap.size n (by omega) hn (w5.alloc (.cells #[.int .i64 (-1)] 3)) (Lib.cell_of_heap (heap_alloc_new w5 _) 0) (by simp))
      gi_wp2_with (fail)
      refine ⟨trivial, (callsIn_wide.2 HRP.out).mono ?_⟩
      rintro e w6 ⟨rfl, hob, hb6⟩
      have hB6 := HAL5.out.trans (hb6.mono HAL5.out.size)
      have HBB6 := Lib.hid (hbw5.out.trans (hB6.mono hbw5.out.size))
      have HIA6 := Lib.hid (HIA.out.later hB6)
      have HBX6 := Lib.hid (HBX.out.later hB6)
      have HBV6 := Lib.hid ((hB6.block _ (hlt HBV5.out)).trans HBV5.out)
      have HFC6 := Lib.hid (show ∀ (i : Nat) (h : i < L.length), w6.cell? ⟨fb, i, none⟩ = some (.int .i64 ((L[i] : Nat) : Int)) from fun i hi => (hB6.cell (p := ⟨fb, i, none⟩) (World.block_lt_of_cell? w5 _ (HFC5.out i hi))).trans (HFC5.out i hi))
      obtain ⟨ob, hobe⟩ : ∃ ob, ob = (w5.alloc (.cells #[.int .i64 (-1)] 3)).heap.size := ⟨_, rfl⟩
      rw [← hobe] at hob
      rw [← hobe]
      have HOB := Lib.hid (show IArr w6 ob n (fun _ => -1) from ⟨_, hob, by simp [rowI_len], fun v hv => by simpa using rowI_src (-1) n n v hv⟩)
      have HLO := Lib.hid (show fb < ob ∧ pb + 1 < ob ∧ w.heap.size < ob by
        have h1 := World.block_lt_of_cell? w5 _ (HFC5.out 0 hlen)
        have h2 := HBX.out.lt
        have h3 := HSZ.out
        have h4 : ob = w5.heap.size + 1 := by rw [hobe]; simp
        simp only at h1
        omega)
      clear b0 HAL5 HRP hob hb6 hB6 HIA HBX HBV5 HFC5 hbw5 hobe
      generalize w5 = wz at *
      have hsl : ∀ W, (Instr.slice 29 (.slice (some ⟨fb, 0, none⟩) L.length cX) none (some (.int .i64 ((L.length : Int) - 1))) none).run Try.prog W = .ok (.slice (some ⟨fb, 0, none⟩) (L.length - 1) cX) W := fun W => by
        have h := run_int_to (some ⟨fb, 0, none⟩) L.length cX (L.length - 1) (by omega) W
        rw [show ((L.length - 1 : Nat) : Int) = (L.length : Int) - 1 by omega] at h
        exact h
      have hl1 : (0 : Int) ≤ (L.length : Int) - 1 := by omega
      have hln := HLN.out
      gi_wp2_with (fail)
      obtain ⟨m, hm⟩ : ∃ m : Im, m = ⟨w.heap.size, pb, ob, w6.heap.size, fb, n, r, L, pl, #[.int .i64 (n : Int), .int .i64 (r : Int), .func (.func g1) #[] c1, .func (.func g2) #[] c2]⟩ := ⟨_, rfl⟩
      have HMO := Lib.hid (show m.Ok by
        subst hm
        have h1 := HSZ.out
        have h2 := HLO.out
        have h3 := HOB.out.lt
        exact ⟨by show w.heap.size < pb; omega, by show w.heap.size < fb; omega, by show fb < pb; omega, by show pb + 1 < ob; omega, by show ob < w6.heap.size; omega⟩)
      have hst : ∀ W : World, W = ((w6.alloc (.cells #[.slice (some ⟨ob, 0, none⟩) n n] 29)).alloc (.cells #[.bool true] 4)) → ISt m w (fun _ => -1) true (w6.heap.size + 1) [] W := fun W hW => by
        subst hW
        subst hm
        have hb := ((Below.refl w6.heap.size w6).alloc (Nat.le_refl _) (.cells #[.slice (some ⟨ob, 0, none⟩) n n] 29)).alloc (by simp) (.cells #[.bool true] 4)
        have hx := heap_alloc_new w6 (.cells #[.slice (some ⟨ob, 0, none⟩) n n] 29)
        have hx2 := (heap_alloc_old (w6.alloc (.cells #[.slice (some ⟨ob, 0, none⟩) n n] 29)) (.cells #[.bool true] 4) (r := w6.heap.size) (by simp)).trans hx
        have hc := heap_alloc_new (w6.alloc (.cells #[.slice (some ⟨ob, 0, none⟩) n n] 29)) (.cells #[.bool true] 4)
        rw [World.size_alloc] at hc
        exact ⟨(hb.block _ (hlt HBV6.out)).trans HBV6.out, HBX6.out.later hb, HIA6.out.later hb, hx2, HOB.out.later hb, fun i hi => (hb.cell (p := ⟨fb, i, none⟩) (World.block_lt_of_cell? w6 _ (HFC6.out i hi))).trans (HFC6.out i hi), hc, by show w6.heap.size < w6.heap.size + 1; omega, HBB6.out.trans (hb.mono HBB6.out.size), by simp, by simp, by simp⟩
      have HST := Lib.hid (hst _ rfl)
      have HM := Lib.hid hm
      clear hst HBV6 HBX6 HIA6 HOB HFC6 HBB6 hm
      generalize ((w6.alloc (.cells #[.slice (some ⟨ob, 0, none⟩) n n] 29)).alloc (.cells #[.bool true] 4)) = w7 at *
      obtain ⟨ox, hox⟩ : ∃ ox, ox = w6.heap.size := ⟨_, rfl⟩
      obtain ⟨zz, hzz⟩ : ∃ zz, zz = wz.heap.size := ⟨_, rfl⟩
      rw [← hox] at HM HST
      rw [← hox, ← hzz]
      clear hox hzz hsl
      refine wpIn_loop_ghost_k (fun k a W => ∃ (cb : Nat) (ds : List Nat) (ov : Nat → Int) (ch : Bool) (x45 x46 x47 x68 : Value), a = { tmps := #[.agg #[.int .i64 (n : Int), .int .i64 (r : Int), .func (.func g1) #[] c1, .func (.func g2) #[] c2], .pointer (some ⟨w.heap.size, 0, none⟩), .slice none 0 0, .slice (some ⟨fb, 0, none⟩) L.length cX, .pointer (some ⟨pb + 1, 0, none⟩), u5, u6, .pointer (some ⟨ox, 0, none⟩), .slice (some ⟨fb, 0, none⟩) (L.length - 1) cX, .pointer (some ⟨cb, 0, none⟩), undef, undef, undef, .pointer (some ⟨w.heap.size, 0, none⟩), .int .i64 (n : Int), .pointer (some ⟨w.heap.size, 1, none⟩), .int .i64 (r : Int), .slice (some ⟨w.heap.size + 1, 0, none⟩) 1 1, .pointer (some ⟨w.heap.size, 2, none⟩), .func (.func g1) #[] c1, .slice (some ⟨fb, 0, none⟩) L.length cX, .pointer (some ⟨w.heap.size, 0, none⟩), .int .i64 (n : Int), .slice (some ⟨pb, 0, none⟩) n n, .slice (some ⟨fb, 0, none⟩) L.length cX, .int .i64 (L.length : Int), .int .i64 (L.length : Int), .bool false, u28, u29, u30, u31, u32, u33, u34, u35, .slice (some ⟨zz, 0, none⟩) 1 1, .pointer (some ⟨w.heap.size, 0, none⟩), .int .i64 (n : Int), .slice (some ⟨ob, 0, none⟩) n n, .slice (some ⟨fb, 0, none⟩) L.length cX, .slice (some ⟨fb, 0, none⟩) L.length cX, .int .i64 (L.length : Int), .int .i64 ((L.length : Int) - 1), .slice (some ⟨fb, 0, none⟩) (L.length - 1) cX, x45, x46, x47, undef, undef, undef, undef, undef, undef, undef, undef, undef, undef, undef, undef, undef, undef, undef, undef, undef, undef, undef, undef, x68, undef], defers := marks ds } ∧ Hid (ISt m w ov ch cb ds W) ∧ Hid (ch = true → Ivr E B r L pl ov (L.length - 1) ∧ 2 * farL L.length pl ov L + 1 ≤ k) ∧ Hid (ch = false → Ivr E B r L pl ov 0 ∧ ∀ v ∈ L, v ≠ r → Near ov r (B v) (ov v))) (2 * farL L.length pl (fun _ => -1) L + 1) ?start ?round
      case start =>
        exact ⟨ox + 1, [], fun _ => -1, true, undef, undef, undef, undef, rfl, HST, Lib.hid (fun _ => ⟨Ivr.start HPO.out HPL.out, Nat.le_refl _⟩), Lib.hid (fun h => by cases h)⟩
      case round =>
        rintro gk a W ⟨cb, ds, ov, ch, x45, x46, x47, x68, rfl, hst, hct, hcf⟩ J K hJ hK
        have HJ := Lib.hid hJ
        have c0 := hst.out.cx.cell
        clear hJ HST
        cases ch with
        | false =>
          have c7 : W.cell? ⟨ox, 0, none⟩ = some (.slice (some ⟨ob, 0, none⟩) n n) := by have h := hst.out.ox.cell; rw [HM.out] at h; exact h
          obtain ⟨hiv, hnr⟩ := hcf.out rfl
          have HOA := Lib.hid (show IArr W ob n ov by have h := hst.out.oa; rw [HM.out] at h; exact h)
          have HBE := Lib.hid (show Below w.heap.size w W by have h := hst.out.be; rw [HM.out] at h; exact h)
          have HDN := Lib.hid (show ∀ d ∈ ds, w.heap.size ≤ d by have h := hst.out.dn; rw [HM.out] at h; exact h)
          have HDT := Lib.hid (hiv.fin HPO.out HPL.out HB.out hnr)
          have HVN := Lib.hid (show ∀ v, ov v = -1 ∨ ∃ c : Nat, ov v = (c : Int) ∧ c < n from fun v => by
            by_cases h0 : ov v < 0
            · exact .inl (hiv.t.neg v h0)
            · obtain ⟨_, c, e, h2, _⟩ := hiv.t.up v (by omega)
              exact .inr ⟨c, e, HLT.out c h2⟩)
          clear hct hcf hiv hnr
          gi_wp2_with (fail)
          have hob2 : w.heap.size ≤ ob := by have := HLO.out; omega
          have hKK : ∀ (W' : World) (d : Nat), (IArr W' ob n ov ∧ Below w.heap.size w W') → w.heap.size ≤ d → W'.heap[d]? = some (.deferred (some [])) → (IArr (W'.putObj d (.deferred none)) ob n ov ∧ Below w.heap.size w (W'.putObj d (.deferred none))) := fun W' d hK2 hd hm => by
            have hne : d ≠ ob := fun e => by
              obtain ⟨cs, e2, _⟩ := hK2.1
              rw [e, e2] at hm
              cases hm
            exact ⟨hK2.1.eq (World.putObj_heap_other (by first | exact hne | exact hne.symm)), hK2.2.grown (grownBy_putObj' W' d (.deferred none)) hK2.2.size (fun k e => by cases e; exact hd)⟩
          exact leaves_marks (v := .slice (some ⟨ob, 0, none⟩) n n) (fun W' => IArr W' ob n ov ∧ Below w.heap.size w W') (fun d => w.heap.size ≤ d) (fun W' => by simp [results, Try.results46, go_sem]) (fun W' hK2 => ⟨ob, ov, rfl, hK2.1, hob2, HDT.out, HVN.out, hK2.2⟩) hKK ds W HDN.out hst.out.nd hst.out.mks ⟨HOA.out, HBE.out⟩
        | true =>
          obtain ⟨hiv, hfar⟩ := hct.out rfl
          have HIV := Lib.hid hiv
          have HFR := Lib.hid hfar
          have z0 := hst.out.cx.frz
          have HS1 := Lib.hid (hst.out.setC HMO.out false)
          clear hct hcf hiv hfar hst
          gi_wp2_with (fail)
          refine ⟨trivial, (callsIn_wide.2 (backward_call _ _ _ _)).mono ?_⟩
          rintro e W2 ⟨rfl, hW2⟩
          clear c0 z0
          generalize (W.setCell ⟨cb, 0, none⟩ (.bool false)) = W1 at *
          have hbx : Bx W2 W1.heap.size 29 (.slice (some ⟨fb, 0, none⟩) (L.length - 1) cX) := by rw [hW2]; exact heap_alloc_new W1 _
          have hb2 : Below W1.heap.size W1 W2 := by rw [hW2]; exact (Below.refl W1.heap.size W1).alloc (Nat.le_refl _) _
          have HS2 := Lib.hid (HS1.out.later HMO.out hb2)
          have hnb : ob < W1.heap.size ∧ cb < W1.heap.size := by
            have h1 := HS1.out.oa.lt
            have h2 := HS1.out.cx.lt
            rw [HM.out] at h1
            exact ⟨h1, h2⟩
          clear hW2 hb2 HS1
          obtain ⟨Bs, hBs⟩ : ∃ Bs, Bs = W1.heap.size := ⟨_, rfl⟩
          rw [← hBs] at hbx hnb
          have HNB := Lib.hid hnb
          clear hnb
          rw [← hBs]
          clear hBs
          obtain ⟨rest, hrest⟩ : ∃ rest, rest = L.take (L.length - 1) := ⟨_, rfl⟩
          have hrl : rest.length = L.length - 1 := by rw [hrest, List.length_take]; omega
          have HRG := Lib.hid (show ∀ (k : Nat) (h : k < rest.length), ∃ hk : k < L.length, L[k] = rest[k] from fun k h => ⟨by omega, by subst hrest; simp⟩)
          have HBX2 := Lib.hid (show Bx W2 Bs 29 (.slice (some ⟨fb, 0, none⟩) rest.length cX) by rw [hrl]; exact hbx)
          have HRR := Lib.hid (show ∀ (i : Nat) (h : i < rest.length), W2.cell? ⟨fb, i, none⟩ = some (.int .i64 ((rest[i] : Nat) : Int)) from fun i hi => by
            obtain ⟨h1, h2⟩ := HRG.out i hi
            rw [← h2]
            have h := HS2.out.fc
            rw [HM.out] at h
            exact h i h1)
          have HZB := Lib.hid (show ob < W2.heap.size ∧ cb < W2.heap.size ∧ fb < W2.heap.size ∧ Bs < W2.heap.size ∧ w.heap.size < W2.heap.size ∧ ox < cb ∧ ob < ox by
            have h1 := HS2.out.oa.lt
            have h2 := HS2.out.cx.lt
            have h3 := hbx.lt
            have h4 := HMO.out
            have h5 := HS2.out.cl
            have h6 := hlt HS2.out.vb
            rw [HM.out] at h1 h4 h5 h6
            obtain ⟨g1, g2, g3, g4, g5⟩ := h4
            simp only at h1 h5 h6 g1 g2 g3 g4 g5
            refine ⟨h1, h2, by omega, h3, by omega, h5, g5⟩)
          have HRL := Lib.hid hrl
          clear hbx hrest hrl
          gi_wp2_with (fail)
          refine wpIn_gives rfl (by decide) (gf := 76) (lb := #[.pointer (some ⟨Bs, 0, none⟩)]) rfl trivial (enters_of Try.func76 (by kernel_rfl) rfl)
            (back1_in Fence.wide rfl _ trivial rfl Bs fb cX (fun b => b < W2.heap.size ∧ b ≠ ob ∧ b ≠ cb) rest W2 (fun b hb => hb.1) ?zB (.inr ?zF) ?zl HBX2.out HRR.out) (fun b hb => hb.1) (Below.refl _ _) (fun _ => rfl)
            (fun s W' => ∃ ov' ch', ISt m w ov' ch' cb ds W' ∧ PSt E B r L pl ov ov' ch' s.1.length)
            (fun _ _ _ => False) ?own ?ownx ⟨ov, false, HS2.out, PSt.start HPO.out HPL.out HIV.out⟩
            (fun x a' W' => a' = { tmps := #[.agg #[.int .i64 (n : Int), .int .i64 (r : Int), .func (.func g1) #[] c1, .func (.func g2) #[] c2], .pointer (some ⟨w.heap.size, 0, none⟩), .slice none 0 0, .slice (some ⟨fb, 0, none⟩) L.length cX, .pointer (some ⟨pb + 1, 0, none⟩), u5, u6, .pointer (some ⟨ox, 0, none⟩), .slice (some ⟨fb, 0, none⟩) (L.length - 1) cX, .pointer (some ⟨cb, 0, none⟩), undef, .int .i64 (x.2 : Int), undef, .pointer (some ⟨w.heap.size, 0, none⟩), .int .i64 (n : Int), .pointer (some ⟨w.heap.size, 1, none⟩), .int .i64 (r : Int), .slice (some ⟨w.heap.size + 1, 0, none⟩) 1 1, .pointer (some ⟨w.heap.size, 2, none⟩), .func (.func g1) #[] c1, .slice (some ⟨fb, 0, none⟩) L.length cX, .pointer (some ⟨w.heap.size, 0, none⟩), .int .i64 (n : Int), .slice (some ⟨pb, 0, none⟩) n n, .slice (some ⟨fb, 0, none⟩) L.length cX, .int .i64 (L.length : Int), .int .i64 (L.length : Int), .bool false, u28, u29, u30, u31, u32, u33, u34, u35, .slice (some ⟨zz, 0, none⟩) 1 1, .pointer (some ⟨w.heap.size, 0, none⟩), .int .i64 (n : Int), .slice (some ⟨ob, 0, none⟩) n n, .slice (some ⟨fb, 0, none⟩) L.length cX, .slice (some ⟨fb, 0, none⟩) L.length cX, .int .i64 (L.length : Int), .int .i64 ((L.length : Int) - 1), .slice (some ⟨fb, 0, none⟩) (L.length - 1) cX, .bool true, .slice (some ⟨fb, 0, none⟩) (L.length - 1) cX, .func (.func 76) #[] #[.pointer (some ⟨Bs, 0, none⟩)], .int .i64 (x.1 : Int), .int .i64 (x.2 : Int), undef, undef, undef, undef, undef, undef, undef, undef, undef, undef, undef, undef, undef, undef, undef, undef, undef, undef, x68, undef], defers := [] })
            (fun _ _ _ _ _ _ h _ _ => h) ?assign ?body ?done ?stop
          case zB => have h := HZB.out; have h2 := HNB.out; exact ⟨h.2.2.2.1, by omega, by omega⟩
          case zF => have h := HZB.out; exact ⟨h.2.2.1, by have := HLO.out; omega, by have := HLO.out; omega⟩
          case zl => have h := HLN.out; have h2 := HRL.out; omega
          case own =>
            rintro s A B' row ⟨ov', ch', h1, h2⟩ hg hr'
            have hb := HS2.out.bound
            have hz := HZB.out
            refine ⟨ov', ch', h1.keep HMO.out ((Below.refl m.N A).grown hg (Nat.le_of_lt (hlt h1.vb)) (fun r' e => ?_)) (fun b hb1 hb2 => hg.block b hb1 (fun e => ?_)), h2⟩
            · have h3 := (hr' r' e).1
              have h4 := hlt HS2.out.vb
              omega
            · have h3 := (hr' b e.symm).1
              have h4 : b < W2.heap.size := by
                rcases hb2 with h | h | h | h | h | h | h | h
                · exact hb b (by simp [h])
                · exact hb b (by simp [h])
                · exact hb b (by simp [h])
                · exact hb b (by simp [h])
                · exact hb b (by simp [h])
                · rw [h, HM.out]; exact hz.2.2.1
                · exact hb b (by simp [h])
                · exact hb b (by simp [h])
              omega
          case ownx => exact fun c s A B' row h _ _ => h.elim
          case assign =>
            intro l pre x post M W' K' hL hi hM' hK'
            gi_wp2
            exact hK' _ _ ⟨Nat.le_refl _, fun _ _ _ h _ => h⟩ (BelowZ.refl _ _) (Stays.refl _ _) (Nat.le_refl _) hi rfl
          case stop => exact fun D c pre W' _ _ h _ => h.elim
          case body =>
            rintro l pre x post M a' W' hL ⟨ov', ch', hs, hps⟩ hM1 hM2 rfl
            obtain ⟨k, hk, hx, hk1, hk2⟩ := bkL_elem hL
            obtain ⟨hkL, hkp⟩ := HRG.out k hk
            obtain ⟨p, HPP⟩ : ∃ p, Hid (rest[k] = p) := ⟨_, Lib.hid rfl⟩
            rw [HPP.out] at hx hkp
            subst hx
            have hpn : p < n := by rw [← hkp]; exact HLT.out _ (List.getElem_mem hkL)
            have HKL := Lib.hid (show ∃ hk : k < L.length, L[k] = p from ⟨hkL, hkp⟩)
            have HK1 := Lib.hid (show L.length - 1 - pre.length = k + 1 by have := HRL.out; omega)
            have HS := Lib.hid hs
            have HPS := Lib.hid hps
            have hvb : W'.heap[w.heap.size]? = some (.cells #[.int .i64 (n : Int), .int .i64 (r : Int), .func (.func g1) #[] c1, .func (.func g2) #[] c2] 57 (0, 0)) := by have h := hs.vb; rw [HM.out] at h; exact h
            have q := Lib.cell_of_heap hvb
            have q0 := q 0
            have q1 := q 1
            have q2 := q 2
            have q3 := q 3
            have cpx : W'.cell? ⟨pb + 1, 0, none⟩ = some (.slice (some ⟨pb, 0, none⟩) n n) := by have h := hs.px.cell; rw [HM.out] at h; exact h
            have cox : W'.cell? ⟨ox, 0, none⟩ = some (.slice (some ⟨ob, 0, none⟩) n n) := by have h := hs.ox.cell; rw [HM.out] at h; exact h
            have HOV := Lib.hid (show Ov n r L pl ov' pb ob W' from ⟨by have h := hs.pa; rw [HM.out] at h; exact h, by have h := hs.oa; rw [HM.out] at h; exact h, hps.iv.t, HPL.out, hr0, fun v hv => by
              have h1 := (HPO.out.root HPL.out).2.1
              obtain ⟨h2, _⟩ := HPL.out.at hv
              omega, HLT.out, by omega⟩)
            have hbe : Below w.heap.size w W' := by have h := hs.be; rw [HM.out] at h; exact h
            have HAB := Lib.hid (above_any (.func (.func g1) #[] c1) rfl e2 HXB.out HGB.out W' hbe p hpn HOV.out)
            have HMM := Lib.hid (And.intro hM1 hM2)
            clear hL HPP hk hkL hkp hk1 hk2 hs hps hvb q hbe hM1 hM2
            gi_wp2_with (fail)
            refine ⟨trivial, (CallsIn.inRound _ (callsIn_wide.2 HAB.out)).mono ?_⟩
            rintro e W3 ⟨a, rfl, hnear, hb3⟩
            obtain ⟨c, rfl, hpm, hps2⟩ := HPS.out.step HPO.out HPL.out HB.out HK1.out HKL.out hnear
            have hs3 := HS.out.later HMO.out hb3
            have hmob : m.ob = ob := by rw [HM.out]
            have hmn : m.n = n := by rw [HM.out]
            have hs4 := hs3.setC HMO.out (ch' || !decide ((c : Int) = ov' p))
            have hs5 := hs4.setO HMO.out (p := p) (by rw [hmn]; exact hpn) (c : Int)
            rw [hmob] at hs5
            have HS5 := Lib.hid hs5
            have HPS2 := Lib.hid hps2
            have HB3 := Lib.hid hb3
            have ccx : W3.cell? ⟨cb, 0, none⟩ = some (.bool ch') := hs3.cx.cell
            have zcx := hs3.cx.frz
            have cox3 : W3.cell? ⟨ox, 0, none⟩ = some (.slice (some ⟨ob, 0, none⟩) n n) := by have h := hs3.ox.cell; rw [HM.out] at h; exact h
            have coa : W3.cell? ⟨ob, p, none⟩ = some (.int .i64 (ov' p)) := by have h := hs3.oa; rw [HM.out] at h; exact h.cell hpn
            have HC4 := Lib.hid (show ∀ v : Bool, (W3.setCell ⟨cb, 0, none⟩ (.bool v)).cell? ⟨ox, 0, none⟩ = some (.slice (some ⟨ob, 0, none⟩) n n) ∧ (W3.setCell ⟨cb, 0, none⟩ (.bool v)).cell? ⟨ob, p, none⟩ = some (.int .i64 (ov' p)) ∧ (W3.setCell ⟨cb, 0, none⟩ (.bool v)).frozen? ⟨ob, p, none⟩ = false from fun v => by
              have h := hs3.setC HMO.out v
              refine ⟨by have h2 := h.ox.cell; rw [HM.out] at h2; exact h2, by have h2 := h.oa; rw [HM.out] at h2; exact h2.cell hpn, by have h2 := h.oa; rw [HM.out] at h2; exact h2.frz p⟩)
            have HEND := Lib.hid (show KeepsFrom W2.heap.size W' ((W3.setCell ⟨cb, 0, none⟩ (.bool (ch' || !decide ((c : Int) = ov' p)))).setCell ⟨ob, p, none⟩ (.int .i64 (c : Int))) ∧ BelowZ (fun b => b < W2.heap.size ∧ b ≠ ob ∧ b ≠ cb) W' ((W3.setCell ⟨cb, 0, none⟩ (.bool (ch' || !decide ((c : Int) = ov' p)))).setCell ⟨ob, p, none⟩ (.int .i64 (c : Int))) ∧ Stays M W' ((W3.setCell ⟨cb, 0, none⟩ (.bool (ch' || !decide ((c : Int) = ov' p)))).setCell ⟨ob, p, none⟩ (.int .i64 (c : Int))) from by
              have h1 := HMM.out
              have h2 := HZB.out
              refine ⟨(((show KeepsOthers W' W3 from ⟨hb3.size, fun k o hk _ => (hb3.block k (hlt hk)).trans hk⟩).trans (KeepsOthers.setCell _ _ _)).trans (KeepsOthers.setCell _ _ _)).from _, ((BelowZ.of hb3 (fun b hb => by have := hb.1; omega)).set (fun h => h.2.2 rfl) _).set (fun h => h.2.1 rfl) _, fun b g1 g2 => (hfar (by simp; omega) _).trans ((hfar (by simp; omega) _).trans (hb3.block b g2))⟩)
            clear hs3 hs4 hs5 hps2 hb3 hmob hmn hnear HPS HS HAB HOV cpx cox q0 q1 q2 q3
            obtain ⟨y, hy⟩ : ∃ y, y = ov' p := ⟨_, rfl⟩
            rw [← hy] at coa HC4 HEND HS5 HPS2
            have HYE := Lib.hid hy
            clear hy
            have fin : ∀ v, v = (ch' || !decide ((c : Int) = y)) → After W2.heap.size (fun b => b < W2.heap.size ∧ b ≠ ob ∧ b ≠ cb) M (fun (s : List (Nat × Nat) × Nat) W' => ∃ ov' ch', ISt m w ov' ch' cb ds W' ∧ PSt E B r L pl ov ov' ch' s.1.length) (fun _ _ _ => False) (pre ++ [(k, p)]) W' .normal ⟨#[], []⟩ ((W3.setCell ⟨cb, 0, none⟩ (.bool v)).setCell ⟨ob, p, none⟩ (.int .i64 (c : Int))) := fun v hv => by
              subst hv
              exact ⟨HEND.out.1, HEND.out.2.1, HEND.out.2.2, _, _, HS5.out, by simpa using HPS2.out⟩
            have FIN := Lib.hid fin
            clear fin
            cases ch' with
            | true =>
              obtain ⟨d1, d2, d3⟩ := HC4.out true
              gi_wp2_with (fail)
              exact FIN.out true rfl
            | false =>
              by_cases hcy : (c : Int) = y
              · subst hcy
                obtain ⟨d1, d2, d3⟩ := HC4.out false
                gi_wp2_with (fail)
                exact FIN.out false (by simp)
              · have hc2 : ((c : Int) != y) = true := by simpa using hcy
                obtain ⟨d1, d2, d3⟩ := HC4.out true
                have HCY := Lib.hid hcy
                clear hcy
                gi_wp2_with (fail)
                exact FIN.out true (by simp [HCY.out])
          case done =>
            rintro D M W' hD ⟨ov', ch', hs, hps⟩ hK'
            have hj : (bkL rest).length = L.length - 1 := by rw [bkL_len]; exact HRL.out
            rw [hj] at hps
            have hND : D ∉ ds := fun hd => by have := HS2.out.bound D (by simp [hd]); omega
            have hsm := hs.mark hK' (by have := hlt HS2.out.vb; omega) hND
            have HSN := Lib.hid (hsm.newC HMO.out)
            have HIV2 := Lib.hid (show Ivr E B r L pl ov' 0 by have h := hps.iv; rw [Nat.sub_self] at h; exact h)
            have HPS := Lib.hid hps
            have ccx := hs.cx.cell
            have HIA2 := Lib.hid (Ivr.again HPO.out HPL.out HIV2.out)
            clear hs hps hsm hj hND
            gi_wp2_with (fail)
            refine Handed.intro (if ch' = true then 2 * farL L.length pl ov' L + 1 else 0) ?_ (HJ.out _ _ _ ⟨W'.heap.size, D :: ds, ov', ch', _, _, _, _, rfl, HSN, Lib.hid (fun h => ⟨HIA2.out, by rw [if_pos h]; exact Nat.le_refl _⟩), Lib.hid (fun h => ?_)⟩)
            · have h1 := HFR.out
              split
              · rename_i h
                have := HPS.out.t h
                omega
              · omega
            · exact ⟨HIV2.out, fun v hv hvr => (HPS.out.f h).2 v hv hvr (by omega)⟩
end Go.Proofs.Ytbdpdbeekbbehaa
