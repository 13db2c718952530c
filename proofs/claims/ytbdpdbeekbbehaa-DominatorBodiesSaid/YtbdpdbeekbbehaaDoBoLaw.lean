/- What is proved: the law DominatorBodies: bodies of loops are dominated by their heads and lead on in themselves; points on which others are control dependent lead to two points. -/
import Derived.Test.YtbdpdbeekbbehaaDoBoC
import Derived.Test.YtbdpdbeekbbehaaDoSmall
import Derived.Test.YtbdpdbeekbbehaaDoCtl
import Derived.Test.YtbdpdbeekbbehaaDoRefV
set_option linter.unusedVariables false
namespace Go.Proofs.Ytbdpdbeekbbehaa
open Go.RowKit Go.Shelf

theorem zl_mem {l : List Nat} {x : Nat} : (x : Int) ∈ zl l ↔ x ∈ l := by
  unfold zl
  rw [List.mem_map]
  constructor
  · rintro ⟨y, hy, e⟩
    have := Int.ofNat.inj e
    subst this
    exact hy
  · exact fun h => ⟨x, h, rfl⟩
set_option maxRecDepth 100000 in
set_option maxHeartbeats 4000000 in
theorem law_bodies (A : Option Addr) (c : Nat) (l : List PtV) (w : World) (hf : FlArg w A c l) :
    Calls Try.prog 10 #[.agg #[.slice A l.length c]] w fun e W => e = .returned (.bool true) ∧ Below w.heap.size w W := by
  have HF := Lib.hid hf
  have HB1 := Lib.hid ((Below.refl w.heap.size w).alloc (Nat.le_refl _) (.cells #[.slice A l.length c] 24))
  have HFB := Lib.hid (show FBx (w.alloc (.cells #[.slice A l.length c] 24)) w.heap.size A c l from heap_alloc_new w _)
  clear hf
  go_enter Try.func10, Try.ntmps10
  go_wp2_with (fail)
  generalize (w.alloc (.cells #[.slice A l.length c] 24)) = w1 at *
  refine (awake_any w1).mono ?_
  rintro e w2 ⟨rfl, hb⟩
  have HB2 := Lib.hid (HB1.out.trans (hb.mono HB1.out.size))
  have HF2 := Lib.hid (HFB.out.later hb)
  have c0 := HF2.out.cell
  clear hb
  go_wp2_with (fail)
  refine (small_any A c l 14 w2 ⟨(HF.out.row.below HB2.out).mono HB2.out.size, HF.out.len, HF.out.few⟩).mono ?_
  rintro e w4 ⟨rfl, hb⟩
  have HB4 := Lib.hid (HB2.out.trans (hb.mono HB2.out.size))
  have HF4 := Lib.hid (HF2.out.later hb)
  clear hb c0
  cases hsm : smB 14 l with
  | false =>
    clear hsm
    go_wp2_with (fail)
    go_ret
    exact ⟨rfl, HB4.out⟩
  | true =>
    have HS := Lib.hid (smB_sm hsm (by omega))
    clear hsm
    have HP4 := Lib.hid (show PRow w4.heap.size w4 A l from (HF.out.row.below HB4.out).mono HB4.out.size)
    have c0 := HF4.out.cell
    go_wp2_with (fail)
    refine (rvalid_any A c l w4 HS.out HP4.out).mono ?_
    rintro e w5 ⟨rfl, hb⟩
    have HB5 := Lib.hid (HB4.out.trans (hb.mono HB4.out.size))
    have HF5 := Lib.hid (HF4.out.later hb)
    have HP5 := Lib.hid (HP4.out.later hb)
    clear hb c0
    cases hv : validP l with
    | false =>
      clear hv
      go_wp2_with (fail)
      go_ret
      exact ⟨rfl, HB5.out⟩
    | true =>
      have HOK := Lib.hid (HS.out.ok hv)
      obtain ⟨dm, hdm⟩ : ∃ dm : Nat → Nat → Bool, ∀ h u, dm h u = true ↔ Dom (edg l) 0 h u := by
        classical exact ⟨fun h u => decide (Dom (edg l) 0 h u), fun h u => by simp⟩
      obtain ⟨lp, hlp⟩ : ∃ lp : Nat → Nat → Bool, ∀ h u, lp h u = true ↔ LpP (edg l) h u := by
        classical exact ⟨fun h u => decide (LpP (edg l) h u), fun h u => by simp⟩
      obtain ⟨cd, hcd⟩ : ∃ cd : Nat → Nat → Bool, ∀ a v, cd a v = true ↔ CDp (edg l) (bke l) 1 a v := by
        classical exact ⟨fun a v => decide (CDp (edg l) (bke l) 1 a v), fun a v => by simp⟩
      have HHF := Lib.hid (fun h hh => loops_facts HOK.out hdm hlp (h := h) hh)
      have hn1 := HOK.out.n
      have hn2 := HOK.out.two
      have HLR := Lib.hid (loops_rd A c l w5 HS.out HP5.out dm hdm lp hlp)
      have HCR := Lib.hid (fun W (hW : Below w5.heap.size w5 W) => control_any A c l W HS.out ((HP5.out.below hW).mono hW.size) cd hcd)
      have HDC := Lib.hid (fun W (hW : Below w5.heap.size w5 W) (h b : Nat) (hb : b < l.length) (hT : dm h b = true) => dominates_any A c l (h : Int) (b : Int) W HS.out ((HP5.out.below hW).mono hW.size) true (by
        rw [domS_at HOK.out.ok hb, ← hdm, hT]))
      have HTWO := Lib.hid (show ∀ a v, cd a v = true → ∀ s, s ∈ edg l a → ∃ n, n ∈ edg l a ∧ n ≠ s from fun a v h s hs => by
        have hE1 : edg l 1 = [] := by
          cases hq : edg l 1 with
          | nil => rfl
          | cons x t =>
            have h := HOK.out.ok
            unfold validP at h
            simp only [Bool.and_eq_true] at h
            have h2 := h.1.2
            unfold edg at hq
            rw [List.getElem?_eq_getElem (show 1 < l.length by omega)] at h2 hq
            simp only [Option.map_some, Option.getD_some] at h2 hq
            cases hq2 : l[1].nx with
            | nil => rw [hq2] at hq; simp at hq
            | cons a t => rw [hq2] at h2; simp at h2
        exact cd_two (F := bke l) (r := 1) HOK.out.bmem hE1 ((hcd a v).1 h) s hs)
      have HCD1 := Lib.hid (show ∀ a v, cd a v = true → 0 < (edg l a).length from fun a v h => by
        obtain ⟨s, hs, _⟩ := (hcd a v).1 h
        exact List.length_pos_of_mem hs)
      clear hv hdm hlp hcd
      have c0 := HF5.out.cell
      go_wp2_with (fail)
      refine HLR.out.mono ?_
      rintro e w6 ⟨X1, c1, bs, n1, rfl, hr, hnb, hh, hb⟩
      have HB6 := Lib.hid (show Below w5.heap.size w5 w6 from hb)
      have HF6 := Lib.hid (HF5.out.later hb)
      have HRD := Lib.hid hr
      subst hnb
      have HBS := Lib.hid (show bs.map (·.head) = lpHeads dm l l.length from by rw [HOK.out.ok] at hh; exact hh)
      have HHM := Lib.hid (show ∀ (i : Nat) (h : i < bs.length), bs[i].head ∈ lpHeads dm l l.length from fun i h => by rw [← HBS.out]; exact List.mem_map.2 ⟨_, List.getElem_mem h, rfl⟩)
      have HINC := Lib.hid (show ∀ (i j : Nat) (hi : i < bs.length) (hj : j < bs.length), i < j → bs[i].head < bs[j].head from fun i j hi hj hij => by
        have h1 : ∀ (i : Nat) (h : i < bs.length), ∃ h' : i < (lpHeads dm l l.length).length, bs[i].head = (lpHeads dm l l.length)[i]'h' := fun i h => by
          have hl : (lpHeads dm l l.length).length = bs.length := by rw [← HBS.out]; simp
          refine ⟨by omega, ?_⟩
          have e := congrArg (fun q => q[i]?) HBS.out
          simp only [List.getElem?_map, List.getElem?_eq_getElem h, List.getElem?_eq_getElem (show i < (lpHeads dm l l.length).length by omega), Option.map_some, Option.some.injEq] at e
          exact e
        obtain ⟨a1, a2⟩ := h1 i hi
        obtain ⟨b1, b2⟩ := h1 j hj
        rw [a2, b2]
        unfold lpHeads
        exact filter_lt _ _ _ _ _ _ hij)
      have hbn : bs.length ≤ 30 := lp_few hh hn1
      obtain ⟨FF, HFF⟩ : ∃ FF, Hid ((fun h => (List.range l.length).filter (lp h)) = FF) := ⟨_, Lib.hid rfl⟩
      rw [HFF.out] at HRD
      clear hb hr hh c0
      go_wp2_with (fail)
      go_loopw [3, 27] (fun lst i wr => ∃ (k : Nat) (lv : Int), lst = .int .i64 lv ∧ i = .int .i64 (k : Int) ∧ k ≤ bs.length ∧ Hid (∀ (h : k < bs.length), lv < (bs[k].head : Int)) ∧ Hid (Below w6.heap.size w6 wr)) (fun _ i _ => bs.length - (intOf i).toNat)
      case atStart => exact ⟨0, -1, rfl, rfl, Nat.zero_le _, Lib.hid (fun h => by omega), Lib.hid (Below.refl _ _)⟩
      case round =>
        obtain ⟨k, lv, rfl, rfl, hk, hlv, hbk⟩ := hrel
        generalize wr = wa at *
        by_cases hkl : k < bs.length
        · obtain ⟨g, rfl, hg, hcs⟩ := (HRD.out.later hbk.out) (by omega)
          obtain ⟨k0, k1, z1⟩ := hcs k hkl
          have HLV := Lib.hid (hlv.out hkl)
          have HNX := Lib.hid (show ∀ (h : k + 1 < bs.length), (bs[k].head : Int) < (bs[k + 1].head : Int) from fun h => by have := HINC.out k (k + 1) hkl h (by omega); omega)
          obtain ⟨hf1, hf2, hf3, hf4, hf5⟩ := HHF.out _ (HHM.out k hkl)
          have HF1 := Lib.hid hf1
          have HFI := Lib.hid (And.intro hf2 hf3)
          have HF4 := Lib.hid hf4
          have HF5' := Lib.hid hf5
          have HFK := Lib.hid (show FF bs[k].head = (List.range l.length).filter (lp bs[k].head) from by rw [← HFF.out])
          generalize bs[k].head = hd at *
          generalize bs[k].A = A1 at *
          generalize bs[k].c = c1' at *
          obtain ⟨xs, HXS⟩ : ∃ xs, Hid (FF hd = xs) := ⟨_, Lib.hid rfl⟩
          rw [HXS.out] at k1 z1 HFK
          have HMEM := Lib.hid (show ∀ x, x ∈ xs ↔ x < l.length ∧ lp hd x = true from fun x => by rw [HFK.out, List.mem_filter, List.mem_range])
          have HSRT := Lib.hid (show ∀ i j (hi : i < xs.length) (hj : j < xs.length), i < j → xs[i] < xs[j] from by rw [HFK.out]; exact fun i j hi hj hij => filter_lt _ _ _ _ _ _ hij)
          have hxl : xs.length ≤ 30 := by
            rw [HFK.out]
            have h2 := List.length_filter_le (lp hd) (List.range l.length)
            rw [List.length_range] at h2
            omega
          have hxp : 0 < xs.length := List.length_pos_of_mem ((HMEM.out hd).2 ⟨HF1.out, HFI.out.1⟩)
          have hal := (Below.refl wa.heap.size wa).alloc (Nat.le_refl _) (.cells #[.int .i64 (hd : Int), .slice A1 xs.length c1'] 36)
          have HLB := Lib.hid (heap_alloc_new wa (.cells #[.int .i64 (hd : Int), .slice A1 xs.length c1'] 36))
          have HZ := Lib.hid ((z1.below hal).mono hal.size)
          have HBB := Lib.hid (hbk.out.trans (hal.mono hbk.out.size))
          have m0 := Lib.cell_of_heap HLB.out 0
          have m1 := Lib.cell_of_heap HLB.out 1
          have hlv2 := HLV.out
          have hlvi : ¬ (hd : Int) ≤ lv := by omega
          clear hcs z1 hal hf1 hf2 hf3 hf4 hf5
          go_upto_region 9 with (fail)
          generalize (wa.alloc (.cells #[.int .i64 (hd : Int), .slice A1 xs.length c1'] 36)) = wb at *
          obtain ⟨lb, hlb⟩ : ∃ lb, lb = wa.heap.size := ⟨_, rfl⟩
          rw [← hlb] at HLB m0 m1
          rw [← hlb]
          clear hlb
          have HLC := Lib.hid (show ∀ W, Below wb.heap.size wb W → W.heap[lb]? = some (.cells #[.int .i64 (hd : Int), .slice A1 xs.length c1'] 36 (0, 0)) from fun W hW => (hW.block lb (hlt HLB.out)).trans HLB.out)
          have HCN := Lib.hid (contains_gen wb A1 xs.length c1' (zl xs) (hd : Int) (zl_len _).symm HZ.out (by rw [zl_len]; omega) true ⟨fun _ => zl_mem.2 ((HMEM.out hd).2 ⟨HF1.out, HFI.out.1⟩), fun _ => rfl⟩)
          have HIS := Lib.hid (issorted_any wb A1 c1' (zl xs) HZ.out (fun i j hi hj hij => by
            rw [zl_len] at hi hj
            rw [zl_get _ _ hi, zl_get _ _ hj]
            have := HSRT.out i j hi hj hij
            omega) (by rw [zl_len]; omega) (by rw [zl_len]; omega))
          rw [zl_len] at HIS
          go_wp2_with (fail)
          refine HCN.out.mono ?_
          rintro e wx ⟨rfl, hwx⟩
          obtain rfl := hwx.symm
          go_wp2_with (fail)
          refine HIS.out.mono ?_
          rintro e wc ⟨rfl, hb⟩
          have HBC := Lib.hid (show Below wb.heap.size wb wc from hb)
          clear hb k0 k1 m0 m1
          have m0 : wc.cell? ⟨lb, 0, none⟩ = some (.int .i64 (hd : Int)) := Lib.cell_of_heap (HLC.out wc HBC.out) 0
          have m1 : wc.cell? ⟨lb, 1, none⟩ = some (.slice A1 xs.length c1') := Lib.cell_of_heap (HLC.out wc HBC.out) 1
          go_wp2_with (fail)
          clear m0 m1
          go_loopw [6, 54] (fun bk i wr => ∃ (j : Nat) (bb : Bool), bk = .bool bb ∧ i = .int .i64 (j : Int) ∧ j ≤ xs.length ∧ Hid (bb = true ↔ ∃ x, x ∈ xs.take j ∧ hd ∈ edg l x) ∧ Hid (Below wb.heap.size wb wr)) (fun _ i _ => xs.length - (intOf i).toNat)
          case atStart => exact ⟨0, false, rfl, rfl, Nat.zero_le _, Lib.hid ⟨fun e => (by cases e), fun ⟨x, hx, _⟩ => by simp at hx⟩, HBC⟩
          case round =>
            obtain ⟨j, bb, rfl, rfl, hj, hbb, hbw⟩ := hrel
            generalize wr = wq at *
            by_cases hjl : j < xs.length
            · obtain ⟨xb, xo, rfl, hxb, hxc⟩ := ((NRow.of HZ.out).below hbw.out) (by omega)
              have r0 := hxc j hjl
              have hmj := (HMEM.out xs[j]).1 (List.getElem_mem hjl)
              have HTK := Lib.hid (List.take_succ_eq_append_getElem hjl)
              obtain ⟨b, HBE⟩ : ∃ b, Hid (xs[j] = b) := ⟨_, Lib.hid rfl⟩
              rw [HBE.out] at r0 hmj HTK
              have HMJ := Lib.hid hmj
              have hbl := hmj.1
              have HJ1 := Lib.hid (show j + 1 ≤ xs.length ∧ xs.length - (j + 1) < xs.length - j by omega)
              have HBW5 := Lib.hid (show Below w5.heap.size w5 wq from (HB6.out.trans (HBB.out.mono HB6.out.size)).trans (hbw.out.mono (by have := HB6.out.size; have := HBB.out.size; omega)))
              have HD := Lib.hid (HDC.out wq HBW5.out hd b hbl (HFI.out.2 b HMJ.out.2))
              have c0 := (HF5.out.later HBW5.out).cell
              have m0 : wq.cell? ⟨lb, 0, none⟩ = some (.int .i64 (hd : Int)) := Lib.cell_of_heap (HLC.out wq hbw.out) 0
              have hbi : ¬ (l.length : Int) ≤ (b : Int) := by omega
              clear hxc hmj
              go_wp2_with (fail)
              refine HD.out.mono ?_
              rintro e wd ⟨rfl, hb⟩
              have HBD := Lib.hid (show Below wb.heap.size wb wd from hbw.out.trans (hb.mono hbw.out.size))
              have HBD5 := Lib.hid (show Below w5.heap.size w5 wd from HBW5.out.trans (hb.mono HBW5.out.size))
              clear hb c0 m0 r0
              obtain ⟨h1, h2⟩ := edg_zl HOK.out.ok hbl
              obtain ⟨pb, off, rfl, hpb, e1, e2, e3, hz, hc⟩ := HP5.out.at hbl
              have hz0 := (HP5.out.2 _ (List.getElem_mem hbl)).1
              rw [h1] at hz0 e3
              rw [zl_len] at e3
              have HC0 := Lib.hid (show ∀ W, Below wd.heap.size wd W → W.cell? ⟨w.heap.size, 0, none⟩ = some (.slice (some ⟨pb, off, none⟩) l.length c) from fun W hW => ((HF5.out.later HBD5.out).later hW).cell)
              have HC3 := Lib.hid (show ∀ W, Below wd.heap.size wd W → W.cell? ⟨pb, off + b * 3 + 2, none⟩ = some (.slice l[b].A (edg l b).length l[b].c) from fun W hW => ((HBD5.out.trans (hW.mono HBD5.out.size)).cell (p := ⟨pb, off + b * 3 + 2, none⟩) hpb).trans e3)
              have HC4 := Lib.hid (show ∀ W, Below wd.heap.size wd W → W.cell? ⟨lb, 0, none⟩ = some (.int .i64 (hd : Int)) from fun W hW => Lib.cell_of_heap (HLC.out W (HBD.out.trans (hW.mono HBD.out.size))) 0)
              have hdg := HOK.out.edg b
              obtain ⟨tb, htb⟩ : ∃ tb : Bool, tb = true ↔ hd ∈ edg l b := by
                classical exact ⟨decide (hd ∈ edg l b), by simp⟩
              have HZW := Lib.hid (show ∀ W, Below wd.heap.size wd W → ZRow W.heap.size W l[b].A (zl (edg l b)) from fun W hW => by
                have hx := HBD5.out.trans (hW.mono HBD5.out.size)
                exact (hz0.below hx).mono hx.size)
              have HCT := Lib.hid (fun W (hW : Below wd.heap.size wd W) => contains_gen W l[b].A (edg l b).length l[b].c (zl (edg l b)) (hd : Int) (zl_len _).symm (HZW.out W hW) (by rw [zl_len]; omega) tb (htb.trans zl_mem.symm))
              have HCF := Lib.hid (show ∀ W, Below wd.heap.size wd W → Calls Try.prog 37 #[.slice l[b].A (edg l b).length l[b].c, .func (.func 38) #[] #[.pointer (some ⟨lb, 0, none⟩)]] W (fun e W' => e = .returned (.bool true) ∧ Below W.heap.size W W') from fun W hW => by
                have hxw := HBD.out.trans (hW.mono HBD.out.size)
                have hzx := (HZ.out.below hxw).mono hxw.size
                have hb1 := HLC.out W hxw
                rw [← zl_len xs] at hb1
                have h := indexC_any W l[b].A l[b].c (zl (edg l b)) 38 #[.pointer (some ⟨lb, 0, none⟩)] (fun x => decide (x ∈ zl xs)) (HZW.out W hW) (by rw [zl_len]; omega) (bo1_ok hb1 hzx (by rw [zl_len]; omega) (fun x => by simp)) bo1_eK
                rw [zl_len] at h
                refine h.mono fun e W' he => ⟨he.1.trans ?_, he.2⟩
                obtain ⟨y, hy1, hy2⟩ := HF5'.out b HMJ.out.2
                have : (zl (edg l b)).any (fun x => decide (x ∈ zl xs)) = true := List.any_eq_true.2 ⟨(y : Int), zl_mem.2 hy1, by
                  rw [decide_eq_true_eq, zl_mem]
                  exact (HMEM.out y).2 ⟨((edg_zl HOK.out.ok hbl).2 y hy1).2, hy2⟩⟩
                rw [this])
              have HBN0 := Lib.hid (show ∀ b2 : Bool, (b2 = true ↔ (bb = true ∨ hd ∈ edg l b)) → (b2 = true ↔ ∃ x, x ∈ xs.take (j + 1) ∧ hd ∈ edg l x) from fun b2 h => by
                rw [h, hbb.out, HTK.out]
                constructor
                · rintro (⟨x, hx, h3⟩ | h3)
                  · exact ⟨x, by simp [hx], h3⟩
                  · exact ⟨b, by simp, h3⟩
                · rintro ⟨x, hx, h3⟩
                  rcases List.mem_append.1 hx with hx | hx
                  · exact .inl ⟨x, hx, h3⟩
                  · rw [List.mem_singleton.1 hx] at h3; exact .inr h3)
              have HTB := Lib.hid htb
              generalize l[b].A = A2 at *
              generalize l[b].c = c2 at *
              obtain ⟨ne, HNE⟩ : ∃ n, Hid ((edg l b).length = n) := ⟨_, Lib.hid rfl⟩
              rw [HNE.out] at HC3 HCT HCF hdg
              clear h1 h2 e1 e2 e3 hz hc hz0 htb hpb
              have HBD := HBD
              clear hbw
              have hbw := HBD
              cases bb with
              | true =>
                have HBN := Lib.hid (HBN0.out true ⟨fun _ => .inl rfl, fun _ => rfl⟩)
                as_aux_lemma =>
                  go_upto_region 18 with (fail)
                  rename_i K hKK
                  go_quiet (fail)
                  have HB18 := Lib.hid (show Below wd.heap.size wd (wd.drewN nq) from below_drewN (Below.refl _ _) nq)
                  refine hKK _ _ ?_
                  generalize wd.drewN nq = we at *
                  have e0 := HC0.out we HB18.out
                  have e3 := HC3.out we HB18.out
                  go_wp2_with (fail)
                  refine (HCF.out we HB18.out).mono ?_
                  rintro e wg ⟨rfl, hb⟩
                  have HBG := Lib.hid (hbw.out.trans ((HB18.out.trans (hb.mono HB18.out.size)).mono hbw.out.size))
                  clear hb
                  go_wp2_with (fail)
                  exact ⟨⟨j + 1, true, by first | rfl | trivial, by go_num, HJ1.out.1, Lib.hid (by first | exact HBN.out | simpa using HBN.out), HBG⟩, by have := HJ1.out.2; simp only [intOf, Int.toNat_natCast]; first | exact this | (simp; omega)⟩
              | false =>
                have HBN := Lib.hid (HBN0.out tb (by rw [HTB.out]; simp))
                as_aux_lemma =>
                  go_upto_region 18 with (fail)
                  rename_i K hKK
                  refine wp_region_noPanic ?_
                  refine wp_region_held_drew (S := fun w' => Below wd.heap.size wd w') (by kernel_rfl) (Below.refl _ _).drew (fun _ => ?_)
                  have HB18 := Lib.hid (show Below wd.heap.size wd wd.drew from (Below.refl _ _).drew)
                  generalize wd.drew = we at *
                  refine wpAnyH_take (i := 0) (oi := { dst := some 75, op := Op.move (Operand.tmp 6), type := 4, pos := "law.go:180", after := #[], guard := none }) (v := .bool false) rfl (by kernel_rfl) (by kernel_rfl) (by kernel_rfl) (fun _ _ _ h => h) (Or.inl ⟨by rfl, ?_⟩) HB18.out ?_
                  · (intro w' hSw; go_simp)
                  simp only [Act.put, List.setIfInBounds_toArray, List.set_cons_zero, List.set_cons_succ]
                  refine wpAnyH_take (i := 1) (oi := { dst := some 76, op := Op.move (Operand.tmp 75), type := 4, pos := "law.go:180", after := #[{ on := 0, ground := Ground.data }], guard := none }) (v := .bool false) rfl (by kernel_rfl) (by kernel_rfl) (by kernel_rfl) (fun _ _ _ h => h) (Or.inl ⟨by rfl, ?_⟩) HB18.out ?_
                  · (intro w' hSw; go_simp)
                  simp only [Act.put, List.setIfInBounds_toArray, List.set_cons_zero, List.set_cons_succ]
                  refine wpAnyH_take (i := 2) (oi := { dst := some 77, op := Op.fieldAddr 24 (Operand.tmp 1) 0, type := 0, pos := "law.go:180", after := #[{ on := 1, ground := Ground.guard }], guard := some (1, false) }) (v := .pointer (some ⟨w.heap.size, 0, none⟩)) rfl (by kernel_rfl) (by kernel_rfl) (by kernel_rfl) (fun _ _ _ h => h) (Or.inl ⟨by rfl, ?_⟩) HB18.out ?_
                  · (intro w' hSw; go_simp)
                  simp only [Act.put, List.setIfInBounds_toArray, List.set_cons_zero, List.set_cons_succ]
                  refine wpAnyH_take (i := 3) (oi := { dst := some 78, op := Op.load 22 (Operand.tmp 77), type := 22, pos := "law.go:180", after := #[{ on := 2, ground := Ground.data }, { on := 1, ground := Ground.guard }], guard := some (1, false) }) (v := .slice (some ⟨pb, off, none⟩) l.length c) rfl (by kernel_rfl) (by kernel_rfl) (by kernel_rfl) (fun _ _ _ h => h) (Or.inl ⟨by rfl, ?_⟩) HB18.out ?_
                  · (intro w' hSw; have z := HC0.out w' hSw; go_simp)
                  simp only [Act.put, List.setIfInBounds_toArray, List.set_cons_zero, List.set_cons_succ]
                  refine wpAnyH_take (i := 4) (oi := { dst := some 79, op := Op.move (Operand.tmp 8), type := 3, pos := "law.go:180", after := #[{ on := 1, ground := Ground.guard }], guard := some (1, false) }) (v := .int .i64 (b : Int)) rfl (by kernel_rfl) (by kernel_rfl) (by kernel_rfl) (fun _ _ _ h => h) (Or.inl ⟨by rfl, ?_⟩) HB18.out ?_
                  · (intro w' hSw; go_simp)
                  simp only [Act.put, List.setIfInBounds_toArray, List.set_cons_zero, List.set_cons_succ]
                  refine wpAnyH_take (i := 5) (oi := { dst := some 80, op := Op.indexAddr 22 (Operand.tmp 78) (Operand.tmp 79), type := 0, pos := "law.go:180", after := #[{ on := 3, ground := Ground.data }, { on := 4, ground := Ground.data }, { on := 1, ground := Ground.guard }], guard := some (1, false) }) (v := .pointer (some ⟨pb, off + b * 3, none⟩)) rfl (by kernel_rfl) (by kernel_rfl) (by kernel_rfl) (fun _ _ _ h => h) (Or.inl ⟨by rfl, ?_⟩) HB18.out ?_
                  · (intro w' hSw; go_simp)
                  simp only [Act.put, List.setIfInBounds_toArray, List.set_cons_zero, List.set_cons_succ]
                  refine wpAnyH_take (i := 6) (oi := { dst := some 81, op := Op.fieldAddr 44 (Operand.tmp 80) 2, type := 0, pos := "law.go:180", after := #[{ on := 5, ground := Ground.data }, { on := 1, ground := Ground.guard }], guard := some (1, false) }) (v := .pointer (some ⟨pb, off + b * 3 + 2, none⟩)) rfl (by kernel_rfl) (by kernel_rfl) (by kernel_rfl) (fun _ _ _ h => h) (Or.inl ⟨by rfl, ?_⟩) HB18.out ?_
                  · (intro w' hSw; go_simp)
                  simp only [Act.put, List.setIfInBounds_toArray, List.set_cons_zero, List.set_cons_succ]
                  refine wpAnyH_take (i := 7) (oi := { dst := some 82, op := Op.load 29 (Operand.tmp 81), type := 29, pos := "law.go:180", after := #[{ on := 6, ground := Ground.data }, { on := 1, ground := Ground.guard }], guard := some (1, false) }) (v := .slice A2 ne c2) rfl (by kernel_rfl) (by kernel_rfl) (by kernel_rfl) (fun _ _ _ h => h) (Or.inl ⟨by rfl, ?_⟩) HB18.out ?_
                  · (intro w' hSw; have z := HC3.out w' hSw; go_simp)
                  simp only [Act.put, List.setIfInBounds_toArray, List.set_cons_zero, List.set_cons_succ]
                  refine wpAnyH_take (i := 8) (oi := { dst := some 83, op := Op.fieldAddr 36 (Operand.tmp 5) 0, type := 0, pos := "law.go:180", after := #[{ on := 1, ground := Ground.guard }], guard := some (1, false) }) (v := .pointer (some ⟨lb, 0, none⟩)) rfl (by kernel_rfl) (by kernel_rfl) (by kernel_rfl) (fun _ _ _ h => h) (Or.inl ⟨by rfl, ?_⟩) HB18.out ?_
                  · (intro w' hSw; go_simp)
                  simp only [Act.put, List.setIfInBounds_toArray, List.set_cons_zero, List.set_cons_succ]
                  refine wpAnyH_take (i := 9) (oi := { dst := some 84, op := Op.load 3 (Operand.tmp 83), type := 3, pos := "law.go:180", after := #[{ on := 8, ground := Ground.data }, { on := 1, ground := Ground.guard }], guard := some (1, false) }) (v := .int .i64 (hd : Int)) rfl (by kernel_rfl) (by kernel_rfl) (by kernel_rfl) (fun _ _ _ h => h) (Or.inl ⟨by rfl, ?_⟩) HB18.out ?_
                  · (intro w' hSw; have z := HC4.out w' hSw; go_simp)
                  simp only [Act.put, List.setIfInBounds_toArray, List.set_cons_zero, List.set_cons_succ]
                  refine wpAnyH_ready (rs := [10]) (by kernel_rfl) (by simp) (AllReadyH.cons (o := { dst := some 85, op := Op.call { callee := Callee.value (Operand.func 33), args := #[Operand.tmp 82, Operand.tmp 84], argTypes := #[29, 3] }, type := 4, pos := "law.go:180", after := #[{ on := 7, ground := Ground.data }, { on := 9, ground := Ground.data }, { on := 1, ground := Ground.chain }, { on := 1, ground := Ground.guard }], guard := some (1, false) }) rfl (fun K hK => ?_) AllReadyH.nil)
                  go_simp
                  go_at_call 33
                  refine (HCT.out we HB18.out).mono ?_
                  rintro e wf ⟨rfl, hwf⟩
                  obtain rfl := hwf.symm
                  refine hK.out _ _ HB18.out (fun _ => ?_)
                  clear hK K
                  try simp only [Act.put, List.setIfInBounds_toArray, List.set_cons_zero, List.set_cons_succ]
                  refine wpAnyH_take (i := 11) (oi := { dst := some 86, op := Op.pick (Operand.tmp 76) (Operand.const (Value.bool true)) (Operand.tmp 85), type := 4, pos := "law.go:180", after := #[{ on := 1, ground := Ground.data }, { on := 10, ground := Ground.data }], guard := none }) (v := .bool tb) rfl (by kernel_rfl) (by kernel_rfl) (by kernel_rfl) (fun _ _ _ h => h) (Or.inl ⟨by rfl, ?_⟩) HB18.out ?_
                  · (intro w' hSw; go_simp)
                  simp only [Act.put, List.setIfInBounds_toArray, List.set_cons_zero, List.set_cons_succ]
                  refine wpAnyH_take (i := 12) (oi := { dst := some 6, op := Op.assign (Operand.tmp 86), type := 4, pos := "law.go:180", after := #[{ on := 11, ground := Ground.data }, { on := 10, ground := Ground.chain }, { on := 0, ground := Ground.phase }, { on := 1, ground := Ground.phase }, { on := 2, ground := Ground.phase }, { on := 3, ground := Ground.phase }, { on := 4, ground := Ground.phase }, { on := 5, ground := Ground.phase }, { on := 6, ground := Ground.phase }, { on := 7, ground := Ground.phase }, { on := 8, ground := Ground.phase }, { on := 9, ground := Ground.phase }, { on := 10, ground := Ground.phase }, { on := 11, ground := Ground.phase }], guard := none }) (v := .bool tb) rfl (by kernel_rfl) (by kernel_rfl) (by kernel_rfl) (fun _ _ _ h => h) (Or.inl ⟨by rfl, ?_⟩) HB18.out ?_
                  · (intro w' hSw; go_simp)
                  simp only [Act.put, List.setIfInBounds_toArray, List.set_cons_zero, List.set_cons_succ]
                  refine wpAnyH_done (by kernel_rfl) ?_ _
                  refine NoPanic.normal ?_
                  refine hKK _ _ ?_
                  have e0 := HC0.out we HB18.out
                  have e3 := HC3.out we HB18.out
                  go_wp2_with (fail)
                  refine (HCF.out we HB18.out).mono ?_
                  rintro e wg ⟨rfl, hb⟩
                  have HBG := Lib.hid (hbw.out.trans ((HB18.out.trans (hb.mono HB18.out.size)).mono hbw.out.size))
                  clear hb
                  go_wp2_with (fail)
                  exact ⟨⟨j + 1, tb, by first | rfl | trivial, by go_num, HJ1.out.1, Lib.hid (by first | exact HBN.out | simpa using HBN.out), HBG⟩, by have := HJ1.out.2; simp only [intOf, Int.toNat_natCast]; first | exact this | (simp; omega)⟩
            · obtain rfl : j = xs.length := by omega
              have hbt : bb = true := hbb.out.2 (by
                obtain ⟨t, h1, h2, h3⟩ := HF4.out
                rw [List.take_length]
                exact ⟨t, (HMEM.out t).2 ⟨h1, h2⟩, h3⟩)
              subst hbt
              go_wp2_with (fail)
              exact ⟨⟨k + 1, (hd : Int), rfl, by go_num, by omega, HNX, Lib.hid (HBB.out.trans (hbw.out.mono HBB.out.size))⟩, by simp [intOf]; omega⟩
        · obtain rfl : k = bs.length := by omega
          have HBW5 := Lib.hid (show Below w5.heap.size w5 wa from HB6.out.trans (hbk.out.mono HB6.out.size))
          have c0 := (HF5.out.later HBW5.out).cell
          go_wp2_with (fail)
          refine (HCR.out wa HBW5.out).mono ?_
          rintro e w7 ⟨hb, ⟨_, hb1, R, rfl, hr⟩ | ⟨h, _⟩⟩
          rotate_left
          · exact absurd h (by rw [HOK.out.ok]; decide)
          have HB7 := Lib.hid (HBW5.out.trans (hb.mono HBW5.out.size))
          have HR := Lib.hid hr
          clear hb hr c0
          go_wp2_with (fail)
          go_loopw [103] (fun i wr => ∃ v : Nat, i = .int .i64 (v : Int) ∧ v ≤ l.length ∧ Hid (Below w7.heap.size w7 wr)) (fun i _ => l.length - (intOf i).toNat)
          case atStart => exact ⟨0, rfl, Nat.zero_le _, Lib.hid (Below.refl _ _)⟩
          case round =>
            obtain ⟨v, rfl, hvv, hbv⟩ := hrel
            generalize wr = wb at *
            by_cases hvl : v < l.length
            · have HRV := Lib.hid (HR.out.later hbv.out)
              obtain ⟨A5, c5, hrx, hc5, hnr⟩ := HRV.out.nrow hvl
              have k0 := HRV.out.cell hvl
              rw [hrx] at k0
              have HMV := Lib.hid (show ∀ a, a ∈ (List.range l.length).filter (fun a => cd a v) → a < l.length ∧ cd a v = true from fun a ha => ⟨List.mem_range.1 (List.mem_filter.1 ha).1, (List.mem_filter.1 ha).2⟩)
              have hxl := List.length_filter_le (fun a => cd a v) (List.range l.length)
              rw [List.length_range] at hxl
              obtain ⟨xs, HXS⟩ : ∃ xs, Hid ((List.range l.length).filter (fun a => cd a v) = xs) := ⟨_, Lib.hid rfl⟩
              rw [HXS.out] at k0 hc5 hnr HMV hxl
              have HNR := Lib.hid hnr
              clear hrx hnr
              go_wp2_with (fail)
              clear k0
              go_loopw [109] (fun i wr => ∃ j : Nat, i = .int .i64 (j : Int) ∧ j ≤ xs.length ∧ Hid (Below wb.heap.size wb wr)) (fun i _ => xs.length - (intOf i).toNat)
              case atStart => exact ⟨0, rfl, Nat.zero_le _, Lib.hid (Below.refl _ _)⟩
              case round =>
                obtain ⟨j, rfl, hj, hbj⟩ := hrel
                generalize wr = wc at *
                by_cases hjl : j < xs.length
                · obtain ⟨xb, xo, rfl, hxb, hxc⟩ := (HNR.out.below hbj.out) (by omega)
                  have r0 := hxc j hjl
                  obtain ⟨hal, hcda⟩ := HMV.out xs[j] (List.getElem_mem hjl)
                  obtain ⟨a, HAE⟩ : ∃ a, Hid (xs[j] = a) := ⟨_, Lib.hid rfl⟩
                  rw [HAE.out] at r0 hal hcda
                  have hai : ¬ (l.length : Int) ≤ (a : Int) := by omega
                  have HBC5 := Lib.hid (show Below w5.heap.size w5 wc from (HB7.out.trans (hbv.out.mono HB7.out.size)).trans (hbj.out.mono (by have := HB7.out.size; have := hbv.out.size; omega)))
                  have c0 := (HF5.out.later HBC5.out).cell
                  obtain ⟨h1, h2⟩ := edg_zl HOK.out.ok hal
                  obtain ⟨pb, off, rfl, hpb, e1, e2, e3, hz, hc⟩ := HP5.out.at hal
                  have hz0 := (HP5.out.2 _ (List.getElem_mem hal)).1
                  rw [h1] at hz0 e3
                  rw [zl_len] at e3
                  have e4 : wc.cell? ⟨pb, off + a * 3 + 2, none⟩ = some (.slice l[a].A (edg l a).length l[a].c) := (HBC5.out.cell (p := ⟨pb, off + a * 3 + 2, none⟩) hpb).trans e3
                  have hap := HCD1.out a v hcda
                  have hdg := HOK.out.edg a
                  have hBal := (Below.refl wc.heap.size wc).alloc (Nat.le_refl _) (.cells #[.slice l[a].A (edg l a).length l[a].c] 29)
                  have hnew := heap_alloc_new wc (.cells #[.slice l[a].A (edg l a).length l[a].c] 29)
                  have HNB := Lib.hid (show Bx (wc.alloc (.cells #[.slice l[a].A (edg l a).length l[a].c] 29)) wc.heap.size 29 (.slice l[a].A (edg l a).length l[a].c) from hnew)
                  have HBAL := Lib.hid hBal
                  have HCF := Lib.hid (show Calls Try.prog 37 #[.slice l[a].A (edg l a).length l[a].c, .func (.func 39) #[] #[.pointer (some ⟨wc.heap.size, 0, none⟩)]] (wc.alloc (.cells #[.slice l[a].A (edg l a).length l[a].c] 29)) (fun e W' => e = .returned (.bool true) ∧ Below (wc.alloc (.cells #[.slice l[a].A (edg l a).length l[a].c] 29)).heap.size (wc.alloc (.cells #[.slice l[a].A (edg l a).length l[a].c] 29)) W') from by
                    have hx := HBC5.out.trans (hBal.mono HBC5.out.size)
                    have hzz := (hz0.below hx).mono hx.size
                    have hbx : Bx (wc.alloc (.cells #[.slice l[a].A (edg l a).length l[a].c] 29)) wc.heap.size 29 (.slice l[a].A (zl (edg l a)).length l[a].c) := by rw [zl_len]; exact hnew
                    have h := indexC_any _ l[a].A l[a].c (zl (edg l a)) 39 #[.pointer (some ⟨wc.heap.size, 0, none⟩)] (fun x => x != (((edg l a)[0]'hap : Nat) : Int)) hzz (by rw [zl_len]; omega) (bo2_ok hbx hzz (by rw [zl_len]; exact hap) (zl_get _ 0 hap) (fun x => rfl)) bo2_eK
                    rw [zl_len] at h
                    refine h.mono fun e W' he => ⟨he.1.trans ?_, he.2⟩
                    obtain ⟨y, hy1, hy2⟩ := HTWO.out a v hcda _ (List.getElem_mem hap)
                    have : (zl (edg l a)).any (fun x => x != (((edg l a)[0]'hap : Nat) : Int)) = true := List.any_eq_true.2 ⟨(y : Int), zl_mem.2 hy1, by simp; omega⟩
                    rw [this])
                  have k13 := HNB.out.cell
                  generalize l[a].A = A2 at *
                  generalize l[a].c = c2 at *
                  generalize (edg l a).length = ne at *
                  clear hxc h1 h2 e1 e2 e3 hz hc hz0 hpb hnew hBal hcda HNB
                  go_wp2_with (fail)
                  refine HCF.out.mono ?_
                  rintro e wx ⟨rfl, hb⟩
                  have HBX := Lib.hid (hbj.out.trans ((HBAL.out.trans (hb.mono HBAL.out.size)).mono hbj.out.size))
                  clear hb
                  go_wp2_with (fail)
                  exact ⟨⟨j + 1, by go_num, by omega, HBX⟩, by simp [intOf]; omega⟩
                · obtain rfl : j = xs.length := by omega
                  go_wp2_with (fail)
                  exact ⟨⟨v + 1, by go_num, by omega, Lib.hid (hbv.out.trans (hbj.out.mono hbv.out.size))⟩, by simp [intOf]; omega⟩
            · obtain rfl : v = l.length := by omega
              go_wp2_with (fail)
              go_ret
              exact ⟨rfl, HB5.out.trans ((HB7.out.trans (hbv.out.mono HB7.out.size)).mono HB5.out.size)⟩
end Go.Proofs.Ytbdpdbeekbbehaa
