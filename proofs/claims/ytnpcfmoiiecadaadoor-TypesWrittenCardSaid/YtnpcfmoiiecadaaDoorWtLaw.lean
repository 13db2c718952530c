/- What is proved: the law TypesWritten, over what its arguments are. -/
import Derived.Test.YtnpcfmoiiecadaaDoorWtPlain
import Derived.Test.YtnpcfmoiiecadaaDoorParPse
import Derived.Test.YtnpcfmoiiecadaaDoorTyAwake
import Derived.Test.YtnpcfmoiiecadaaDoorTyFewW
set_option linter.unusedVariables false
set_option linter.unusedSimpArgs false
namespace Go.Proofs.YtnpcfmoiiecadaaDoor
open Go.RowKit Go.Shelf

theorem wt_got {s : ByteArray} {t : TyV} {x m : NT} {v : Value} {ds : List Par.Dg} {w : World} {B : Nat} (h : Wt.Reads s t) (hp : Par.parse s = some (m, ds)) (hst : NT.strip x = m) (hd : w.ownsRow B 96 5 v ds.length (Par.dcells ds)) :
    ∃ z, Hid (Wt.NT.getZ x [0, 0, 0, 0] = some z) ∧ Hid (wrT Lx.numV z = t) ∧ Hid (NT.cnt x ≤ 1000000000) ∧ ∃ A c, v = .slice A 0 c := by
  obtain ⟨m0, y, h1, h2, h3, h4⟩ := h
  rw [h1] at hp
  cases hp
  subst hst
  rw [Wt.getZ_strip] at h3
  cases hz : Wt.NT.getZ x [0, 0, 0, 0] with
  | none => rw [hz] at h3; cases h3
  | some z =>
    rw [hz] at h3
    simp only [Option.map_some, Option.some.injEq] at h3
    obtain ⟨A, c, hv, _⟩ := Par.own_drow hd
    refine ⟨z, rfl, ?_, ?_, A, c, hv⟩
    · show wrT Lx.numV z = t
      rw [← h4, ← h3, NT.strip_eq]; rfl
    · show NT.cnt x ≤ 1000000000
      rw [NT.cnt_strip] at h2; omega
theorem wt_int {w : World} {lo : Nat} {n : NT} (h : Par.InF lo w n) : InT w.heap.size w n := inS_inT n (InS.mono (fun b hb => hb.1.lt) n h)
theorem wt_size (t : TyV) (l : List RcV) (hv : validB t l = true) (hn : t.kind = 4 → Lx.nameB t.nm.data.toList = true) : (fmtS t).size ≤ 100 ∧ t.len ≤ 9223372036854775807 := by
  obtain ⟨k, n, nm⟩ := t
  unfold validB at hv
  simp only at hv hn
  by_cases h12 : k = 1 ∨ k = 2
  · rw [if_pos h12, Bool.and_eq_true] at hv
    have h1 : n = 0 := eq_of_beq hv.1
    subst h1
    rcases h12 with rfl | rfl
    · exact ⟨by show (⟨#[105, 110, 116]⟩ : ByteArray).size ≤ 100; decide, by simp⟩
    · exact ⟨by show (⟨#[98, 111, 111, 108]⟩ : ByteArray).size ≤ 100; decide, by simp⟩
  · rw [if_neg h12] at hv
    by_cases h3 : k = 3
    · rw [if_pos h3, Bool.and_eq_true, Bool.and_eq_true, decide_eq_true_eq, decide_eq_true_eq] at hv
      subst h3
      obtain ⟨⟨a, b⟩, hnil⟩ := hv
      refine ⟨?_, by show n ≤ _; omega⟩
      have hc : n = 1 ∨ n = 2 ∨ n = 3 ∨ n = 4 ∨ n = 5 ∨ n = 6 ∨ n = 7 ∨ n = 8 := by omega
      have h2 := Wt.ba_nil hnil
      subst h2
      rcases hc with rfl | rfl | rfl | rfl | rfl | rfl | rfl | rfl <;> exact of_decide_eq_true (by kernel_rfl)
    · rw [if_neg h3] at hv
      by_cases h4 : k = 4
      · rw [if_pos h4, Bool.and_eq_true] at hv
        have h1 : n = 0 := eq_of_beq hv.2
        subst h1 h4
        have h := (Wt.nm_facts (hn rfl)).2.1
        refine ⟨?_, by simp⟩
        show nm.size ≤ 100
        have e : nm.data.toList.length = nm.size := by simp
        omega
      · rw [if_neg h4] at hv; cases hv

set_option maxRecDepth 100000 in
set_option maxHeartbeats 8000000 in
theorem written_law (t : TyV) (A : Option Addr) (c : Nat) (l : List RcV) (W : World) (hr : RRowW W.heap.size W A l) (hl : l.length ≤ 9223372036854775807) (htab : Tab10 W) :
    Calls Tryd.prog 3 #[.agg #[.int .i64 t.kind, .int .i64 t.len, .string t.nm], .slice A l.length c] W fun e w' => e = .returned (.bool true) ∧ Below W.heap.size W w' := by
  have HTB := Lib.hid htab
  have HAW := Lib.hid (fun w => awake_any w)
  obtain ⟨hb2, ht2, hz2⟩ := box_ty W t
  obtain ⟨W2, HW2⟩ : ∃ W2, W.alloc (.cells #[.int .i64 t.kind, .int .i64 t.len, .string t.nm] 23) = W2 := ⟨_, rfl⟩
  rw [HW2] at hb2 ht2 hz2
  have HB2 := Lib.hid hb2
  have HZ2 := Lib.hid (show W.heap.size < W2.heap.size from by omega)
  have HT2 := Lib.hid ht2
  have HFE := Lib.hid (fewW_any A c l W2 hl (hr.later hb2))
  obtain ⟨c0, c1, c2⟩ := ht2.now
  clear htab hb2 hz2 ht2
  cases hf : fewB l with
  | false =>
    rw [hf] at HFE
    clear hf
    go_enter Tryd.func3, Tryd.ntmps3
    go_wp2_with (fail)
    refine HFE.out.mono ?_
    rintro e w3 ⟨rfl, rfl⟩
    go_wp2_with (fail)
    refine (HAW.out _).mono ?_
    rintro e w9 ⟨rfl, hb9⟩
    have HB9 := Lib.hid (HB2.out.trans (hb9.mono HB2.out.size))
    clear hb9
    go_wp2_with (fail)
    go_ret
    exact ⟨rfl, HB9.out⟩
  | true =>
    rw [hf] at HFE
    have HRR := Lib.hid (hr.few hf)
    have HL20 := Lib.hid (few_len hf)
    have HVA := Lib.hid (valid_any t A c l W2 (HRR.out.later HB2.out) (by have := HL20.out; omega))
    clear hf hr
    cases hv : validB t l with
    | false =>
      rw [hv] at HVA
      clear hv
      go_enter Tryd.func3, Tryd.ntmps3
      go_wp2_with (fail)
      refine HFE.out.mono ?_
      rintro e w3 ⟨rfl, rfl⟩
      go_wp2_with (fail)
      refine HVA.out.mono ?_
      rintro e w3 ⟨rfl, hb3⟩
      have HB3 := Lib.hid (HB2.out.trans (hb3.mono HB2.out.size))
      have HT3 := Lib.hid (HT2.out.below hb3 HZ2.out)
      have HS3 := Lib.hid (Nat.lt_of_lt_of_le HZ2.out hb3.size)
      clear hb3 c0 c1 c2
      obtain ⟨c0, c1, c2⟩ := HT3.out.now
      go_wp2_with (fail)
      refine (HAW.out _).mono ?_
      rintro e w9 ⟨rfl, hb9⟩
      have HB9 := Lib.hid (HB3.out.trans (hb9.mono HB3.out.size))
      clear hb9
      go_wp2_with (fail)
      go_ret
      exact ⟨rfl, HB9.out⟩
    | true =>
      rw [hv] at HVA
      have HVV := Lib.hid hv
      clear hv
      by_cases hk : t.kind = 4
      · have hk4 : (t.kind == 4) = true := by rw [hk]; rfl
        cases hnb : Lx.nameB t.nm.data.toList with
        | false =>
          have HNA := Lib.hid (fun W' => Lx.r_name_any t.nm W')
          rw [hnb] at HNA
          clear hnb hk
          go_enter Tryd.func3, Tryd.ntmps3
          go_wp2_with (fail)
          refine HFE.out.mono ?_
          rintro e w3 ⟨rfl, rfl⟩
          go_wp2_with (fail)
          refine HVA.out.mono ?_
          rintro e w3 ⟨rfl, hb3⟩
          have HB3 := Lib.hid (HB2.out.trans (hb3.mono HB2.out.size))
          have HT3 := Lib.hid (HT2.out.below hb3 HZ2.out)
          have HS3 := Lib.hid (Nat.lt_of_lt_of_le HZ2.out hb3.size)
          clear hb3 c0 c1 c2
          obtain ⟨c0, c1, c2⟩ := HT3.out.now
          go_wp2_with (fail)
          refine (HNA.out _).mono ?_
          rintro e w4 ⟨rfl, hb4⟩
          have HB4 := Lib.hid (HB3.out.trans (hb4.mono HB3.out.size))
          clear hb4
          go_wp2_with (fail)
          refine (HAW.out _).mono ?_
          rintro e w9 ⟨rfl, hb9⟩
          have HB9 := Lib.hid (HB4.out.trans (hb9.mono HB4.out.size))
          clear hb9
          go_wp2_with (fail)
          go_ret
          exact ⟨rfl, HB9.out⟩
        | true =>
          have HNA := Lib.hid (fun W' => Lx.r_name_any t.nm W')
          rw [hnb] at HNA
          have HRD := Lib.hid (Wt.reads_any t l HVV.out (fun _ => hnb))
          have hws := wt_size t l HVV.out (fun _ => hnb)
          obtain ⟨F, hF⟩ : ∃ F, fmtS t = F := ⟨_, rfl⟩
          have hfm := fun (w : World) (h : Tab10 w) => format_any t hws.2 w h
          rw [hF] at hfm hws
          have HFM := Lib.hid hfm
          obtain ⟨S, hS⟩ : ∃ S, ((⟨#[112, 114, 111, 99, 32, 102, 40, 120, 58, 32]⟩ : ByteArray) ++ F) ++ (⟨#[41, 32, 123, 32, 125]⟩ : ByteArray) = S := ⟨_, rfl⟩
          have HRD : Hid (Wt.Reads S t) := by have h := HRD.out; unfold Wt.txt at h; rw [hF, hS] at h; exact h
          have e1 : ((⟨#[112, 114, 111, 99, 32, 102, 40, 120, 58, 32]⟩ : ByteArray)).size = 10 := rfl
          have e2 : ((⟨#[41, 32, 123, 32, 125]⟩ : ByteArray)).size = 5 := rfl
          have e3 : ((⟨#[112, 114, 111, 99, 32, 102, 40, 120, 58, 32]⟩ : ByteArray) ++ F).size = 10 + F.size := by rw [ByteArray.size_append, e1]
          have e4 : S.size = 10 + F.size + 5 := by rw [← hS, ByteArray.size_append, e3, e2]
          have hF100 := hws.1
          have HPS := Lib.hid (fun w => Par.parse_any S w (by omega))
          clear hws hfm
          clear hnb hk
          go_enter Tryd.func3, Tryd.ntmps3
          go_wp2_with (fail)
          refine HFE.out.mono ?_
          rintro e w3 ⟨rfl, rfl⟩
          go_wp2_with (fail)
          refine HVA.out.mono ?_
          rintro e w3 ⟨rfl, hb3⟩
          have HB3 := Lib.hid (HB2.out.trans (hb3.mono HB2.out.size))
          have HT3 := Lib.hid (HT2.out.below hb3 HZ2.out)
          have HS3 := Lib.hid (Nat.lt_of_lt_of_le HZ2.out hb3.size)
          clear hb3 c0 c1 c2
          obtain ⟨c0, c1, c2⟩ := HT3.out.now
          go_wp2_with (fail)
          refine (HNA.out _).mono ?_
          rintro e w4 ⟨rfl, hb4⟩
          have HB4 := Lib.hid (HB3.out.trans (hb4.mono HB3.out.size))
          have HT4 := Lib.hid (HT3.out.below hb4 HS3.out)
          have HS4 := Lib.hid (Nat.lt_of_lt_of_le HS3.out hb4.size)
          clear hb4 c0 c1 c2
          obtain ⟨c0, c1, c2⟩ := HT4.out.now
          go_wp2_with (fail)
          refine (HFM.out w4 (Lib.tabBelow_of_tabIs HTB.out _ HB4.out)).mono ?_
          rintro e w5 ⟨rfl, hb5⟩
          have HB5 := Lib.hid (HB4.out.trans (hb5.mono HB4.out.size))
          have HT5 := Lib.hid (HT4.out.below hb5 HS4.out)
          have HS5 := Lib.hid (Nat.lt_of_lt_of_le HS4.out hb5.size)
          clear hb5 c0 c1 c2
          go_wp2_with (fail)
          refine (HPS.out w5).mono ?_
          rintro e w6 ⟨x, v, m9, ds9, rfl, hp9, hst9, hin9, hdg9, hb6⟩
          obtain ⟨z, HZG, HZW, HCX, Ad, cd, rfl⟩ := wt_got HRD.out hp9 hst9 hdg9
          have HIX := Lib.hid (wt_int hin9)
          have HB6 := Lib.hid (HB5.out.trans (hb6.mono HB5.out.size))
          have HT6 := Lib.hid (HT5.out.below hb6 HS5.out)
          have HS6 := Lib.hid (Nat.lt_of_lt_of_le HS5.out hb6.size)
          clear hp9 hst9 hin9 hdg9 hb6
          have hba := (Below.refl w6.heap.size w6).alloc (Nat.le_refl _) (.cells #[.int .i64 x.kind, .string x.text, .int .i64 x.lo, .int .i64 x.hi, .slice x.A x.kids.length x.c] 31)
          have hxb := Wt.NBox.new w6 x
          have hzs : (w6.alloc (.cells #[.int .i64 x.kind, .string x.text, .int .i64 x.lo, .int .i64 x.hi, .slice x.A x.kids.length x.c] 31)).heap.size = w6.heap.size + 1 := World.size_alloc _ _
          obtain ⟨b0, b1, b2, b3, b4⟩ := hxb.cells
          have HI7 := Lib.hid (InT.mono hba.size _ (InT.below hba _ HIX.out))
          have HB7 := Lib.hid (HB6.out.trans (hba.mono HB6.out.size))
          have HT7 := Lib.hid (HT6.out.below hba HS6.out)
          have HS7 := Lib.hid (Nat.lt_of_lt_of_le HS6.out hba.size)
          clear hba hxb
          go_upto_region 4 with (fail)
          generalize (w6.alloc (.cells #[.int .i64 x.kind, .string x.text, .int .i64 x.lo, .int .i64 x.hi, .slice x.A x.kids.length x.c] 31)) = w7 at *
          have hba := (Below.refl w7.heap.size w7).alloc (Nat.le_refl _) (.cells #[.int .i64 0, .int .i64 0, .int .i64 0, .int .i64 0] 3)
          have HI8 := Lib.hid (InT.mono hba.size _ (InT.below hba _ HI7.out))
          have hir := Wt.irow_new w7 [0, 0, 0, 0] #[.int .i64 0, .int .i64 0, .int .i64 0, .int .i64 0] rfl
          rw [hzs] at hir
          have HR8 := Lib.hid hir
          clear hir
          have HB8 := Lib.hid (HB7.out.trans (hba.mono HB7.out.size))
          have HT8 := Lib.hid (HT7.out.below hba HS7.out)
          have HS8 := Lib.hid (Nat.lt_of_lt_of_le HS7.out hba.size)
          clear hba
          go_wp2_with (fail)
          clear hzs b0 b1 b2 b3 b4
          generalize (w7.alloc (.cells #[.int .i64 0, .int .i64 0, .int .i64 0, .int .i64 0] 3)) = w8 at *
          have HGE := Lib.hid (Wt.r_get_any x (some ⟨w6.heap.size + 1, 0, none⟩) 4 [0, 0, 0, 0] w8 HI8.out HR8.out HCX.out (by decide))
          simp only [HZG.out, Option.getD_some, Option.isSome_some] at HGE
          refine HGE.out.mono ?_
          rintro e w9 ⟨rfl, hb9⟩
          have HB9 := Lib.hid (HB8.out.trans (hb9.mono HB8.out.size))
          have HT9 := Lib.hid (HT8.out.below hb9 HS8.out)
          have HS9 := Lib.hid (Nat.lt_of_lt_of_le HS8.out hb9.size)
          clear hb9 HGE
          have hba := (Below.refl w9.heap.size w9).alloc (Nat.le_refl _) (.cells #[.int .i64 z.kind, .string z.text, .int .i64 z.lo, .int .i64 z.hi, .slice z.A z.kids.length z.c] 31)
          have hxb := Wt.NBox.new w9 z
          have hzs : (w9.alloc (.cells #[.int .i64 z.kind, .string z.text, .int .i64 z.lo, .int .i64 z.hi, .slice z.A z.kids.length z.c] 31)).heap.size = w9.heap.size + 1 := World.size_alloc _ _
          obtain ⟨b0, b1, b2, b3, b4⟩ := hxb.cells
          have HB10 := Lib.hid (HB9.out.trans (hba.mono HB9.out.size))
          have HT10 := Lib.hid (HT9.out.below hba HS9.out)
          have HS10 := Lib.hid (Nat.lt_of_lt_of_le HS9.out hba.size)
          clear hba hxb hzs
          go_upto_region 5 with (fail)
          generalize (w9.alloc (.cells #[.int .i64 z.kind, .string z.text, .int .i64 z.lo, .int .i64 z.hi, .slice z.A z.kids.length z.c] 31)) = w10 at *
          have HWR := Lib.hid (wr_any Lx.number_any z A c l w10 t HZW.out (HRR.out.later HB10.out) (by have := HL20.out; omega) true HVV.out t rfl)
          go_wp2_with (fail)
          clear b0 b1 b2 b3 b4
          refine HWR.out.mono ?_
          rintro e w11 ⟨rfl, hb11⟩
          have HB11 := Lib.hid (HB10.out.trans (hb11.mono HB10.out.size))
          have HT11 := Lib.hid (HT10.out.below hb11 HS10.out)
          have HS11 := Lib.hid (Nat.lt_of_lt_of_le HS10.out hb11.size)
          clear hb11 HWR
          obtain ⟨hb12, ht12, hz12⟩ := box_ty w11 t
          have HT12 := Lib.hid (HT11.out.below hb12 HS11.out)
          have HB12 := Lib.hid (HB11.out.trans (hb12.mono HB11.out.size))
          go_upto_region 6 with (fail)
          generalize (w11.alloc (.cells #[.int .i64 t.kind, .int .i64 t.len, .string t.nm] 23)) = w12 at *
          obtain ⟨c0, c1, c2⟩ := HT12.out.now
          obtain ⟨d0, d1, d2⟩ := ht12.now
          clear hb12 ht12 hz12
          go_wp2_with (fail)
          refine (HAW.out _).mono ?_
          rintro e w13 ⟨rfl, hb13⟩
          have HB13 := Lib.hid (HB12.out.trans (hb13.mono HB12.out.size))
          clear hb13 c0 c1 c2 d0 d1 d2
          go_wp2_with (fail)
          go_ret
          exact ⟨rfl, HB13.out⟩
      · have hk4 : (t.kind == 4) = false := by simp [hk]
        have HRD := Lib.hid (Wt.reads_any t l HVV.out (fun h => absurd h hk))
        have hws := wt_size t l HVV.out (fun h => absurd h hk)
        obtain ⟨F, hF⟩ : ∃ F, fmtS t = F := ⟨_, rfl⟩
        have hfm := fun (w : World) (h : Tab10 w) => format_any t hws.2 w h
        rw [hF] at hfm hws
        have HFM := Lib.hid hfm
        obtain ⟨S, hS⟩ : ∃ S, ((⟨#[112, 114, 111, 99, 32, 102, 40, 120, 58, 32]⟩ : ByteArray) ++ F) ++ (⟨#[41, 32, 123, 32, 125]⟩ : ByteArray) = S := ⟨_, rfl⟩
        have HRD : Hid (Wt.Reads S t) := by have h := HRD.out; unfold Wt.txt at h; rw [hF, hS] at h; exact h
        have e1 : ((⟨#[112, 114, 111, 99, 32, 102, 40, 120, 58, 32]⟩ : ByteArray)).size = 10 := rfl
        have e2 : ((⟨#[41, 32, 123, 32, 125]⟩ : ByteArray)).size = 5 := rfl
        have e3 : ((⟨#[112, 114, 111, 99, 32, 102, 40, 120, 58, 32]⟩ : ByteArray) ++ F).size = 10 + F.size := by rw [ByteArray.size_append, e1]
        have e4 : S.size = 10 + F.size + 5 := by rw [← hS, ByteArray.size_append, e3, e2]
        have hF100 := hws.1
        have HPS := Lib.hid (fun w => Par.parse_any S w (by omega))
        clear hws hfm
        clear hk
        go_enter Tryd.func3, Tryd.ntmps3
        go_wp2_with (fail)
        refine HFE.out.mono ?_
        rintro e w3 ⟨rfl, rfl⟩
        go_wp2_with (fail)
        refine HVA.out.mono ?_
        rintro e w4 ⟨rfl, hb3⟩
        have HB4 := Lib.hid (HB2.out.trans (hb3.mono HB2.out.size))
        have HT4 := Lib.hid (HT2.out.below hb3 HZ2.out)
        have HS4 := Lib.hid (Nat.lt_of_lt_of_le HZ2.out hb3.size)
        clear hb3 c0 c1 c2
        obtain ⟨c0, c1, c2⟩ := HT4.out.now
        go_wp2_with (fail)
        refine (HFM.out w4 (Lib.tabBelow_of_tabIs HTB.out _ HB4.out)).mono ?_
        rintro e w5 ⟨rfl, hb5⟩
        have HB5 := Lib.hid (HB4.out.trans (hb5.mono HB4.out.size))
        have HT5 := Lib.hid (HT4.out.below hb5 HS4.out)
        have HS5 := Lib.hid (Nat.lt_of_lt_of_le HS4.out hb5.size)
        clear hb5 c0 c1 c2
        go_wp2_with (fail)
        refine (HPS.out w5).mono ?_
        rintro e w6 ⟨x, v, m9, ds9, rfl, hp9, hst9, hin9, hdg9, hb6⟩
        obtain ⟨z, HZG, HZW, HCX, Ad, cd, rfl⟩ := wt_got HRD.out hp9 hst9 hdg9
        have HIX := Lib.hid (wt_int hin9)
        have HB6 := Lib.hid (HB5.out.trans (hb6.mono HB5.out.size))
        have HT6 := Lib.hid (HT5.out.below hb6 HS5.out)
        have HS6 := Lib.hid (Nat.lt_of_lt_of_le HS5.out hb6.size)
        clear hp9 hst9 hin9 hdg9 hb6
        have hba := (Below.refl w6.heap.size w6).alloc (Nat.le_refl _) (.cells #[.int .i64 x.kind, .string x.text, .int .i64 x.lo, .int .i64 x.hi, .slice x.A x.kids.length x.c] 31)
        have hxb := Wt.NBox.new w6 x
        have hzs : (w6.alloc (.cells #[.int .i64 x.kind, .string x.text, .int .i64 x.lo, .int .i64 x.hi, .slice x.A x.kids.length x.c] 31)).heap.size = w6.heap.size + 1 := World.size_alloc _ _
        obtain ⟨b0, b1, b2, b3, b4⟩ := hxb.cells
        have HI7 := Lib.hid (InT.mono hba.size _ (InT.below hba _ HIX.out))
        have HB7 := Lib.hid (HB6.out.trans (hba.mono HB6.out.size))
        have HT7 := Lib.hid (HT6.out.below hba HS6.out)
        have HS7 := Lib.hid (Nat.lt_of_lt_of_le HS6.out hba.size)
        clear hba hxb
        go_upto_region 4 with (fail)
        generalize (w6.alloc (.cells #[.int .i64 x.kind, .string x.text, .int .i64 x.lo, .int .i64 x.hi, .slice x.A x.kids.length x.c] 31)) = w7 at *
        have hba := (Below.refl w7.heap.size w7).alloc (Nat.le_refl _) (.cells #[.int .i64 0, .int .i64 0, .int .i64 0, .int .i64 0] 3)
        have HI8 := Lib.hid (InT.mono hba.size _ (InT.below hba _ HI7.out))
        have hir := Wt.irow_new w7 [0, 0, 0, 0] #[.int .i64 0, .int .i64 0, .int .i64 0, .int .i64 0] rfl
        rw [hzs] at hir
        have HR8 := Lib.hid hir
        clear hir
        have HB8 := Lib.hid (HB7.out.trans (hba.mono HB7.out.size))
        have HT8 := Lib.hid (HT7.out.below hba HS7.out)
        have HS8 := Lib.hid (Nat.lt_of_lt_of_le HS7.out hba.size)
        clear hba
        go_wp2_with (fail)
        clear hzs b0 b1 b2 b3 b4
        generalize (w7.alloc (.cells #[.int .i64 0, .int .i64 0, .int .i64 0, .int .i64 0] 3)) = w8 at *
        have HGE := Lib.hid (Wt.r_get_any x (some ⟨w6.heap.size + 1, 0, none⟩) 4 [0, 0, 0, 0] w8 HI8.out HR8.out HCX.out (by decide))
        simp only [HZG.out, Option.getD_some, Option.isSome_some] at HGE
        refine HGE.out.mono ?_
        rintro e w9 ⟨rfl, hb9⟩
        have HB9 := Lib.hid (HB8.out.trans (hb9.mono HB8.out.size))
        have HT9 := Lib.hid (HT8.out.below hb9 HS8.out)
        have HS9 := Lib.hid (Nat.lt_of_lt_of_le HS8.out hb9.size)
        clear hb9 HGE
        have hba := (Below.refl w9.heap.size w9).alloc (Nat.le_refl _) (.cells #[.int .i64 z.kind, .string z.text, .int .i64 z.lo, .int .i64 z.hi, .slice z.A z.kids.length z.c] 31)
        have hxb := Wt.NBox.new w9 z
        have hzs : (w9.alloc (.cells #[.int .i64 z.kind, .string z.text, .int .i64 z.lo, .int .i64 z.hi, .slice z.A z.kids.length z.c] 31)).heap.size = w9.heap.size + 1 := World.size_alloc _ _
        obtain ⟨b0, b1, b2, b3, b4⟩ := hxb.cells
        have HB10 := Lib.hid (HB9.out.trans (hba.mono HB9.out.size))
        have HT10 := Lib.hid (HT9.out.below hba HS9.out)
        have HS10 := Lib.hid (Nat.lt_of_lt_of_le HS9.out hba.size)
        clear hba hxb hzs
        go_upto_region 5 with (fail)
        generalize (w9.alloc (.cells #[.int .i64 z.kind, .string z.text, .int .i64 z.lo, .int .i64 z.hi, .slice z.A z.kids.length z.c] 31)) = w10 at *
        have HWR := Lib.hid (wr_any Lx.number_any z A c l w10 t HZW.out (HRR.out.later HB10.out) (by have := HL20.out; omega) true HVV.out t rfl)
        go_wp2_with (fail)
        clear b0 b1 b2 b3 b4
        refine HWR.out.mono ?_
        rintro e w11 ⟨rfl, hb11⟩
        have HB11 := Lib.hid (HB10.out.trans (hb11.mono HB10.out.size))
        have HT11 := Lib.hid (HT10.out.below hb11 HS10.out)
        have HS11 := Lib.hid (Nat.lt_of_lt_of_le HS10.out hb11.size)
        clear hb11 HWR
        obtain ⟨hb12, ht12, hz12⟩ := box_ty w11 t
        have HT12 := Lib.hid (HT11.out.below hb12 HS11.out)
        have HB12 := Lib.hid (HB11.out.trans (hb12.mono HB11.out.size))
        go_upto_region 6 with (fail)
        generalize (w11.alloc (.cells #[.int .i64 t.kind, .int .i64 t.len, .string t.nm] 23)) = w12 at *
        obtain ⟨c0, c1, c2⟩ := HT12.out.now
        obtain ⟨d0, d1, d2⟩ := ht12.now
        clear hb12 ht12 hz12
        go_wp2_with (fail)
        refine (HAW.out _).mono ?_
        rintro e w13 ⟨rfl, hb13⟩
        have HB13 := Lib.hid (HB12.out.trans (hb13.mono HB12.out.size))
        clear hb13 c0 c1 c2 d0 d1 d2
        go_wp2_with (fail)
        go_ret
        exact ⟨rfl, HB13.out⟩
end Go.Proofs.YtnpcfmoiiecadaaDoor
