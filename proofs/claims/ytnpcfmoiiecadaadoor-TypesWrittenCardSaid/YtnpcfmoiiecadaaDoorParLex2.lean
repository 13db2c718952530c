/- What is proved: the reference's parser: lexical. -/
import Derived.Test.YtnpcfmoiiecadaaDoorWtParse
set_option linter.unusedVariables false
namespace Go.Proofs.YtnpcfmoiiecadaaDoor.Par
open Go.RowKit
open Lx (Tok)

set_option maxRecDepth 100000 in
set_option maxHeartbeats 4000000 in
theorem lexical_any (s : ByteArray) (w : World) (hs : s.size ≤ 4096) :
    Calls Tryd.prog 31 #[.string s] w fun e w' => ∃ v, e = .returned v ∧ w'.ownsRow w.heap.size 96 5 v (lexical (Lx.scan s.data.toList)).length (dcells (lexical (Lx.scan s.data.toList))) ∧ Below w.heap.size w w' := by
  obtain ⟨i0, hi0, hz0, hz1, hz2⟩ := info_parts infoDg
  have HSC := Lib.hid (fun w => Lx.r_scan_good s w hs)
  have HSL : 0 < (Lx.scan s.data.toList).length ∧ (Lx.scan s.data.toList).length ≤ 4097 := by
    obtain ⟨ts, t, h1, hn, _⟩ := scan_shape s.data.toList (s.data.toList.length + 1) 0 (Nat.zero_le _) (by omega)
    have hl : s.data.toList.length = s.size := by simp
    have e : (Lx.scan s.data.toList).length = ts.length + 1 := by
      show (Lx.scanTo _ _ 0).length = _
      rw [h1]; simp
    omega
  have HTF := Lib.hid (fun (t : Tok) => tok_facts s t)
  have HWD := Lib.hid (fun (t : Tok) (w : World) h0 h1 h2 => word_any s t w hs h0 h1 h2)
  have HNU := Lib.hid (fun (s : ByteArray) (w : World) => Lx.r_number_any s w)
  have HM0 := Lib.hid (World.ownsRow_made (base := w.heap.size) (e := 96) (size := 5) w #[] 0 (Nat.le_refl _) (by unfold maxLen; omega) rfl)
  generalize hT : Lx.scan s.data.toList = T at *
  clear hT
  go_enter Tryd.func31, Tryd.ntmps31
  go_wp2_with (fail)
  have hB0 := (Below.refl w.heap.size w).alloc (Nat.le_refl _) (.cells #[] 96)
  have hZ0 := World.size_alloc w (.cells #[] 96)
  generalize (w.alloc (.cells #[] 96)) = w0 at *
  refine (HSC.out w0).mono ?_
  rintro e w1 ⟨v, rfl, hown, hbe⟩
  obtain ⟨b, c, rfl, hbB, hblt, hTk, hTy⟩ := toks_own2 hown HSL.1
  have HSB : Hid (LXS w b T [] w1 (.slice (some ⟨w.heap.size, 0, none⟩) 0 0)) := ⟨own_later HM0.out hbe, hTk, hTy, hB0.trans (hbe.mono (by omega))⟩
  clear hown hbe hB0 hTk hTy hbB HM0
  go_wp2_with (fail)
  go_loopw [3, 6] (fun v x wr => ∃ (i : Nat) (acc : List Dg), i ≤ T.length ∧ x = .int .i64 (i : Int) ∧ Hid (LXS w b T acc wr v) ∧ Hid (acc = lexical (T.take i))) (fun _ x _ => T.length + 1 - (intOf x).toNat)
  case atStart => exact ⟨0, [], Nat.zero_le _, rfl, HSB, rfl⟩
  case round =>
    obtain ⟨i, acc, hi, rfl, HS, HA⟩ := hrel
    by_cases hlt : i < T.length
    · have hd : decide ((i : Int) < (T.length : Int)) = true := by simp; omega
      have hi1 : (i : Int) < (T.length : Int) := by omega
      have hi0' : (0 : Int) ≤ (i : Int) := by omega
      have hw1 : IntKind.i64.wrap ((i : Int) + 1) = (i : Int) + 1 := IntWalk.i64_in _ (by omega)
      obtain ⟨t0, t1, t2, t3⟩ := HS.out.tok i hlt
      rw [Nat.zero_add] at t0 t1 t2 t3
      have HTI := Lib.hid (show lexical (T.take (i + 1)) = if 0 < lexC T[i] then acc ++ [⟨lexC T[i], (T[i]).at_, (T[i]).hi, (⟨#[]⟩ : ByteArray)⟩] else acc by
        rw [List.take_succ_eq_append_getElem hlt, lexical_snoc, HA.out])
      have hal : acc.length ≤ i := by have := lexical_len (T.take i); rw [HA.out]; simp at this; omega
      obtain ⟨⟨f0, f1, f2⟩, HNK⟩ := HTF.out T[i] (List.getElem_mem hlt)
      have HNK := Lib.hid HNK
      obtain ⟨A1, cap1, hv⟩ := own_shape HS.out.own
      subst hv
      generalize htt : T[i] = t at *
      have HTT := Lib.hid htt
      clear htt
      have HL := Lib.hid hlt
      have HF0 := Lib.hid f0
      have HF1 := Lib.hid f1
      have HF2 := Lib.hid f2
      clear f0 f1 f2
      go_wp2_with (fail)
      refine (HWD.out t _ HF0.out HF1.out HF2.out).mono ?_
      rintro e w2 ⟨rfl, hb2⟩
      have HS2 := Lib.hid (HS.out.later hb2)
      clear hb2 t0 t1 t2 t3
      go_wp2_with (fail)
      refine (HNU.out _ _).mono ?_
      rintro e w3 ⟨rfl, rfl⟩
      obtain ⟨t0, t1, t2, t3⟩ := HS2.out.tok i HL.out
      rw [Nat.zero_add] at t0 t1 t2 t3
      rw [HTT.out] at t0 t1 t2 t3
      generalize Lx.numOk (s.extract t.at_.toNat t.hi.toNat) = nk at *
      generalize (Lx.numV (s.extract t.at_.toNat t.hi.toNat) : Int) = nv at *
      by_cases k4 : t.kind = 4
      · have e4 : (t.kind == 4) = true := by simp [k4]
        have hc : lexC t = 1 := by unfold lexC; rw [if_pos k4]
        rw [hc, if_pos (by decide)] at HTI
        clear hc k4
        have HBA := Lib.hid ((Below.refl w2.heap.size w2).alloc (Nat.le_refl _) (.cells #[.int .i64 1, .int .i64 t.at_, .int .i64 t.hi, .string ⟨#[]⟩, .slice none 0 0] 96))
        have HC1 := Lib.hid (show acc.length + 1 ≤ maxLen by unfold maxLen; omega)
        have HC2 := Lib.hid (show (acc.length + 1) * 64 ≤ 140737488355328 by omega)
        have HNB := Lib.hid (show ∀ (j : Nat) (u : Value), (dcells [⟨1, t.at_, t.hi, (⟨#[]⟩ : ByteArray)⟩])[j]? = some u → (w2.alloc (.cells #[.int .i64 1, .int .i64 t.at_, .int .i64 t.hi, .string ⟨#[]⟩, .slice none 0 0] 96)).drew.cell? ((⟨w2.heap.size, 0, none⟩ : Addr).add j) = some u from World.news_of_block (cs := #[.int .i64 1, .int .i64 t.at_, .int .i64 t.hi, .string ⟨#[]⟩, .slice none 0 0]) (heap_alloc_new w2 _))
        have HOA := Lib.hid (show (w2.alloc (.cells #[.int .i64 1, .int .i64 t.at_, .int .i64 t.hi, .string ⟨#[]⟩, .slice none 0 0] 96)).drew.ownsRow w.heap.size 96 5 (.slice A1 acc.length cap1) acc.length (dcells acc) from own_later HS2.out.own HBA.out.drew)
        have HLA := Lib.hid (show w.heap.size ≤ (w2.alloc (.cells #[.int .i64 1, .int .i64 t.at_, .int .i64 t.hi, .string ⟨#[]⟩, .slice none 0 0] 96)).drew.heap.size by have := HS2.out.below.size; show w.heap.size ≤ (w2.alloc _).heap.size; rw [World.size_alloc]; omega)
        have HSA := Lib.hid (show (w2.alloc (.cells #[.int .i64 1, .int .i64 t.at_, .int .i64 t.hi, .string ⟨#[]⟩, .slice none 0 0] 96)).drew.heap.size = w2.heap.size + 1 from World.size_alloc _ _)
        go_upto_region 15 with (fail)
        go_region_law (first | (refine step_append_lies _ (by rfl) _ _ _ (by rfl) w.heap.size 96 i0 _ 5 64 Tryd.underlying32 hi0 hz0 hz1 hz2 rfl (by decide) (.slice A1 acc.length cap1) acc.length (dcells acc) (by rfl) HOA.out ⟨w2.heap.size, 0, none⟩ 1 1 (dcells [⟨1, t.at_, t.hi, (⟨#[]⟩ : ByteArray)⟩]) (by rfl) (by rfl) HNB.out (dcells_one _) (by decide) HC1.out HC2.out HLA.out (w2.heap.size + 1) HSA.out ?_; intro g cap w3 hown hgr hsel hgl; have HPN := Lib.hid (LXS.grown (d := ⟨1, t.at_, t.hi, (⟨#[]⟩ : ByteArray)⟩) HS2.out HBA.out.drew hgr hown); clear hown hgr hsel hgl))
        all_goals
          go_wp2_with (fail)
          refine ⟨⟨i + 1, acc ++ [⟨1, t.at_, t.hi, (⟨#[]⟩ : ByteArray)⟩], HL.out, rfl, HPN, Lib.hid HTI.out.symm⟩, ?_⟩
          simp [intOf]
          omega
      · have e4 : (t.kind == 4) = false := by simp [k4]
        by_cases k2 : t.kind = 2
        · have e2 : (t.kind == 2) = true := by simp [k2]
          have e0 : (t.kind == 0) = false := by simp [k2]
          have hn := HNK.out k2
          by_cases h9 : 9 < t.hi - t.at_
          · have hc : lexC t = 2 := by unfold lexC; rw [if_neg k4]; simp [k2, h9]
            rw [hc, if_pos (by decide)] at HTI
            have hnk : nk = false := by rw [hn]; simp [h9]
            subst hnk
            clear hc k4 k2 hn h9
            have HBA := Lib.hid ((Below.refl w2.heap.size w2).alloc (Nat.le_refl _) (.cells #[.int .i64 2, .int .i64 t.at_, .int .i64 t.hi, .string ⟨#[]⟩, .slice none 0 0] 96))
            have HC1 := Lib.hid (show acc.length + 1 ≤ maxLen by unfold maxLen; omega)
            have HC2 := Lib.hid (show (acc.length + 1) * 64 ≤ 140737488355328 by omega)
            have HNB := Lib.hid (show ∀ (j : Nat) (u : Value), (dcells [⟨2, t.at_, t.hi, (⟨#[]⟩ : ByteArray)⟩])[j]? = some u → (w2.alloc (.cells #[.int .i64 2, .int .i64 t.at_, .int .i64 t.hi, .string ⟨#[]⟩, .slice none 0 0] 96)).drew.cell? ((⟨w2.heap.size, 0, none⟩ : Addr).add j) = some u from World.news_of_block (cs := #[.int .i64 2, .int .i64 t.at_, .int .i64 t.hi, .string ⟨#[]⟩, .slice none 0 0]) (heap_alloc_new w2 _))
            have HOA := Lib.hid (show (w2.alloc (.cells #[.int .i64 2, .int .i64 t.at_, .int .i64 t.hi, .string ⟨#[]⟩, .slice none 0 0] 96)).drew.ownsRow w.heap.size 96 5 (.slice A1 acc.length cap1) acc.length (dcells acc) from own_later HS2.out.own HBA.out.drew)
            have HLA := Lib.hid (show w.heap.size ≤ (w2.alloc (.cells #[.int .i64 2, .int .i64 t.at_, .int .i64 t.hi, .string ⟨#[]⟩, .slice none 0 0] 96)).drew.heap.size by have := HS2.out.below.size; show w.heap.size ≤ (w2.alloc _).heap.size; rw [World.size_alloc]; omega)
            have HSA := Lib.hid (show (w2.alloc (.cells #[.int .i64 2, .int .i64 t.at_, .int .i64 t.hi, .string ⟨#[]⟩, .slice none 0 0] 96)).drew.heap.size = w2.heap.size + 1 from World.size_alloc _ _)
            go_upto_region 15 with (fail)
            go_region_law (first | (refine step_append_lies _ (by rfl) _ _ _ (by rfl) w.heap.size 96 i0 _ 5 64 Tryd.underlying32 hi0 hz0 hz1 hz2 rfl (by decide) (.slice A1 acc.length cap1) acc.length (dcells acc) (by rfl) HOA.out ⟨w2.heap.size, 0, none⟩ 1 1 (dcells [⟨2, t.at_, t.hi, (⟨#[]⟩ : ByteArray)⟩]) (by rfl) (by rfl) HNB.out (dcells_one _) (by decide) HC1.out HC2.out HLA.out (w2.heap.size + 1) HSA.out ?_; intro g cap w3 hown hgr hsel hgl; have HPN := Lib.hid (LXS.grown (d := ⟨2, t.at_, t.hi, (⟨#[]⟩ : ByteArray)⟩) HS2.out HBA.out.drew hgr hown); clear hown hgr hsel hgl))
            all_goals
              go_wp2_with (fail)
              refine ⟨⟨i + 1, acc ++ [⟨2, t.at_, t.hi, (⟨#[]⟩ : ByteArray)⟩], HL.out, rfl, HPN, Lib.hid HTI.out.symm⟩, ?_⟩
              simp [intOf]
              omega
          · have hc : lexC t = 0 := by unfold lexC; rw [if_neg k4]; simp [k2, h9]
            rw [hc, if_neg (by decide)] at HTI
            have hnk : nk = true := by rw [hn]; simp [h9]
            subst hnk
            clear hc k4 k2 hn h9
            go_upto_region 12 with (fail)
            go_quiet (fail)
            have HS3 := Lib.hid (HS2.out.later (below_drew w2 nq))
            have t0' : (w2.drewN nq).cell? ⟨b, i * 4, none⟩ = some (.int .i64 t.kind) := t0
            have t2' : (w2.drewN nq).cell? ⟨b, i * 4 + 2, none⟩ = some (.int .i64 t.at_) := t2
            have t3' : (w2.drewN nq).cell? ⟨b, i * 4 + 3, none⟩ = some (.int .i64 t.hi) := t3
            clear t0 t1 t2 t3 HS2
            generalize w2.drewN nq = w4 at *
            have HS2 := HS3
            clear HS3
            go_wp2_with (fail)
            refine ⟨⟨i + 1, acc, HL.out, rfl, HS2, HTI.out.symm⟩, ?_⟩
            simp [intOf]
            omega
        · have e2 : (t.kind == 2) = false := by simp [k2]
          by_cases k0 : t.kind = 0
          · have e0 : (t.kind == 0) = true := by simp [k0]
            have hw2 : IntKind.i64.wrap (t.hi - t.at_) = t.hi - t.at_ := IntWalk.i64_in _ (by have := HF0.out; have := HF1.out; have := HF2.out; omega)
            by_cases h16 : 16 < t.hi - t.at_
            · have h16' : decide ((16 : Int) < t.hi - t.at_) = true := by simp [h16]
              have hc : lexC t = 3 := by unfold lexC; rw [if_neg k4]; simp [k0, h16]
              rw [hc, if_pos (by decide)] at HTI
              clear hc k4 k2 k0
              go_upto_region 12 with (fail)
              go_quiet (fail)
              have HS3 := Lib.hid (HS2.out.later (below_drew w2 nq))
              have t0' : (w2.drewN nq).cell? ⟨b, i * 4, none⟩ = some (.int .i64 t.kind) := t0
              have t2' : (w2.drewN nq).cell? ⟨b, i * 4 + 2, none⟩ = some (.int .i64 t.at_) := t2
              have t3' : (w2.drewN nq).cell? ⟨b, i * 4 + 3, none⟩ = some (.int .i64 t.hi) := t3
              clear t0 t1 t2 t3 HS2
              generalize w2.drewN nq = w4 at *
              have HS2 := HS3
              clear HS3
              have HBA := Lib.hid ((Below.refl w4.heap.size w4).alloc (Nat.le_refl _) (.cells #[.int .i64 3, .int .i64 t.at_, .int .i64 t.hi, .string ⟨#[]⟩, .slice none 0 0] 96))
              have HC1 := Lib.hid (show acc.length + 1 ≤ maxLen by unfold maxLen; omega)
              have HC2 := Lib.hid (show (acc.length + 1) * 64 ≤ 140737488355328 by omega)
              have HNB := Lib.hid (show ∀ (j : Nat) (u : Value), (dcells [⟨3, t.at_, t.hi, (⟨#[]⟩ : ByteArray)⟩])[j]? = some u → (w4.alloc (.cells #[.int .i64 3, .int .i64 t.at_, .int .i64 t.hi, .string ⟨#[]⟩, .slice none 0 0] 96)).drew.cell? ((⟨w4.heap.size, 0, none⟩ : Addr).add j) = some u from World.news_of_block (cs := #[.int .i64 3, .int .i64 t.at_, .int .i64 t.hi, .string ⟨#[]⟩, .slice none 0 0]) (heap_alloc_new w4 _))
              have HOA := Lib.hid (show (w4.alloc (.cells #[.int .i64 3, .int .i64 t.at_, .int .i64 t.hi, .string ⟨#[]⟩, .slice none 0 0] 96)).drew.ownsRow w.heap.size 96 5 (.slice A1 acc.length cap1) acc.length (dcells acc) from own_later HS2.out.own HBA.out.drew)
              have HLA := Lib.hid (show w.heap.size ≤ (w4.alloc (.cells #[.int .i64 3, .int .i64 t.at_, .int .i64 t.hi, .string ⟨#[]⟩, .slice none 0 0] 96)).drew.heap.size by have := HS2.out.below.size; show w.heap.size ≤ (w4.alloc _).heap.size; rw [World.size_alloc]; omega)
              have HSA := Lib.hid (show (w4.alloc (.cells #[.int .i64 3, .int .i64 t.at_, .int .i64 t.hi, .string ⟨#[]⟩, .slice none 0 0] 96)).drew.heap.size = w4.heap.size + 1 from World.size_alloc _ _)
              go_upto_region 15 with (fail)
              go_region_law (first | (refine step_append_lies _ (by rfl) _ _ _ (by rfl) w.heap.size 96 i0 _ 5 64 Tryd.underlying32 hi0 hz0 hz1 hz2 rfl (by decide) (.slice A1 acc.length cap1) acc.length (dcells acc) (by rfl) HOA.out ⟨w4.heap.size, 0, none⟩ 1 1 (dcells [⟨3, t.at_, t.hi, (⟨#[]⟩ : ByteArray)⟩]) (by rfl) (by rfl) HNB.out (dcells_one _) (by decide) HC1.out HC2.out HLA.out (w4.heap.size + 1) HSA.out ?_; intro g cap w3 hown hgr hsel hgl; have HPN := Lib.hid (LXS.grown (d := ⟨3, t.at_, t.hi, (⟨#[]⟩ : ByteArray)⟩) HS2.out HBA.out.drew hgr hown); clear hown hgr hsel hgl))
              all_goals
                go_wp2_with (fail)
                refine ⟨⟨i + 1, acc ++ [⟨3, t.at_, t.hi, (⟨#[]⟩ : ByteArray)⟩], HL.out, rfl, HPN, Lib.hid HTI.out.symm⟩, ?_⟩
                simp [intOf]
                omega
            · have h16' : decide ((16 : Int) < t.hi - t.at_) = false := by simp [h16]
              have hc : lexC t = 0 := by unfold lexC; rw [if_neg k4]; simp [k0, h16]
              rw [hc, if_neg (by decide)] at HTI
              clear hc k4 k2 k0
              go_upto_region 12 with (fail)
              go_quiet (fail)
              have HS3 := Lib.hid (HS2.out.later (below_drew w2 nq))
              have t0' : (w2.drewN nq).cell? ⟨b, i * 4, none⟩ = some (.int .i64 t.kind) := t0
              have t2' : (w2.drewN nq).cell? ⟨b, i * 4 + 2, none⟩ = some (.int .i64 t.at_) := t2
              have t3' : (w2.drewN nq).cell? ⟨b, i * 4 + 3, none⟩ = some (.int .i64 t.hi) := t3
              clear t0 t1 t2 t3 HS2
              generalize w2.drewN nq = w4 at *
              have HS2 := HS3
              clear HS3
              go_wp2_with (fail)
              refine ⟨⟨i + 1, acc, HL.out, rfl, HS2, HTI.out.symm⟩, ?_⟩
              simp [intOf]
              omega
          · have e0 : (t.kind == 0) = false := by simp [k0]
            have hc : lexC t = 0 := by unfold lexC; rw [if_neg k4]; simp [k0, k2]
            rw [hc, if_neg (by decide)] at HTI
            clear hc k4 k2 k0
            go_upto_region 12 with (fail)
            go_quiet (fail)
            have HS3 := Lib.hid (HS2.out.later (below_drew w2 nq))
            have t0' : (w2.drewN nq).cell? ⟨b, i * 4, none⟩ = some (.int .i64 t.kind) := t0
            have t2' : (w2.drewN nq).cell? ⟨b, i * 4 + 2, none⟩ = some (.int .i64 t.at_) := t2
            have t3' : (w2.drewN nq).cell? ⟨b, i * 4 + 3, none⟩ = some (.int .i64 t.hi) := t3
            clear t0 t1 t2 t3 HS2
            generalize w2.drewN nq = w4 at *
            have HS2 := HS3
            clear HS3
            go_wp2_with (fail)
            refine ⟨⟨i + 1, acc, HL.out, rfl, HS2, HTI.out.symm⟩, ?_⟩
            simp [intOf]
            omega
    · have hd : decide ((i : Int) < (T.length : Int)) = false := by simp; omega
      have hi1 : i = T.length := by omega
      subst hi1
      go_wp2_with (fail)
      go_ret
      have HA' := HA.out
      rw [List.take_length] at HA'
      subst HA'
      exact ⟨_, rfl, HS.out.own, HS.out.below⟩
end Go.Proofs.YtnpcfmoiiecadaaDoor.Par
