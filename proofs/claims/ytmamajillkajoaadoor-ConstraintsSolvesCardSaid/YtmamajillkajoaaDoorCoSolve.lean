/- What is proved: Solve, where all constraints are possible. -/
import Derived.Test.YtmamajillkajoaaDoorCoClsP
set_option linter.unusedVariables false
namespace Go.Proofs.YtmamajillkajoaaDoor
open Go.RowKit Go.Shelf

theorem CRow.up {n₀ n₁ : Nat} {w : World} {A : Option Addr} {l : List Con} (h : CRow n₀ w A l) (hn : n₀ ≤ n₁) : CRow n₁ w A l := fun h0 => by
  obtain ⟨b, off, e, hlt, hc⟩ := h h0
  exact ⟨b, off, e, Nat.lt_of_lt_of_le hlt hn, hc⟩
def SvEnd (w : World) (l : List Con) (n : Nat) (e : Ending) (w' : World) : Prop :=
  ∃ tb Y d g B, e = .returned (.tuple #[.slice (some ⟨tb, 0, none⟩) n n, .slice Y (slvC l n).length d, .int .i64 0]) ∧ w.heap.size ≤ tb ∧ TArr w' tb n (tyL l (clss l n n)) ∧ w.heap.size ≤ B ∧ LOwn g w' B (.slice Y (slvC l n).length d) (slvC l n) ∧ Below w.heap.size w w'

set_option maxRecDepth 100000 in
set_option maxHeartbeats 1000000 in
theorem solve_any (n : Nat) (hn : n ≤ 4096) (A : Option Addr) (c : Nat) (l : List Con) (w : World) (hl : l.length ≤ 1000000) (hr : CRow w.heap.size w A l) (hok : ∀ x ∈ l, ConOk x) (hps : l.all (posB n) = true) (hS : (n : Int) + (mkSum l (clss l n n) : Int) < 1000000000) :
    Calls Tryd.prog 6 #[.int .i64 (n : Int), .slice A l.length c] w (SvEnd w l n) := by
  obtain ⟨i0, hi0, hz0, hz1, hz2⟩ := info_parts infoSl
  have hmt := co_make_ty n (by omega)
  have HR := Lib.hid hr
  have HOK := Lib.hid hok
  have HPA := Lib.hid (show ∀ x ∈ l, posB n x = true from List.all_eq_true.1 hps)
  have HPS := Lib.hid hps
  clear hr hok hps
  have hba := (Below.refl w.heap.size w).alloc (Nat.le_refl _) (.cells #[.int .i64 (n : Int)] 3)
  have hvn := heap_alloc_new w (.cells #[.int .i64 (n : Int)] 3)
  have HB1 := Lib.hid hba
  have HV1 := Lib.hid hvn
  clear hba hvn
  have HMT := Lib.hid hmt
  have HSS := Lib.hid hS
  have HN4 := Lib.hid hn
  have h40 : ¬ (n : Int) < 0 := by omega
  have h41 : ¬ (4096 : Int) < (n : Int) := by omega
  clear hmt hS
  go_enter Tryd.func6, Tryd.ntmps6
  go_wp2_with (fail)
  generalize w.alloc (.cells #[.int .i64 (n : Int)] 3) = w1 at *
  refine (conW_any w1 A c l n w.heap.size true HPS.out HV1.out ((HR.out.below HB1.out).up HB1.out.size) hl).mono ?_
  rintro e w2 ⟨rfl, hb2⟩
  have HV2 := Lib.hid ((hb2.block _ (Array.getElem?_eq_some_iff.1 HV1.out).1).trans HV1.out)
  have HB2 := Lib.hid (HB1.out.trans (hb2.mono HB1.out.size))
  clear hb2
  have v2 := Lib.cell_of_heap HV2.out 0
  have HN := Lib.hid (newGraph_any n A c l w2 (by omega) hl ((HR.out.below HB2.out).up HB2.out.size) HOK.out HPA.out)
  go_wp2_with (fail)
  clear v2
  refine HN.out.mono ?_
  rintro e w3 ⟨mb, eb, rb, gb, pb, R, rfl, hpl, hnh, hb3⟩
  have hgd := gd_new hpl hnh hb3 ((HR.out.below HB2.out).up HB2.out.size) (by omega) hl HPA.out
  have HV3 := Lib.hid ((hb3.block _ (Array.getElem?_eq_some_iff.1 HV2.out).1).trans HV2.out)
  have HB3 := Lib.hid (HB2.out.trans (hb3.mono HB2.out.size))
  obtain ⟨g, HGE⟩ : ∃ g : Gp, Hid ((⟨w2.heap.size, w3.heap.size, n, mb, eb, rb, gb, A, c, l, R⟩ : Gp) = g) := ⟨_, Lib.hid rfl⟩
  rw [HGE.out] at hgd
  have hgn : g.n = n := by rw [← HGE.out]
  have hgl : g.l = l := by rw [← HGE.out]
  have hgg : gb = g.gb := by rw [← HGE.out]
  have HGB := Lib.hid (show g.B = w3.heap.size ∧ g.N = w2.heap.size by rw [← HGE.out]; exact ⟨rfl, rfl⟩)
  have HO := Lib.hid hgd.1
  have HG3 := Lib.hid hgd.2
  clear hgd hpl hnh hb3 HN HGE
  subst hgg
  subst hgn
  subst hgl
  have v3 := Lib.cell_of_heap HV3.out 0
  have hta := TArr.new w3 g.n
  have hb4 := (Below.refl w3.heap.size w3).alloc (Nat.le_refl _) (.cells (madeCells #[.int .i64 0, .int .i64 0, .string ⟨#[]⟩] (g.n * 3)) 39)
  have HTA := Lib.hid hta
  have HB4 := Lib.hid hb4
  clear hta hb4
  have hmt := HMT.out w3
  go_wp2_with (fail)
  generalize w3.alloc (.cells (madeCells #[.int .i64 0, .int .i64 0, .string ⟨#[]⟩] (g.n * 3)) 39) = w4 at *
  obtain ⟨tb, HTB⟩ : ∃ tb, Hid (w3.heap.size = tb) := ⟨_, Lib.hid rfl⟩
  have HG4 := Lib.hid (HG3.out.below HO.out HB4.out)
  have HB4' := Lib.hid (HB3.out.trans (HB4.out.mono HB3.out.size))
  rw [HTB.out] at HTA HGB
  rw [HTB.out]
  have HTL := Lib.hid (show w.heap.size ≤ tb by rw [← HTB.out]; exact HB3.out.size)
  have HNW := Lib.hid (show w.heap.size ≤ g.N by rw [HGB.out.2]; exact HB2.out.size)
  have HTN := Lib.hid (show tb ≠ g.gb ∧ tb ≠ g.rb by have h1 := HO.out.hi; have h2 := HO.out.b; have h3 := HGB.out.1; constructor <;> omega)
  have HMK := Lib.hid (clss_ok HPA.out g.n (Nat.le_refl _))
  clear hmt v3 HMT HB4 HB3 HV3 HV2 HV1 HG3
  refine (classes_any g HO.out w4 (fun _ => 0) none 0 [] HG4.out (fun _ _ => rfl)).mono ?_
  rintro e w5 ⟨v5, X5, c5, rfl, rfl, hlo, ⟨s5, Q5, Y5, cY5, vs5, hg5, hs0, hs1, hq5⟩, hf5, hb5⟩
  have HT5 := Lib.hid (HTA.out.fr hf5 HTN.out.1 HTN.out.2)
  have HLO5 := Lib.hid hlo
  have HG5 := Lib.hid hg5
  have HB5 := Lib.hid (HB4'.out.trans (hb5.mono HNW.out))
  have HSQ5 := Lib.hid (show 0 ≤ s5 ∧ s5 ≤ g.n ∧ ∀ u, u < g.n → Q5 u ≤ s5 from ⟨hs0, hs1, hq5⟩)
  have HW45 := Lib.hid (show w4.heap.size ≤ w5.heap.size from hf5.1)
  have HG4z := Lib.hid (HG4.out.size)
  obtain ⟨CS, HCS⟩ : ∃ CS, Hid (clss g.l g.n g.n = CS) := ⟨_, Lib.hid rfl⟩
  rw [HCS.out] at HLO5 HMK HSS
  have HCL := Lib.hid (show CS.length ≤ g.n by rw [← HCS.out]; exact clss_len _ _ _)
  have hcsl : CS.length ≤ 1000000 := by have := HCL.out; have := HN4.out; omega
  rw [HCS.out]
  clear hlo hg5 hf5 hb5 hs0 hs1 hq5 HTA HG4 HB4'
  go_wp2_with (fail)
  go_loopw [10, 37] (fun v i wr => ∃ (j : Nat) (X : Option Addr) (c : Nat) (L : List (List Nat)) (s : Int) (Q : Nat → Int) (Y : Option Addr) (cY : Nat) (vs : List Vis), j ≤ CS.length ∧ i = .int .i64 (j : Int) ∧ v = .slice X L.length c ∧ Hid (L = chF g.l g.n (CS.take j)) ∧ Hid (LOwn g wr w5.heap.size (.slice X L.length c) L) ∧ Hid (GD g s Q Y cY vs wr) ∧ Hid (0 ≤ s ∧ s ≤ (g.n : Int) + (mkSum g.l (CS.take j) : Int) ∧ ∀ u, u < g.n → Q u ≤ s) ∧ Hid (TArr wr tb g.n (tyL g.l (CS.take j))) ∧ Hid (FrZ g (fun b => b = tb ∨ w5.heap.size ≤ b) w5 wr) ∧ Hid (Below g.N w5 wr)) (fun _ i _ => CS.length - (intOf i).toNat)
  case atStart => exact ⟨0, none, 0, [], s5, Q5, Y5, cY5, vs5, Nat.zero_le _, rfl, rfl, Lib.hid rfl, Lib.hid (LOwn.nil _ _ _), HG5, Lib.hid ⟨HSQ5.out.1, by have := HSQ5.out.2.1; simpa [mkSum] using this, HSQ5.out.2.2⟩, Lib.hid (HT5.out.ext fun v _ => rfl), Lib.hid (FrZ.refl _ _ _), Lib.hid (Below.refl _ _)⟩
  case round =>
    obtain ⟨j, X, c, L, s, Q, Y, cY, vs, hj, rfl, rfl, hL, hlo, hgd, hsq, hta, hfr, hbr⟩ := hrel
    by_cases hlt : j < CS.length
    · obtain ⟨rb', cs', Xc, cc, rfl, hrB, hblk, hcj, his, _⟩ := HLO5.out.get j hlt
      have hrl := (Array.getElem?_eq_some_iff.1 hblk).1
      have hrb := hfr.out.2 rb' cs' _ (fun k => by rcases k with k | k; exact HT5.out.ne hblk (by decide) k; omega) (by have h1 := HO.out.hi; have h2 := HO.out.b; have h3 := HG4z.out; omega) (by have h1 := HO.out.hi; have h2 := HO.out.b; have h3 := HG4z.out; omega) (by decide) hblk
      have r0 := (Lib.cell_of_heap hrb j).trans hcj
      have HIC := Lib.hid (show ISl g wr Xc CS[j] from fun h0 => by
        obtain ⟨b, cs, h1, h2, h3, h4, h5, h6⟩ := his h0
        exact ⟨b, cs, h1, h2, h3, h4, hfr.out.2 b cs _ (fun k => by rcases k with k | k; exact HT5.out.ne h5 (by decide) k; have := (Array.getElem?_eq_some_iff.1 h5).1; omega) h2 h3 (by decide) h5, h6⟩)
      have HCK := Lib.hid (HMK.out _ (List.getElem_mem hlt))
      have HTK := Lib.hid (show CS.take (j + 1) = CS.take j ++ [CS[j]] from List.take_succ_eq_append_getElem hlt)
      have HMS := Lib.hid (mkSum_take g.l CS j hlt)
      have HML := Lib.hid (mkSum_le g.l CS (j + 1))
      obtain ⟨cl, HCE⟩ : ∃ cl, Hid (CS[j] = cl) := ⟨_, Lib.hid rfl⟩
      rw [HCE.out] at r0 HIC HCK HTK HMS
      clear hcj his hrb hblk
      obtain ⟨⟨r, ok⟩, HR0⟩ : ∃ ro : TyV × Bool, Hid (typ g.l cl = ro) := ⟨_, Lib.hid rfl⟩
      have hcl6 : cl.length ≤ 1000000 := by have := HCK.out.2.2; have := HN4.out; omega
      have HCM := Lib.hid (common_any g HO.out wr s Q Y cY vs hgd.out Xc cc cl HIC.out HCK.out.1 hcl6 r ok HR0.out)
      have HLL2 := Lib.hid (show chF g.l g.n (CS.take (j + 1)) = if ok then L else L ++ [chain g.l g.n cl] by rw [HTK.out, chF_snoc, HR0.out, ← hL.out])
      have HTY2 := Lib.hid (show ∀ v, tyL g.l (CS.take (j + 1)) v = if cl.contains v then r else tyL g.l (CS.take j) v from fun v => by rw [HTK.out, tyL_snoc, HR0.out])
      go_wp2_with (fail)
      refine HCM.out.mono ?_
      rintro e w6 ⟨rfl, hb6⟩
      have HG6 := Lib.hid (hgd.out.below HO.out hb6)
      have HLO6 := Lib.hid (hlo.out.later HO.out (by have := HG4z.out; have := HW45.out; omega) hb6)
      have HTA6 := Lib.hid (hta.out.below hb6)
      have HFR6 := Lib.hid (show FrZ g (fun b => b = tb ∨ w5.heap.size ≤ b) w5 w6 from hfr.out.trans (FrZ.below hb6))
      have HBR6 := Lib.hid (hbr.out.trans (hb6.mono (by have := hgd.out.size; have := HO.out.b; omega)))
      have HIC6 := Lib.hid (HIC.out.later hb6)
      clear hb6 r0
      cases ok with
      | true =>
        go_wp2_with (fail)
        have HX7 := Lib.hid (heap_alloc_new w6 (.cells #[.int .i64 r.kind, .int .i64 r.len, .string r.nm] 39))
        have hb7 := (Below.refl w6.heap.size w6).alloc (Nat.le_refl _) (.cells #[.int .i64 r.kind, .int .i64 r.len, .string r.nm] 39)
        generalize w6.alloc (.cells #[.int .i64 r.kind, .int .i64 r.len, .string r.nm] 39) = w7 at *
        have HG7 := Lib.hid (HG6.out.below HO.out hb7)
        have HLO7 := Lib.hid (HLO6.out.later HO.out (by have := HG4z.out; have := HW45.out; omega) hb7)
        have HTA7 := Lib.hid (HTA6.out.below hb7)
        have HFR7 := Lib.hid (show FrZ g (fun b => b = tb ∨ w5.heap.size ≤ b) w5 w7 from HFR6.out.trans (FrZ.below hb7))
        have HBR7 := Lib.hid (HBR6.out.trans (hb7.mono (by have := HG6.out.size; have := HO.out.b; omega)))
        have HIC7 := Lib.hid (HIC6.out.later hb7)
        clear hb7
        have HLL3 := Lib.hid (show L = chF g.l g.n (CS.take (j + 1)) from HLL2.out.symm)
        have HSQ7 := Lib.hid (show 0 ≤ s ∧ s ≤ (g.n : Int) + (mkSum g.l (CS.take (j + 1)) : Int) ∧ ∀ u, u < g.n → Q u ≤ s from ⟨hsq.out.1, by have := hsq.out.2.1; have := HMS.out; omega, hsq.out.2.2⟩)
        have hbx := Lib.cell_of_heap HX7.out 0
        obtain ⟨q0, HQ0⟩ : ∃ q, Hid (w6.heap.size = q) := ⟨_, Lib.hid rfl⟩
        have HQT := Lib.hid (show q0 ≠ tb by obtain ⟨cs, h1, _⟩ := HTA6.out; have := (Array.getElem?_eq_some_iff.1 h1).1; have := HQ0.out; omega)
        rw [HQ0.out] at HX7
        rw [HQ0.out]
        clear hbx
        go_loopw [57] (fun i wq => ∃ k : Nat, k ≤ cl.length ∧ i = .int .i64 (k : Int) ∧ Hid (LOwn g wq w5.heap.size (.slice X L.length c) (L)) ∧ Hid (GD g s Q Y cY vs wq) ∧ Hid (ISl g wq Xc cl) ∧ Hid (TArr wq tb g.n (fun u => if (cl.take k).contains u then r else tyL g.l (CS.take j) u)) ∧ Hid (FrZ g (fun b => b = tb ∨ w5.heap.size ≤ b) w5 wq) ∧ Hid (Below g.N w5 wq) ∧ Hid (wq.heap[q0]? = some (.cells #[.int .i64 r.kind, .int .i64 r.len, .string r.nm] 39 (0, 0)))) (fun i _ => cl.length - (intOf i).toNat)
        case atStart => exact ⟨0, Nat.zero_le _, rfl, HLO7, HG7, HIC7, Lib.hid (HTA7.out.ext fun v _ => by simp), HFR7, HBR7, HX7⟩
        case round =>
          obtain ⟨k, hk, rfl, klo, kgd, kic, kta, kfr, kbr, kbx⟩ := hrel
          by_cases hkt : k < cl.length
          · obtain ⟨cb, rfl, hcb, hcc⟩ := kic.out.cells (by omega)
            have y0 := hcc k hkt
            clear hcc
            have hvn : cl[k] < g.n := HCK.out.1 _ (List.getElem_mem hkt)
            have HTX := Lib.hid (show cl.take (k + 1) = cl.take k ++ [cl[k]] from List.take_succ_eq_append_getElem hkt)
            obtain ⟨v, HV⟩ : ∃ v, Hid (cl[k] = v) := ⟨_, Lib.hid rfl⟩
            rw [HV.out] at y0 hvn HTX
            have b0 := Lib.cell_of_heap kbx.out 0
            have b1 := Lib.cell_of_heap kbx.out 1
            have b2 := Lib.cell_of_heap kbx.out 2
            obtain ⟨t0, t1, t2⟩ := kta.out.cells v hvn
            have f0 := kta.out.frz (v * 3)
            have f1 := kta.out.frz (v * 3 + 1)
            have f2 := kta.out.frz (v * 3 + 2)
            have HN1 := Lib.hid (klo.out.setT kta.out v r)
            have HN2 := Lib.hid (kgd.out.setT HO.out kta.out (by have := HGB.out.1; omega) v r)
            have HN3 := Lib.hid (kic.out.setT kta.out v r)
            have HN4' := Lib.hid (show TArr (setT wr tb v r) tb g.n (fun u => if (cl.take (k + 1)).contains u then r else tyL g.l (CS.take j) u) from (kta.out.set v hvn r).ext fun u _ => by
              rw [HTX.out]
              by_cases e : u = v
              · subst e; simp
              · simp [e])
            have HN5 := Lib.hid (show FrZ g (fun b => b = tb ∨ w5.heap.size ≤ b) w5 (setT wr tb v r) from ⟨by rw [setT_size]; exact kfr.out.1, fun b cs t h1 h2 h3 h4 h5 => (setT_heap wr tb v r b (fun e => h1 (.inl e))).trans (kfr.out.2 b cs t h1 h2 h3 h4 h5)⟩)
            have HN6 := Lib.hid (show Below g.N w5 (setT wr tb v r) from ((kbr.out.setCell (p := ⟨tb, v * 3, none⟩) (by have := HGB.out.1; have := HO.out.b; simp; omega) _).setCell (p := ⟨tb, v * 3 + 1, none⟩) (by have := HGB.out.1; have := HO.out.b; simp; omega) _).setCell (p := ⟨tb, v * 3 + 2, none⟩) (by have := HGB.out.1; have := HO.out.b; simp; omega) _)
            have HN7 := Lib.hid ((setT_heap wr tb v r q0 HQT.out).trans kbx.out)
            go_wp2_with (fail)
            exact ⟨⟨k + 1, by omega, by go_num, HN1, HN2, HN3, HN4', HN5, HN6, HN7⟩, by simp [intOf]; omega⟩
          · obtain rfl : k = cl.length := by omega
            have HTF := Lib.hid (show TArr wr tb g.n (tyL g.l (CS.take (j + 1))) from kta.out.ext fun u _ => by rw [HTY2.out, List.take_length])
            go_wp2_with (fail)
            exact ⟨⟨j + 1, X, c, L, s, Q, Y, cY, vs, by omega, by go_num, rfl, HLL3, klo, kgd, HSQ7, HTF, kfr, kbr⟩, by simp [intOf]; omega⟩
      | false =>
        go_wp2_with (fail)
        have HX7 := Lib.hid (heap_alloc_new w6 (.cells #[.int .i64 r.kind, .int .i64 r.len, .string r.nm] 39))
        have hb7 := (Below.refl w6.heap.size w6).alloc (Nat.le_refl _) (.cells #[.int .i64 r.kind, .int .i64 r.len, .string r.nm] 39)
        generalize w6.alloc (.cells #[.int .i64 r.kind, .int .i64 r.len, .string r.nm] 39) = w7 at *
        have HG7 := Lib.hid (HG6.out.below HO.out hb7)
        have HLO7 := Lib.hid (HLO6.out.later HO.out (by have := HG4z.out; have := HW45.out; omega) hb7)
        have HTA7 := Lib.hid (HTA6.out.below hb7)
        have HFR7 := Lib.hid (show FrZ g (fun b => b = tb ∨ w5.heap.size ≤ b) w5 w7 from HFR6.out.trans (FrZ.below hb7))
        have HBR7 := Lib.hid (HBR6.out.trans (hb7.mono (by have := HG6.out.size; have := HO.out.b; omega)))
        have HIC7 := Lib.hid (HIC6.out.later hb7)
        clear hb7
        refine (chain_any g HO.out w7 s Q Y cY vs HG7.out Xc cc cl HIC7.out HCK.out.1 hcl6 ⟨hsq.out.1, by have := hsq.out.2.1; have := HMS.out; have := HML.out; have := HSS.out; omega⟩ hsq.out.2.2).mono ?_
        rintro e w8 ⟨Xh, ch, rfl, hih, hcc8, ⟨⟨Q8, Y8, cY8, vs8, hg8, hq8⟩, hf8, hb8⟩⟩
        have HBT7 := Lib.hid (show w6.heap.size ≠ g.gb ∧ w6.heap.size ≠ g.rb ∧ g.B ≤ w6.heap.size from by have h1 := HG6.out.size; have h2 := HO.out.b; have h3 := HO.out.hi; exact ⟨by omega, by omega, h1⟩)
        have HX8 := Lib.hid (hf8.2 _ _ _ (fun h => h) HBT7.out.1 HBT7.out.2.1 (by decide) HX7.out)
        have HG8 := Lib.hid hg8
        have HLO8 := Lib.hid (HLO7.out.fr HO.out (by have := HG4z.out; have := HW45.out; omega) hf8 (fun _ h => h.elim))
        have HTA8 := Lib.hid (HTA7.out.fr hf8 HTN.out.1 HTN.out.2)
        have HFR8 := Lib.hid (show FrZ g (fun b => b = tb ∨ w5.heap.size ≤ b) w5 w8 from HFR7.out.trans (hf8.mono (fun _ h => h.elim)))
        have HBR8 := Lib.hid (HBR7.out.trans hb8)
        have HIC8 := Lib.hid (HIC7.out.fr hf8 (fun _ h => h.elim))
        have HIH8 := Lib.hid hih
        have HCC8 := Lib.hid hcc8
        clear hcc8
        obtain ⟨CN, HCN⟩ : ∃ CN, Hid (chain g.l g.n cl = CN) := ⟨_, Lib.hid rfl⟩
        rw [HCN.out] at HIH8 HLL2 HCC8
        rw [HCN.out]
        have HLL3 := Lib.hid (show L ++ [CN] = chF g.l g.n (CS.take (j + 1)) from HLL2.out.symm)
        have HSQ8 := Lib.hid (show 0 ≤ s + ((mks g.l cl).length : Int) ∧ s + ((mks g.l cl).length : Int) ≤ (g.n : Int) + (mkSum g.l (CS.take (j + 1)) : Int) ∧ ∀ u, u < g.n → Q8 u ≤ s + ((mks g.l cl).length : Int) from ⟨by have := hsq.out.1; omega, by have := hsq.out.2.1; have := HMS.out; omega, hq8⟩)
        have hLl2 : L.length ≤ 1000000 := by
          have h1 := chF_len g.l g.n (CS.take j)
          rw [← hL.out, List.length_take] at h1
          omega
        clear hih hg8 hq8 hf8 hb8
        obtain ⟨vals, l1, l2, l3, l4⟩ := HLO8.out
        have HL2' := Lib.hid (l2.alloc (.cells #[.slice Xh CN.length ch] 23))
        have HL3 := Lib.hid l3
        have HL4 := Lib.hid l4
        have HLT := Lib.hid (fun b e => l2.lt b e)
        clear l2 l3 l4
        have h58 : w5.heap.size ≤ w8.heap.size := HFR8.out.1
        go_wp2_with (at_builtin; refine wpList_append_lies _ rfl _ _ 27 rfl w5.heap.size 23 i0 _ 1 24 Tryd.underlying27 hi0 hz0 hz1 hz2 rfl (by decide) _ _ _ rfl HL2'.out ⟨w8.heap.size, 0, none⟩ 1 1 [.slice Xh CN.length ch] rfl rfl (World.news_of_block (cs := #[.slice Xh CN.length ch]) (heap_alloc_new w8 _)) (by simp [Value.oneCell']) (by decide) ?c3 ?c4 ?c5 (w8.heap.size + 1) (by simp) ?_)
        case c3 => unfold maxLen; omega
        case c4 => omega
        case c5 => first | omega | (simp; omega)
        intro gq cap w9 hown9 hgr hsel hgl
        have hba := (Below.refl w8.heap.size w8).alloc (Nat.le_refl _) (.cells #[.slice Xh CN.length ch] 23)
        have hnov : ∀ (b : Nat) (cs : Array Value) (t : TypeId), t ≠ 23 → w8.heap[b]? = some (.cells cs t (0, 0)) → some b ≠ (Value.slice X L.length c).ownBlock := fun b cs t ht h e => by
          obtain ⟨q1, q2, ds, q3⟩ := own_block' HL2'.out e.symm
          have h6 := (hba.block b (Array.getElem?_eq_some_iff.1 h).1).trans h
          rw [q3] at h6
          simp only [Option.some.injEq, Obj.cells.injEq] at h6
          exact ht h6.2.1.symm
        have hkeep : ∀ (b : Nat) (cs : Array Value) (t : TypeId), t ≠ 23 → w8.heap[b]? = some (.cells cs t (0, 0)) → w9.heap[b]? = some (.cells cs t (0, 0)) := fun b cs t ht h => (hgr.block b (by have := (Array.getElem?_eq_some_iff.1 h).1; have := hba.size; omega) (hnov b cs t ht h)).trans ((hba.block b (Array.getElem?_eq_some_iff.1 h).1).trans h)
        have hst : ∀ (Xi : Option Addr) (li : List Nat), ISl g w8 Xi li → ISl g w9 Xi li := fun Xi li h h0 => by
          obtain ⟨b, cs, h1, h2, h3, h4, h5, h6⟩ := h h0
          exact ⟨b, cs, h1, h2, h3, h4, hkeep b cs _ (by decide) h5, h6⟩
        have HLO9 := Lib.hid (LOwn.push (g := g) vals l1 HL3.out (fun i hi => by obtain ⟨Xi, ci, e1, e2, e3⟩ := HL4.out i hi; exact ⟨Xi, ci, e1, hst _ _ e2, e3⟩) (hst _ _ HIH8.out) HCC8.out hown9)
        have HIC9 := Lib.hid (hst _ _ HIC8.out)
        have HX9 := Lib.hid (hkeep _ _ _ (by decide) HX8.out)
        have HTA9 := Lib.hid (show TArr w9 tb g.n (tyL g.l (CS.take j)) from by obtain ⟨cs, q1, q2, q3⟩ := HTA8.out; exact ⟨cs, hkeep _ _ _ (by decide) q1, q2, q3⟩)
        have HG9 := Lib.hid (HG8.out.stays HO.out (Z := fun b => some b = (Value.slice X L.length c).ownBlock) (fun b e => by
          obtain ⟨q1, q2, ds, q3⟩ := own_block' HL2'.out e.symm
          exact ⟨by have := HG4z.out; have := HW45.out; omega, fun cs h => hnov b cs _ (by decide) h e⟩) (fun b h1 h2 => (hgr.block b (by have := hba.size; omega) h2).trans (hba.block b h1)) (by have := hba.size; have := hgr.size; omega))
        have HFR9 := Lib.hid (show FrZ g (fun b => b = tb ∨ w5.heap.size ≤ b) w5 w9 from HFR8.out.trans ⟨by have := hba.size; have := hgr.size; omega, fun b cs t h1 h2 h3 h4 h5 => (hgr.block b (by have := (Array.getElem?_eq_some_iff.1 h5).1; have := hba.size; omega) (fun e => h1 (.inr (own_block' HL2'.out e.symm).1))).trans ((hba.block b (Array.getElem?_eq_some_iff.1 h5).1).trans h5)⟩)
        have HBR9 := Lib.hid ((HBR8.out.alloc (by have := HG8.out.size; have := HO.out.b; omega) (.cells #[.slice Xh CN.length ch] 23)).grown hgr (by have := HG8.out.size; have := HO.out.b; simp; omega) (fun b e => by have h1 := (HLT.out b e).1; have := HG4z.out; have := HW45.out; have := HO.out.b; omega))
        have hle : (L ++ [CN]).length = L.length + 1 := by simp
        clear hown9 hgr hsel hgl hba hnov hkeep hst hle
        go_wp2_with (fail)
        have hbx := Lib.cell_of_heap HX9.out 0
        obtain ⟨q0, HQ0⟩ : ∃ q, Hid (w6.heap.size = q) := ⟨_, Lib.hid rfl⟩
        have HQT := Lib.hid (show q0 ≠ tb by obtain ⟨cs, h1, _⟩ := HTA6.out; have := (Array.getElem?_eq_some_iff.1 h1).1; have := HQ0.out; omega)
        rw [HQ0.out] at HX9
        rw [HQ0.out]
        clear hbx
        go_loopw [57] (fun i wq => ∃ k : Nat, k ≤ cl.length ∧ i = .int .i64 (k : Int) ∧ Hid (LOwn g wq w5.heap.size (.slice (some ⟨gq, 0, none⟩) (L.length + 1) cap) (L ++ [CN])) ∧ Hid (GD g (s + ((mks g.l cl).length : Int)) Q8 Y8 cY8 vs8 wq) ∧ Hid (ISl g wq Xc cl) ∧ Hid (TArr wq tb g.n (fun u => if (cl.take k).contains u then r else tyL g.l (CS.take j) u)) ∧ Hid (FrZ g (fun b => b = tb ∨ w5.heap.size ≤ b) w5 wq) ∧ Hid (Below g.N w5 wq) ∧ Hid (wq.heap[q0]? = some (.cells #[.int .i64 r.kind, .int .i64 r.len, .string r.nm] 39 (0, 0)))) (fun i _ => cl.length - (intOf i).toNat)
        case atStart => exact ⟨0, Nat.zero_le _, rfl, HLO9, HG9, HIC9, Lib.hid (HTA9.out.ext fun v _ => by simp), HFR9, HBR9, HX9⟩
        case round =>
          obtain ⟨k, hk, rfl, klo, kgd, kic, kta, kfr, kbr, kbx⟩ := hrel
          by_cases hkt : k < cl.length
          · obtain ⟨cb, rfl, hcb, hcc⟩ := kic.out.cells (by omega)
            have y0 := hcc k hkt
            clear hcc
            have hvn : cl[k] < g.n := HCK.out.1 _ (List.getElem_mem hkt)
            have HTX := Lib.hid (show cl.take (k + 1) = cl.take k ++ [cl[k]] from List.take_succ_eq_append_getElem hkt)
            obtain ⟨v, HV⟩ : ∃ v, Hid (cl[k] = v) := ⟨_, Lib.hid rfl⟩
            rw [HV.out] at y0 hvn HTX
            have b0 := Lib.cell_of_heap kbx.out 0
            have b1 := Lib.cell_of_heap kbx.out 1
            have b2 := Lib.cell_of_heap kbx.out 2
            obtain ⟨t0, t1, t2⟩ := kta.out.cells v hvn
            have f0 := kta.out.frz (v * 3)
            have f1 := kta.out.frz (v * 3 + 1)
            have f2 := kta.out.frz (v * 3 + 2)
            have HN1 := Lib.hid (klo.out.setT kta.out v r)
            have HN2 := Lib.hid (kgd.out.setT HO.out kta.out (by have := HGB.out.1; omega) v r)
            have HN3 := Lib.hid (kic.out.setT kta.out v r)
            have HN4' := Lib.hid (show TArr (setT wr tb v r) tb g.n (fun u => if (cl.take (k + 1)).contains u then r else tyL g.l (CS.take j) u) from (kta.out.set v hvn r).ext fun u _ => by
              rw [HTX.out]
              by_cases e : u = v
              · subst e; simp
              · simp [e])
            have HN5 := Lib.hid (show FrZ g (fun b => b = tb ∨ w5.heap.size ≤ b) w5 (setT wr tb v r) from ⟨by rw [setT_size]; exact kfr.out.1, fun b cs t h1 h2 h3 h4 h5 => (setT_heap wr tb v r b (fun e => h1 (.inl e))).trans (kfr.out.2 b cs t h1 h2 h3 h4 h5)⟩)
            have HN6 := Lib.hid (show Below g.N w5 (setT wr tb v r) from ((kbr.out.setCell (p := ⟨tb, v * 3, none⟩) (by have := HGB.out.1; have := HO.out.b; simp; omega) _).setCell (p := ⟨tb, v * 3 + 1, none⟩) (by have := HGB.out.1; have := HO.out.b; simp; omega) _).setCell (p := ⟨tb, v * 3 + 2, none⟩) (by have := HGB.out.1; have := HO.out.b; simp; omega) _)
            have HN7 := Lib.hid ((setT_heap wr tb v r q0 HQT.out).trans kbx.out)
            go_wp2_with (fail)
            exact ⟨⟨k + 1, by omega, by go_num, HN1, HN2, HN3, HN4', HN5, HN6, HN7⟩, by simp [intOf]; omega⟩
          · obtain rfl : k = cl.length := by omega
            have HTF := Lib.hid (show TArr wr tb g.n (tyL g.l (CS.take (j + 1))) from kta.out.ext fun u _ => by rw [HTY2.out, List.take_length])
            go_wp2_with (fail)
            exact ⟨⟨j + 1, (some ⟨gq, 0, none⟩), cap, L ++ [CN], (s + ((mks g.l cl).length : Int)), Q8, Y8, cY8, vs8, by omega, by go_num, by rw [List.length_append]; rfl, HLL3, (by rw [List.length_append]; exact klo), kgd, HSQ8, HTF, kfr, kbr⟩, by simp [intOf]; omega⟩
    · obtain rfl : j = CS.length := by omega
      have hLL := hL.out
      have hTT := hta.out
      rw [List.take_length] at hLL hTT
      have HLL := Lib.hid hLL
      have HTT := Lib.hid hTT
      clear hLL hTT
      go_wp2_with (fail)
      go_ret3
      have HSL := Lib.hid (show L = slvC g.l g.n by rw [← chF_all, HCS.out]; exact HLL.out)
      refine ⟨tb, X, c, g, w5.heap.size, by rw [← HSL.out]; rfl, HTL.out, by rw [HCS.out]; exact HTT.out, by have := HW45.out; have := HG4z.out; have := HO.out.b; have := HNW.out; omega, by rw [← HSL.out]; exact hlo.out, HB5.out.trans (hbr.out.mono HNW.out)⟩
end Go.Proofs.YtmamajillkajoaaDoor
