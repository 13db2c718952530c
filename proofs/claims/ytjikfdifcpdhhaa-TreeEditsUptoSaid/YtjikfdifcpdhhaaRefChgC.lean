/- What is proved: change of the reference returns the tree in which kids of the node with a path are replaced. -/
import Derived.Test.YtjikfdifcpdhhaaChgFin
import Derived.Deep.Cut
set_option linter.unusedVariables false
namespace Go.Proofs.Ytjikfdifcpdhhaa
open Go.RowKit

set_option maxHeartbeats 40000000 in
set_option maxRecDepth 100000 in
theorem r_change_cons (B0 F T : Nat) (hFT : F ≤ T) (AL : Option Addr) (cL : Nat) (L : List NT) (i : Int) (p : List Int) (ih : ChgC B0 F T AL cL L p) : ChgC B0 F T AL cL L (i :: p) := by
  intro n x A c N w hx hT hin hp hN hpc hrl hil hB0 hcn hpl
  have hi : 0 ≤ i ∧ i.toNat < n.kids.length := by
    by_cases h : 0 ≤ i ∧ i.toNat < n.kids.length
    · exact h
    · rw [NT.getZ_no (by omega)] at hx; cases hx
  obtain ⟨j, rfl⟩ : ∃ j : Nat, i = (j : Int) := ⟨i.toNat, by omega⟩
  have hj : j < n.kids.length := by omega
  rw [NT.getZ_yes hi.1 hi.2] at hx
  simp only [Int.toNat_natCast] at hx
  have HX := Lib.hid hx
  have HP := Lib.hid hp
  have HNN := Lib.hid (show p.length + 1 = N by rw [hN]; simp)
  have HPL := Lib.hid (show p.length ≤ 1000000000 by simp at hpl; omega)
  have hNp : 1 ≤ N := by have := HNN.out; omega
  have hN9 : N ≤ 1000000000 := by rw [hN]; exact hpl
  have HRL := Lib.hid hrl
  have HIL := Lib.hid hil
  have HIH := Lib.hid ih
  have hkl := NT.kids_len n
  have hLL := NT.cnts_len L
  have HI := Lib.hid hin
  clear hin hrl hil hp hx ih hN hpl
  go_enter Try.func56, Try.ntmps56
  go_wp2_with (fail)
  have hb0 : Below w.heap.size w ((w.alloc (.cells #[.int .i64 n.kind, .string n.text, .int .i64 n.lo, .int .i64 n.hi, .slice n.A n.kids.length n.c] 24)).alloc (.cells #[.int .i64 0, .string ⟨#[]⟩, .int .i64 0, .int .i64 0, .slice none 0 0] 24)) := ((Below.refl _ _).alloc (Nat.le_refl _) _).alloc (by simp) _
  have hn : NBox ((w.alloc (.cells #[.int .i64 n.kind, .string n.text, .int .i64 n.lo, .int .i64 n.hi, .slice n.A n.kids.length n.c] 24)).alloc (.cells #[.int .i64 0, .string ⟨#[]⟩, .int .i64 0, .int .i64 0, .slice none 0 0] 24)) w.heap.size n := (heap_alloc_old _ _ (by simp)).trans (NBox.new w n)
  have hr : NBox ((w.alloc (.cells #[.int .i64 n.kind, .string n.text, .int .i64 n.lo, .int .i64 n.hi, .slice n.A n.kids.length n.c] 24)).alloc (.cells #[.int .i64 0, .string ⟨#[]⟩, .int .i64 0, .int .i64 0, .slice none 0 0] 24)) (w.heap.size + 1) zeroN := by
    have h := zero_box (w.alloc (.cells #[.int .i64 n.kind, .string n.text, .int .i64 n.lo, .int .i64 n.hi, .slice n.A n.kids.length n.c] 24))
    rw [World.size_alloc] at h
    exact h
  have hz : ((w.alloc (.cells #[.int .i64 n.kind, .string n.text, .int .i64 n.lo, .int .i64 n.hi, .slice n.A n.kids.length n.c] 24)).alloc (.cells #[.int .i64 0, .string ⟨#[]⟩, .int .i64 0, .int .i64 0, .slice none 0 0] 24)).heap.size = w.heap.size + 2 := by simp
  generalize ((w.alloc (.cells #[.int .i64 n.kind, .string n.text, .int .i64 n.lo, .int .i64 n.hi, .slice n.A n.kids.length n.c] 24)).alloc (.cells #[.int .i64 0, .string ⟨#[]⟩, .int .i64 0, .int .i64 0, .slice none 0 0] 24)) = W at *
  refine (copied_sep n W (InT.later HI.out hb0) (by omega)).mono ?_
  rintro e w1 ⟨m0, rfl, hst0, hin0, hnd0, hth0, hb1⟩
  have hzW := hb1.size
  have HB1 := Lib.hid (hb0.trans (hb1.mono hb0.size))
  have HN1 := Lib.hid (hn.below hb1 (by omega))
  have HR1 := Lib.hid (hr.below hb1 (by omega))
  have HST := Lib.hid hst0
  have HIN := Lib.hid hin0
  have HND := Lib.hid hnd0
  have HTH := Lib.hid hth0
  have HLEN := Lib.hid (NT.strip_kids_len hst0)
  clear hb0 hn hr hst0 hin0 hnd0 hth0 hb1
  obtain ⟨c0, c1, c2, c3, c4⟩ := HN1.out.cells
  have f0 := HN1.out.frozen 0
  have f1 := HN1.out.frozen 1
  have f2 := HN1.out.frozen 2
  have f3 := HN1.out.frozen 3
  have f4 := HN1.out.frozen 4
  have HBX := Lib.hid (HN1.out.put m0)
  have HB2 := Lib.hid (put5_below HB1.out (Nat.le_refl _) m0)
  have hsz : (put5 w1 w.heap.size m0).heap.size = w1.heap.size := by simp [World.setCell]
  have HR2 := Lib.hid (show NBox (put5 w1 w.heap.size m0) (w.heap.size + 1) zeroN from (put5_far w1 m0 (by omega)).trans HR1.out)
  have HI2 := Lib.hid (InS.keep (w' := put5 w1 w.heap.size m0) (fun b hb => put5_far w1 m0 (by have := hb.1; omega)) m0 HIN.out)
  have HSZ := Lib.hid hsz
  have hjm : j < m0.kids.length := by have := HLEN.out; omega
  have HKB := Lib.hid (show m0.kids.length ≤ 1000000000 by have := HLEN.out; omega)
  have hdec : decide ((0 : Int) < (N : Int)) = true := by simp; omega
  have HSR := fun W : World => run_slice_rest A N c hNp W
  have HTH2 := Lib.hid (show ∀ b ∈ NT.blks m0, Thaw (put5 w1 w.heap.size m0) b from fun b hb => (HTH.out b hb).keep (put5_far w1 m0 (by have := (NT.blks_in m0 HIN.out b hb).1; omega)))
  dsimp only [put5] at HBX HB2 HR2 HI2 HSZ HTH2
  go_upto_region 2 with fail
  clear c0 c1 c2 c3 c4 f0 f1 f2 f3 f4 hsz
  generalize (((((w1.setCell ⟨w.heap.size, 0, none⟩ (.int .i64 m0.kind)).setCell ⟨w.heap.size, 1, none⟩ (.string m0.text)).setCell ⟨w.heap.size, 2, none⟩ (.int .i64 m0.lo)).setCell ⟨w.heap.size, 3, none⟩ (.int .i64 m0.hi)).setCell ⟨w.heap.size, 4, none⟩ (.slice m0.A m0.kids.length m0.c)) = w2 at *
  go_upto_region 3 with fail
  obtain ⟨g, off, hA, hgS, hcs, hbl⟩ := blks_cons HI2.out (by omega)
  have hg1 : W.heap.size ≤ g := hgS.1
  have hg2 : g < w2.heap.size := by rw [HSZ.out]; exact hgS.2
  have HTG := Lib.hid (HTH2.out g (by rw [hbl]; simp))
  have HCS := Lib.hid hcs
  have HAV := Lib.hid (show ∀ y ∈ m0.kids, InS (fun b => Fresh W w1 b ∧ b ≠ g) w2 y from fun y hy => inS_avoid' y (HI2.out.kid hy) (fun hm => by
    have hnd := HND.out
    rw [hbl, List.nodup_cons] at hnd
    exact hnd.1 ((NT.mem_blkss _).2 ⟨y, hy, hm⟩)))
  have b4 : w2.cell? ⟨w.heap.size, 4, none⟩ = some (.slice m0.A m0.kids.length m0.c) := HBX.out.cells.2.2.2.2
  rw [hA] at b4
  have HA := Lib.hid hA
  obtain ⟨bp, op, hPA, hPl, hPc⟩ := HP.out (by simp)
  have p0 : w2.cell? ⟨bp, op, none⟩ = some (.int .i64 (j : Int)) := (HB2.out.cell (p := ⟨bp, op, none⟩) hPl).trans (by have := hPc 0 (by simp); simpa using this)
  have HPR := Lib.hid (irow_rest HP.out (show p.length + 1 ≤ c by rw [HNN.out]; exact hpc))
  have hPl2 : bp < w2.heap.size := by have := HB2.out.size; omega
  rw [hPA] at HSR HPR
  have HPS := Lib.hid (show m0.kids[j]? = some m0.kids[j] from List.getElem?_eq_getElem hjm)
  have hsk : NT.strip m0.kids[j] = NT.strip n.kids[j] := NT.strip_kid HST.out j hjm hj
  obtain ⟨x', hgx, hsx⟩ := NT.getZ_strip p m0.kids[j] n.kids[j] hsk x HX.out
  have HSK := Lib.hid hsk
  have HSX := Lib.hid hsx
  have hxl := NT.strip_kids_len hsx
  have hdb : Below w2.heap.size w2 w2.drew := (Below.refl w2.heap.size w2).drew
  have HDB := Lib.hid hdb
  have hcm : NT.cnt m0 = NT.cnt n := NT.cnt_of_strip HST.out
  have hck := NT.cnt_kid (List.getElem_mem hjm)
  have HCL := Lib.hid (HIH.out m0.kids[j] x' (restI (some ⟨bp, op, none⟩) c) (c - 1) (N - 1) w2.drew hgx (by omega)
    (InT.later (inS_inT m0.kids[j] (InS.mono (fun b hb => by rw [HSZ.out]; exact hb.1.2) _ (HAV.out _ (List.getElem_mem hjm)))) hdb)
    (IRow.later ((HPR.out.below HB2.out).mono' HB2.out.size) hdb) (by have := HNN.out; omega) (by omega)
    ((HRL.out.below (HB2.out.mono hB0)).below (hdb.mono (by have := HB2.out.size; omega))) (fun k hk => InT.below (hdb.mono (by have := HB2.out.size; omega)) k (InT.below (HB2.out.mono hB0) k (HIL.out k hk)))
    (show B0 ≤ w2.heap.size by have := HB2.out.size; omega) (by omega) HPL.out)
  obtain ⟨d0, d1, d2, d3, d4⟩ := hcs j hjm
  have g1 : (0 : Int) ≤ (j : Int) := by omega
  have g2 : (j : Int) < (m0.kids.length : Int) := by omega
  have g3 : (0 : Int) < (N : Int) := by omega
  have hCX := HCS.out j hjm
  have HCX := Lib.hid hCX
  clear hcs hbl hA hsk hsx hdb hgS hCX hdec hgx
  generalize hy : m0.kids[j] = y at *
  have HY := Lib.hid hy
  clear hy
  have HAV2 := Lib.hid (show ∀ y ∈ m0.kids, InS (fun b => (w.heap.size + 2 ≤ b ∧ b < w2.heap.size) ∧ b ≠ g) w2 y from fun y hy => InS.mono (fun b hb => ⟨⟨by have h1 : W.heap.size ≤ b := hb.1.1; omega, by have h1 : b < w1.heap.size := hb.1.2; rw [HSZ.out]; exact h1⟩, hb.2⟩) y (HAV.out y hy))
  have HCAP := Lib.hid HIN.out.cap
  have HG3 := Lib.hid (show w.heap.size + 2 ≤ g by omega)
  have HN9 := Lib.hid hN9
  have HPC := Lib.hid hpc
  have HNP := Lib.hid hNp
  have HCN := Lib.hid hcn
  have HHX := Lib.hid hxl
  have HII := Lib.hid hi
  have HJM := Lib.hid hjm
  have HHB := Lib.hid hB0
  have HHT := Lib.hid hT
  have HHZ := Lib.hid hz
  have HHW := Lib.hid hzW
  have HG1 := Lib.hid hg1
  have HG2 := Lib.hid hg2
  have HP2 := Lib.hid hPl2
  clear hPc hxl hcm hck hN9 hpc hNp hcn hkl hLL hB0 hT hz hzW hg1 hg2 hPl hPl2 hFT
  subst hPA
  go_region_law (first | (go_simp; go_at_call 56; refine HCL.out.mono ?_; rintro e w3 ⟨m, rfl, hms, hmi, hb3⟩; have HMS := Lib.hid hms; have HMI := Lib.hid hmi; have HB3 := Lib.hid (HDB.out.trans hb3); have HN3 := Lib.hid (HBX.out.below HB3.out (World.block_lt_of_cell? w2 _ b4)); have hx4 : w3.cell? ⟨w.heap.size, 4, none⟩ = some (.slice (some ⟨g, off, none⟩) m0.kids.length m0.c) := (HB3.out.cell (p := ⟨w.heap.size, 4, none⟩) (World.block_lt_of_cell? w2 _ b4)).trans b4; have hp3 : w3.cell? ⟨bp, op, none⟩ = some (.int .i64 (j : Int)) := (HB3.out.cell (p := ⟨bp, op, none⟩) HP2.out).trans p0; obtain ⟨e0, e1, e2, e3, e4⟩ := HCX.out.below HB3.out HG2.out; have HT3 := Lib.hid (HTG.out.keep (HB3.out.block g HG2.out)); have t0 := HT3.out (off + j * 5); have t1 := HT3.out (off + j * 5 + 1); have t2 := HT3.out (off + j * 5 + 2); have t3 := HT3.out (off + j * 5 + 3); have t4 := HT3.out (off + j * 5 + 4); clear hms hmi hb3))
  all_goals
    obtain ⟨n1, n2, n3, n4, n5⟩ := chg_mem (m := m) HHB.out HB2.out HB3.out HBX.out HR2.out HG3.out HG2.out HA.out HCAP.out HCS.out HAV2.out HMI.out hjm
    have HSTR := Lib.hid (chg_strip HST.out hj HSX.out HSK.out HMS.out)
    obtain ⟨a0, a1, a2, a3, a4⟩ := n1.cells
    obtain ⟨q0, q1, q2, q3, q4⟩ := zero_cells n2
    have u0 := n2.frozen 0
    have u1 := n2.frozen 1
    have u2 := n2.frozen 2
    have u3 := n2.frozen 3
    have u4 := n2.frozen 4
    obtain ⟨z0, z1, z2, z3, z4⟩ := n3.cells
    have HF4 := Lib.hid n4
    have HF5 := Lib.hid n5
    clear n1 n2 n3 n4 n5 hx4 hp3 e0 e1 e2 e3 e4 t0 t1 t2 t3 t4 d0 d1 d2 d3 d4 b4 p0 g1 g2 g3 HSR
    dsimp only [putO, putv] at a0 a1 a2 a3 a4 q0 q1 q2 q3 q4 u0 u1 u2 u3 u4 z0 z1 z2 z3 z4 HF4 HF5
    generalize (((((w3.setCell ⟨g, off + j * 5, none⟩ (.int .i64 m.kind)).setCell ⟨g, off + j * 5 + 1, none⟩ (.string m.text)).setCell ⟨g, off + j * 5 + 2, none⟩ (.int .i64 m.lo)).setCell ⟨g, off + j * 5 + 3, none⟩ (.int .i64 m.hi)).setCell ⟨g, off + j * 5 + 4, none⟩ (.slice m.A m.kids.length m.c)) = w4 at *
    go_wp2_with (fail)
    clear a0 a1 a2 a3 a4 q0 q1 q2 q3 q4 u0 u1 u2 u3 u4
    generalize (((((w4.setCell ⟨w.heap.size + 1, 0, none⟩ (.int .i64 m0.kind)).setCell ⟨w.heap.size + 1, 1, none⟩ (.string m0.text)).setCell ⟨w.heap.size + 1, 2, none⟩ (.int .i64 m0.lo)).setCell ⟨w.heap.size + 1, 3, none⟩ (.int .i64 m0.hi)).setCell ⟨w.heap.size + 1, 4, none⟩ (.slice m0.A m0.kids.length m0.c)) = V at *
    exact bodyPost_ret (v := .agg #[.int .i64 m0.kind, .string m0.text, .int .i64 m0.lo, .int .i64 m0.hi, .slice m0.A m0.kids.length m0.c]) (by simp [results, Try.results56, go_sem, z0, z1, z2, z3, z4, NT.kind, NT.text, NT.lo, NT.hi, NT.A, NT.c, NT.kids]) rfl ⟨.mk m0.kind m0.text m0.lo m0.hi m0.A m0.c (m0.kids.set j m), by simp [NT.kind, NT.text, NT.lo, NT.hi, NT.A, NT.c, NT.kids], HSTR.out, HF4.out, HF5.out⟩
end Go.Proofs.Ytjikfdifcpdhhaa
