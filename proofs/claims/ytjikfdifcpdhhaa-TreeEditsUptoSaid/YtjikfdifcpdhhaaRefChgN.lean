/- What is proved: change of the reference returns the tree in which kids of the node with a path are replaced. -/
import Derived.Test.YtjikfdifcpdhhaaChgBase
import Derived.Deep.Cut
set_option linter.unusedVariables false
namespace Go.Proofs.Ytjikfdifcpdhhaa
open Go.RowKit

set_option maxHeartbeats 8000000 in
set_option maxRecDepth 100000 in
theorem r_change_nil (B0 F T : Nat) (hFT : F ≤ T) (AL : Option Addr) (cL : Nat) (L : List NT) : ChgC B0 F T AL cL L [] := by
  intro n x A c N w hx hT hin hp hN hpc hrl hil hB0 hcn hpl
  obtain rfl : n = x := by simpa [NT.getZ] using hx
  obtain rfl : N = 0 := hN
  have HRL := Lib.hid hrl
  have HIL := Lib.hid hil
  have hkl := NT.kids_len n
  have hLL := NT.cnts_len L
  have HI := Lib.hid hin
  clear hin hrl hil hp hx
  go_enter Try.func56, Try.ntmps56
  go_wp2_with (fail)
  have hb0 : Below w.heap.size w ((w.alloc (.cells #[.int .i64 n.kind, .string n.text, .int .i64 n.lo, .int .i64 n.hi, .slice n.A n.kids.length n.c] 24)).alloc (.cells #[.int .i64 0, .string ⟨#[]⟩, .int .i64 0, .int .i64 0, .slice none 0 0] 24)) := ((Below.refl _ _).alloc (Nat.le_refl _) _).alloc (by simp) _
  have hn : NBox ((w.alloc (.cells #[.int .i64 n.kind, .string n.text, .int .i64 n.lo, .int .i64 n.hi, .slice n.A n.kids.length n.c] 24)).alloc (.cells #[.int .i64 0, .string ⟨#[]⟩, .int .i64 0, .int .i64 0, .slice none 0 0] 24)) w.heap.size n := (heap_alloc_old _ _ (by simp)).trans (NBox.new w n)
  have hr : NBox ((w.alloc (.cells #[.int .i64 n.kind, .string n.text, .int .i64 n.lo, .int .i64 n.hi, .slice n.A n.kids.length n.c] 24)).alloc (.cells #[.int .i64 0, .string ⟨#[]⟩, .int .i64 0, .int .i64 0, .slice none 0 0] 24)) (w.heap.size + 1) zeroN := by
    have h := zero_box (w.alloc (.cells #[.int .i64 n.kind, .string n.text, .int .i64 n.lo, .int .i64 n.hi, .slice n.A n.kids.length n.c] 24))
    rw [World.size_alloc] at h
    exact h
  have hz : ((w.alloc (.cells #[.int .i64 n.kind, .string n.text, .int .i64 n.lo, .int .i64 n.hi, .slice n.A n.kids.length n.c] 24)).alloc (.cells #[.int .i64 0, .string ⟨#[]⟩, .int .i64 0, .int .i64 0, .slice none 0 0] 24)).heap.size = w.heap.size + 2 := by simp
  generalize ((w.alloc (.cells #[.int .i64 n.kind, .string n.text, .int .i64 n.lo, .int .i64 n.hi, .slice n.A n.kids.length n.c] 24)).alloc (.cells #[.int .i64 0, .string ⟨#[]⟩, .int .i64 0, .int .i64 0, .slice none 0 0] 24)) = W at *
  refine (copied_sep n W (InT.later HI.out hb0) (by omega)).mono ?_
  rintro e w1 ⟨m0, rfl, hst0, hin0, hnd0, hth0, hb1⟩
  have hzW := hb1.size
  have HB1 := Lib.hid (hb0.trans (hb1.mono hb0.size))
  have HN1 := Lib.hid (hn.below hb1 (by omega))
  have HR1 := Lib.hid (hr.below hb1 (by omega))
  have HST := Lib.hid hst0
  have HIN := Lib.hid hin0
  have HND := Lib.hid hnd0
  have HTH := Lib.hid hth0
  have HLEN := Lib.hid (NT.strip_kids_len hst0)
  clear hb0 hn hr hst0 hin0 hnd0 hth0 hb1
  obtain ⟨c0, c1, c2, c3, c4⟩ := HN1.out.cells
  have f0 := HN1.out.frozen 0
  have f1 := HN1.out.frozen 1
  have f2 := HN1.out.frozen 2
  have f3 := HN1.out.frozen 3
  have f4 := HN1.out.frozen 4
  have HBX := Lib.hid (HN1.out.put m0)
  have HB2 := Lib.hid (put5_below HB1.out (Nat.le_refl _) m0)
  have hsz : (put5 w1 w.heap.size m0).heap.size = w1.heap.size := by simp [World.setCell]
  have HR2 := Lib.hid (show NBox (put5 w1 w.heap.size m0) (w.heap.size + 1) zeroN from (put5_far w1 m0 (by omega)).trans HR1.out)
  have HI2 := Lib.hid (InS.keep (w' := put5 w1 w.heap.size m0) (fun b hb => put5_far w1 m0 (by have := hb.1; omega)) m0 HIN.out)
  have HSZ := Lib.hid hsz
  have HE1 := Lib.hid (show (m0.kids.take F).length = F by have := HLEN.out; rw [List.length_take]; omega)
  have HE2 := Lib.hid (show (m0.kids.drop T).length = m0.kids.length - T by rw [List.length_drop])
  have HKB := Lib.hid (show m0.kids.length ≤ 1000000000 by have := HLEN.out; omega)
  have HTM := Lib.hid (show T ≤ m0.kids.length by have := HLEN.out; omega)
  have HOW := Lib.hid (show OwnL ((put5 w1 w.heap.size m0).alloc (.cells #[] 24)) w1.heap.size (emptyV (put5 w1 w.heap.size m0)) [] from (Made.empty (W := put5 w1 w.heap.size m0) (by rw [hsz]; exact Nat.le_refl _)).own)
  have HBA := Lib.hid ((Below.refl w1.heap.size (put5 w1 w.heap.size m0)).alloc (by rw [hsz]; exact Nat.le_refl _) (.cells #[] 24))
  have hsA : ((put5 w1 w.heap.size m0).alloc (.cells #[] 24)).heap.size = w1.heap.size + 1 := by rw [World.size_alloc, hsz]
  have HRW := Lib.hid (show Row w1.heap.size (put5 w1 w.heap.size m0) m0.A m0.kids from HI2.out.row.mono (fun b hb => hb.2))
  have HS1 := fun W : World => run_slice_to m0.A m0.kids.length m0.c F (by have := HLEN.out; have := HIN.out.cap; omega) (by have := HLEN.out; omega) W
  have HS2 := fun W : World => run_slice_from m0.A m0.kids.length m0.c T (by have := HLEN.out; omega) W
  obtain ⟨v1, w3, l3, hr1, hl1, ho1, hg1⟩ := run_append_row _ w1.heap.size _ [] HOW.out m0.A m0.c F (m0.kids.take F) HE1.out (row_take ((HRW.out.below HBA.out).mono (by omega)) F) (by simp; omega) (by omega)
  have hb3 := HBA.out.grown hg1 (by omega) (fun k e => (World.ownsRow.lt HOW.out k e).1)
  have hz3 := hg1.size
  have h3l : l3 = m0.kids.take F := by rw [hl1.out, List.nil_append]
  obtain ⟨v2, w4, l4, hr2, hl2, ho2, hg2⟩ := run_append_row w3 w1.heap.size v1 l3 ho1 AL cL L.length L rfl ((HRL.out.below ((HB2.out.trans (hb3.mono (by omega))).mono hB0)).mono (by omega)) (by rw [h3l, HE1.out]; omega) (by omega)
  have hb4 := hb3.grown hg2 (by omega) (fun k e => (World.ownsRow.lt ho1 k e).1)
  have hz4 := hg2.size
  have h4l : l4 = m0.kids.take F ++ L := by rw [hl2.out, h3l]
  obtain ⟨v3, w5, l5, hr3, hl3, ho3, hg3⟩ := run_append_row w4 w1.heap.size v2 l4 ho2 (restA m0.A m0.c T) (m0.c - T) (m0.kids.length - T) (m0.kids.drop T) HE2.out (row_drop ((HRW.out.below hb4).mono (by omega)) T HIN.out.cap) (by rw [h4l, List.length_append, HE1.out]; have := HLEN.out; omega) (by omega)
  have hb5 := hb4.grown hg3 (by omega) (fun k e => (World.ownsRow.lt ho2 k e).1)
  have hz5 := hg3.size
  have h5l : l5 = m0.kids.take F ++ L ++ m0.kids.drop T := by rw [hl3.out, h4l]
  obtain ⟨A5, c5, rfl, hcap5, hrow5⟩ := nodes_ownS ho3
  have hlt5 := World.ownsRow.lt ho3
  have HR1' := Lib.hid hr1
  have HR2' := Lib.hid hr2
  have HR3' := Lib.hid hr3
  have HB5 := Lib.hid hb5
  have HROW5 := Lib.hid (hrow5.mono (fun b hb => hlt5 b hb) : RowS (fun b => w1.heap.size ≤ b ∧ b < w5.heap.size) w5 A5 l5)
  have HCAP5 := Lib.hid hcap5
  have HZ5 := Lib.hid (show w1.heap.size ≤ w5.heap.size by omega)
  have HN4 := Lib.hid (HBX.out.below hb4 (by omega))
  have HN5 := Lib.hid (HBX.out.below hb5 (by omega))
  have HR5 := Lib.hid (HR2.out.below hb5 (by omega))
  have HBW5 := Lib.hid (HB2.out.trans (hb5.mono (by omega)))
  have HIK := Lib.hid (show ∀ k ∈ l5, InS (fun b => (b < B0 ∨ w.heap.size + 2 ≤ b) ∧ b < w1.heap.size) w5 k from fun k hk => by
    have hk' : k ∈ m0.kids ∨ k ∈ L := by
      rw [h5l] at hk
      rcases List.mem_append.1 hk with hk | hk
      · rcases List.mem_append.1 hk with hk | hk
        · exact .inl (List.mem_of_mem_take hk)
        · exact .inr hk
      · exact .inl (List.mem_of_mem_drop hk)
    rcases hk' with hk' | hk'
    · exact InS.mono (fun b hb => by have h1 : W.heap.size ≤ b := hb.1; exact ⟨.inr (by omega), hb.2⟩) k (InS.keep (fun b hb => hb5.block b hb.2) k (HI2.out.kid hk'))
    · exact InS.mono (fun b hb => ⟨.inl hb, by omega⟩) k (InS.keep (fun b hb => HBW5.out.block b (by omega)) k (inT_inS k (HIL.out k hk'))))
  have HSTR := Lib.hid (show NT.strip (.mk m0.kind m0.text m0.lo m0.hi A5 c5 l5) = NT.strip (NT.setK none 0 (n.kids.take F ++ L ++ n.kids.drop T) [] n) from NT.strip_setK A5 none c5 0 (by
    have e := (NT.strip_iff m0 n).1 HST.out
    rw [h5l, List.map_append, List.map_append, List.map_append, List.map_append, List.map_take, List.map_drop, e.2.2.2.2, List.map_take, List.map_drop]) [] m0 n HST.out)
  have x4 : w4.cell? ⟨w.heap.size, 4, none⟩ = some (.slice m0.A m0.kids.length m0.c) := HN4.out.cells.2.2.2.2
  obtain ⟨a0, a1, a2, a3, a4⟩ := HN5.out.cells
  have k4 := HN5.out.frozen 4
  obtain ⟨q0, q1, q2, q3, q4⟩ := zero_cells HR5.out
  have g0 := HR5.out.frozen 0
  have g1 := HR5.out.frozen 1
  have g2 := HR5.out.frozen 2
  have g3 := HR5.out.frozen 3
  have g4 := HR5.out.frozen 4
  clear hr1 hr2 hr3 hl1 hl2 hl3 ho1 ho2 ho3 hg1 hg2 hg3 hb3 hb4 hb5 hrow5 hlt5 hcap5 h3l h4l h5l hsz hsA HOW HE1 HE2
  dsimp only [put5] at HBX HB2 HR2 HI2 HSZ HBA HRW HR1' HB5
  clear hz3 hz4 hz5
  go_upto_region 5 with fail
  clear c0 c1 c2 c3 c4 f0 f1 f2 f3 f4
  generalize (((((w1.setCell ⟨w.heap.size, 0, none⟩ (.int .i64 m0.kind)).setCell ⟨w.heap.size, 1, none⟩ (.string m0.text)).setCell ⟨w.heap.size, 2, none⟩ (.int .i64 m0.lo)).setCell ⟨w.heap.size, 3, none⟩ (.int .i64 m0.hi)).setCell ⟨w.heap.size, 4, none⟩ (.slice m0.A m0.kids.length m0.c)) = w2 at *
  have HX2 : (w2.alloc (.cells #[] 24)).cell? ⟨w.heap.size, 4, none⟩ = some (.slice m0.A m0.kids.length m0.c) := (HBX.out.below HBA.out (by have := HB2.out.size; omega)).cells.2.2.2.2
  go_wp2_with (first | (refine wpList_empty rfl rfl ?_; rintro v0 hv0; have HRV := Lib.hid (by have h := HR1'.out; rw [← hv0] at h; exact h); clear hv0) | (at_builtin; refine wpList_append_by _ rfl _ _ 22 22 rfl _ _ rfl rfl _ _ HRV.out ?_) | (at_builtin; refine wpList_append_by _ rfl _ _ 22 22 rfl _ _ rfl rfl _ _ HR2'.out ?_) | (at_builtin; refine wpList_append_by _ rfl _ _ 22 22 rfl _ _ rfl rfl _ _ HR3'.out ?_))
  have hb2 := putv_below (HBW5.out.setCell (p := ⟨w.heap.size, 4, none⟩) (Nat.le_refl _) (.slice A5 l5.length c5)) (b := w.heap.size + 1) (by omega) (.int .i64 m0.kind) (.string m0.text) (.int .i64 m0.lo) (.int .i64 m0.hi) (.slice A5 l5.length c5)
  have hn2 := NBox.putv (show NBox (w5.setCell ⟨w.heap.size, 4, none⟩ (.slice A5 l5.length c5)) (w.heap.size + 1) zeroN from (Below.heap_setCell w5 ⟨w.heap.size, 4, none⟩ _ _ (by show w.heap.size + 1 ≠ w.heap.size; omega)).trans HR5.out) m0.kind m0.text m0.lo m0.hi A5 c5 l5
  have hks : ∀ b, b ≠ w.heap.size → b ≠ w.heap.size + 1 → (putv (w5.setCell ⟨w.heap.size, 4, none⟩ (.slice A5 l5.length c5)) (w.heap.size + 1) (.int .i64 m0.kind) (.string m0.text) (.int .i64 m0.lo) (.int .i64 m0.hi) (.slice A5 l5.length c5)).heap[b]? = w5.heap[b]? := fun b hb hb' => by
    have e : ∀ (X : World) (k o : Nat) (v : Value), b ≠ k → (X.setCell ⟨k, o, none⟩ v).heap[b]? = X.heap[b]? := fun X k o v hk => Below.heap_setCell X ⟨k, o, none⟩ v b (by show b ≠ k; omega)
    unfold putv
    rw [e _ _ _ _ hb', e _ _ _ _ hb', e _ _ _ _ hb', e _ _ _ _ hb', e _ _ _ _ hb', e _ _ _ _ hb]
  have hsz : w5.heap.size = (putv (w5.setCell ⟨w.heap.size, 4, none⟩ (.slice A5 l5.length c5)) (w.heap.size + 1) (.int .i64 m0.kind) (.string m0.text) (.int .i64 m0.lo) (.int .i64 m0.hi) (.slice A5 l5.length c5)).heap.size := by simp
  have hin2 : InS (fun b => (b < B0 ∨ w.heap.size ≤ b) ∧ b < (putv (w5.setCell ⟨w.heap.size, 4, none⟩ (.slice A5 l5.length c5)) (w.heap.size + 1) (.int .i64 m0.kind) (.string m0.text) (.int .i64 m0.lo) (.int .i64 m0.hi) (.slice A5 l5.length c5)).heap.size) (putv (w5.setCell ⟨w.heap.size, 4, none⟩ (.slice A5 l5.length c5)) (w.heap.size + 1) (.int .i64 m0.kind) (.string m0.text) (.int .i64 m0.lo) (.int .i64 m0.hi) (.slice A5 l5.length c5)) (.mk m0.kind m0.text m0.lo m0.hi A5 c5 l5) :=
    (inS_iff _).2 ⟨(HROW5.out.keep (fun b hb => hks b (by have := hb.1; omega) (by have := hb.1; omega))).mono (fun b hb => ⟨.inr (by have := hb.1; omega), by rw [← hsz]; exact hb.2⟩), HCAP5.out, fun k hk => InS.mono (fun b hb => ⟨hb.1.imp id (fun h => by omega), by rw [← hsz]; have := hb.2; have := HZ5.out; omega⟩) k (InS.keep (fun b hb => hks b (by have := hb.1; omega) (by have := hb.1; omega)) k (HIK.out k hk))⟩
  obtain ⟨z0, z1, z2, z3, z4⟩ := hn2.cells
  clear q0 q1 q2 q3 q4 g0 g1 g2 g3 g4 a0 a1 a2 a3 a4 k4 x4 hks hn2 HX2
  dsimp only [putv] at hsz hin2 z0 z1 z2 z3 z4 hb2
  generalize (((((w5.setCell ⟨w.heap.size, 4, none⟩ (.slice A5 l5.length c5)).setCell ⟨w.heap.size + 1, 0, none⟩ (.int .i64 m0.kind)).setCell ⟨w.heap.size + 1, 1, none⟩ (.string m0.text)).setCell ⟨w.heap.size + 1, 2, none⟩ (.int .i64 m0.lo)).setCell ⟨w.heap.size + 1, 3, none⟩ (.int .i64 m0.hi)).setCell ⟨w.heap.size + 1, 4, none⟩ (.slice A5 l5.length c5) = V at *
  exact bodyPost_ret (v := .agg #[.int .i64 m0.kind, .string m0.text, .int .i64 m0.lo, .int .i64 m0.hi, .slice A5 l5.length c5]) (by simp [results, Try.results56, go_sem, z0, z1, z2, z3, z4, NT.kind, NT.text, NT.lo, NT.hi, NT.A, NT.c, NT.kids]) rfl ⟨.mk m0.kind m0.text m0.lo m0.hi A5 c5 l5, rfl, HSTR.out, hin2, hb2⟩
end Go.Proofs.Ytjikfdifcpdhhaa
