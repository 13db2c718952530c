/- What is proved: Get of the reference returns the node with a path. -/
import Derived.Test.YtlaiahiphghggaaGet
import Derived.Test.YtlaiahiphghggaaTreeAwake
import Derived.StillTailTactics
set_option linter.unusedVariables false
namespace Go.Proofs.Ytlaiahiphghggaa
open Go.RowKit

set_option maxHeartbeats 2000000 in
set_option maxRecDepth 100000 in
theorem r_get_any (n : NT) (A : Option Addr) (c : Nat) (p : List Int) (w : World) (hin : InT w.heap.size w n) (hp : IRow w.heap.size w A p) (hcn : NT.cnt n ≤ 1000000000) (hpl : p.length ≤ 1000000000) :
    Calls Try.prog 21 #[.agg #[.int .i64 n.kind, .string n.text, .int .i64 n.lo, .int .i64 n.hi, .slice n.A n.kids.length n.c], .slice A p.length c] w fun e w' => e = .returned (.tuple #[.agg #[.int .i64 ((NT.getZ n p).getD zeroN).kind, .string ((NT.getZ n p).getD zeroN).text, .int .i64 ((NT.getZ n p).getD zeroN).lo, .int .i64 ((NT.getZ n p).getD zeroN).hi, .slice ((NT.getZ n p).getD zeroN).A ((NT.getZ n p).getD zeroN).kids.length ((NT.getZ n p).getD zeroN).c], .bool (NT.getZ n p).isSome]) ∧ Below w.heap.size w w' := by
  have HI := Lib.hid hin
  have HP := Lib.hid hp
  clear hin hp
  go_enter Try.func21, Try.ntmps21
  go_wp2_with (fail)
  have HB := Lib.hid (((Below.refl w.heap.size w).alloc (Nat.le_refl _) (.cells #[.int .i64 n.kind, .string n.text, .int .i64 n.lo, .int .i64 n.hi, .slice n.A n.kids.length n.c] 24)).alloc (by simp) (.cells #[.int .i64 0, .string ⟨#[]⟩, .int .i64 0, .int .i64 0, .slice none 0 0] 24))
  have HN : Hid (NBox ((w.alloc (.cells #[.int .i64 n.kind, .string n.text, .int .i64 n.lo, .int .i64 n.hi, .slice n.A n.kids.length n.c] 24)).alloc (.cells #[.int .i64 0, .string ⟨#[]⟩, .int .i64 0, .int .i64 0, .slice none 0 0] 24)) w.heap.size n) := (heap_alloc_old _ _ (by simp)).trans (NBox.new w n)
  have HZ : Hid (NBox ((w.alloc (.cells #[.int .i64 n.kind, .string n.text, .int .i64 n.lo, .int .i64 n.hi, .slice n.A n.kids.length n.c] 24)).alloc (.cells #[.int .i64 0, .string ⟨#[]⟩, .int .i64 0, .int .i64 0, .slice none 0 0] 24)) (w.heap.size + 1) zeroN) := by
    have h := zero_box (w.alloc (.cells #[.int .i64 n.kind, .string n.text, .int .i64 n.lo, .int .i64 n.hi, .slice n.A n.kids.length n.c] 24))
    rw [World.size_alloc] at h
    exact h
  have hz : ((w.alloc (.cells #[.int .i64 n.kind, .string n.text, .int .i64 n.lo, .int .i64 n.hi, .slice n.A n.kids.length n.c] 24)).alloc (.cells #[.int .i64 0, .string ⟨#[]⟩, .int .i64 0, .int .i64 0, .slice none 0 0] 24)).heap.size = w.heap.size + 1 + 1 := by simp
  generalize ((w.alloc (.cells #[.int .i64 n.kind, .string n.text, .int .i64 n.lo, .int .i64 n.hi, .slice n.A n.kids.length n.c] 24)).alloc (.cells #[.int .i64 0, .string ⟨#[]⟩, .int .i64 0, .int .i64 0, .slice none 0 0] 24)) = W at *
  go_loopw [6] (fun i wr => ∃ (k : Nat) (m : NT), k ≤ p.length ∧ i = .int .i64 (k : Int) ∧ NT.cnt m ≤ 1000000000 ∧ Hid (NBox wr w.heap.size m) ∧ Hid (NBox wr (w.heap.size + 1) zeroN) ∧ Hid (InT w.heap.size w m) ∧ Hid (NT.getZ n p = NT.getZ m (p.drop k)) ∧ Hid (Below w.heap.size w wr)) (fun i _ => p.length - (intOf i).toNat)
  case atStart => exact ⟨0, n, Nat.zero_le _, rfl, hcn, HN, HZ, HI, (show NT.getZ n p = NT.getZ n (p.drop 0) by simp), HB⟩
  case round =>
    obtain ⟨k, m, hk, rfl, ham, hnb, hzb, hin, hnum, hbw⟩ := hrel
    by_cases hlt : k < p.length
    · obtain ⟨b, off, rfl, hb, hcs⟩ := (HP.out.below hbw.out) (by omega)
      have hck := hcs k hlt
      clear hcs
      have hd : p.drop k = p[k] :: p.drop (k + 1) := List.drop_eq_getElem_cons hlt
      rw [hd] at hnum
      clear hd
      have g1 : (0 : Int) ≤ (k : Int) := by omega
      have g2 : (k : Int) < (p.length : Int) := by omega
      obtain ⟨b0, b1, b2, b3, b4⟩ := hnb.out.cells
      obtain ⟨z0, z1, z2, z3, z4⟩ := zero_cells hzb.out
      have y0 := hzb.out.frozen 0
      have y1 := hzb.out.frozen 1
      have y2 := hzb.out.frozen 2
      have y3 := hzb.out.frozen 3
      have y4 := hzb.out.frozen 4
      generalize p[k] = i at *
      by_cases hi0 : i < 0
      · have hx : NT.getZ m (i :: p.drop (k + 1)) = none := NT.getZ_no (by omega)
        rw [hx] at hnum
        clear hx
        have HV := Lib.hid hnum.out
        have hi0' : decide (i < 0) = true := by simpa using hi0
        go_wp2_with (fail)
        go_quiet (fail)
        go_wp2_with (fail)
        have hdb := drewN_below wr nq
        have HZ0 := hzb.out.below hdb (Array.getElem?_eq_some_iff.1 hzb.out).1
        have HB0 := hbw.out.trans (hdb.mono hbw.out.size)
        have hq : NBox (putv (wr.drewN nq) (w.heap.size + 1) (.int .i64 0) (.string ⟨#[]⟩) (.int .i64 0) (.int .i64 0) (.slice none 0 0)) (w.heap.size + 1) zeroN := HZ0.putv 0 ⟨#[]⟩ 0 0 none 0 []
        have hbq := putv_below HB0 (b := w.heap.size + 1) (by omega) (.int .i64 0) (.string ⟨#[]⟩) (.int .i64 0) (.int .i64 0) (.slice none 0 0)
        obtain ⟨v0, v1, v2, v3, v4⟩ := zero_cells hq
        clear hq z0 z1 z2 z3 z4 y0 y1 y2 y3 y4 hdb HZ0 HB0
        dsimp only [putv] at hbq v0 v1 v2 v3 v4
        generalize (((((wr.drewN nq).setCell ⟨w.heap.size + 1, 0, none⟩ (.int .i64 0)).setCell ⟨w.heap.size + 1, 1, none⟩ (.string ⟨#[]⟩)).setCell ⟨w.heap.size + 1, 2, none⟩ (.int .i64 0)).setCell ⟨w.heap.size + 1, 3, none⟩ (.int .i64 0)).setCell ⟨w.heap.size + 1, 4, none⟩ (.slice none 0 0) = V at *
        exact bodyPost_ret (v := .tuple #[.agg #[.int .i64 0, .string ⟨#[]⟩, .int .i64 0, .int .i64 0, .slice none 0 0], .bool false]) (by simp [results, Try.results21, go_sem, v0, v1, v2, v3, v4]) rfl ⟨by rw [HV.out]; rfl, hbq⟩
      · by_cases hi1 : i < (m.kids.length : Int)
        · obtain ⟨j, rfl⟩ : ∃ j : Nat, i = (j : Int) := ⟨i.toNat, by omega⟩
          have hj : j < m.kids.length := by omega
          have hx := NT.getZ_yes (n := m) (p := p.drop (k + 1)) (show (0 : Int) ≤ (j : Int) by omega) (by simpa using hj)
          simp only [Int.toNat_natCast] at hx
          rw [hx] at hnum
          clear hx
          have hce := NT.cnt_kid (List.getElem_mem hj)
          obtain ⟨b', off', hA, hb', c0, c1, c2, c3, c4⟩ := (InT.below hbw.out m hin.out).cells j hj
          have f0 := hnb.out.frozen 0
          have f1 := hnb.out.frozen 1
          have f2 := hnb.out.frozen 2
          have f3 := hnb.out.frozen 3
          have f4 := hnb.out.frozen 4
          have HKO := Lib.hid (InT.kidAt hin.out hj)
          have hi0' : decide ((j : Int) < 0) = false := by simp
          have g3 : (0 : Int) ≤ (j : Int) := by omega
          have g4 : (j : Int) < (m.kids.length : Int) := by omega
          have hi2 : decide ((m.kids.length : Int) ≤ (j : Int)) = false := by simp; omega
          rw [hA] at b4
          clear hA
          generalize m.kids[j] = x at *
          go_wp2_with (fail)
          go_quiet (fail)
          go_wp2_with (fail)
          have hdb := drewN_below wr nq
          have HN0 := Lib.hid (hnb.out.below hdb (Array.getElem?_eq_some_iff.1 hnb.out).1)
          have HZ0 := Lib.hid (hzb.out.below hdb (Array.getElem?_eq_some_iff.1 hzb.out).1)
          have HB0 := Lib.hid (hbw.out.trans (hdb.mono hbw.out.size))
          have hx0 : (wr.drewN nq).cell? ⟨b, off + k, none⟩ = some (.int .i64 (j : Int)) := (hdb.cell (p := ⟨b, off + k, none⟩) (World.block_lt_of_cell? wr _ hck)).trans hck
          have hc0 := (hdb.cell (p := ⟨b', off' + j * 5, none⟩) (World.block_lt_of_cell? wr _ c0)).trans c0
          have hc1 := (hdb.cell (p := ⟨b', off' + j * 5 + 1, none⟩) (World.block_lt_of_cell? wr _ c1)).trans c1
          have hc2 := (hdb.cell (p := ⟨b', off' + j * 5 + 2, none⟩) (World.block_lt_of_cell? wr _ c2)).trans c2
          have hc3 := (hdb.cell (p := ⟨b', off' + j * 5 + 3, none⟩) (World.block_lt_of_cell? wr _ c3)).trans c3
          have hc4 := (hdb.cell (p := ⟨b', off' + j * 5 + 4, none⟩) (World.block_lt_of_cell? wr _ c4)).trans c4
          have hb4 := (hdb.cell (p := ⟨w.heap.size, 4, none⟩) (World.block_lt_of_cell? wr _ b4)).trans b4
          clear hdb hck c0 c1 c2 c3 c4 b0 b1 b2 b3 b4 f0 f1 f2 f3 f4 z0 z1 z2 z3 z4 y0 y1 y2 y3 y4
          generalize (wr.drewN nq) = w0 at *
          go_still_tail 8, (by kernel_rfl)
          change wpList _ _ _ _ _ w0.drew
          have hn2 : NBox w0.drew w.heap.size m := HN0.out
          have HZ2 : Hid (NBox w0.drew (w.heap.size + 1) zeroN) := HZ0.out
          have HB2 := Lib.hid (HB0.out.drew)
          clear hx0 hc0 hc1 hc2 hc3 hc4 hb4 HN0 HZ0 HB0
          generalize w0.drew = w2 at *
          obtain ⟨b0, b1, b2, b3, b4⟩ := hn2.cells
          have f0 := hn2.frozen 0
          have f1 := hn2.frozen 1
          have f2 := hn2.frozen 2
          have f3 := hn2.frozen 3
          have f4 := hn2.frozen 4
          have HN2 := Lib.hid hn2
          clear hn2
          go_wp2_with (fail)
          have hx : NBox (put5 w2 w.heap.size x) (w.heap.size + 1) zeroN := (put5_far w2 x (by omega)).trans HZ2.out
          exact ⟨⟨k + 1, x, by omega, by go_num, by omega, HN2.out.put x, hx, HKO.out, hnum.out, put5_below HB2.out (Nat.le_refl _) x⟩, by simp [intOf]; omega⟩
        · have hx : NT.getZ m (i :: p.drop (k + 1)) = none := NT.getZ_no (by omega)
          rw [hx] at hnum
          clear hx
          have HV := Lib.hid hnum.out
          have hi0' : decide (i < 0) = false := by simpa using hi0
          have hi2 : decide ((m.kids.length : Int) ≤ i) = true := by simp; omega
          go_wp2_with (fail)
          go_quiet (fail)
          go_wp2_with (fail)
          have hdb := drewN_below wr nq
          have HZ0 := hzb.out.below hdb (Array.getElem?_eq_some_iff.1 hzb.out).1
          have HB0 := hbw.out.trans (hdb.mono hbw.out.size)
          have hq : NBox (putv (wr.drewN nq) (w.heap.size + 1) (.int .i64 0) (.string ⟨#[]⟩) (.int .i64 0) (.int .i64 0) (.slice none 0 0)) (w.heap.size + 1) zeroN := HZ0.putv 0 ⟨#[]⟩ 0 0 none 0 []
          have hbq := putv_below HB0 (b := w.heap.size + 1) (by omega) (.int .i64 0) (.string ⟨#[]⟩) (.int .i64 0) (.int .i64 0) (.slice none 0 0)
          obtain ⟨v0, v1, v2, v3, v4⟩ := zero_cells hq
          clear hq z0 z1 z2 z3 z4 y0 y1 y2 y3 y4 hdb HZ0 HB0
          dsimp only [putv] at hbq v0 v1 v2 v3 v4
          generalize (((((wr.drewN nq).setCell ⟨w.heap.size + 1, 0, none⟩ (.int .i64 0)).setCell ⟨w.heap.size + 1, 1, none⟩ (.string ⟨#[]⟩)).setCell ⟨w.heap.size + 1, 2, none⟩ (.int .i64 0)).setCell ⟨w.heap.size + 1, 3, none⟩ (.int .i64 0)).setCell ⟨w.heap.size + 1, 4, none⟩ (.slice none 0 0) = V at *
          exact bodyPost_ret (v := .tuple #[.agg #[.int .i64 0, .string ⟨#[]⟩, .int .i64 0, .int .i64 0, .slice none 0 0], .bool false]) (by simp [results, Try.results21, go_sem, v0, v1, v2, v3, v4]) rfl ⟨by rw [HV.out]; rfl, hbq⟩
    · have hd : p.drop k = [] := List.drop_eq_nil_of_le (by omega)
      rw [hd] at hnum
      have HV := Lib.hid hnum.out
      clear hd
      obtain ⟨b0, b1, b2, b3, b4⟩ := hnb.out.cells
      obtain ⟨z0, z1, z2, z3, z4⟩ := zero_cells hzb.out
      have y0 := hzb.out.frozen 0
      have y1 := hzb.out.frozen 1
      have y2 := hzb.out.frozen 2
      have y3 := hzb.out.frozen 3
      have y4 := hzb.out.frozen 4
      go_wp2_with (fail)
      have hq := hzb.out.put m
      have hbq := put5_below hbw.out (b := w.heap.size + 1) (by omega) m
      obtain ⟨v0, v1, v2, v3, v4⟩ := hq.cells
      clear hq z0 z1 z2 z3 z4 y0 y1 y2 y3 y4 b0 b1 b2 b3 b4
      dsimp only [put5] at hbq v0 v1 v2 v3 v4
      generalize ((((wr.setCell ⟨w.heap.size + 1, 0, none⟩ (.int .i64 m.kind)).setCell ⟨w.heap.size + 1, 1, none⟩ (.string m.text)).setCell ⟨w.heap.size + 1, 2, none⟩ (.int .i64 m.lo)).setCell ⟨w.heap.size + 1, 3, none⟩ (.int .i64 m.hi)).setCell ⟨w.heap.size + 1, 4, none⟩ (.slice m.A m.kids.length m.c) = V at *
      exact bodyPost_ret (v := .tuple #[.agg #[.int .i64 m.kind, .string m.text, .int .i64 m.lo, .int .i64 m.hi, .slice m.A m.kids.length m.c], .bool true]) (by simp [results, Try.results21, go_sem, v0, v1, v2, v3, v4]) rfl ⟨by rw [HV.out]; rfl, hbq⟩
end Go.Proofs.Ytlaiahiphghggaa
