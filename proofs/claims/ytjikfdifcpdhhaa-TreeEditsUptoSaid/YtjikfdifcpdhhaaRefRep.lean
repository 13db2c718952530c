/- What is proved: Replace of the reference returns the tree in which kids of the node with a path are replaced. -/
import Derived.Test.YtjikfdifcpdhhaaRefChgN
import Derived.Test.YtjikfdifcpdhhaaRefChgC
import Derived.Test.YtjikfdifcpdhhaaGet
import Derived.Test.YtjikfdifcpdhhaaTreeAwake
import Derived.StillTailTactics
import Derived.Test.YtjikfdifcpdhhaaReplace
import Derived.IntWalk
set_option linter.unusedVariables false
namespace Go.Proofs.Ytjikfdifcpdhhaa
open Go.RowKit

theorem r_change_any (B0 F T : Nat) (hFT : F ≤ T) (AL : Option Addr) (cL : Nat) (L : List NT) : ∀ p : List Int, ChgC B0 F T AL cL L p := by
  intro p
  induction p with
  | nil => exact r_change_nil B0 F T hFT AL cL L
  | cons i p ih => exact r_change_cons B0 F T hFT AL cL L i p ih
end Go.Proofs.Ytjikfdifcpdhhaa
set_option linter.unusedVariables false
namespace Go.Proofs.Ytjikfdifcpdhhaa
open Go.RowKit

set_option maxHeartbeats 2000000 in
set_option maxRecDepth 100000 in
theorem r_get_any (n : NT) (A : Option Addr) (c : Nat) (p : List Int) (w : World) (hin : InT w.heap.size w n) (hp : IRow w.heap.size w A p) (hcn : NT.cnt n ≤ 1000000000) (hpl : p.length ≤ 1000000000) :
    Calls Try.prog 21 #[.agg #[.int .i64 n.kind, .string n.text, .int .i64 n.lo, .int .i64 n.hi, .slice n.A n.kids.length n.c], .slice A p.length c] w fun e w' => e = .returned (.tuple #[.agg #[.int .i64 ((NT.getZ n p).getD zeroN).kind, .string ((NT.getZ n p).getD zeroN).text, .int .i64 ((NT.getZ n p).getD zeroN).lo, .int .i64 ((NT.getZ n p).getD zeroN).hi, .slice ((NT.getZ n p).getD zeroN).A ((NT.getZ n p).getD zeroN).kids.length ((NT.getZ n p).getD zeroN).c], .bool (NT.getZ n p).isSome]) ∧ Below w.heap.size w w' := by
  have HI := Lib.hid hin
  have HP := Lib.hid hp
  clear hin hp
  go_enter Try.func21, Try.ntmps21
  go_wp2_with (fail)
  have HB := Lib.hid (((Below.refl w.heap.size w).alloc (Nat.le_refl _) (.cells #[.int .i64 n.kind, .string n.text, .int .i64 n.lo, .int .i64 n.hi, .slice n.A n.kids.length n.c] 24)).alloc (by simp) (.cells #[.int .i64 0, .string ⟨#[]⟩, .int .i64 0, .int .i64 0, .slice none 0 0] 24))
  have HN : Hid (NBox ((w.alloc (.cells #[.int .i64 n.kind, .string n.text, .int .i64 n.lo, .int .i64 n.hi, .slice n.A n.kids.length n.c] 24)).alloc (.cells #[.int .i64 0, .string ⟨#[]⟩, .int .i64 0, .int .i64 0, .slice none 0 0] 24)) w.heap.size n) := (heap_alloc_old _ _ (by simp)).trans (NBox.new w n)
  have HZ : Hid (NBox ((w.alloc (.cells #[.int .i64 n.kind, .string n.text, .int .i64 n.lo, .int .i64 n.hi, .slice n.A n.kids.length n.c] 24)).alloc (.cells #[.int .i64 0, .string ⟨#[]⟩, .int .i64 0, .int .i64 0, .slice none 0 0] 24)) (w.heap.size + 1) zeroN) := by
    have h := zero_box (w.alloc (.cells #[.int .i64 n.kind, .string n.text, .int .i64 n.lo, .int .i64 n.hi, .slice n.A n.kids.length n.c] 24))
    rw [World.size_alloc] at h
    exact h
  have hz : ((w.alloc (.cells #[.int .i64 n.kind, .string n.text, .int .i64 n.lo, .int .i64 n.hi, .slice n.A n.kids.length n.c] 24)).alloc (.cells #[.int .i64 0, .string ⟨#[]⟩, .int .i64 0, .int .i64 0, .slice none 0 0] 24)).heap.size = w.heap.size + 1 + 1 := by simp
  generalize ((w.alloc (.cells #[.int .i64 n.kind, .string n.text, .int .i64 n.lo, .int .i64 n.hi, .slice n.A n.kids.length n.c] 24)).alloc (.cells #[.int .i64 0, .string ⟨#[]⟩, .int .i64 0, .int .i64 0, .slice none 0 0] 24)) = W at *
  go_loopw [6] (fun i wr => ∃ (k : Nat) (m : NT), k ≤ p.length ∧ i = .int .i64 (k : Int) ∧ NT.cnt m ≤ 1000000000 ∧ Hid (NBox wr w.heap.size m) ∧ Hid (NBox wr (w.heap.size + 1) zeroN) ∧ Hid (InT w.heap.size w m) ∧ Hid (NT.getZ n p = NT.getZ m (p.drop k)) ∧ Hid (Below w.heap.size w wr)) (fun i _ => p.length - (intOf i).toNat)
  case atStart => exact ⟨0, n, Nat.zero_le _, rfl, hcn, HN, HZ, HI, (show NT.getZ n p = NT.getZ n (p.drop 0) by simp), HB⟩
  case round =>
    obtain ⟨k, m, hk, rfl, ham, hnb, hzb, hin, hnum, hbw⟩ := hrel
    by_cases hlt : k < p.length
    · obtain ⟨b, off, rfl, hb, hcs⟩ := (HP.out.below hbw.out) (by omega)
      have hck := hcs k hlt
      clear hcs
      have hd : p.drop k = p[k] :: p.drop (k + 1) := List.drop_eq_getElem_cons hlt
      rw [hd] at hnum
      clear hd
      have g1 : (0 : Int) ≤ (k : Int) := by omega
      have g2 : (k : Int) < (p.length : Int) := by omega
      obtain ⟨b0, b1, b2, b3, b4⟩ := hnb.out.cells
      obtain ⟨z0, z1, z2, z3, z4⟩ := zero_cells hzb.out
      have y0 := hzb.out.frozen 0
      have y1 := hzb.out.frozen 1
      have y2 := hzb.out.frozen 2
      have y3 := hzb.out.frozen 3
      have y4 := hzb.out.frozen 4
      generalize p[k] = i at *
      by_cases hi0 : i < 0
      · have hx : NT.getZ m (i :: p.drop (k + 1)) = none := NT.getZ_no (by omega)
        rw [hx] at hnum
        clear hx
        have HV := Lib.hid hnum.out
        have hi0' : decide (i < 0) = true := by simpa using hi0
        go_wp2_with (fail)
        go_quiet (fail)
        go_wp2_with (fail)
        have hdb := drewN_below wr nq
        have HZ0 := hzb.out.below hdb (Array.getElem?_eq_some_iff.1 hzb.out).1
        have HB0 := hbw.out.trans (hdb.mono hbw.out.size)
        have hq : NBox (putv (wr.drewN nq) (w.heap.size + 1) (.int .i64 0) (.string ⟨#[]⟩) (.int .i64 0) (.int .i64 0) (.slice none 0 0)) (w.heap.size + 1) zeroN := HZ0.putv 0 ⟨#[]⟩ 0 0 none 0 []
        have hbq := putv_below HB0 (b := w.heap.size + 1) (by omega) (.int .i64 0) (.string ⟨#[]⟩) (.int .i64 0) (.int .i64 0) (.slice none 0 0)
        obtain ⟨v0, v1, v2, v3, v4⟩ := zero_cells hq
        clear hq z0 z1 z2 z3 z4 y0 y1 y2 y3 y4 hdb HZ0 HB0
        dsimp only [putv] at hbq v0 v1 v2 v3 v4
        generalize (((((wr.drewN nq).setCell ⟨w.heap.size + 1, 0, none⟩ (.int .i64 0)).setCell ⟨w.heap.size + 1, 1, none⟩ (.string ⟨#[]⟩)).setCell ⟨w.heap.size + 1, 2, none⟩ (.int .i64 0)).setCell ⟨w.heap.size + 1, 3, none⟩ (.int .i64 0)).setCell ⟨w.heap.size + 1, 4, none⟩ (.slice none 0 0) = V at *
        exact bodyPost_ret (v := .tuple #[.agg #[.int .i64 0, .string ⟨#[]⟩, .int .i64 0, .int .i64 0, .slice none 0 0], .bool false]) (by simp [results, Try.results21, go_sem, v0, v1, v2, v3, v4]) rfl ⟨by rw [HV.out]; rfl, hbq⟩
      · by_cases hi1 : i < (m.kids.length : Int)
        · obtain ⟨j, rfl⟩ : ∃ j : Nat, i = (j : Int) := ⟨i.toNat, by omega⟩
          have hj : j < m.kids.length := by omega
          have hx := NT.getZ_yes (n := m) (p := p.drop (k + 1)) (show (0 : Int) ≤ (j : Int) by omega) (by simpa using hj)
          simp only [Int.toNat_natCast] at hx
          rw [hx] at hnum
          clear hx
          have hce := NT.cnt_kid (List.getElem_mem hj)
          obtain ⟨b', off', hA, hb', c0, c1, c2, c3, c4⟩ := (InT.below hbw.out m hin.out).cells j hj
          have f0 := hnb.out.frozen 0
          have f1 := hnb.out.frozen 1
          have f2 := hnb.out.frozen 2
          have f3 := hnb.out.frozen 3
          have f4 := hnb.out.frozen 4
          have HKO := Lib.hid (InT.kidAt hin.out hj)
          have hi0' : decide ((j : Int) < 0) = false := by simp
          have g3 : (0 : Int) ≤ (j : Int) := by omega
          have g4 : (j : Int) < (m.kids.length : Int) := by omega
          have hi2 : decide ((m.kids.length : Int) ≤ (j : Int)) = false := by simp; omega
          rw [hA] at b4
          clear hA
          generalize m.kids[j] = x at *
          go_wp2_with (fail)
          go_quiet (fail)
          go_wp2_with (fail)
          have hdb := drewN_below wr nq
          have HN0 := Lib.hid (hnb.out.below hdb (Array.getElem?_eq_some_iff.1 hnb.out).1)
          have HZ0 := Lib.hid (hzb.out.below hdb (Array.getElem?_eq_some_iff.1 hzb.out).1)
          have HB0 := Lib.hid (hbw.out.trans (hdb.mono hbw.out.size))
          have hx0 : (wr.drewN nq).cell? ⟨b, off + k, none⟩ = some (.int .i64 (j : Int)) := (hdb.cell (p := ⟨b, off + k, none⟩) (World.block_lt_of_cell? wr _ hck)).trans hck
          have hc0 := (hdb.cell (p := ⟨b', off' + j * 5, none⟩) (World.block_lt_of_cell? wr _ c0)).trans c0
          have hc1 := (hdb.cell (p := ⟨b', off' + j * 5 + 1, none⟩) (World.block_lt_of_cell? wr _ c1)).trans c1
          have hc2 := (hdb.cell (p := ⟨b', off' + j * 5 + 2, none⟩) (World.block_lt_of_cell? wr _ c2)).trans c2
          have hc3 := (hdb.cell (p := ⟨b', off' + j * 5 + 3, none⟩) (World.block_lt_of_cell? wr _ c3)).trans c3
          have hc4 := (hdb.cell (p := ⟨b', off' + j * 5 + 4, none⟩) (World.block_lt_of_cell? wr _ c4)).trans c4
          have hb4 := (hdb.cell (p := ⟨w.heap.size, 4, none⟩) (World.block_lt_of_cell? wr _ b4)).trans b4
          clear hdb hck c0 c1 c2 c3 c4 b0 b1 b2 b3 b4 f0 f1 f2 f3 f4 z0 z1 z2 z3 z4 y0 y1 y2 y3 y4
          generalize (wr.drewN nq) = w0 at *
          go_still_tail 8, (by kernel_rfl)
          change wpList _ _ _ _ _ w0.drew
          have hn2 : NBox w0.drew w.heap.size m := HN0.out
          have HZ2 : Hid (NBox w0.drew (w.heap.size + 1) zeroN) := HZ0.out
          have HB2 := Lib.hid (HB0.out.drew)
          clear hx0 hc0 hc1 hc2 hc3 hc4 hb4 HN0 HZ0 HB0
          generalize w0.drew = w2 at *
          obtain ⟨b0, b1, b2, b3, b4⟩ := hn2.cells
          have f0 := hn2.frozen 0
          have f1 := hn2.frozen 1
          have f2 := hn2.frozen 2
          have f3 := hn2.frozen 3
          have f4 := hn2.frozen 4
          have HN2 := Lib.hid hn2
          clear hn2
          go_wp2_with (fail)
          have hx : NBox (put5 w2 w.heap.size x) (w.heap.size + 1) zeroN := (put5_far w2 x (by omega)).trans HZ2.out
          exact ⟨⟨k + 1, x, by omega, by go_num, by omega, HN2.out.put x, hx, HKO.out, hnum.out, put5_below HB2.out (Nat.le_refl _) x⟩, by simp [intOf]; omega⟩
        · have hx : NT.getZ m (i :: p.drop (k + 1)) = none := NT.getZ_no (by omega)
          rw [hx] at hnum
          clear hx
          have HV := Lib.hid hnum.out
          have hi0' : decide (i < 0) = false := by simpa using hi0
          have hi2 : decide ((m.kids.length : Int) ≤ i) = true := by simp; omega
          go_wp2_with (fail)
          go_quiet (fail)
          go_wp2_with (fail)
          have hdb := drewN_below wr nq
          have HZ0 := hzb.out.below hdb (Array.getElem?_eq_some_iff.1 hzb.out).1
          have HB0 := hbw.out.trans (hdb.mono hbw.out.size)
          have hq : NBox (putv (wr.drewN nq) (w.heap.size + 1) (.int .i64 0) (.string ⟨#[]⟩) (.int .i64 0) (.int .i64 0) (.slice none 0 0)) (w.heap.size + 1) zeroN := HZ0.putv 0 ⟨#[]⟩ 0 0 none 0 []
          have hbq := putv_below HB0 (b := w.heap.size + 1) (by omega) (.int .i64 0) (.string ⟨#[]⟩) (.int .i64 0) (.int .i64 0) (.slice none 0 0)
          obtain ⟨v0, v1, v2, v3, v4⟩ := zero_cells hq
          clear hq z0 z1 z2 z3 z4 y0 y1 y2 y3 y4 hdb HZ0 HB0
          dsimp only [putv] at hbq v0 v1 v2 v3 v4
          generalize (((((wr.drewN nq).setCell ⟨w.heap.size + 1, 0, none⟩ (.int .i64 0)).setCell ⟨w.heap.size + 1, 1, none⟩ (.string ⟨#[]⟩)).setCell ⟨w.heap.size + 1, 2, none⟩ (.int .i64 0)).setCell ⟨w.heap.size + 1, 3, none⟩ (.int .i64 0)).setCell ⟨w.heap.size + 1, 4, none⟩ (.slice none 0 0) = V at *
          exact bodyPost_ret (v := .tuple #[.agg #[.int .i64 0, .string ⟨#[]⟩, .int .i64 0, .int .i64 0, .slice none 0 0], .bool false]) (by simp [results, Try.results21, go_sem, v0, v1, v2, v3, v4]) rfl ⟨by rw [HV.out]; rfl, hbq⟩
    · have hd : p.drop k = [] := List.drop_eq_nil_of_le (by omega)
      rw [hd] at hnum
      have HV := Lib.hid hnum.out
      clear hd
      obtain ⟨b0, b1, b2, b3, b4⟩ := hnb.out.cells
      obtain ⟨z0, z1, z2, z3, z4⟩ := zero_cells hzb.out
      have y0 := hzb.out.frozen 0
      have y1 := hzb.out.frozen 1
      have y2 := hzb.out.frozen 2
      have y3 := hzb.out.frozen 3
      have y4 := hzb.out.frozen 4
      go_wp2_with (fail)
      have hq := hzb.out.put m
      have hbq := put5_below hbw.out (b := w.heap.size + 1) (by omega) m
      obtain ⟨v0, v1, v2, v3, v4⟩ := hq.cells
      clear hq z0 z1 z2 z3 z4 y0 y1 y2 y3 y4 b0 b1 b2 b3 b4
      dsimp only [put5] at hbq v0 v1 v2 v3 v4
      generalize ((((wr.setCell ⟨w.heap.size + 1, 0, none⟩ (.int .i64 m.kind)).setCell ⟨w.heap.size + 1, 1, none⟩ (.string m.text)).setCell ⟨w.heap.size + 1, 2, none⟩ (.int .i64 m.lo)).setCell ⟨w.heap.size + 1, 3, none⟩ (.int .i64 m.hi)).setCell ⟨w.heap.size + 1, 4, none⟩ (.slice m.A m.kids.length m.c) = V at *
      exact bodyPost_ret (v := .tuple #[.agg #[.int .i64 m.kind, .string m.text, .int .i64 m.lo, .int .i64 m.hi, .slice m.A m.kids.length m.c], .bool true]) (by simp [results, Try.results21, go_sem, v0, v1, v2, v3, v4]) rfl ⟨by rw [HV.out]; rfl, hbq⟩
end Go.Proofs.Ytjikfdifcpdhhaa
set_option linter.unusedVariables false
namespace Go.Proofs.Ytjikfdifcpdhhaa
open Go.RowKit

theorem r_list_is (k : Int) (w : World) : Calls Try.prog 19 #[.int .i64 k] w fun e w' => e = .returned (.bool (listB k)) ∧ w = w' := by
  have hk0 : k = 2 ∨ k = 3 ∨ k = 6 ∨ k = 11 ∨ k = 19 ∨ k = 26 ∨ k = 27 ∨ ((k == 2) = false ∧ (k == 3) = false ∧ (k == 6) = false ∧ (k == 11) = false ∧ (k == 19) = false ∧ (k == 26) = false ∧ (k == 27) = false ∧ listB k = false) := by
    simp [listB]; omega
  rcases hk0 with rfl | rfl | rfl | rfl | rfl | rfl | rfl | ⟨h1, h2, h3, h4, h5, h6, h7, h8⟩
  all_goals
    go_enter Try.func19, Try.ntmps19
    go_wp2_with (fail)
    go_ret
    first | exact ⟨congrArg (fun b => Ending.returned (Value.bool b)) h8.symm, rfl⟩ | exact ⟨rfl, rfl⟩

set_option maxHeartbeats 8000000 in
set_option maxRecDepth 100000 in
theorem r_replace_any (n : NT) (A : Option Addr) (c : Nat) (p : List Int) (f t : Int) (AL : Option Addr) (cL : Nat) (L : List NT) (w : World) (hin : InT w.heap.size w n) (hp : IRow w.heap.size w A p) (hpc : p.length ≤ c) (hrl : Row w.heap.size w AL L) (hil : ∀ k ∈ L, InT w.heap.size w k) (hcn : NT.cnt n + NT.cnts L ≤ 1000000000) (hpl : p.length ≤ 1000000000) :
    Calls Try.prog 35 #[.agg #[.int .i64 n.kind, .string n.text, .int .i64 n.lo, .int .i64 n.hi, .slice n.A n.kids.length n.c], .slice A p.length c, .int .i64 f, .int .i64 t, .slice AL L.length cL] w fun e w' => ∃ (m : NT) (r : Int), e = .returned (.tuple #[.agg #[.int .i64 m.kind, .string m.text, .int .i64 m.lo, .int .i64 m.hi, .slice m.A m.kids.length m.c], .int .i64 r]) ∧ RepRes n p f t L m r ∧ InT w'.heap.size w' m ∧ Below w.heap.size w w' := by
  have HI := Lib.hid hin
  have HP := Lib.hid hp
  have HRL := Lib.hid hrl
  have HIL := Lib.hid hil
  clear hin hp hrl hil
  go_enter Try.func35, Try.ntmps35
  go_wp2_with (fail)
  have hb0 : Below w.heap.size w ((w.alloc (.cells #[.int .i64 n.kind, .string n.text, .int .i64 n.lo, .int .i64 n.hi, .slice n.A n.kids.length n.c] 24)).alloc (.cells #[.int .i64 0, .string ⟨#[]⟩, .int .i64 0, .int .i64 0, .slice none 0 0] 24)) := ((Below.refl _ _).alloc (Nat.le_refl _) _).alloc (by simp) _
  have hn0 : NBox ((w.alloc (.cells #[.int .i64 n.kind, .string n.text, .int .i64 n.lo, .int .i64 n.hi, .slice n.A n.kids.length n.c] 24)).alloc (.cells #[.int .i64 0, .string ⟨#[]⟩, .int .i64 0, .int .i64 0, .slice none 0 0] 24)) w.heap.size n := (heap_alloc_old _ _ (by simp)).trans (NBox.new w n)
  have hz0 : NBox ((w.alloc (.cells #[.int .i64 n.kind, .string n.text, .int .i64 n.lo, .int .i64 n.hi, .slice n.A n.kids.length n.c] 24)).alloc (.cells #[.int .i64 0, .string ⟨#[]⟩, .int .i64 0, .int .i64 0, .slice none 0 0] 24)) (w.heap.size + 1) zeroN := by
    have h := zero_box (w.alloc (.cells #[.int .i64 n.kind, .string n.text, .int .i64 n.lo, .int .i64 n.hi, .slice n.A n.kids.length n.c] 24))
    rw [World.size_alloc] at h
    exact h
  generalize ((w.alloc (.cells #[.int .i64 n.kind, .string n.text, .int .i64 n.lo, .int .i64 n.hi, .slice n.A n.kids.length n.c] 24)).alloc (.cells #[.int .i64 0, .string ⟨#[]⟩, .int .i64 0, .int .i64 0, .slice none 0 0] 24)) = W at *
  have HG0 := r_get_any n A c p W (InT.later HI.out hb0) (HP.out.later hb0) (by omega) hpl
  generalize hm : (NT.getZ n p).getD zeroN = m at HG0
  have HM := Lib.hid hm
  clear hm
  refine HG0.mono ?_
  rintro e w1 ⟨rfl, hb1⟩
  clear HG0
  have HB1 := Lib.hid (hb0.trans (hb1.mono hb0.size))
  have HN1 := Lib.hid (hn0.next hb1)
  have HZ1 := Lib.hid (hz0.next hb1)
  clear hb0 hn0 hz0 hb1
  have HB2 := Lib.hid (HB1.out.alloc HB1.out.size (.cells #[.int .i64 m.kind, .string m.text, .int .i64 m.lo, .int .i64 m.hi, .slice m.A m.kids.length m.c] 24))
  have HN2 := Lib.hid (nbox_alloc HN1.out (.cells #[.int .i64 m.kind, .string m.text, .int .i64 m.lo, .int .i64 m.hi, .slice m.A m.kids.length m.c] 24))
  have HZ2 := Lib.hid (nbox_alloc HZ1.out (.cells #[.int .i64 m.kind, .string m.text, .int .i64 m.lo, .int .i64 m.hi, .slice m.A m.kids.length m.c] 24))
  have HO2 := Lib.hid (NBox.new w1 m)
  obtain ⟨z0, z1, z2, z3, z4⟩ := zero_cells HZ2.out
  have y0 := HZ2.out.frozen 0
  have y1 := HZ2.out.frozen 1
  have y2 := HZ2.out.frozen 2
  have y3 := HZ2.out.frozen 3
  have y4 := HZ2.out.frozen 4
  obtain ⟨o0, o1, o2, o3, o4⟩ := HO2.out.cells
  obtain ⟨b0, b1, b2, b3, b4⟩ := HN2.out.cells
  cases hg : NT.getZ n p with
  | none =>
    have HG := Lib.hid hg
    clear hg
    simp only [Option.isSome_none]
    go_wp2_with (fail)
    generalize (w1.alloc (.cells #[.int .i64 m.kind, .string m.text, .int .i64 m.lo, .int .i64 m.hi, .slice m.A m.kids.length m.c] 24)) = w2 at *
    have hq := HZ2.out.putv 0 ⟨#[]⟩ 0 0 none 0 []
    have hbq := putv_below HB2.out (b := w.heap.size + 1) (by omega) (.int .i64 0) (.string ⟨#[]⟩) (.int .i64 0) (.int .i64 0) (.slice none 0 0)
    obtain ⟨v0, v1, v2, v3, v4⟩ := zero_cells hq
    clear hq z0 z1 z2 z3 z4 y0 y1 y2 y3 y4 o0 o1 o2 o3 o4 b0 b1 b2 b3 b4
    dsimp only [putv] at hbq v0 v1 v2 v3 v4
    generalize (((((w2.setCell ⟨w.heap.size + 1, 0, none⟩ (.int .i64 0)).setCell ⟨w.heap.size + 1, 1, none⟩ (.string ⟨#[]⟩)).setCell ⟨w.heap.size + 1, 2, none⟩ (.int .i64 0)).setCell ⟨w.heap.size + 1, 3, none⟩ (.int .i64 0)).setCell ⟨w.heap.size + 1, 4, none⟩ (.slice none 0 0)) = V at *
    exact bodyPost_ret (v := .tuple #[.agg #[.int .i64 0, .string ⟨#[]⟩, .int .i64 0, .int .i64 0, .slice none 0 0], .int .i64 7]) (by simp [results, Try.results35, go_sem, v0, v1, v2, v3, v4]) rfl ⟨zeroN, 7, rfl, rep_none HG.out, inT_zero _ _, hbq⟩
  | some x =>
    have HG := Lib.hid hg
    have HMX := Lib.hid (show x = m by have h := HM.out; rw [hg] at h; exact h)
    have HXC := Lib.hid (getZ_in p n x hg HI.out)
    have hxk := NT.kids_len x
    have hxc := HXC.out.2
    clear hg
    simp only [Option.isSome_some]
    have hxm := HMX.out
    subst hxm
    by_cases hr : 0 ≤ f ∧ f ≤ t ∧ t ≤ (x.kids.length : Int)
    · have HRX := Lib.hid hr
      obtain ⟨F, rfl⟩ : ∃ F : Nat, f = (F : Int) := ⟨f.toNat, by omega⟩
      obtain ⟨T, rfl⟩ : ∃ T : Nat, t = (T : Int) := ⟨t.toNat, by omega⟩
      have hFT : F ≤ T := by omega
      have hTm : T ≤ x.kids.length := by omega
      have hmb : x.kids.length ≤ 1000000000 := by omega
      have d1 : decide ((F : Int) < 0) = false := by simp
      have d2 : decide ((T : Int) < (F : Int)) = false := by simp; omega
      have d3 : decide ((x.kids.length : Int) < (T : Int)) = false := by simp; omega
      have hLb : L.length ≤ 1000000000 := by have := NT.cnts_len L; omega
      clear hr
      have hcase : listB x.kind = true ∨ (listB x.kind = false ∧ (L.length : Int) = (T : Int) - (F : Int)) ∨ (listB x.kind = false ∧ (L.length : Int) ≠ (T : Int) - (F : Int)) := by
        cases listB x.kind
        · right
          by_cases h : (L.length : Int) = (T : Int) - (F : Int)
          · exact .inl ⟨rfl, h⟩
          · exact .inr ⟨rfl, h⟩
        · exact .inl rfl
      have hcase2 : (listB x.kind = false ∧ (L.length : Int) ≠ (T : Int) - (F : Int)) ∨ (∃ lb : Bool, listB x.kind = lb ∧ (lb = false → ((L.length : Int) != (T : Int) - (F : Int)) = false) ∧ ¬ (listB x.kind = false ∧ (L.length : Int) ≠ (T : Int) - (F : Int))) := by
        rcases hcase with h | h | h
        · exact .inr ⟨true, h, by simp, by rw [h]; simp⟩
        · exact .inr ⟨false, h.1, by simp [h.2], fun h2 => h2.2 h.2⟩
        · exact .inl h
      clear hcase
      rcases hcase2 with ⟨hl, hn⟩ | ⟨lb, hl, hq, hok⟩
      · have HRR := Lib.hid (rep_arg (L := L) HG.out HRX.out ⟨hl, hn⟩)
        have HL := Lib.hid (fun w9 => r_list_is x.kind w9)
        rw [hl] at HL
        have hn2 : ((L.length : Int) != (T : Int) - (F : Int)) = true := by simpa using hn
        clear hl hn
        go_wp2_with (fail)
        refine (HL.out _).mono ?_
        rintro e w3 ⟨rfl, rfl⟩
        go_wp2_with (fail)
        generalize (w1.alloc (.cells #[.int .i64 x.kind, .string x.text, .int .i64 x.lo, .int .i64 x.hi, .slice x.A x.kids.length x.c] 24)) = w2 at *
        have hq := HZ2.out.putv 0 ⟨#[]⟩ 0 0 none 0 []
        have hbq := putv_below HB2.out (b := w.heap.size + 1) (by omega) (.int .i64 0) (.string ⟨#[]⟩) (.int .i64 0) (.int .i64 0) (.slice none 0 0)
        obtain ⟨v0, v1, v2, v3, v4⟩ := zero_cells hq
        clear hq z0 z1 z2 z3 z4 y0 y1 y2 y3 y4 o0 o1 o2 o3 o4 b0 b1 b2 b3 b4
        dsimp only [putv] at hbq v0 v1 v2 v3 v4
        generalize (((((w2.setCell ⟨w.heap.size + 1, 0, none⟩ (.int .i64 0)).setCell ⟨w.heap.size + 1, 1, none⟩ (.string ⟨#[]⟩)).setCell ⟨w.heap.size + 1, 2, none⟩ (.int .i64 0)).setCell ⟨w.heap.size + 1, 3, none⟩ (.int .i64 0)).setCell ⟨w.heap.size + 1, 4, none⟩ (.slice none 0 0)) = V at *
        exact bodyPost_ret (v := .tuple #[.agg #[.int .i64 0, .string ⟨#[]⟩, .int .i64 0, .int .i64 0, .slice none 0 0], .int .i64 1]) (by simp [results, Try.results35, go_sem, v0, v1, v2, v3, v4]) rfl ⟨zeroN, 1, rfl, HRR.out, inT_zero _ _, hbq⟩
      · have HOK := Lib.hid hok
        have HL := Lib.hid (r_list_is x.kind (w1.alloc (.cells #[.int .i64 x.kind, .string x.text, .int .i64 x.lo, .int .i64 x.hi, .slice x.A x.kids.length x.c] 24)))
        rw [hl] at HL
        clear hl hok
        have hq2 : lb = false → ((L.length : Int) != (T : Int) - (F : Int)) = false := hq
        clear hq
        cases lb
        all_goals
          first | (have hq3 := hq2 rfl; clear hq2) | clear hq2
          go_wp2_with (fail)
          generalize (w1.alloc (.cells #[.int .i64 x.kind, .string x.text, .int .i64 x.lo, .int .i64 x.hi, .slice x.A x.kids.length x.c] 24)) = w2 at *
          refine HL.out.mono ?_
          rintro e w3 ⟨rfl, rfl⟩
          clear z0 z1 z2 z3 z4 y0 y1 y2 y3 y4 o0 o1 o2 o3 o4 HO2 HL
          go_wp2_with (fail)
          refine (r_change_any w.heap.size F T hFT AL cL L p n x A c p.length w2 HG.out hTm (InT.later HI.out HB2.out) (HP.out.later HB2.out) rfl hpc (HRL.out.below HB2.out) (fun k hk => InT.below HB2.out k (HIL.out k hk)) HB2.out.size (by omega) hpl).mono ?_
          rintro e w4 ⟨M, rfl, hst4, hin4, hb4⟩
          have HB4 := Lib.hid (HB2.out.trans (hb4.mono HB2.out.size))
          have HZ4 := Lib.hid (HZ2.out.next hb4)
          have HST := Lib.hid hst4
          have HI4 := Lib.hid hin4
          have HBB := Lib.hid (show w.heap.size + 1 < w2.heap.size from (Array.getElem?_eq_some_iff.1 HZ2.out).1)
          clear hst4 hin4 hb4 b0 b1 b2 b3 b4
          obtain ⟨z0, z1, z2, z3, z4⟩ := zero_cells HZ4.out
          have y0 := HZ4.out.frozen 0
          have y1 := HZ4.out.frozen 1
          have y2 := HZ4.out.frozen 2
          have y3 := HZ4.out.frozen 3
          have y4 := HZ4.out.frozen 4
          go_wp2_with (fail)
          have hq := HZ4.out.put M
          have hbq := put5_below HB4.out (b := w.heap.size + 1) (by omega) M
          obtain ⟨v0, v1, v2, v3, v4⟩ := hq.cells
          have hzV : (put5 w4 (w.heap.size + 1) M).heap.size = w4.heap.size := by simp [World.setCell]
          have hMV : InT (put5 w4 (w.heap.size + 1) M).heap.size (put5 w4 (w.heap.size + 1) M) M := inS_inT M (InS.mono (fun b hb => by rw [hzV]; exact hb.2) M (InS.keep (fun b hb => put5_far w4 M (by have h1 := hb.1; have h2 := HBB.out; omega)) M HI4.out))
          clear hq z0 z1 z2 z3 z4 y0 y1 y2 y3 y4 hzV
          dsimp only [put5] at hbq v0 v1 v2 v3 v4 hMV
          generalize (((((w4.setCell ⟨w.heap.size + 1, 0, none⟩ (.int .i64 M.kind)).setCell ⟨w.heap.size + 1, 1, none⟩ (.string M.text)).setCell ⟨w.heap.size + 1, 2, none⟩ (.int .i64 M.lo)).setCell ⟨w.heap.size + 1, 3, none⟩ (.int .i64 M.hi)).setCell ⟨w.heap.size + 1, 4, none⟩ (.slice M.A M.kids.length M.c)) = V at *
          exact bodyPost_ret (v := .tuple #[.agg #[.int .i64 M.kind, .string M.text, .int .i64 M.lo, .int .i64 M.hi, .slice M.A M.kids.length M.c], .int .i64 0]) (by simp [results, Try.results35, go_sem, v0, v1, v2, v3, v4]) rfl ⟨M, 0, rfl, rep_ok HG.out HRX.out HOK.out HST.out, hMV, hbq⟩
    · have hd : decide (f < 0) = true ∨ (decide (f < 0) = false ∧ decide (t < f) = true) ∨ (decide (f < 0) = false ∧ decide (t < f) = false ∧ decide ((x.kids.length : Int) < t) = true) := by
        simp only [decide_eq_true_eq, decide_eq_false_iff_not]
        omega
      have HRR := Lib.hid (rep_range (L := L) HG.out hr)
      clear hr
      rcases hd with d1 | ⟨d1, d2⟩ | ⟨d1, d2, d3⟩
      all_goals
        go_wp2_with (fail)
        generalize (w1.alloc (.cells #[.int .i64 x.kind, .string x.text, .int .i64 x.lo, .int .i64 x.hi, .slice x.A x.kids.length x.c] 24)) = w2 at *
        have hq := HZ2.out.putv 0 ⟨#[]⟩ 0 0 none 0 []
        have hbq := putv_below HB2.out (b := w.heap.size + 1) (by omega) (.int .i64 0) (.string ⟨#[]⟩) (.int .i64 0) (.int .i64 0) (.slice none 0 0)
        obtain ⟨v0, v1, v2, v3, v4⟩ := zero_cells hq
        clear hq z0 z1 z2 z3 z4 y0 y1 y2 y3 y4 o0 o1 o2 o3 o4 b0 b1 b2 b3 b4
        dsimp only [putv] at hbq v0 v1 v2 v3 v4
        generalize (((((w2.setCell ⟨w.heap.size + 1, 0, none⟩ (.int .i64 0)).setCell ⟨w.heap.size + 1, 1, none⟩ (.string ⟨#[]⟩)).setCell ⟨w.heap.size + 1, 2, none⟩ (.int .i64 0)).setCell ⟨w.heap.size + 1, 3, none⟩ (.int .i64 0)).setCell ⟨w.heap.size + 1, 4, none⟩ (.slice none 0 0)) = V at *
        exact bodyPost_ret (v := .tuple #[.agg #[.int .i64 0, .string ⟨#[]⟩, .int .i64 0, .int .i64 0, .slice none 0 0], .int .i64 2]) (by simp [results, Try.results35, go_sem, v0, v1, v2, v3, v4]) rfl ⟨zeroN, 2, rfl, HRR.out, inT_zero _ _, hbq⟩
end Go.Proofs.Ytjikfdifcpdhhaa
