/- What is proved: Get returns a copy of the node with a path. -/
import Derived.Test.YtjikfdifcpdhhaaClone
set_option linter.unusedVariables false
namespace Go.Proofs.Ytjikfdifcpdhhaa
open Go.RowKit

def zeroN : NT := .mk 0 ⟨#[]⟩ 0 0 none 0 []
/-- what Get gives: a copy, or the node without anything -/
def GetRes (o : Option NT) (w w' : World) (m : NT) : Prop := (∀ x, o = some x → NT.strip m = NT.strip x ∧ InS (Fresh w w') w' m) ∧ (o = none → m = zeroN)
theorem zero_box (w : World) : NBox (w.alloc (.cells #[.int .i64 0, .string ⟨#[]⟩, .int .i64 0, .int .i64 0, .slice none 0 0] 24)) w.heap.size zeroN := heap_alloc_new w _
theorem zero_cells {w : World} {b : Nat} (h : NBox w b zeroN) : w.cell? ⟨b, 0, none⟩ = some (.int .i64 0) ∧ w.cell? ⟨b, 1, none⟩ = some (.string ⟨#[]⟩) ∧ w.cell? ⟨b, 2, none⟩ = some (.int .i64 0) ∧ w.cell? ⟨b, 3, none⟩ = some (.int .i64 0) ∧ w.cell? ⟨b, 4, none⟩ = some (.slice none 0 0) := h.cells
theorem put5_far (X : World) {b k : Nat} (x : NT) (h : k ≠ b) : (put5 X b x).heap[k]? = X.heap[k]? := by
  have e : ∀ (X : World) (o : Nat) (v : Value), (X.setCell ⟨b, o, none⟩ v).heap[k]? = X.heap[k]? := fun X o v => Below.heap_setCell X ⟨b, o, none⟩ v k (by show k ≠ b; exact h)
  unfold put5
  rw [e, e, e, e, e]

set_option maxHeartbeats 1000000 in
theorem get_any (n : NT) (A : Option Addr) (c : Nat) (p : List Int) (w : World) (hin : InT w.heap.size w n) (hp : IRow w.heap.size w A p) (hcn : NT.cnt n ≤ 1000000000) (hpl : p.length ≤ 1000000000) :
    Calls Try.prog 20 #[.agg #[.int .i64 n.kind, .string n.text, .int .i64 n.lo, .int .i64 n.hi, .slice n.A n.kids.length n.c], .slice A p.length c] w fun e w' => ∃ m : NT, e = .returned (.tuple #[.agg #[.int .i64 m.kind, .string m.text, .int .i64 m.lo, .int .i64 m.hi, .slice m.A m.kids.length m.c], .bool (NT.getZ n p).isSome]) ∧ GetRes (NT.getZ n p) w w' m ∧ Below w.heap.size w w' := by
  have HI := Lib.hid hin
  have HP := Lib.hid hp
  clear hin hp
  go_enter Try.func20, Try.ntmps20
  go_wp2_with (fail)
  have HB := Lib.hid (((Below.refl w.heap.size w).alloc (Nat.le_refl _) (.cells #[.int .i64 n.kind, .string n.text, .int .i64 n.lo, .int .i64 n.hi, .slice n.A n.kids.length n.c] 24)).alloc (by simp) (.cells #[.int .i64 0, .string ⟨#[]⟩, .int .i64 0, .int .i64 0, .slice none 0 0] 24))
  have HN : Hid (NBox ((w.alloc (.cells #[.int .i64 n.kind, .string n.text, .int .i64 n.lo, .int .i64 n.hi, .slice n.A n.kids.length n.c] 24)).alloc (.cells #[.int .i64 0, .string ⟨#[]⟩, .int .i64 0, .int .i64 0, .slice none 0 0] 24)) w.heap.size n) := (heap_alloc_old _ _ (by simp)).trans (NBox.new w n)
  have HZ : Hid (NBox ((w.alloc (.cells #[.int .i64 n.kind, .string n.text, .int .i64 n.lo, .int .i64 n.hi, .slice n.A n.kids.length n.c] 24)).alloc (.cells #[.int .i64 0, .string ⟨#[]⟩, .int .i64 0, .int .i64 0, .slice none 0 0] 24)) (w.heap.size + 1) zeroN) := by
    have h := zero_box (w.alloc (.cells #[.int .i64 n.kind, .string n.text, .int .i64 n.lo, .int .i64 n.hi, .slice n.A n.kids.length n.c] 24))
    rw [World.size_alloc] at h
    exact h
  have hz : ((w.alloc (.cells #[.int .i64 n.kind, .string n.text, .int .i64 n.lo, .int .i64 n.hi, .slice n.A n.kids.length n.c] 24)).alloc (.cells #[.int .i64 0, .string ⟨#[]⟩, .int .i64 0, .int .i64 0, .slice none 0 0] 24)).heap.size = w.heap.size + 1 + 1 := by simp
  generalize ((w.alloc (.cells #[.int .i64 n.kind, .string n.text, .int .i64 n.lo, .int .i64 n.hi, .slice n.A n.kids.length n.c] 24)).alloc (.cells #[.int .i64 0, .string ⟨#[]⟩, .int .i64 0, .int .i64 0, .slice none 0 0] 24)) = W at *
  go_loopw [10] (fun i wr => ∃ (k : Nat) (m : NT), k ≤ p.length ∧ i = .int .i64 (k : Int) ∧ NT.cnt m ≤ 1000000000 ∧ Hid (NBox wr w.heap.size m) ∧ Hid (NBox wr (w.heap.size + 1) zeroN) ∧ Hid (InT w.heap.size w m) ∧ Hid (NT.getZ n p = NT.getZ m (p.drop k)) ∧ Hid (Below w.heap.size w wr)) (fun i _ => p.length - (intOf i).toNat)
  case atStart => exact ⟨0, n, Nat.zero_le _, rfl, hcn, HN, HZ, HI, (show NT.getZ n p = NT.getZ n (p.drop 0) by simp), HB⟩
  case round =>
    obtain ⟨k, m, hk, rfl, ham, hnb, hzb, hin, hnum, hbw⟩ := hrel
    by_cases hlt : k < p.length
    · obtain ⟨b, off, rfl, hb, hcs⟩ := (HP.out.below hbw.out) (by omega)
      have hck := hcs k hlt
      clear hcs
      have hd : p.drop k = p[k] :: p.drop (k + 1) := List.drop_eq_getElem_cons hlt
      rw [hd] at hnum
      clear hd
      obtain ⟨b0, b1, b2, b3, b4⟩ := hnb.out.cells
      obtain ⟨z0, z1, z2, z3, z4⟩ := zero_cells hzb.out
      have y0 := hzb.out.frozen 0
      have y1 := hzb.out.frozen 1
      have y2 := hzb.out.frozen 2
      have y3 := hzb.out.frozen 3
      have y4 := hzb.out.frozen 4
      generalize p[k] = i at *
      by_cases hi0 : i < 0
      · have hx : NT.getZ m (i :: p.drop (k + 1)) = none := NT.getZ_no (by omega)
        rw [hx] at hnum
        clear hx
        have HV := Lib.hid hnum.out
        go_wp2_with (fail)
        have hq : NBox (putv wr (w.heap.size + 1) (.int .i64 0) (.string ⟨#[]⟩) (.int .i64 0) (.int .i64 0) (.slice none 0 0)) (w.heap.size + 1) zeroN := hzb.out.putv 0 ⟨#[]⟩ 0 0 none 0 []
        have hbq := putv_below hbw.out (b := w.heap.size + 1) (by omega) (.int .i64 0) (.string ⟨#[]⟩) (.int .i64 0) (.int .i64 0) (.slice none 0 0)
        obtain ⟨v0, v1, v2, v3, v4⟩ := zero_cells hq
        clear hq z0 z1 z2 z3 z4 y0 y1 y2 y3 y4
        dsimp only [putv] at hbq v0 v1 v2 v3 v4
        generalize ((((wr.setCell ⟨w.heap.size + 1, 0, none⟩ (.int .i64 0)).setCell ⟨w.heap.size + 1, 1, none⟩ (.string ⟨#[]⟩)).setCell ⟨w.heap.size + 1, 2, none⟩ (.int .i64 0)).setCell ⟨w.heap.size + 1, 3, none⟩ (.int .i64 0)).setCell ⟨w.heap.size + 1, 4, none⟩ (.slice none 0 0) = V at *
        exact bodyPost_ret (v := .tuple #[.agg #[.int .i64 0, .string ⟨#[]⟩, .int .i64 0, .int .i64 0, .slice none 0 0], .bool false]) (by simp [results, Try.results20, go_sem, v0, v1, v2, v3, v4]) rfl ⟨zeroN, by rw [HV.out]; rfl, by rw [HV.out]; exact ⟨(fun _ h => by cases h), fun _ => rfl⟩, hbq⟩
      · by_cases hi1 : i < (m.kids.length : Int)
        · obtain ⟨j, rfl⟩ : ∃ j : Nat, i = (j : Int) := ⟨i.toNat, by omega⟩
          have hj : j < m.kids.length := by omega
          have hx := NT.getZ_yes (n := m) (p := p.drop (k + 1)) (show (0 : Int) ≤ (j : Int) by omega) (by simpa using hj)
          simp only [Int.toNat_natCast] at hx
          rw [hx] at hnum
          clear hx
          have hce := NT.cnt_kid (List.getElem_mem hj)
          obtain ⟨b', off', hA, hb', c0, c1, c2, c3, c4⟩ := (InT.below hbw.out m hin.out).cells j hj
          have f0 := hnb.out.frozen 0
          have f1 := hnb.out.frozen 1
          have f2 := hnb.out.frozen 2
          have f3 := hnb.out.frozen 3
          have f4 := hnb.out.frozen 4
          have HKO := Lib.hid (InT.kidAt hin.out hj)
          rw [hA] at b4
          clear hA
          generalize m.kids[j] = x at *
          go_wp2_with (fail)
          have hx : NBox (put5 wr w.heap.size x) (w.heap.size + 1) zeroN := (put5_far wr x (by omega)).trans hzb.out
          exact ⟨⟨k + 1, x, by omega, by go_num, by omega, hnb.out.put x, hx, HKO.out, hnum.out, put5_below hbw.out (Nat.le_refl _) x⟩, by simp [intOf]; omega⟩
        · have hx : NT.getZ m (i :: p.drop (k + 1)) = none := NT.getZ_no (by omega)
          rw [hx] at hnum
          clear hx
          have HV := Lib.hid hnum.out
          have hi2 : decide ((m.kids.length : Int) ≤ i) = true := by simp; omega
          go_wp2_with (fail)
          have hq : NBox (putv wr (w.heap.size + 1) (.int .i64 0) (.string ⟨#[]⟩) (.int .i64 0) (.int .i64 0) (.slice none 0 0)) (w.heap.size + 1) zeroN := hzb.out.putv 0 ⟨#[]⟩ 0 0 none 0 []
          have hbq := putv_below hbw.out (b := w.heap.size + 1) (by omega) (.int .i64 0) (.string ⟨#[]⟩) (.int .i64 0) (.int .i64 0) (.slice none 0 0)
          obtain ⟨v0, v1, v2, v3, v4⟩ := zero_cells hq
          clear hq z0 z1 z2 z3 z4 y0 y1 y2 y3 y4
          dsimp only [putv] at hbq v0 v1 v2 v3 v4
          generalize ((((wr.setCell ⟨w.heap.size + 1, 0, none⟩ (.int .i64 0)).setCell ⟨w.heap.size + 1, 1, none⟩ (.string ⟨#[]⟩)).setCell ⟨w.heap.size + 1, 2, none⟩ (.int .i64 0)).setCell ⟨w.heap.size + 1, 3, none⟩ (.int .i64 0)).setCell ⟨w.heap.size + 1, 4, none⟩ (.slice none 0 0) = V at *
          exact bodyPost_ret (v := .tuple #[.agg #[.int .i64 0, .string ⟨#[]⟩, .int .i64 0, .int .i64 0, .slice none 0 0], .bool false]) (by simp [results, Try.results20, go_sem, v0, v1, v2, v3, v4]) rfl ⟨zeroN, by rw [HV.out]; rfl, by rw [HV.out]; exact ⟨(fun _ h => by cases h), fun _ => rfl⟩, hbq⟩
    · have hd : p.drop k = [] := List.drop_eq_nil_of_le (by omega)
      rw [hd] at hnum
      have HV := Lib.hid hnum.out
      clear hd
      obtain ⟨b0, b1, b2, b3, b4⟩ := hnb.out.cells
      have HBW := Lib.hid hbw.out
      have HMI := Lib.hid (InT.mono hbw.out.size m (InT.below hbw.out m hin.out))
      have hb1' : w.heap.size + 1 < wr.heap.size := (Array.getElem?_eq_some_iff.1 hzb.out).1
      go_wp2_with (fail)
      refine (clone_any m _ HMI.out ham).mono ?_
      rintro e w' ⟨m', rfl, hst, hm', hb2⟩
      have hzb2 := hzb.out.below hb2 hb1'
      obtain ⟨z0, z1, z2, z3, z4⟩ := zero_cells hzb2
      have y0 := hzb2.frozen 0
      have y1 := hzb2.frozen 1
      have y2 := hzb2.frozen 2
      have y3 := hzb2.frozen 3
      have y4 := hzb2.frozen 4
      have HB2 := Lib.hid (HBW.out.trans (hb2.mono HBW.out.size))
      have HST := Lib.hid hst
      have HM := Lib.hid hm'
      have HZB := Lib.hid hzb2
      clear hb2 hst hm' hzb2
      go_wp2_with (fail)
      have hq := HZB.out.put m'
      have hbq := put5_below HB2.out (b := w.heap.size + 1) (by omega) m'
      have hks : KeepS (Fresh wr w') w' (put5 w' (w.heap.size + 1) m') := fun b hb => put5_far w' m' (by have := hb.1; omega)
      have hsz : (put5 w' (w.heap.size + 1) m').heap.size = w'.heap.size := by simp
      have hwz : w.heap.size ≤ wr.heap.size := HBW.out.size
      have hin2 : InS (Fresh w (put5 w' (w.heap.size + 1) m')) (put5 w' (w.heap.size + 1) m') m' := InS.mono (fun b hb => ⟨by have := hb.1; omega, by rw [hsz]; exact hb.2⟩) m' (InS.keep hks m' HM.out)
      obtain ⟨v0, v1, v2, v3, v4⟩ := hq.cells
      clear hq z0 z1 z2 z3 z4 y0 y1 y2 y3 y4 hks hsz
      dsimp only [put5] at hbq v0 v1 v2 v3 v4 hin2
      generalize ((((w'.setCell ⟨w.heap.size + 1, 0, none⟩ (.int .i64 m'.kind)).setCell ⟨w.heap.size + 1, 1, none⟩ (.string m'.text)).setCell ⟨w.heap.size + 1, 2, none⟩ (.int .i64 m'.lo)).setCell ⟨w.heap.size + 1, 3, none⟩ (.int .i64 m'.hi)).setCell ⟨w.heap.size + 1, 4, none⟩ (.slice m'.A m'.kids.length m'.c) = V at *
      exact bodyPost_ret (v := .tuple #[.agg #[.int .i64 m'.kind, .string m'.text, .int .i64 m'.lo, .int .i64 m'.hi, .slice m'.A m'.kids.length m'.c], .bool true]) (by simp [results, Try.results20, go_sem, v0, v1, v2, v3, v4]) rfl ⟨m', by rw [HV.out]; rfl, by rw [HV.out]; exact ⟨(fun x h => by cases h; exact ⟨HST.out, hin2⟩), (fun h => by cases h)⟩, hbq⟩
end Go.Proofs.Ytjikfdifcpdhhaa
