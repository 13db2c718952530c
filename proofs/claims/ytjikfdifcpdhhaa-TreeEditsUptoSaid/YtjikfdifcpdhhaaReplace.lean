/- What is proved: tree.Replace returns the tree in which kids of the node with a path are replaced. -/
import Derived.Test.YtjikfdifcpdhhaaSetK
import Derived.Test.YtjikfdifcpdhhaaCat3
import Derived.Test.YtjikfdifcpdhhaaGetMore
import Derived.Test.YtjikfdifcpdhhaaTreeSame
import Derived.Test.YtjikfdifcpdhhaaBare
import Derived.IntWalk
set_option linter.unusedVariables false
namespace Go.Proofs.Ytjikfdifcpdhhaa
open Go.RowKit

/-- what Replace gives -/
def RepRes (n : NT) (p : List Int) (f t : Int) (L : List NT) (m : NT) (r : Int) : Prop :=
  (r ≠ 0 → m = zeroN) ∧
  match NT.getZ n p with
  | none => r = 7
  | some x => if 0 ≤ f ∧ f ≤ t ∧ t ≤ (x.kids.length : Int) then (if listB x.kind = false ∧ (L.length : Int) ≠ t - f then r = 1 else r = 0 ∧ NT.strip m = NT.strip (NT.setK none 0 (x.kids.take f.toNat ++ L ++ x.kids.drop t.toNat) p n)) else r = 2
theorem rep_none {n : NT} {p : List Int} {f t : Int} {L : List NT} (h : NT.getZ n p = none) : RepRes n p f t L zeroN 7 := ⟨fun _ => rfl, by rw [h]⟩
theorem rep_range {n x : NT} {p : List Int} {f t : Int} {L : List NT} (h : NT.getZ n p = some x) (hr : ¬ (0 ≤ f ∧ f ≤ t ∧ t ≤ (x.kids.length : Int))) : RepRes n p f t L zeroN 2 := ⟨fun _ => rfl, by rw [h]; show (if _ then _ else _ : Prop); rw [if_neg hr]⟩
theorem rep_arg {n x : NT} {p : List Int} {f t : Int} {L : List NT} (h : NT.getZ n p = some x) (hr : 0 ≤ f ∧ f ≤ t ∧ t ≤ (x.kids.length : Int)) (hl : listB x.kind = false ∧ (L.length : Int) ≠ t - f) : RepRes n p f t L zeroN 1 := ⟨fun _ => rfl, by rw [h]; show (if _ then _ else _ : Prop); rw [if_pos hr, if_pos hl]⟩
theorem rep_ok {n x m : NT} {p : List Int} {f t : Int} {L : List NT} (h : NT.getZ n p = some x) (hr : 0 ≤ f ∧ f ≤ t ∧ t ≤ (x.kids.length : Int)) (hl : ¬ (listB x.kind = false ∧ (L.length : Int) ≠ t - f)) (hm : NT.strip m = NT.strip (NT.setK none 0 (x.kids.take f.toNat ++ L ++ x.kids.drop t.toNat) p n)) : RepRes n p f t L m 0 := ⟨fun h => absurd rfl h, by rw [h]; show (if _ then _ else _ : Prop); rw [if_pos hr, if_neg hl]; exact ⟨rfl, hm⟩⟩

theorem inS_zero (S : Nat → Prop) (w : World) : InS S w zeroN := (inS_iff _).2 ⟨fun h => absurd h (by simp [zeroN, NT.kids]), by simp [zeroN, NT.kids], by simp [zeroN, NT.kids]⟩
set_option maxHeartbeats 8000000 in
set_option maxRecDepth 100000 in
theorem replace_any (n : NT) (A : Option Addr) (c : Nat) (p : List Int) (f t : Int) (AL : Option Addr) (cL : Nat) (L : List NT) (w : World) (hin : InT w.heap.size w n) (hp : IRow w.heap.size w A p) (hrl : Row w.heap.size w AL L) (hil : ∀ k ∈ L, InT w.heap.size w k) (hcn : NT.cnt n + NT.cnts L ≤ 1000000000) (hpl : p.length ≤ 1000000000) :
    Calls Try.prog 34 #[.agg #[.int .i64 n.kind, .string n.text, .int .i64 n.lo, .int .i64 n.hi, .slice n.A n.kids.length n.c], .slice A p.length c, .int .i64 f, .int .i64 t, .slice AL L.length cL] w fun e w' => ∃ (m : NT) (r : Int), e = .returned (.tuple #[.agg #[.int .i64 m.kind, .string m.text, .int .i64 m.lo, .int .i64 m.hi, .slice m.A m.kids.length m.c], .int .i64 r]) ∧ RepRes n p f t L m r ∧ InS (Fresh w w') w' m ∧ Below w.heap.size w w' := by
  have HI := Lib.hid hin
  have HP := Lib.hid hp
  have HRL := Lib.hid hrl
  have HIL := Lib.hid hil
  clear hin hp hrl hil
  go_enter Try.func34, Try.ntmps34
  go_wp2_with (fail)
  have hb0 : Below w.heap.size w ((w.alloc (.cells #[.int .i64 n.kind, .string n.text, .int .i64 n.lo, .int .i64 n.hi, .slice n.A n.kids.length n.c] 24)).alloc (.cells #[.int .i64 0, .string ⟨#[]⟩, .int .i64 0, .int .i64 0, .slice none 0 0] 24)) := ((Below.refl _ _).alloc (Nat.le_refl _) _).alloc (by simp) _
  have hn0 : NBox ((w.alloc (.cells #[.int .i64 n.kind, .string n.text, .int .i64 n.lo, .int .i64 n.hi, .slice n.A n.kids.length n.c] 24)).alloc (.cells #[.int .i64 0, .string ⟨#[]⟩, .int .i64 0, .int .i64 0, .slice none 0 0] 24)) w.heap.size n := (heap_alloc_old _ _ (by simp)).trans (NBox.new w n)
  have hz0 : NBox ((w.alloc (.cells #[.int .i64 n.kind, .string n.text, .int .i64 n.lo, .int .i64 n.hi, .slice n.A n.kids.length n.c] 24)).alloc (.cells #[.int .i64 0, .string ⟨#[]⟩, .int .i64 0, .int .i64 0, .slice none 0 0] 24)) (w.heap.size + 1) zeroN := by
    have h := zero_box (w.alloc (.cells #[.int .i64 n.kind, .string n.text, .int .i64 n.lo, .int .i64 n.hi, .slice n.A n.kids.length n.c] 24))
    rw [World.size_alloc] at h
    exact h
  generalize ((w.alloc (.cells #[.int .i64 n.kind, .string n.text, .int .i64 n.lo, .int .i64 n.hi, .slice n.A n.kids.length n.c] 24)).alloc (.cells #[.int .i64 0, .string ⟨#[]⟩, .int .i64 0, .int .i64 0, .slice none 0 0] 24)) = W at *
  refine (get_any n A c p W (InT.later HI.out hb0) (HP.out.later hb0) (by omega) hpl).mono ?_
  rintro e w1 ⟨m, rfl, hm, hb1⟩
  have HR := Lib.hid (res_same hm)
  have HB1 := Lib.hid (hb0.trans (hb1.mono hb0.size))
  have HN1 := Lib.hid (hn0.next hb1)
  have HZ1 := Lib.hid (hz0.next hb1)
  clear hb0 hn0 hz0 hm hb1
  have HB2 := Lib.hid (HB1.out.alloc HB1.out.size (.cells #[.int .i64 m.kind, .string m.text, .int .i64 m.lo, .int .i64 m.hi, .slice m.A m.kids.length m.c] 24))
  have HN2 := Lib.hid (nbox_alloc HN1.out (.cells #[.int .i64 m.kind, .string m.text, .int .i64 m.lo, .int .i64 m.hi, .slice m.A m.kids.length m.c] 24))
  have HZ2 := Lib.hid (nbox_alloc HZ1.out (.cells #[.int .i64 m.kind, .string m.text, .int .i64 m.lo, .int .i64 m.hi, .slice m.A m.kids.length m.c] 24))
  have HO2 := Lib.hid (NBox.new w1 m)
  obtain ⟨z0, z1, z2, z3, z4⟩ := zero_cells HZ2.out
  have y0 := HZ2.out.frozen 0
  have y1 := HZ2.out.frozen 1
  have y2 := HZ2.out.frozen 2
  have y3 := HZ2.out.frozen 3
  have y4 := HZ2.out.frozen 4
  obtain ⟨o0, o1, o2, o3, o4⟩ := HO2.out.cells
  obtain ⟨b0, b1, b2, b3, b4⟩ := HN2.out.cells
  cases hg : NT.getZ n p with
  | none =>
    have HG := Lib.hid hg
    clear hg
    simp only [Option.isSome_none]
    go_wp2_with (fail)
    have hq := HZ2.out.putv 0 ⟨#[]⟩ 0 0 none 0 []
    have hbq := putv_below HB2.out (b := w.heap.size + 1) (by omega) (.int .i64 0) (.string ⟨#[]⟩) (.int .i64 0) (.int .i64 0) (.slice none 0 0)
    obtain ⟨v0, v1, v2, v3, v4⟩ := zero_cells hq
    clear hq z0 z1 z2 z3 z4 y0 y1 y2 y3 y4 o0 o1 o2 o3 o4 b0 b1 b2 b3 b4
    dsimp only [putv] at hbq v0 v1 v2 v3 v4
    generalize ((((((w1.alloc (.cells #[.int .i64 m.kind, .string m.text, .int .i64 m.lo, .int .i64 m.hi, .slice m.A m.kids.length m.c] 24)).setCell ⟨w.heap.size + 1, 0, none⟩ (.int .i64 0)).setCell ⟨w.heap.size + 1, 1, none⟩ (.string ⟨#[]⟩)).setCell ⟨w.heap.size + 1, 2, none⟩ (.int .i64 0)).setCell ⟨w.heap.size + 1, 3, none⟩ (.int .i64 0)).setCell ⟨w.heap.size + 1, 4, none⟩ (.slice none 0 0)) = V at *
    exact bodyPost_ret (v := .tuple #[.agg #[.int .i64 0, .string ⟨#[]⟩, .int .i64 0, .int .i64 0, .slice none 0 0], .int .i64 7]) (by simp [results, Try.results34, go_sem, v0, v1, v2, v3, v4]) rfl ⟨zeroN, 7, rfl, rep_none HG.out, inS_zero _ _, hbq⟩
  | some x =>
    have HG := Lib.hid hg
    have hst := HR.out.1
    rw [hg] at hst
    have hs2 := (NT.strip_iff m x).1 hst
    have HKL := Lib.hid (show m.kids.length = x.kids.length from NT.strip_kids_len hst)
    have HXC := Lib.hid (getZ_in p n x hg HI.out)
    have hxk := NT.kids_len x
    have hxc := HXC.out.2
    have HKD := Lib.hid hs2.1
    clear hg hst hs2
    simp only [Option.isSome_some]
    by_cases hr : 0 ≤ f ∧ f ≤ t ∧ t ≤ (m.kids.length : Int)
    · have HRX := Lib.hid (show 0 ≤ f ∧ f ≤ t ∧ t ≤ (x.kids.length : Int) by rw [← HKL.out]; exact hr)
      obtain ⟨F, rfl⟩ : ∃ F : Nat, f = (F : Int) := ⟨f.toNat, by omega⟩
      obtain ⟨T, rfl⟩ : ∃ T : Nat, t = (T : Int) := ⟨t.toNat, by omega⟩
      have hFT : F ≤ T := by omega
      have hTm : T ≤ m.kids.length := by omega
      have hmb : m.kids.length ≤ 1000000000 := by have := HKL.out; omega
      have d1 : decide ((F : Int) < 0) = false := by simp
      have d2 : decide ((T : Int) < (F : Int)) = false := by simp; omega
      have d3 : decide ((m.kids.length : Int) < (T : Int)) = false := by simp; omega
      have hLb : L.length ≤ 1000000000 := by have := NT.cnts_len L; omega
      clear hr
      have hcase : listB m.kind = true ∨ (listB m.kind = false ∧ (L.length : Int) = (T : Int) - (F : Int)) ∨ (listB m.kind = false ∧ (L.length : Int) ≠ (T : Int) - (F : Int)) := by
        cases listB m.kind
        · right
          by_cases h : (L.length : Int) = (T : Int) - (F : Int)
          · exact .inl ⟨rfl, h⟩
          · exact .inr ⟨rfl, h⟩
        · exact .inl rfl
      have hcase2 : (listB m.kind = false ∧ (L.length : Int) ≠ (T : Int) - (F : Int)) ∨ (∃ lb : Bool, listB m.kind = lb ∧ (lb = false → ((L.length : Int) != (T : Int) - (F : Int)) = false) ∧ ¬ (listB x.kind = false ∧ (L.length : Int) ≠ (T : Int) - (F : Int))) := by
        rw [← HKD.out]
        rcases hcase with h | h | h
        · exact .inr ⟨true, h, by simp, by rw [h]; simp⟩
        · exact .inr ⟨false, h.1, by simp [h.2], fun h2 => h2.2 h.2⟩
        · exact .inl h
      clear hcase
      rcases hcase2 with ⟨hl, hn⟩ | ⟨lb, hl, hq, hok⟩
      · have HRR := Lib.hid (rep_arg (L := L) HG.out HRX.out ⟨by rw [← HKD.out]; exact hl, hn⟩)
        have HL := Lib.hid (fun w9 => list_any m.kind w9)
        rw [hl] at HL
        have hn2 : ((L.length : Int) != (T : Int) - (F : Int)) = true := by simpa using hn
        clear hl hn
        go_wp2_with (fail)
        refine (HL.out _).mono ?_
        rintro e w3 ⟨rfl, rfl⟩
        go_wp2_with (fail)
        have hq := HZ2.out.putv 0 ⟨#[]⟩ 0 0 none 0 []
        have hbq := putv_below HB2.out (b := w.heap.size + 1) (by omega) (.int .i64 0) (.string ⟨#[]⟩) (.int .i64 0) (.int .i64 0) (.slice none 0 0)
        obtain ⟨v0, v1, v2, v3, v4⟩ := zero_cells hq
        clear hq z0 z1 z2 z3 z4 y0 y1 y2 y3 y4 o0 o1 o2 o3 o4 b0 b1 b2 b3 b4
        dsimp only [putv] at hbq v0 v1 v2 v3 v4
        generalize ((((((w1.alloc (.cells #[.int .i64 m.kind, .string m.text, .int .i64 m.lo, .int .i64 m.hi, .slice m.A m.kids.length m.c] 24)).setCell ⟨w.heap.size + 1, 0, none⟩ (.int .i64 0)).setCell ⟨w.heap.size + 1, 1, none⟩ (.string ⟨#[]⟩)).setCell ⟨w.heap.size + 1, 2, none⟩ (.int .i64 0)).setCell ⟨w.heap.size + 1, 3, none⟩ (.int .i64 0)).setCell ⟨w.heap.size + 1, 4, none⟩ (.slice none 0 0)) = V at *
        exact bodyPost_ret (v := .tuple #[.agg #[.int .i64 0, .string ⟨#[]⟩, .int .i64 0, .int .i64 0, .slice none 0 0], .int .i64 1]) (by simp [results, Try.results34, go_sem, v0, v1, v2, v3, v4]) rfl ⟨zeroN, 1, rfl, HRR.out, inS_zero _ _, hbq⟩
      · have HOK := Lib.hid hok
        have HL := Lib.hid (list_any m.kind (w1.alloc (.cells #[.int .i64 m.kind, .string m.text, .int .i64 m.lo, .int .i64 m.hi, .slice m.A m.kids.length m.c] 24)))
        rw [hl] at HL
        clear hl hok
        have hq2 : lb = false → ((L.length : Int) != (T : Int) - (F : Int)) = false := hq
        clear hq
        cases lb
        all_goals
          first | (have hq3 := hq2 rfl; clear hq2) | clear hq2
          go_wp2_with (fail)
          generalize (w1.alloc (.cells #[.int .i64 m.kind, .string m.text, .int .i64 m.lo, .int .i64 m.hi, .slice m.A m.kids.length m.c] 24)) = w2 at *
          refine HL.out.mono ?_
          rintro e w3 ⟨rfl, rfl⟩
          clear z0 z1 z2 z3 z4 y0 y1 y2 y3 y4 o0 o1 o2 o3 o4 HO2 HL
          go_wp2_with (fail)
          refine (clone_sep n w2 (InT.later HI.out HB2.out) (by omega)).mono ?_
          rintro e w4 ⟨m0, rfl, hst0, hin0, hnd0, hth0, hb4⟩
          have HB4 := Lib.hid (HB2.out.trans (hb4.mono HB2.out.size))
          have HZ4 := Lib.hid (HZ2.out.next hb4)
          have HST0 := Lib.hid hst0
          have HFR0 := Lib.hid (NT.blks_in m0 hin0)
          have HND0 := Lib.hid hnd0
          have hz24 := hb4.size
          have hba := (Below.refl w4.heap.size w4).alloc (Nat.le_refl _) (.cells #[.int .i64 m0.kind, .string m0.text, .int .i64 m0.lo, .int .i64 m0.hi, .slice m0.A m0.kids.length m0.c] 24)
          have HB5 := Lib.hid (HB4.out.alloc HB4.out.size (.cells #[.int .i64 m0.kind, .string m0.text, .int .i64 m0.lo, .int .i64 m0.hi, .slice m0.A m0.kids.length m0.c] 24))
          have HZ5 := Lib.hid (nbox_alloc HZ4.out (.cells #[.int .i64 m0.kind, .string m0.text, .int .i64 m0.lo, .int .i64 m0.hi, .slice m0.A m0.kids.length m0.c] 24))
          have HC5 := Lib.hid (NBox.new w4 m0)
          have HI5 := Lib.hid (InS.mono (fun b hb => ⟨hb.1, by have := hb.2; rw [World.size_alloc]; omega⟩) m0 (InS.keep (KeepS.of_below hba (fun b hb => hb.2)) m0 hin0) : InS (fun b => w2.heap.size ≤ b ∧ b < (w4.alloc (.cells #[.int .i64 m0.kind, .string m0.text, .int .i64 m0.lo, .int .i64 m0.hi, .slice m0.A m0.kids.length m0.c] 24)).heap.size) (w4.alloc (.cells #[.int .i64 m0.kind, .string m0.text, .int .i64 m0.lo, .int .i64 m0.hi, .slice m0.A m0.kids.length m0.c] 24)) m0)
          have HTH5 := Lib.hid (show ∀ b ∈ NT.blks m0, Thaw (w4.alloc (.cells #[.int .i64 m0.kind, .string m0.text, .int .i64 m0.lo, .int .i64 m0.hi, .slice m0.A m0.kids.length m0.c] 24)) b from fun b hb => (hth0 b hb).keep (heap_alloc_old _ _ (HFR0.out b hb).2))
          have hz5 : (w4.alloc (.cells #[.int .i64 m0.kind, .string m0.text, .int .i64 m0.lo, .int .i64 m0.hi, .slice m0.A m0.kids.length m0.c] 24)).heap.size = w4.heap.size + 1 := by simp
          obtain ⟨y, hgy, hsy⟩ := NT.getZ_strip p m0 n hst0 x HG.out
          have HSY := Lib.hid hsy
          have HGY := Lib.hid hgy
          have HBB := Lib.hid (show w.heap.size ≤ w2.heap.size from HB2.out.size)
          clear hst0 hin0 hnd0 hth0 hb4 hba hgy hsy b0 b1 b2 b3 b4
          go_wp2_with (fail)
          generalize (w4.alloc (.cells #[.int .i64 m0.kind, .string m0.text, .int .i64 m0.lo, .int .i64 m0.hi, .slice m0.A m0.kids.length m0.c] 24)) = w5 at *
          have hBc : w4.heap.size < w5.heap.size := by omega
          have HBC := Lib.hid (show w4.heap.size ∉ NT.blks m0 from fun h => by have := (HFR0.out _ h).2; omega)
          have HFR5 := Lib.hid (show ∀ b ∈ NT.blks m0, w2.heap.size ≤ b ∧ b < w5.heap.size from fun b hb => by have := HFR0.out b hb; unfold Fresh at this; omega)
          have HBZ := Lib.hid (show w2.heap.size ≤ w4.heap.size by omega)
          clear hz5 hz24
          generalize w4.heap.size = Bc at *
          go_loop [15, 62] (fun at_ i => ∃ (k b o : Nat) (z : NT), k ≤ p.length ∧ at_ = .pointer (some ⟨b, o, none⟩) ∧ i = .int .i64 (k : Int) ∧ Hid (NT.getZ z (p.drop k) = some y) ∧ Hid (NT.adr Bc 0 p m0 = NT.adr b o (p.drop k) z) ∧ Hid (Cells5 w5 b o z) ∧ Hid (InS (fun b => w2.heap.size ≤ b ∧ b < w5.heap.size) w5 z)) (fun _ i => p.length - (intOf i).toNat)
          case atStart => exact ⟨0, Bc, 0, m0, Nat.zero_le _, rfl, rfl, Lib.hid (by rw [List.drop_zero]; exact HGY.out), Lib.hid (by rw [List.drop_zero]), Lib.hid HC5.out.cells, HI5⟩
          case round =>
            obtain ⟨k, b, o, z, hk, rfl, rfl, hgz, had, hcz, hiz⟩ := hrel
            obtain ⟨c0, c1, c2, c3, c4⟩ := hcz.out
            by_cases hlt : k < p.length
            · obtain ⟨bp, op, rfl, hbp, hcs⟩ := (HP.out.below HB5.out) (by omega)
              have hck := hcs k hlt
              clear hcs
              have hd : p.drop k = p[k] :: p.drop (k + 1) := List.drop_eq_getElem_cons hlt
              rw [hd] at hgz had
              clear hd
              have g1 : (0 : Int) ≤ (k : Int) := by omega
              have g2 : (k : Int) < (p.length : Int) := by omega
              generalize p[k] = i at *
              by_cases hii : 0 ≤ i ∧ i < (z.kids.length : Int)
              · obtain ⟨j, rfl⟩ : ∃ j : Nat, i = (j : Int) := ⟨i.toNat, by omega⟩
                have hj : j < z.kids.length := by omega
                obtain ⟨a, off, hA, _, hcz2, _⟩ := blks_cons hiz.out (by omega)
                have hx := NT.getZ_yes (n := z) (p := p.drop (k + 1)) (show (0 : Int) ≤ (j : Int) by omega) (by simpa using hj)
                have hy := NT.adr_yes (b := b) (o := o) (n := z) (p := p.drop (k + 1)) (show (0 : Int) ≤ (j : Int) by omega) (by simpa using hj) hA
                simp only [Int.toNat_natCast] at hx hy
                rw [hx] at hgz
                rw [hy] at had
                clear hx hy
                have HZI := Lib.hid (hiz.out.kid (List.getElem_mem hj))
                have HZC := Lib.hid (hcz2 j hj)
                rw [hA] at c4
                clear hcz2 hA
                have g3 : (0 : Int) ≤ (j : Int) := by omega
                have g4 : (j : Int) < (z.kids.length : Int) := by omega
                generalize z.kids[j] = z2 at *
                go_wp2_with (fail)
                exact ⟨⟨k + 1, a, off + j * 5, z2, by omega, rfl, by go_num, hgz, had, HZC, HZI⟩, by simp [intOf]; omega⟩
              · exact absurd hgz.out (by rw [NT.getZ_no hii]; simp)
            · have hd : p.drop k = [] := List.drop_eq_nil_of_le (by omega)
              rw [hd] at hgz had
              clear hd
              obtain rfl : y = z := by have := hgz.out; simpa [NT.getZ] using this.symm
              have HADR := Lib.hid (show NT.adr Bc 0 p m0 = (b, o) from had.out)
              have HIY := Lib.hid hiz.out
              have hyx := NT.strip_kids_len HSY.out
              have hTy : T ≤ y.kids.length := by have := HKL.out; omega
              have hyb : y.kids.length ≤ 1000000000 := by omega
              have hcy := hiz.out.cap
              have HS1 := fun W : World => run_slice_to y.A y.kids.length y.c F (by omega) (by omega) W
              have HS2 := fun W : World => run_slice_from y.A y.kids.length y.c T hTy W
              have hbo : b < w5.heap.size := World.block_lt_of_cell? w5 _ c4
              have HBO := Lib.hid (show b = Bc ∨ b ∈ NT.blks m0 by have h := adr_mem p m0 y Bc 0 HGY.out HI5.out; rw [HADR.out] at h; exact h)
              have HNB := Lib.hid (show b ∉ NT.blks y by have h := adr_not p m0 y Bc 0 HGY.out HI5.out HND0.out HBC.out; rw [HADR.out] at h; exact h)
              have HTB := Lib.hid (show Thaw w5 b by
                rcases HBO.out with e | e
                · rw [e]; exact fun j => HC5.out.frozen j
                · exact HTH5.out b e)
              have hbge : w2.heap.size ≤ b := by
                rcases HBO.out with e | e
                · have := HBZ.out; omega
                · exact (HFR5.out b e).1
              have hwz : w.heap.size + 1 < w2.heap.size := (Array.getElem?_eq_some_iff.1 HZ2.out).1
              have HB5D := Lib.hid ((Below.refl w5.heap.size w5).drew)
              have HCL := Lib.hid (clones_of AL cL L (fun k _ => clone_any k) w5.drew (((HRL.out.below HB5.out).mono HB5.out.size).below HB5D.out) (fun k hk => InT.later (InT.later (HIL.out k hk) HB5.out) HB5D.out) (by omega))
              have HTOT := Lib.hid (show ∀ l' : List NT, l'.map NT.strip = L.map NT.strip → F + l'.length + (y.kids.length - T) ≤ 1000000000 from fun l' h => by
                have h1 := congrArg List.length h
                simp only [List.length_map] at h1
                have h2 := NT.cnts_len L
                omega)
              have HE1 := Lib.hid (show (y.kids.take F).length = F by rw [List.length_take]; omega)
              have HE2 := Lib.hid (show (y.kids.drop T).length = y.kids.length - T by rw [List.length_drop])
              have HCY := Lib.hid hcy
              have HYR := Lib.hid (show Row w5.heap.size w5 y.A y.kids from hiz.out.row.mono (fun b hb => hb.2))
              clear c0 c1 c2 c3 hiz hcz hgz had hyx
              go_wp2_with (fail)

              go_region_law (first | (go_simp; go_at_call 55; refine HCL.out.mono ?_; rintro e w6 ⟨A', c', l', rfl, hst6, hcap6, hrow6, hin6, hb6⟩; have HST6 := Lib.hid hst6; have HRW6 := Lib.hid hrow6; have HIN6 := Lib.hid hin6; have HB56 := Lib.hid (HB5D.out.trans hb6); have x6 := (HB56.out.cell (p := ⟨b, o + 4, none⟩) hbo).trans c4; have hz6 := HB56.out.size; clear hst6 hcap6 hrow6 hin6 hb6) | (go_simp; go_at_call 54; refine (cat3 w6 y.A A' (restA y.A y.c T) y.c c' (y.c - T) (y.kids.take F) l' (y.kids.drop T) F l'.length (y.kids.length - T) HE1.out rfl HE2.out (row_take ((HYR.out.below HB56.out).mono hz6) F) (HRW6.out.mono (fun b hb => hb.2)) (row_drop ((HYR.out.below HB56.out).mono hz6) T HCY.out) (HTOT.out l' HST6.out)).mono ?_; rintro e w7 ⟨A7, c7, l7, HL7, rfl, hcap7, hrow7, hb7⟩; have HB57 := Lib.hid (HB56.out.trans (hb7.mono hz6)); have HI7 := Lib.hid (InS.mono (fun b hb => ⟨hb.1, Nat.lt_of_lt_of_le hb.2 HB57.out.size⟩) m0 (InS.keep (KeepS.of_below HB57.out (fun b hb => hb.2)) m0 HI5.out) : InS (fun b => w2.heap.size ≤ b ∧ b < w7.heap.size) w7 m0); have HC7 := Lib.hid (HC5.out.next HB57.out); have HNEW := Lib.hid (rep_new HL7.out HIY.out (Nat.le_trans HBZ.out (Nat.le_of_lt hBc)) hbo HNB.out HB56.out HIN6.out hb7 hrow7 hcap7); have x7 := (HB57.out.cell (p := ⟨b, o + 4, none⟩) hbo).trans c4; have f7 := (HTB.out.keep (HB57.out.block b hbo)) (o + 4); clear hcap7 hrow7 hb7))
              all_goals
                have HSET := Lib.hid (set_in (S := fun b => w2.heap.size ≤ b ∧ b < w7.heap.size) (w := w7) A7 c7 l7 p m0 y Bc 0 HGY.out HI7.out HND0.out HBC.out HC7.out.cells HNEW.out.1 (by rw [HADR.out]; exact HNEW.out.2))
                rw [HADR.out] at HSET
                have HST := Lib.hid (show NT.strip (NT.setK A7 c7 l7 p m0) = NT.strip (NT.setK none 0 (x.kids.take F ++ L ++ x.kids.drop T) p n) from NT.strip_setK _ _ _ _ (by
                  have e := (NT.strip_iff y x).1 HSY.out
                  rw [HL7.out, List.map_append, List.map_append, List.map_append, List.map_append, HST6.out, List.map_take, List.map_drop, e.2.2.2.2, List.map_take, List.map_drop, List.append_assoc]) p m0 n HST0.out)
                have HB8 := Lib.hid (HB57.out)
                have HZ8 := Lib.hid (show NBox (w7.setCell ⟨b, o + 4, none⟩ (.slice A7 l7.length c7)) (w.heap.size + 1) zeroN from (Below.heap_setCell w7 ⟨b, o + 4, none⟩ _ _ (by show w.heap.size + 1 ≠ b; omega)).trans (HZ5.out.next HB57.out))
                have HBW := Lib.hid ((HB5.out.trans (HB57.out.mono HB5.out.size)).setCell (p := ⟨b, o + 4, none⟩) (by show w.heap.size ≤ b; omega) (.slice A7 l7.length c7))
                have HSZ := Lib.hid (show (w7.setCell ⟨b, o + 4, none⟩ (.slice A7 l7.length c7)).heap.size = w7.heap.size by simp)
                go_simp
                clear x6 x7 f7
                generalize (w7.setCell ⟨b, o + 4, none⟩ (.slice A7 l7.length c7)) = w8 at *
                generalize NT.setK A7 c7 l7 p m0 = M at *
                have q0 : w8.cell? ⟨Bc, 0, none⟩ = some (.int .i64 M.kind) := HSET.out.2.1
                have q1 : w8.cell? ⟨Bc, 1, none⟩ = some (.string M.text) := HSET.out.2.2.1
                have q2 : w8.cell? ⟨Bc, 2, none⟩ = some (.int .i64 M.lo) := HSET.out.2.2.2.1
                have q3 : w8.cell? ⟨Bc, 3, none⟩ = some (.int .i64 M.hi) := HSET.out.2.2.2.2.1
                have q4 : w8.cell? ⟨Bc, 4, none⟩ = some (.slice M.A M.kids.length M.c) := HSET.out.2.2.2.2.2
                obtain ⟨z0, z1, z2, z3, z4⟩ := zero_cells HZ8.out
                have y0 := HZ8.out.frozen 0
                have y1 := HZ8.out.frozen 1
                have y2 := HZ8.out.frozen 2
                have y3 := HZ8.out.frozen 3
                have y4 := HZ8.out.frozen 4
                go_wp2_with (fail)
                have hq := HZ8.out.put M
                have hbq := put5_below HBW.out (b := w.heap.size + 1) (by omega) M
                obtain ⟨v0, v1, v2, v3, v4⟩ := hq.cells
                have hzV : (put5 w8 (w.heap.size + 1) M).heap.size = w7.heap.size := by rw [← HSZ.out]; simp [World.setCell]
                have hMV : InS (Fresh w (put5 w8 (w.heap.size + 1) M)) (put5 w8 (w.heap.size + 1) M) M := InS.mono (fun b hb => ⟨Nat.le_trans HBB.out hb.1, by rw [hzV]; exact hb.2⟩) M (InS.keep (fun b hb => put5_far w8 M (by have := hb.1; omega)) M HSET.out.1)
                clear hq z0 z1 z2 z3 z4 y0 y1 y2 y3 y4 q0 q1 q2 q3 q4 hzV
                dsimp only [put5] at hbq v0 v1 v2 v3 v4 hMV
                generalize (((((w8.setCell ⟨w.heap.size + 1, 0, none⟩ (.int .i64 M.kind)).setCell ⟨w.heap.size + 1, 1, none⟩ (.string M.text)).setCell ⟨w.heap.size + 1, 2, none⟩ (.int .i64 M.lo)).setCell ⟨w.heap.size + 1, 3, none⟩ (.int .i64 M.hi)).setCell ⟨w.heap.size + 1, 4, none⟩ (.slice M.A M.kids.length M.c)) = V at *
                exact bodyPost_ret (v := .tuple #[.agg #[.int .i64 M.kind, .string M.text, .int .i64 M.lo, .int .i64 M.hi, .slice M.A M.kids.length M.c], .int .i64 0]) (by simp [results, Try.results34, go_sem, v0, v1, v2, v3, v4]) rfl ⟨M, 0, rfl, rep_ok HG.out HRX.out HOK.out HST.out, hMV, hbq⟩
    · have hd : decide (f < 0) = true ∨ (decide (f < 0) = false ∧ decide (t < f) = true) ∨ (decide (f < 0) = false ∧ decide (t < f) = false ∧ decide ((m.kids.length : Int) < t) = true) := by
        simp only [decide_eq_true_eq, decide_eq_false_iff_not]
        omega
      have HRR := Lib.hid (rep_range (L := L) HG.out (by rw [← HKL.out]; exact hr))
      clear hr
      rcases hd with d1 | ⟨d1, d2⟩ | ⟨d1, d2, d3⟩
      all_goals
        go_wp2_with (fail)
        have hq := HZ2.out.putv 0 ⟨#[]⟩ 0 0 none 0 []
        have hbq := putv_below HB2.out (b := w.heap.size + 1) (by omega) (.int .i64 0) (.string ⟨#[]⟩) (.int .i64 0) (.int .i64 0) (.slice none 0 0)
        obtain ⟨v0, v1, v2, v3, v4⟩ := zero_cells hq
        clear hq z0 z1 z2 z3 z4 y0 y1 y2 y3 y4 o0 o1 o2 o3 o4 b0 b1 b2 b3 b4
        dsimp only [putv] at hbq v0 v1 v2 v3 v4
        generalize ((((((w1.alloc (.cells #[.int .i64 m.kind, .string m.text, .int .i64 m.lo, .int .i64 m.hi, .slice m.A m.kids.length m.c] 24)).setCell ⟨w.heap.size + 1, 0, none⟩ (.int .i64 0)).setCell ⟨w.heap.size + 1, 1, none⟩ (.string ⟨#[]⟩)).setCell ⟨w.heap.size + 1, 2, none⟩ (.int .i64 0)).setCell ⟨w.heap.size + 1, 3, none⟩ (.int .i64 0)).setCell ⟨w.heap.size + 1, 4, none⟩ (.slice none 0 0)) = V at *
        exact bodyPost_ret (v := .tuple #[.agg #[.int .i64 0, .string ⟨#[]⟩, .int .i64 0, .int .i64 0, .slice none 0 0], .int .i64 2]) (by simp [results, Try.results34, go_sem, v0, v1, v2, v3, v4]) rfl ⟨zeroN, 2, rfl, HRR.out, inS_zero _ _, hbq⟩
end Go.Proofs.Ytjikfdifcpdhhaa
