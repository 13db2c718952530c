/- What is proved: Number of the reference returns the number of the node with a path. -/
import Derived.Test.YtlaiahiphghggaaRefGet
import Derived.Test.YtlaiahiphghggaaRefCount
set_option linter.unusedVariables false
namespace Go.Proofs.Ytlaiahiphghggaa
open Go.RowKit

theorem num_get (p : List Int) : ∀ n : NT, (NT.numZ n p).isSome = (NT.getZ n p).isSome := by
  induction p with
  | nil => intro n; rfl
  | cons i p ih =>
    intro n
    by_cases h : 0 ≤ i ∧ i < (n.kids.length : Int)
    · have h2 : i.toNat < n.kids.length := by omega
      rw [NT.numZ_yes h.1 h2, NT.getZ_yes h.1 h2, Option.isSome_map, ih]
    · rw [NT.numZ_no h, NT.getZ_no h]; rfl

set_option maxHeartbeats 4000000 in
set_option maxRecDepth 100000 in
theorem r_number_any (n : NT) (A : Option Addr) (c : Nat) (p : List Int) (w : World) (hin : InT w.heap.size w n) (hp : IRow w.heap.size w A p) (hcn : NT.cnt n ≤ 1000000000) (hpl : p.length ≤ 1000000000) :
    Calls Try.prog 25 #[.agg #[.int .i64 n.kind, .string n.text, .int .i64 n.lo, .int .i64 n.hi, .slice n.A n.kids.length n.c], .slice A p.length c] w fun e w' => e = .returned (.tuple #[.int .i64 (((NT.numZ n p).getD 0 : Nat) : Int), .bool (NT.numZ n p).isSome]) ∧ Below w.heap.size w w' := by
  have HI := Lib.hid hin
  have HP := Lib.hid hp
  have HNG := Lib.hid (num_get p n)
  clear hin hp
  go_enter Try.func25, Try.ntmps25
  go_wp2_with (fail)
  have hn := NBox.new w n
  have HB := Lib.hid ((Below.refl w.heap.size w).alloc (Nat.le_refl _) (.cells #[.int .i64 n.kind, .string n.text, .int .i64 n.lo, .int .i64 n.hi, .slice n.A n.kids.length n.c] 24))
  have hz : (w.alloc (.cells #[.int .i64 n.kind, .string n.text, .int .i64 n.lo, .int .i64 n.hi, .slice n.A n.kids.length n.c] 24)).heap.size = w.heap.size + 1 := by simp
  generalize (w.alloc (.cells #[.int .i64 n.kind, .string n.text, .int .i64 n.lo, .int .i64 n.hi, .slice n.A n.kids.length n.c] 24)) = W at *
  refine (r_get_any n A c p W (InT.mono HB.out.size n (InT.below HB.out n HI.out)) (fun h0 => by
    obtain ⟨b, off, h1, h2, h3⟩ := HP.out.below HB.out h0
    exact ⟨b, off, h1, by omega, h3⟩) hcn hpl).mono ?_
  rintro e w2 ⟨rfl, hb2⟩
  have HB2 := Lib.hid (HB.out.trans (hb2.mono HB.out.size))
  have HN2 := Lib.hid (hn.below hb2 (by omega))
  clear hb2 hn
  rw [← HNG.out]
  generalize (NT.getZ n p).getD zeroN = g at *
  cases hs : NT.numZ n p with
  | none =>
    have HS := Lib.hid hs
    clear hs
    simp only [Option.isSome_none]
    have HB3 := Lib.hid (HB2.out.alloc HB2.out.size (.cells #[.int .i64 g.kind, .string g.text, .int .i64 g.lo, .int .i64 g.hi, .slice g.A g.kids.length g.c] 24))
    go_wp2_with (fail)
    go_ret2
    exact ⟨by rw [HS.out]; rfl, HB3.out⟩
  | some total =>
    have HT := Lib.hid hs
    clear hs
    simp only [Option.isSome_some]
    have HB3 := Lib.hid (HB2.out.alloc HB2.out.size (.cells #[.int .i64 g.kind, .string g.text, .int .i64 g.lo, .int .i64 g.hi, .slice g.A g.kids.length g.c] 24))
    have HN3 := Lib.hid (nbox_alloc HN2.out (.cells #[.int .i64 g.kind, .string g.text, .int .i64 g.lo, .int .i64 g.hi, .slice g.A g.kids.length g.c] 24))
    go_wp2_with (fail)
    go_loopw [8, 9] (fun x i wr => ∃ (k a : Nat) (m : NT), k ≤ p.length ∧ i = .int .i64 (k : Int) ∧ x = .int .i64 (a : Int) ∧ a + NT.cnt m ≤ 1000000000 ∧ Hid (NBox wr w.heap.size m) ∧ Hid (InT w.heap.size w m) ∧ Hid (some total = (NT.numZ m (p.drop k)).map (· + a)) ∧ Hid (Below w.heap.size w wr)) (fun _ i _ => p.length - (intOf i).toNat)
    case atStart => exact ⟨0, 0, n, Nat.zero_le _, rfl, rfl, by omega, HN3, HI, Lib.hid (by rw [← HT.out]; simp), HB3⟩
    case round =>
      obtain ⟨k, a, m, hk, rfl, rfl, ham, hnb, hin, hnum, hbw⟩ := hrel
      have hzr : w.heap.size < wr.heap.size := (Array.getElem?_eq_some_iff.1 hnb.out).1
      by_cases hlt : k < p.length
      · obtain ⟨b, off, rfl, hb, hcs⟩ := (HP.out.below hbw.out) (by omega)
        have hck := hcs k hlt
        clear hcs
        have hd : p.drop k = p[k] :: p.drop (k + 1) := List.drop_eq_getElem_cons hlt
        rw [hd] at hnum
        clear hd
        have g1 : (0 : Int) ≤ (k : Int) := by omega
        have g2 : (k : Int) < (p.length : Int) := by omega
        generalize p[k] = i at *
        by_cases hii : 0 ≤ i ∧ i < (m.kids.length : Int)
        · obtain ⟨j, rfl⟩ : ∃ j : Nat, i = (j : Int) := ⟨i.toNat, by omega⟩
          have hj : j < m.kids.length := by omega
          have hx := NT.numZ_yes (n := m) (p := p.drop (k + 1)) (show (0 : Int) ≤ (j : Int) by omega) (by simpa using hj)
          simp only [Int.toNat_natCast] at hx
          rw [hx] at hnum
          clear hx hii
          have hce : NT.cnts m.kids + 1 ≤ NT.cnt m := by have := NT.cnt_eq m; omega
          have hsp := NT.cnts_split m.kids j hj
          have hkl := NT.kids_len m
          go_wp2_with (fail)
          have HCK := Lib.hid hck
          clear hck
          go_loopw [8, 10] (fun x i wq => ∃ q : Nat, q ≤ j ∧ i = .int .i64 (q : Int) ∧ x = .int .i64 ((a + 1 + NT.cnts (m.kids.take q) : Nat) : Int) ∧ Hid (wq.cell? ⟨b, off + k, none⟩ = some (.int .i64 (j : Int))) ∧ Hid (NBox wq w.heap.size m) ∧ Hid (Below w.heap.size w wq)) (fun _ i _ => j - (intOf i).toNat)
          case atStart => exact ⟨0, Nat.zero_le _, rfl, by simp [NT.cnts], HCK, hnb, hbw⟩
          case round =>
            obtain ⟨q, hq, rfl, rfl, hcq, hnq, hbq⟩ := hrel
            have hck := hcq.out
            have hzq : w.heap.size < wr.heap.size := (Array.getElem?_eq_some_iff.1 hnq.out).1
            obtain ⟨b0, b1, b2, b3, b4⟩ := hnq.out.cells
            have hle := NT.cnts_take_le m.kids q
            by_cases hql : q < j
            · have hqk : q < m.kids.length := by omega
              obtain ⟨b', off', hA, hb', c0, c1, c2, c3, c4⟩ := (InT.below hbq.out m hin.out).cells q hqk
              have HKO := Lib.hid (InT.later (InT.kidAt hin.out hqk) hbq.out)
              have HG := Lib.hid (NT.cnts_get hqk)
              have hsq := NT.cnts_split m.kids q hqk
              have hk2 : a + 1 + NT.cnts (m.kids.take q) + NT.cnt m.kids[q] ≤ 1000000000 := by omega
              clear hsq
              rw [hA] at b4
              clear hA
              generalize m.kids[q] = x at *
              go_wp2_with (fail)
              refine (r_count_any x wr HKO.out (by omega)).mono ?_
              rintro e w5 ⟨rfl, hb5⟩
              have HB5 := Lib.hid (hbq.out.trans (hb5.mono hbq.out.size))
              have HN5 := Lib.hid (hnq.out.below hb5 hzq)
              have HC5 := Lib.hid ((hb5.cell (p := ⟨b, off + k, none⟩) (World.block_lt_of_cell? wr _ hck)).trans hck)
              clear hb5
              go_wp2_with (fail)
              have e3 : ((a : Int) + 1 + (NT.cnts (m.kids.take q) : Int) + (NT.cnt x : Int)) = ((a + 1 + NT.cnts (m.kids.take (q + 1)) : Nat) : Int) := by rw [HG.out]; omega
              exact ⟨⟨q + 1, by omega, by go_num, congrArg (Value.int .i64) e3, HC5, HN5, HB5⟩, by simp [intOf]; omega⟩
            · have hqj : q = j := by omega
              subst hqj
              obtain ⟨b', off', hA, hb', c0, c1, c2, c3, c4⟩ := (InT.below hbq.out m hin.out).cells q hj
              have HKO := Lib.hid (InT.kidAt hin.out hj)
              have g3 : (0 : Int) ≤ (q : Int) := by omega
              have g4 : (q : Int) < (m.kids.length : Int) := by omega
              rw [hA] at b4
              clear hA b0 b1 b2 b3
              generalize m.kids[q] = x at *
              go_wp2_with (fail)
              go_still_tail 8, (by kernel_rfl)
              change wpList _ _ _ _ _ wr.drew
              have hn2 : NBox wr.drew w.heap.size m := hnq.out
              have HB2 := Lib.hid (hbq.out.drew)
              clear hck hcq c0 c1 c2 c3 c4 b4 hnq hbq
              generalize wr.drew = w7 at *
              obtain ⟨b0, b1, b2, b3, b4⟩ := hn2.cells
              have f0 := hn2.frozen 0
              have f1 := hn2.frozen 1
              have f2 := hn2.frozen 2
              have f3 := hn2.frozen 3
              have f4 := hn2.frozen 4
              have HN7 := Lib.hid hn2
              clear hn2
              go_wp2_with (fail)
              exact ⟨⟨k + 1, a + 1 + NT.cnts (m.kids.take q), x, by omega, by go_num, by go_num, by omega, HN7.out.put x, HKO.out, Lib.hid (by rw [hnum.out, Option.map_map, Function.comp_def]; congr 1; funext y; omega), put5_below HB2.out (Nat.le_refl _) x⟩, by simp [intOf]; omega⟩
        · exact absurd hnum.out (by rw [NT.numZ_no hii]; simp)
      · have hd : p.drop k = [] := List.drop_eq_nil_of_le (by omega)
        rw [hd] at hnum
        have HV := Lib.hid (show total = a from by have := hnum.out; simp [NT.numZ] at this; exact this)
        clear hd
        go_wp2_with (fail)
        go_ret2
        exact ⟨by rw [HT.out, HV.out]; rfl, hbw.out⟩
end Go.Proofs.Ytlaiahiphghggaa
