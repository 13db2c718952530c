/- What is proved: the reference's comparison of lists of lists. -/
import Derived.Test.YtbdpdbeekbbehaaDoAbove
import Derived.BigQuiet
import Derived.Deep.QuietTactic
set_option linter.unusedVariables false
namespace Go.Proofs.Ytbdpdbeekbbehaa
open Go.RowKit Go.Shelf

/-- a slice of slices, as it may be read -/
def LRow (w : World) (X : Option Addr) (L : List (List Int)) : Prop :=
  0 < L.length → ∃ b off, X = some ⟨b, off, none⟩ ∧ b < w.heap.size ∧ ∀ (i : Nat) (h : i < L.length), ∃ A c, w.cell? ⟨b, off + i, none⟩ = some (.slice A L[i].length c) ∧ ZRow w.heap.size w A L[i] ∧ L[i].length ≤ c
theorem LRow.later {w w' : World} {X : Option Addr} {L : List (List Int)} (h : LRow w X L) (hb : Below w.heap.size w w') : LRow w' X L := fun h0 => by
  obtain ⟨b, off, h1, h2, h3⟩ := h h0
  refine ⟨b, off, h1, Nat.lt_of_lt_of_le h2 hb.size, fun i hi => ?_⟩
  obtain ⟨A, c, g1, g2, g3⟩ := h3 i hi
  exact ⟨A, c, (hb.cell (p := ⟨b, off + i, none⟩) h2).trans g1, (g2.below hb).mono hb.size, g3⟩
theorem lists_eq {L M : List (List Int)} (hl : L.length = M.length) (h : ∀ (i : Nat) (h1 : i < L.length) (h2 : i < M.length), L[i] = M[i]) : L = M := List.ext_getElem hl h

set_option maxRecDepth 100000 in
set_option maxHeartbeats 2000000 in
theorem lists17_any (w : World) (X Y : Option Addr) (c d : Nat) (L M : List (List Int)) (hL : LRow w X L) (hM : LRow w Y M) (hl : L.length ≤ 1000000) (hll : ∀ l ∈ L, l.length ≤ 1000000) :
    Calls Try.prog 59 #[.slice X L.length c, .slice Y M.length d] w fun e W => e = .returned (.bool (decide (L = M))) ∧ Below w.heap.size w W := by
  have HL := Lib.hid hL
  have HM := Lib.hid hM
  have HLL := Lib.hid hll
  clear hL hM hll
  go_enter Try.func59, Try.ntmps59
  by_cases hlen : L.length = M.length
  · have HE := Lib.hid hlen
    have hi : (L.length : Int) = (M.length : Int) := by omega
    clear hlen
    go_wp2_with (fail)
    clear hi
    go_loopw [5] (fun i wr => ∃ k : Nat, i = .int .i64 (k : Int) ∧ k ≤ L.length ∧ Hid (∀ (j : Nat) (h1 : j < L.length) (h2 : j < M.length), j < k → L[j] = M[j]) ∧ Hid (Below w.heap.size w wr)) (fun i _ => L.length - (intOf i).toNat)
    case atStart => exact ⟨0, rfl, Nat.zero_le _, Lib.hid (fun j _ _ h => absurd h (by omega)), Lib.hid (Below.refl _ _)⟩
    case round =>
      obtain ⟨k, rfl, hk, hpre, hwr⟩ := hrel
      by_cases hlt' : k < L.length
      · have hkm : k < M.length := by have := HE.out; omega
        obtain ⟨b1, o1, rfl, hb1, r1⟩ := HL.out (by omega)
        obtain ⟨b2, o2, rfl, hb2, r2⟩ := HM.out (by omega)
        obtain ⟨A1, c1, x1, z1, y1⟩ := r1 k hlt'
        obtain ⟨A2, c2, x2, z2, y2⟩ := r2 k hkm
        have x1' : wr.cell? ⟨b1, o1 + k, none⟩ = some (.slice A1 L[k].length c1) := (hwr.out.cell (p := ⟨b1, o1 + k, none⟩) hb1).trans x1
        have x2' : wr.cell? ⟨b2, o2 + k, none⟩ = some (.slice A2 M[k].length c2) := (hwr.out.cell (p := ⟨b2, o2 + k, none⟩) hb2).trans x2
        have Z1 := Lib.hid z1
        have Z2 := Lib.hid z2
        have HLK := Lib.hid (HLL.out _ (List.getElem_mem hlt'))
        obtain ⟨lk, HK1⟩ : ∃ x, Hid (L[k] = x) := ⟨_, Lib.hid rfl⟩
        obtain ⟨mk, HK2⟩ : ∃ x, Hid (M[k] = x) := ⟨_, Lib.hid rfl⟩
        rw [HK1.out] at x1 x1' y1 Z1 HLK
        rw [HK2.out] at x2 x2' y2 Z2
        have X1 := Lib.hid x1
        have X2 := Lib.hid x2
        clear r1 r2 z1 z2 x1 x2
        by_cases hkl : lk.length = mk.length
        · have HKL := Lib.hid hkl
          have hi2 : (lk.length : Int) = (mk.length : Int) := by omega
          clear hkl
          go_upto_region 6 with (fail)
          go_quiet (fail)
          go_wp2_with (fail)
          clear hi2 x1' x2'
          go_loopw [6] (fun i wr => ∃ j : Nat, i = .int .i64 (j : Int) ∧ j ≤ lk.length ∧ Hid (∀ (t : Nat) (h1 : t < lk.length) (h2 : t < mk.length), t < j → lk[t] = mk[t]) ∧ Hid (Below w.heap.size w wr)) (fun i _ => lk.length - (intOf i).toNat)
          case atStart => exact ⟨0, rfl, Nat.zero_le _, Lib.hid (fun t _ _ h => absurd h (by omega)), Lib.hid (below_drewN hwr.out _)⟩
          case round =>
            obtain ⟨j, rfl, hj, hpj, hwj⟩ := hrel
            have hlk := HLK.out
            have x1 := (hwj.out.cell (p := ⟨b1, o1 + k, none⟩) hb1).trans X1.out
            have x2 := (hwj.out.cell (p := ⟨b2, o2 + k, none⟩) hb2).trans X2.out
            by_cases hjt : j < lk.length
            · have hjm : j < mk.length := by have := HKL.out; omega
              obtain ⟨e1, p1, rfl, g1, t1⟩ := Z1.out (by omega)
              obtain ⟨e2, p2, rfl, g2, t2⟩ := Z2.out (by omega)
              have y3 := (hwj.out.cell (p := ⟨e1, p1 + j, none⟩) g1).trans (t1 j hjt)
              have y4 := (hwj.out.cell (p := ⟨e2, p2 + j, none⟩) g2).trans (t2 j hjm)
              clear t1 t2
              obtain ⟨x, HX⟩ : ∃ x, Hid (lk[j] = x) := ⟨_, Lib.hid rfl⟩
              obtain ⟨y, HY⟩ : ∃ x, Hid (mk[j] = x) := ⟨_, Lib.hid rfl⟩
              rw [HX.out] at y3
              rw [HY.out] at y4
              by_cases hxy : x = y
              · subst hxy
                as_aux_lemma =>
                  have HN := Lib.hid (show ∀ (t : Nat) (h1 : t < lk.length) (h2 : t < mk.length), t < j + 1 → lk[t] = mk[t] from fun t h1 h2 h3 => by
                    by_cases e : t = j
                    · subst e; rw [HX.out, HY.out]
                    · exact hpj.out t h1 h2 (by omega))
                  go_upto_region 11 with (fail)
                  go_quiet (fail)
                  go_wp2_with (fail)
                  exact ⟨⟨j + 1, by go_num, by omega, HN, Lib.hid (below_drewN hwj.out _)⟩, by simp [intOf]; omega⟩
              · have HNE := Lib.hid (show decide (L = M) = false from decide_eq_false (fun e => hxy (by
                  rw [← HX.out, ← HY.out]
                  have e2 : lk = mk := by rw [← HK1.out, ← HK2.out]; simp only [e]
                  simp only [e2])))
                as_aux_lemma =>
                  go_upto_region 11 with (fail)
                  go_quiet (fail)
                  go_wp2_with (fail)
                  go_ret
                  rw [HNE.out]
                  exact ⟨rfl, below_drewN hwj.out _⟩
            · obtain rfl : j = lk.length := by omega
              have HN := Lib.hid (show ∀ (i : Nat) (h1 : i < L.length) (h2 : i < M.length), i < k + 1 → L[i] = M[i] from fun i h1 h2 h3 => by
                by_cases e : i = k
                · subst e
                  rw [HK1.out, HK2.out]
                  exact List.ext_getElem HKL.out fun t g1 g2 => hpj.out t g1 g2 g1
                · exact hpre.out i h1 h2 (by omega))
              go_wp2_with (fail)
              exact ⟨⟨k + 1, by go_num, by omega, HN, hwj⟩, by simp [intOf]; omega⟩
        · have hi2 : ¬ (lk.length : Int) = (mk.length : Int) := by omega
          have HKL := Lib.hid hkl
          have HNE := Lib.hid (show decide (L = M) = false from decide_eq_false (fun e => hkl (by rw [← HK1.out, ← HK2.out]; simp only [e])))
          clear hkl
          as_aux_lemma =>
            go_upto_region 6 with (fail)
            go_quiet (fail)
            go_wp2_with (fail)
            go_ret
            rw [HNE.out]
            exact ⟨rfl, below_drewN hwr.out _⟩
      · obtain rfl : k = L.length := by omega
        have HEQ := Lib.hid (show decide (L = M) = true from decide_eq_true (lists_eq HE.out fun i h1 h2 => hpre.out i h1 h2 h1))
        go_wp2_with (fail)
        go_ret
        rw [HEQ.out]
        exact ⟨rfl, hwr.out⟩
  · have hi : ¬ (L.length : Int) = (M.length : Int) := by omega
    have HNE := Lib.hid (show decide (L = M) = false from decide_eq_false (fun e => hlen (by rw [e])))
    clear hlen
    go_wp2_with (fail)
    go_ret
    rw [HNE.out]
    exact ⟨rfl, Below.refl _ _⟩
end Go.Proofs.Ytbdpdbeekbbehaa
