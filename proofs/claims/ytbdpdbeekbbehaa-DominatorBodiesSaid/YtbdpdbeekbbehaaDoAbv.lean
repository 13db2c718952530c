/- What is proved: above gives the nearest point over those that lead to a point. -/
import Derived.Test.YtbdpdbeekbbehaaDoAbove
set_option linter.unusedVariables false
namespace Go.Proofs.Ytbdpdbeekbbehaa
open Go.RowKit Go.Shelf

/-- the tree under way: the places of the points that were found, and what stands over each point -/
structure Ov (n r : Nat) (found : List Nat) (pl : Nat → Nat) (ov : Nat → Int) (pb ob : Nat) (W : World) : Prop where
  pla : IArr W pb n (fun v => (pl v : Int))
  ovr : IArr W ob n ov
  tr : Tr r found pl ov
  plc : Pl found pl
  root : r ∈ found
  max : ∀ v ∈ found, pl v ≤ pl r
  lt : ∀ v ∈ found, v < n
  le : n ≤ 1000000
theorem Ov.later {n r : Nat} {found : List Nat} {pl : Nat → Nat} {ov : Nat → Int} {pb ob : Nat} {W W' : World} (h : Ov n r found pl ov pb ob W) (hb : Below W.heap.size W W') : Ov n r found pl ov pb ob W' :=
  ⟨h.pla.later hb, h.ovr.later hb, h.tr, h.plc, h.root, h.max, h.lt, h.le⟩
/-- what above gives -/
def AbRes (ov : Nat → Int) (r : Nat) (l : List Nat) (w : World) (e : Ending) (W : World) : Prop := ∃ a, e = .returned (.int .i64 a) ∧ Near ov r l a ∧ Below w.heap.size w W

set_option maxRecDepth 100000 in
set_option maxHeartbeats 2000000 in
theorem above_any {n r : Nat} {found : List Nat} {pl : Nat → Nat} {ov : Nat → Int} {pb ob : Nat} {w0 : World} {B : Nat → List Nat} {g : Nat} {caps : Array Value} (f1 : Value) (hf1 : f1.oneCell' = true) (eK : ∀ args w, (callFunc g args).run Try.prog w = .ok (.enter g args) w) (hX : NxOk B n g caps w0) (hG : Gr B n)
    (w : World) (hw : Below w0.heap.size w0 w) (p : Nat) (hp : p < n) (ho : Ov n r found pl ov pb ob w) :
    Calls Try.prog 69 #[.agg #[.int .i64 (n : Int), .int .i64 (r : Int), f1, .func (.func g) #[] caps], .int .i64 (p : Int), .slice (some ⟨pb, 0, none⟩) n n, .slice (some ⟨ob, 0, none⟩) n n] w (AbRes ov r (B p) w) := by
  have HX := Lib.hid hX
  have HG := Lib.hid hG
  have HW := Lib.hid hw
  have HO := Lib.hid ho
  clear hX hG hw ho
  go_enter Try.func69, Try.ntmps69
  go_wp2_with (fail)
  have HB1 := Lib.hid ((Below.refl w.heap.size w).alloc (Nat.le_refl _) (.cells #[.int .i64 (n : Int), .int .i64 (r : Int), f1, .func (.func g) #[] caps] 57))
  have hbx := heap_alloc_new w (.cells #[.int .i64 (n : Int), .int .i64 (r : Int), f1, .func (.func g) #[] caps] 57)
  generalize (w.alloc (.cells #[.int .i64 (n : Int), .int .i64 (r : Int), f1, .func (.func g) #[] caps] 57)) = w1 at *
  refine (HX.out w1 p (HW.out.trans (HB1.out.mono HW.out.size)) hp).mono ?_
  rintro e w2 ⟨A, c, rfl, hrow, hc, q0, hq⟩
  have HBX := Lib.hid (show w2.heap[w.heap.size]? = some (.cells #[.int .i64 (n : Int), .int .i64 (r : Int), f1, .func (.func g) #[] caps] 57 (0, 0)) by rw [hq]; exact hbx)
  have HB2 := Lib.hid (show Below w.heap.size w w2 by rw [hq]; exact below_drewN HB1.out q0)
  have HROW := Lib.hid (hrow.below (HW.out.trans (HB2.out.mono HW.out.size)))
  have HLT := Lib.hid (HG.out.lt p hp)
  have hfew := HG.out.few p hp
  have HO2 := Lib.hid (HO.out.later HB2.out)
  have hz : w.heap.size < w2.heap.size := hlt HBX.out
  have HZ := Lib.hid hz
  clear hbx hrow hc hq HB1 HX HG HO hz
  generalize B p = l at *
  obtain ⟨nb, hnb⟩ : ∃ nb, nb = w.heap.size := ⟨_, rfl⟩
  have HNB := Lib.hid hnb
  rw [← hnb]
  rw [← hnb] at HBX
  clear hnb
  go_wp2_with (fail)
  go_loopw [9, 17] (fun s i wr => ∃ (k : Nat) (a : Int) (q : Nat), s = .int .i64 a ∧ i = .int .i64 (k : Int) ∧ k ≤ l.length ∧ Hid (Near ov r (l.take k) a) ∧ Hid (wr = w2.drewN q)) (fun _ i _ => l.length - (intOf i).toNat)
  case atStart => exact ⟨0, -1, 0, rfl, rfl, Nat.zero_le _, Lib.hid .nil, Lib.hid rfl⟩
  case round =>
    obtain ⟨k, a, q, rfl, rfl, hk, hnear, hwr⟩ := hrel
    obtain rfl := hwr.out
    have HBX3 := Lib.hid (show (w2.drewN q).heap[nb]? = some (.cells #[.int .i64 (n : Int), .int .i64 (r : Int), f1, .func (.func g) #[] caps] 57 (0, 0)) from HBX.out)
    have HO3 := Lib.hid (HO2.out.later (below_drewN (Below.refl _ _) q))
    have HRW3 := Lib.hid (HROW.out.below (below_drewN (Below.refl _ w2) q))
    have HB3 := Lib.hid (below_drewN HB2.out q)
    have HZ3 := Lib.hid (show (w2.drewN q).drewN = fun m => (w2.drewN q).drewN m from rfl)
    have HAD := Lib.hid (show ∀ m, (w2.drewN q).drewN m = w2.drewN (q + m) from fun m => by simp [World.drewN, Nat.add_assoc])
    clear hwr
    generalize w2.drewN q = w3 at *
    clear HZ3
    by_cases hlt' : k < l.length
    · obtain ⟨b, off, rfl, hb, hcs⟩ := HRW3.out (by omega)
      have r0 := hcs k hlt'
      have hxn := HLT.out _ (List.getElem_mem hlt')
      have HTK := Lib.hid (List.take_succ_eq_append_getElem hlt')
      obtain ⟨x, HX⟩ : ∃ x, Hid (l[k] = x) := ⟨_, Lib.hid rfl⟩
      rw [HX.out] at r0 hxn HTK
      have HME := Lib.hid (show k + 1 ≤ l.length ∧ l.length - (k + 1) < l.length - k by omega)
      have HC := Lib.hid (fun B hB => reached_any w3 ob n r x ov HO3.out.ovr hxn HO3.out.le B hB)
      have bb := Lib.cell_of_heap HBX3.out 1
      clear hcs
      by_cases hpr : Pr ov r x
      · have HP := Lib.hid hpr
        go_wp2_with (fail)
        refine (HC.out true ⟨fun _ => HP.out, fun _ => rfl⟩).mono ?_
        rintro e w4 ⟨rfl, rfl⟩
        by_cases ha : a < 0
        · have HN := Lib.hid (hnear.out.first ha HP.out)
          rw [← HTK.out] at HN
          clear hpr
          go_wp2_with (fail)
          exact ⟨⟨k + 1, (x : Int), q, rfl, by go_num, HME.out.1, HN, Lib.hid (by have := HAD.out 0; rw [Nat.add_zero] at this; exact this)⟩, by have := HME.out.2; simp only [intOf, Int.toNat_natCast]; first | exact this | (simp; omega)⟩
        · obtain ⟨d, rfl⟩ : ∃ d : Nat, a = (d : Int) := ⟨a.toNat, by omega⟩
          have HPD := Lib.hid (show Pr ov r d from by
            rcases hnear.out with ⟨h1, _⟩ | ⟨c, h1, h2, _⟩
            · omega
            · have : c = d := by omega
              rw [← this]; exact h2)
          have HM := Lib.hid (meet_any w3 pb ob d x HO3.out.pla HO3.out.ovr HO3.out.plc HO3.out.tr HO3.out.root HO3.out.max HO3.out.lt HO3.out.le HPD.out HP.out)
          clear hpr
          go_wp2_with (fail)
          refine HM.out.mono ?_
          rintro e w4 ⟨m, rfl, hm1, hm2, q4, rfl⟩
          have HN := Lib.hid (hnear.out.next HP.out hm1 hm2)
          rw [← HTK.out] at HN
          clear hm1 hm2
          go_wp2_with (fail)
          exact ⟨⟨k + 1, (m : Int), q + q4, rfl, by go_num, HME.out.1, HN, Lib.hid (HAD.out q4)⟩, by have := HME.out.2; simp only [intOf, Int.toNat_natCast]; first | exact this | (simp; omega)⟩
      · have HN := Lib.hid (hnear.out.skip hpr)
        rw [← HTK.out] at HN
        have HP := Lib.hid hpr
        clear hpr
        go_wp2_with (fail)
        refine (HC.out false ⟨fun h => absurd h (by decide), fun h => absurd h HP.out⟩).mono ?_
        rintro e w4 ⟨rfl, rfl⟩
        go_wp2_with (fail)
        exact ⟨⟨k + 1, a, q, rfl, by go_num, HME.out.1, HN, Lib.hid (by have := HAD.out 0; rw [Nat.add_zero] at this; exact this)⟩, by have := HME.out.2; simp only [intOf, Int.toNat_natCast]; first | exact this | (simp; omega)⟩
    · obtain rfl : k = l.length := by omega
      rw [List.take_length] at hnear
      go_wp2_with (fail)
      go_ret
      exact ⟨a, rfl, hnear.out, HB3.out⟩
end Go.Proofs.Ytbdpdbeekbbehaa
