/- What is proved: Next of value answers what the plain function says. -/
import Derived.Test.YtlndlipicbkhiaaDoorVaNextP
import Derived.Deep.Onto
set_option linter.unusedVariables false
namespace Go.Proofs.YtlndlipicbkhiaaDoor
open Go.RowKit

/-- what Next gives: the list in new memory, or none -/
def NxtRes (r : Option (List Int)) (w : World) : Ending → World → Prop := fun e w' => ∃ v, e = .returned (.tuple #[v, .bool r.isSome]) ∧ w'.ownsRow w.heap.size 3 1 v (r.getD []).length (zcells (r.getD [])) ∧ Below w.heap.size w w'
theorem NxtRes.none_ {r : Option (List Int)} {w w' : World} (h : r = none) (hb : Below w.heap.size w w') : NxtRes r w (.returned (.tuple #[.slice none 0 0, .bool false])) w' := by
  subst h
  exact ⟨_, rfl, World.ownsRow_nil _ _ _ _, hb⟩
theorem NxtRes.some_ {r : Option (List Int)} {x : List Int} {v : Value} {w w' : World} (h : r = some x) (ho : w'.ownsRow w.heap.size 3 1 v x.length (zcells x)) (hb : Below w.heap.size w w') : NxtRes r w (.returned (.tuple #[v, .bool true])) w' := by
  subst h
  exact ⟨_, rfl, ho, hb⟩

set_option maxRecDepth 100000 in
set_option maxHeartbeats 4000000 in
theorem next_any (A B C : Option Addr) (ca cb cc : Nat) (lo hi l : List Int) (w : World) (ha : ZRow w.heap.size w A lo) (hb : ZRow w.heap.size w B hi) (hc : ZRow w.heap.size w C l) (hca : lo.length ≤ ca) (hcc : l.length ≤ cc) (hl : lo.length ≤ 1000000) (hl2 : hi.length ≤ 1000000) (hl3 : l.length ≤ 1000000) (hwf : ∀ i, -9223372036854775808 ≤ l.getD i 0 ∧ hi.getD i 0 ≤ 9223372036854775807) :
    Calls Tryd.prog 19 #[.slice A lo.length ca, .slice B hi.length cb, .slice C l.length cc] w (NxtRes (nxtP lo hi l) w) := by
  have HA := Lib.hid ha
  have HB := Lib.hid hb
  have HC := Lib.hid hc
  have HWF := Lib.hid hwf
  clear ha hb hc hwf
  by_cases hlen : ¬ (lo.length = l.length ∧ hi.length = l.length)
  · have HN := Lib.hid (nxt_len (lo := lo) (hi := hi) (l := l) (by omega))
    by_cases h1 : lo.length = l.length
    · have h2 : ((hi.length : Int) != (l.length : Int)) = true := by simp; omega
      have h3 : ((lo.length : Int) != (l.length : Int)) = false := by simp; omega
      have H1 := Lib.hid h1
      clear h1 hlen
      go_enter Tryd.func19, Tryd.ntmps19
      go_wp2_with (fail)
      go_ret2
      exact NxtRes.none_ HN.out (Below.refl _ _)
    · have h3 : ((lo.length : Int) != (l.length : Int)) = true := by simp; omega
      clear h1 hlen
      go_enter Tryd.func19, Tryd.ntmps19
      go_wp2_with (fail)
      go_ret2
      exact NxtRes.none_ HN.out (Below.refl _ _)
  obtain ⟨h1, h2⟩ := Classical.not_not.1 hlen
  have h3 : ((lo.length : Int) != (l.length : Int)) = false := by simp; omega
  have h4 : ((hi.length : Int) != (l.length : Int)) = false := by simp; omega
  have HL1 := Lib.hid h1
  have HL2 := Lib.hid h2
  clear h1 h2 hlen
  go_enter Tryd.func19, Tryd.ntmps19
  go_wp2_with (fail)
  clear h3 h4
  go_loop [8, 26] (fun v i => ∃ (k : Nat) (g : Int), k ≤ l.length ∧ i = .int .i64 (k : Int) ∧ v = .int .i64 g ∧ Hid (inR lo hi l k) ∧ Hid (gw hi l k = g)) (fun _ i => l.length - (intOf i).toNat)
  case atStart => exact ⟨0, -1, Nat.zero_le _, rfl, rfl, Lib.hid (fun i h => absurd h (by omega)), Lib.hid rfl⟩
  case round =>
    obtain ⟨k, g, hk, rfl, rfl, hin, hg⟩ := hrel
    by_cases hlt : k < l.length
    · have hk1 : k < lo.length := by have := HL1.out; omega
      have hk2 : k < hi.length := by have := HL2.out; omega
      obtain ⟨b1, o1, hA, _, hc1⟩ := HA.out (by omega)
      obtain ⟨b2, o2, hB, _, hc2⟩ := HB.out (by omega)
      obtain ⟨b3, o3, hC, _, hc3⟩ := HC.out (by omega)
      have c1 := hc1 k hk1
      have c2 := hc2 k hk2
      have c3 := hc3 k hlt
      have HX := Lib.hid (getD_of hlt)
      have HXL := Lib.hid (getD_of hk1)
      have HXH := Lib.hid (getD_of hk2)
      rw [hA, hB, hC]
      clear hc1 hc2 hc3
      obtain ⟨x, hx⟩ : ∃ x, l[k] = x := ⟨_, rfl⟩
      obtain ⟨y, hy⟩ : ∃ y, lo[k] = y := ⟨_, rfl⟩
      obtain ⟨z, hz⟩ : ∃ z, hi[k] = z := ⟨_, rfl⟩
      rw [hx] at c3 HX
      rw [hy] at c1 HXL
      rw [hz] at c2 HXH
      clear hx hy hz
      have HGS := Lib.hid (show gw hi l (k + 1) = if x < z then (k : Int) else g by unfold gw; rw [HX.out, HXH.out, hg.out])
      by_cases q1 : x < y
      · have HN := Lib.hid (nxt_out (lo := lo) (hi := hi) hlt (by rw [HX.out, HXL.out]; exact .inl q1))
        have q1' : decide (x < y) = true := by simpa using q1
        go_wp2_with (fail)
        go_ret2
        exact NxtRes.none_ HN.out (Below.refl _ _)
      · have q1' : decide (x < y) = false := by simpa using q1
        by_cases q2 : z < x
        · have HN := Lib.hid (nxt_out (lo := lo) (hi := hi) hlt (by rw [HX.out, HXH.out]; exact .inr q2))
          have q2' : decide (z < x) = true := by simpa using q2
          go_wp2_with (fail)
          go_ret2
          exact NxtRes.none_ HN.out (Below.refl _ _)
        · have q2' : decide (z < x) = false := by simpa using q2
          have HIN := Lib.hid (inR_succ hin.out (by rw [HX.out, HXL.out]; omega) (by rw [HX.out, HXH.out]; omega))
          by_cases q3 : x < z
          · have HG := Lib.hid (HGS.out.trans (if_pos q3))
            go_wp2_with (fail)
            exact ⟨⟨k + 1, (k : Int), by omega, by go_num, rfl, HIN, HG⟩, by simp [intOf]; omega⟩
          · have HG := Lib.hid (HGS.out.trans (if_neg q3))
            go_wp2_with (fail)
            exact ⟨⟨k + 1, g, by omega, by go_num, rfl, HIN, HG⟩, by simp [intOf]; omega⟩
    · obtain rfl : k = l.length := by omega
      by_cases hg0 : g < 0
      · have HN := Lib.hid (nxt_end (lo := lo) (hi := hi) (l := l) (by have := gw_range hi l l.length; have := hg.out; omega))
        go_wp2_with (fail)
        go_ret2
        exact NxtRes.none_ HN.out (Below.refl _ _)
      · obtain ⟨m, rfl⟩ : ∃ m : Nat, g = m := ⟨g.toNat, by omega⟩
        have HN := Lib.hid (nxt_some HL1.out HL2.out hin.out hg.out)
        have hml : m < l.length := by have := gw_range hi l l.length; have := hg.out; omega
        have HML := Lib.hid hml
        have hs1 : ∀ W : World, (Instr.slice 31 (.slice C l.length cc) none (some (.int .i64 ((m : Int) + 1))) none).run Tryd.prog W = .ok (.slice C (m + 1) cc) W := fun W => zslice_to C l.length cc (m + 1) (by omega) (by omega) W
        have hs2 : ∀ W : World, (Instr.slice 31 (.slice A lo.length ca) (some (.int .i64 ((m : Int) + 1))) none none).run Tryd.prog W = .ok (.slice (zrestA A ca (m + 1)) (lo.length - (m + 1)) (ca - (m + 1))) W := fun W => zslice_from A lo.length ca (m + 1) (by have := HL1.out; omega) W
        have HCAT := Lib.hid (zcat2 w (w.alloc (.cells #[.slice C (m + 1) cc, .slice (zrestA A ca (m + 1)) (lo.length - (m + 1)) (ca - (m + 1))] 31)).drew C (zrestA A ca (m + 1)) cc (ca - (m + 1)) (l.take (m + 1)) (lo.drop (m + 1)) (m + 1) (lo.length - (m + 1)) (by rw [List.length_take]; omega) (by rw [List.length_drop]) (z_take HC.out (m + 1)) (z_drop HA.out (m + 1) hca) (by omega) ((Below.refl w.heap.size w).alloc (Nat.le_refl _) _).drew (heap_alloc_new w _) (by simp))
        have hy1 : IntKind.i64.wrap (l.getD m 0 + 1) = l.getD m 0 + 1 := by
          have h1 := gw_lt hi l m l.length hg.out
          have h2 := HWF.out m
          simp [IntKind.wrap, IntKind.bits, IntKind.signed]
          simp at h1 h2
          omega
        obtain ⟨y, HY⟩ : ∃ y, Hid (l.getD m 0 = y) := ⟨_, Lib.hid rfl⟩
        rw [HY.out] at hy1
        have hm1 : IntKind.i64.wrap ((m : Int) + 1) = (m : Int) + 1 := by simp [IntKind.wrap, IntKind.bits, IntKind.signed]; omega
        clear hlt hk hg0
        go_wp2_with (fail)
        go_region_law (go_simp; go_at_call 37; refine HCAT.out.mono ?_; rintro e w2 ⟨v, rfl, hown, hb2⟩; obtain ⟨c2, g2, n2, r2, rfl, hmn, HN2, HR2, HO, hgb, hx, hfz⟩ := bump_own hml hown; have HB2 := Lib.hid hb2; have HGB := Lib.hid hgb; clear hown hb2 hgb)
        rw [HY.out] at hx
        go_simp
        go_wp2_with (fail)
        go_ret2
        have hd := bump_done HML.out HN2.out HR2.out HO.out
        rw [HY.out] at hd
        have hs := HB2.out.setCell (p := ⟨g2, m, none⟩) (by have := HGB.out; show w.heap.size ≤ g2; omega) (.int .i64 (y + 1))
        refine NxtRes.some_ (v := .slice (some ⟨g2, 0, none⟩) n2 c2) HN.out ?_ hs
        rw [← hd.1]
        exact World.ownsRow.mono hd.2 (by omega)
end Go.Proofs.YtlndlipicbkhiaaDoor
