/- What is proved: the law TextBijection answers true, whatever the text. -/
import Derived.Test.YtgihfnnffailiaaBijPlain
import Derived.Test.YtgihfnnffailiaaSeen
import Derived.Test.YtgihfnnffailiaaOffset
import Derived.Test.YtgihfnnffailiaaLine
import Derived.Test.YtgihfnnffailiaaAwake
import Derived.Test.YtgihfnnffailiaaSJoin
import Derived.Laws.MakeOwn
set_option linter.unusedVariables false
namespace Go.Proofs.Ytgihfnnffailiaa
open Go.RowKit Go.Maps

theorem infoStr : (Try.prog.info? 9).map (fun i => (i.zero, i.size, i.bytes)) = some (some (.string ⟨#[]⟩), 1, 16) := by kernel_rfl
theorem row_cap {w : World} {B n sz : Nat} {E : TypeId} {v : Value} {xs : List Value} (h : w.ownsRow B E sz v n xs) (h0 : 0 < n) : ∃ g cap, v = .slice (some ⟨g, 0, none⟩) n cap ∧ n ≤ cap ∧ cap ≤ 9223372036854775807 ∧ g < w.heap.size := by
  rcases h.2 with ⟨_, h⟩ | ⟨g, cap, cur, h1, _, h4, h2, h3, _⟩
  · omega
  · refine ⟨g, cap, h1, h2, h3, ?_⟩
    rcases Nat.lt_or_ge g w.heap.size with h' | h'
    · exact h'
    · rw [Array.getElem?_eq_none h'] at h4
      cases h4
theorem row_below {w w' : World} {B n sz : Nat} {E : TypeId} {v : Value} {xs : List Value} (h : w.ownsRow B E sz v n xs) (hb : Below w.heap.size w w') : w'.ownsRow B E sz v n xs :=
  h.kept (row := none) ⟨hb.os, hb.tape, hb.output, hb.size, fun k hk _ => hb.block k hk⟩ (by
    cases hv : v.ownBlock with
    | none => exact .inl rfl
    | some g => exact .inr (by simp))

/-- Lines returns as many offsets as there are lines -/
theorem lines_len (s : ByteArray) (w : World) (hs : s.size ≤ 1000000) :
    Calls Try.prog 15 #[.string s] w fun e w' => ∃ g c, e = .returned (.slice (some ⟨g, 0, none⟩) (L s.data.toList).length c) ∧ Below w.heap.size w w' := by
  refine (lines_any s w hs).mono fun e w' he => ?_
  obtain ⟨v, h1, h2, h3⟩ := he
  rw [L_eq] at h2
  obtain ⟨g, c, hv, _⟩ := row_cap h2 (by have := L_len s.data.toList; omega)
  exact ⟨g, c, by rw [h1, hv], h3⟩

/-- the lines' texts -/
def lineTexts (s : ByteArray) (k : Nat) : List ByteArray := (List.range k).map (lineText s)
theorem lineTexts_succ (s : ByteArray) (k : Nat) : lineTexts s (k + 1) = lineTexts s k ++ [lineText s k] := by
  unfold lineTexts
  rw [List.range_succ, List.map_append]
  rfl
theorem lineText_list (s : ByteArray) (h : (13 : UInt8) ∉ s.data.toList) (j : Nat) : (lineText s j).data.toList = lineL s.data.toList j := by
  unfold lineText lineL
  rw [cut_no, ext_list]
  rintro ⟨_, _, h3⟩
  exact h (List.mem_of_getElem? h3)
theorem lineTexts_join (s : ByteArray) (h : (13 : UInt8) ∉ s.data.toList) : Lib.join ((lineTexts s (L s.data.toList).length).map (·.data.toList)) [10] = s.data.toList := by
  have e : (lineTexts s (L s.data.toList).length).map (·.data.toList) = (List.range (L s.data.toList).length).map (lineL s.data.toList) := by
    unfold lineTexts
    rw [List.map_map]
    exact List.map_congr_left fun j _ => lineText_list s h j
  rw [e]
  exact join_all _

theorem contains_any (s : ByteArray) (w : World) : Calls Try.prog 29 #[.string s, .string ⟨#[13]⟩] w fun e w' => e = .returned (.bool (decide ((13 : UInt8) ∈ s.data.toList))) ∧ w = w' := by
  refine (Try.strings_Contains_one s 13 w).mono fun e w' he => ⟨?_, he.2.symm⟩
  rw [he.1]
  congr 2
  exact decide_eq_decide.2 (index_in _ _)

def posKey (l : List UInt8) (i : Nat) : Lit := pairKey ((posTo l i).1 : Int) ((posTo l i).2 : Int)
theorem posKey_ne (l : List UInt8) (k : Nat) (hk : k ≤ l.length) (hl : l.length ≤ 1000000) : ∀ j, j < k → pairKey ((posTo l k).1 : Int) ((posTo l k).2 : Int) ≠ posKey l j := by
  intro j hj he
  have a := posTo_bd l k
  have b := posTo_bd l j
  have e := pair_inj _ _ _ _ (WalkArith.wf_i64 (by omega)) (WalkArith.wf_i64 (by omega)) (WalkArith.wf_i64 (by omega)) (WalkArith.wf_i64 (by omega)) he
  have := pos_inj l k j hk (by omega) (Prod.ext (by omega) (by omega))
  omega

set_option maxRecDepth 100000 in
set_option maxHeartbeats 2000000 in
theorem bijection_law (s : ByteArray) (w : World) :
    Calls Try.prog 6 #[.string s] w fun e w' => e = .returned (.bool true) ∧ Below w.heap.size w w' := by
  by_cases h : 200 < s.size
  · go_enter Try.func6, Try.ntmps6
    go_wp2_with (fail)
    refine (awake_any _).mono ?_
    rintro e w1 ⟨rfl, hb⟩
    go_wp2_with (fail)
    go_ret
    exact ⟨rfl, hb⟩
  · have HC := Lib.hid (contains_any s w)
    by_cases hcr : (13 : UInt8) ∈ s.data.toList
    · rw [decide_eq_true hcr] at HC
      clear hcr
      go_enter Try.func6, Try.ntmps6
      go_wp2_with (fail)
      refine HC.out.mono ?_
      rintro e w1 ⟨rfl, rfl⟩
      go_wp2_with (fail)
      refine (awake_any _).mono ?_
      rintro e w1 ⟨rfl, hb⟩
      go_wp2_with (fail)
      go_ret
      exact ⟨rfl, hb⟩
    · rw [decide_eq_false hcr] at HC
      have hl : s.data.toList.length = s.size := by simp
      have HJ := Lib.hid (lineTexts_join s hcr)
      have HP := Lib.hid (fun (k : Nat) (w : World) (hk : k ≤ s.size) => position_in s k w (by omega) hk)
      have HO := Lib.hid (fun (k : Nat) (w : World) (hk : k ≤ s.size) => offset_hit s k w (by omega) hk)
      have HB := Lib.hid (fun k => posTo_bd s.data.toList k)
      have HK := Lib.hid (fun (k : Nat) (hk : k ≤ s.size) => posKey_ne s.data.toList k (by omega) (by omega))
      have hLl := L_len s.data.toList
      rw [hl] at hLl
      have HLn := Lib.hid (fun w => lines_len s w (by omega))
      have HLi := Lib.hid (fun (j : Nat) (w : World) (hj : j < (L s.data.toList).length) => line_in s j w (by omega) hj)
      have hmm := @run_makeMap Try.prog
      have S0 := Lib.hid (Seen.made w (posKey s.data.toList))
      have B0 := Lib.hid ((Below.refl w.heap.size w).alloc (Nat.le_refl _) (.map #[] 0))
      have hJl : (Lib.join ((lineTexts s (L s.data.toList).length).map (·.data.toList)) [10]).length ≤ 200 := by rw [HJ.out]; omega
      have HSJ := Lib.hid (fun g cap w hc hb hN hcap => sjoin_any g 0 cap (lineTexts s (L s.data.toList).length) ⟨#[10]⟩ w hc hb hN hcap (by show (Lib.join ((lineTexts s (L s.data.toList).length).map (·.data.toList)) [10]).length ≤ _; omega))
      have eJ : (⟨(Lib.join ((lineTexts s (L s.data.toList).length).map (·.data.toList)) (⟨#[10]⟩ : ByteArray).data.toList).toArray⟩ : ByteArray) = s := by
        show (⟨(Lib.join ((lineTexts s (L s.data.toList).length).map (·.data.toList)) [10]).toArray⟩ : ByteArray) = s
        rw [HJ.out]
      have hll : (lineTexts s (L s.data.toList).length).length = (L s.data.toList).length := by simp [lineTexts]
      rw [eJ, hll] at HSJ
      have hss : (s.toList == s.toList) = true := by simp
      obtain ⟨i0, hi0, hz0, hz1, hz2⟩ := info_parts infoStr
      clear hl hcr hJl eJ hll HJ
      generalize (L s.data.toList).length = n at *
      go_enter Try.func6, Try.ntmps6
      go_wp2_with (fail)
      refine HC.out.mono ?_
      rintro e w1 ⟨rfl, rfl⟩
      go_wp2_with (fail)
      go_loopw [23] (fun i wr => ∃ k : Nat, k ≤ s.size + 1 ∧ i = .int .i64 (k : Int) ∧ Hid (Seen wr w.heap.size (posKey s.data.toList) k) ∧ Hid (Below w.heap.size w wr)) (fun i _ => s.size + 1 - (intOf i).toNat)
      case atStart => exact ⟨0, by omega, rfl, S0, B0⟩
      case round =>
        obtain ⟨k, hk, rfl, hS, hbw⟩ := hrel
        have hbz := hbw.out.size
        by_cases hlt : k < s.size + 1
        · have P := Lib.hid (HP.out k wr (by omega))
          have O := Lib.hid (HO.out k wr (by omega))
          obtain ⟨b1, b2, b3, b4⟩ := HB.out k
          have hne := HK.out k (by omega)
          have hpk : posKey s.data.toList k = pairKey ((posTo s.data.toList k).1 : Int) ((posTo s.data.toList k).2 : Int) := rfl
          have HPK := Lib.hid hpk
          clear hpk
          generalize (posTo s.data.toList k).1 = a at *
          generalize (posTo s.data.toList k).2 = b at *
          have wa : (Lit.int .i64 (a : Int)).wf = true := WalkArith.wf_i64 (by omega)
          have wb : (Lit.int .i64 (b : Int)).wf = true := WalkArith.wf_i64 (by omega)
          have HNE := Lib.hid hne
          clear hne
          go_wp2_with (fail)
          refine P.out.mono ?_
          rintro e w1 ⟨rfl, rfl⟩
          go_wp2_with (fail)
          refine O.out.mono ?_
          rintro e w2 ⟨rfl, hb2⟩
          have S2 := Lib.hid (hS.out.below hb2)
          have B2 := Lib.hid (hbw.out.trans (hb2.mono hbz))
          have z2 := B2.out.size
          have hlk := S2.out.look (a : Int) (b : Int) wa wb HNE.out
          clear hb2
          go_wp2_with (at_mapUpdate; refine wpList_mapUpdate_own _ rfl _ _ _ 48 rfl 49 4 pairLaw Try.underlying48 (plainElem (H := Unit) Try.prog 4) w.heap.size k _ rfl S2.out.own (by unfold maxLen; omega) _ _ _ rfl rfl (pair_keyOf _ _ wa wb) (.lit (.bool true)) [] (plainElem_bool Try.underlying4 true) ?_; intro w3 hown3 hgrow3)
          have S3 : Hid (Seen w3 w.heap.size (posKey s.data.toList) (k + 1)) := Seen.of (by rw [HPK.out]; exact hown3)
          have B3 := Lib.hid (B2.out.grown hgrow3 z2 (fun j hj => by injection hj with hj; omega))
          clear hown3 hgrow3 hlk
          go_wp2_with (fail)
          exact ⟨⟨k + 1, by omega, by go_num, S3, B3⟩, by simp [intOf]; omega⟩
        · go_wp2_with (fail)
          refine (HLn.out wr).mono ?_
          rintro e w2 ⟨g, c, rfl, hb2⟩
          have B2 := Lib.hid (hbw.out.trans (hb2.mono hbz))
          clear hb2
          go_wp2_with (fail)
          have R0 := Lib.hid (World.ownsRow_nil w2 w.heap.size 9 1)
          obtain ⟨wo, rfl⟩ : ∃ wo : World, wo = wr := ⟨_, rfl⟩
          clear hlt hbz hk hS hbw
          go_loopw [9, 61] (fun v i wr => ∃ k : Nat, k ≤ n ∧ i = .int .i64 (k : Int) ∧ Hid (wr.ownsRow w.heap.size 9 1 v k ((lineTexts s k).map Value.string)) ∧ Hid (Below w.heap.size w wr)) (fun _ i _ => n - (intOf i).toNat)
          case atStart => exact ⟨0, by omega, rfl, R0, B2⟩
          case round =>
            obtain ⟨k, hk, rfl, hown, hbw⟩ := hrel
            have hbz := hbw.out.size
            by_cases hlt : k < n
            · have LI := Lib.hid (HLi.out k wr hlt)
              have HT := Lib.hid (lineTexts_succ s k)
              generalize lineText s k = T at *
              go_wp2_with (fail)
              refine LI.out.mono ?_
              rintro e w3 ⟨rfl, hb3⟩
              have O3 := Lib.hid (row_below hown.out hb3)
              have o3 := O3.out.lt
              have B3 := Lib.hid (hbw.out.trans (hb3.mono hbz))
              have z3 := B3.out.size
              clear hb3
              go_wp2_with (at_builtin; refine wpList_append_own _ rfl _ _ 50 rfl w.heap.size 9 i0 _ 1 16 Try.underlying50 hi0 hz0 hz1 hz2 rfl (by decide) _ _ _ rfl (O3.out.alloc _) ⟨w3.heap.size, 0, none⟩ 1 1 [.string T] rfl rfl ?c1 ?c2 ?c3 ?c4 ?c5 ?_)
              case c1 => exact news_one _ _ _
              case c2 => intro u hu; simp at hu; subst hu; rfl
              case c3 => unfold maxLen; omega
              case c4 => omega
              case c5 => simp; omega
              intro v' w4 hown' hgrow _
              have B4 := Lib.hid ((B3.out.alloc z3 _).grown hgrow (by simp; omega) (fun j hj => (o3 j hj).1))
              have O4 : Hid (w4.ownsRow w.heap.size 9 1 v' (k + 1) ((lineTexts s (k + 1)).map Value.string)) := by
                rw [HT.out, List.map_append]
                exact hown'
              clear hown' hgrow o3
              go_wp2_with (fail)
              exact ⟨⟨k + 1, by omega, by go_num, O4, B4⟩, by simp [intOf]; omega⟩
            · obtain rfl : k = n := by omega
              obtain ⟨g3, cap, hv, hc1, hc2, hg⟩ := row_cap hown.out (by omega)
              have hcl := hown.out.cells (g := g3) (by rw [hv]; rfl)
              have HCL := Lib.hid (fun (j : Nat) (x : ByteArray) (hx : (lineTexts s k)[j]? = some x) => show wr.cell? ⟨g3, 0 + j, none⟩ = some (.string x) by
                have := hcl j (.string x) (by rw [List.getElem?_map, hx]; rfl)
                have key : (⟨g3, 0, none⟩ : Addr).add j = ⟨g3, 0 + j, none⟩ := by
                  unfold Addr.add
                  by_cases hk : j = 0
                  · simp [hk]
                  · simp [hk]
                rwa [key] at this)
              subst hv
              clear hcl
              go_wp2_with (fail)
              refine (HSJ.out g3 cap wr HCL.out hg (by omega) hc1).mono ?_
              rintro e w3 ⟨rfl, hb3⟩
              have B3 := Lib.hid (hbw.out.trans (hb3.mono hbz))
              have z3 := B3.out.size
              clear hb3
              go_wp2_with (fail)
              refine (awake_any _).mono ?_
              rintro e w4 ⟨rfl, hb⟩
              have B4 := Lib.hid (B3.out.trans (hb.mono z3))
              clear hb
              go_wp2_with (fail)
              go_ret
              exact ⟨rfl, B4.out⟩
end Go.Proofs.Ytgihfnnffailiaa
