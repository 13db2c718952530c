/- What is proved: the law LexerSpaces answers true, whatever the text. -/
import Derived.Test.YtgihfnnffailiabSpacesPlain
import Derived.Test.YtgihfnnffailiabSJoin
import Derived.Test.YtgihfnnffailiabRefWords
set_option linter.unusedVariables false
namespace Go.Proofs.Ytgihfnnffailiab
open Go.RowKit

theorem own_cap {w : World} {B n sz : Nat} {E : TypeId} {v : Value} {xs : List Value} (h : w.ownsRow B E sz v n xs) (h0 : 0 < n) : ∃ g cap, v = .slice (some ⟨g, 0, none⟩) n cap ∧ n ≤ cap ∧ cap ≤ 9223372036854775807 := by
  rcases h.2 with ⟨_, h⟩ | ⟨g, cap, cur, h1, _, _, h2, h3, _⟩
  · omega
  · exact ⟨g, cap, h1, h2, h3⟩
/-- Words, and the room of what it returns -/
theorem words_room (s : ByteArray) (A : Option Addr) (c n : Nat) (l : List Tok) (ws : List ByteArray) (w : World) (hs : s.size ≤ 1000000) (hr : TokA w A l) (hf : fitB s.size l = true) (hw : words s l = ws) (hn : l.length = n) (h0 : 0 < n) :
    Calls Try.prog 16 #[.string s, .slice A n c] w fun e w' => ∃ g cap, e = .returned (.slice (some ⟨g, 0, none⟩) n cap) ∧ n ≤ cap ∧ cap ≤ 9223372036854775807 ∧ StrA w' (some ⟨g, 0, none⟩) ws ∧ Below w.heap.size w w' := by
  subst hn
  refine (words_good s A c l w hs hr hf).mono fun e w' he => ?_
  obtain ⟨v, h1, h2, h3⟩ := he
  have e : words s l = l.map (word s) := if_pos hf
  obtain ⟨g, cap, hv, hc1, hc2⟩ := own_cap h2 h0
  rw [← List.length_map (f := word s)] at h2
  obtain ⟨A', c', hv', hr'⟩ := strs_own h2
  rw [hv] at hv'
  simp only [Value.slice.injEq] at hv'
  obtain ⟨rfl, _, rfl⟩ := hv'
  rw [← hw, e]
  exact ⟨g, cap, by rw [h1, hv], hc1, hc2, hr', h3⟩

theorem str_at {w : World} {g : Nat} {ws : List ByteArray} (h : StrA w (some ⟨g, 0, none⟩) ws) (i : Nat) (x : ByteArray) (hx : ws[i]? = some x) : w.cell? ⟨g, i, none⟩ = some (.string x) := by
  obtain ⟨hi, rfl⟩ := List.getElem?_eq_some_iff.1 hx
  obtain ⟨b, off, hA, _, hr⟩ := h (by omega)
  have := hr i hi
  simp only [Option.some.injEq, Addr.mk.injEq, and_true] at hA
  obtain ⟨rfl, rfl⟩ := hA
  rwa [Nat.zero_add] at this
theorem str_lt {w : World} {g : Nat} {ws : List ByteArray} (h : StrA w (some ⟨g, 0, none⟩) ws) (hi : 0 < ws.length) : g < w.heap.size := by
  obtain ⟨b, off, hA, hb, hr⟩ := h hi
  simp only [Option.some.injEq, Addr.mk.injEq, and_true] at hA
  obtain ⟨rfl, rfl⟩ := hA
  exact hb

set_option maxRecDepth 100000 in
set_option maxHeartbeats 2000000 in
theorem spaces_law (s : ByteArray) (w : World) :
    Calls Try.prog 7 #[.string s] w fun e w' => e = .returned (.bool true) ∧ Below w.heap.size w w' := by
  by_cases h : 600 < s.size
  · go_enter Try.func7, Try.ntmps7
    go_wp2_with (fail)
    refine (awake_any _).mono ?_
    rintro e w1 ⟨rfl, hb⟩
    go_wp2_with (fail)
    go_ret
    exact ⟨rfl, hb⟩
  · obtain ⟨init, e0, hil, hsc, hds, has_, hjl, hw1, hw2⟩ := spaces_facts s (by omega)
    have hfit := scan_fit s (by omega)
    have hwl : (init ++ [(⟨#[]⟩ : ByteArray)]).length = init.length + 1 := by simp
    have H1 := Lib.hid (scan_any s w (by omega))
    rw [hsc] at H1
    have H2 := Lib.hid (fun A c w ht => words_room s A c (init.length + 1) (scan s.data.toList) (init ++ [⟨#[]⟩]) w (by omega) ht hfit e0 hsc (by omega))
    have HDS := Lib.hid hds
    have HA := Lib.hid has_
    have hdf : dense (init.take init.length) = dense init := by rw [List.take_length]
    have hd1 := hds init.length
    rw [hdf] at hd1
    have hget : ∀ (k : Nat) (hk : k < init.length), (init ++ [(⟨#[]⟩ : ByteArray)])[k]? = some init[k] := fun k hk => by rw [List.getElem?_append_left hk, List.getElem?_eq_getElem hk]
    -- the two texts
    have hjs : (⟨(Lib.join ((init ++ [(⟨#[]⟩ : ByteArray)]).map (·.data.toList)) [10]).toArray⟩ : ByteArray).size ≤ 1200 := by
      show ((Lib.join ((init ++ [(⟨#[]⟩ : ByteArray)]).map (·.data.toList)) [10]).toArray).size ≤ 1200
      rw [List.size_toArray]
      exact hjl
    have hw1' : words ⟨(Lib.join ((init ++ [(⟨#[]⟩ : ByteArray)]).map (·.data.toList)) [10]).toArray⟩ (scan (⟨(Lib.join ((init ++ [(⟨#[]⟩ : ByteArray)]).map (·.data.toList)) [10]).toArray⟩ : ByteArray).data.toList) = init ++ [⟨#[]⟩] := hw1
    have HJ := Lib.hid (fun g cap w hc hb hcap => sjoin_any g 0 cap (init ++ [⟨#[]⟩]) ⟨#[10]⟩ w hc hb (by omega) hcap (by show (Lib.join ((init ++ [(⟨#[]⟩ : ByteArray)]).map (·.data.toList)) [10]).length ≤ _; omega))
    have eJ : (Lib.join ((init ++ [(⟨#[]⟩ : ByteArray)]).map (·.data.toList)) (⟨#[10]⟩ : ByteArray).data.toList) = Lib.join ((init ++ [(⟨#[]⟩ : ByteArray)]).map (·.data.toList)) [10] := rfl
    rw [eJ, hwl] at HJ
    clear eJ hw1
    generalize (⟨(Lib.join ((init ++ [(⟨#[]⟩ : ByteArray)]).map (·.data.toList)) [10]).toArray⟩ : ByteArray) = J at *
    have hsum : ∀ (k : Nat) (hk : k < init.length), 0 < k → ∃ (a : ByteArray), a.size ≤ 600 ∧ init[k].size ≤ 600 ∧ (init ++ [(⟨#[]⟩ : ByteArray)])[k - 1]? = some a ∧ dense (init.take (k + 1)) = dense (init.take k) ++ spaceS a init[k] ++ init[k] := by
      intro k hk h0
      obtain ⟨j, rfl⟩ : ∃ j, k = j + 1 := ⟨k - 1, by omega⟩
      refine ⟨init[j], has_ _ (List.getElem_mem _), has_ _ (List.getElem_mem _), ?_, dense_step init j hk⟩
      simp only [Nat.add_sub_cancel]
      exact hget j (by omega)
    have hfirst : ∀ (k : Nat) (hk : k < init.length), k = 0 → dense (init.take (k + 1)) = dense (init.take k) ++ init[k] := by
      intro k hk h0
      subst h0
      exact dense_first init 0 hk
    have HSUM := Lib.hid hsum
    have HFIRST := Lib.hid hfirst
    have HGET := Lib.hid hget
    have HDF := Lib.hid hdf
    clear hsum hfirst hget hjl hds e0 has_ hfit hsc hdf
    -- what both texts are for
    have both : ∀ (k : Nat) (hk : k < 2), ([J, dense init][k]).size ≤ 4096 ∧ words ([J, dense init][k]) (scan ([J, dense init][k]).data.toList) = init ++ [⟨#[]⟩] := by
      intro k hk
      match k, hk with
      | 0, _ => exact ⟨by show J.size ≤ 4096; omega, hw1'⟩
      | 1, _ => exact ⟨by show (dense init).size ≤ 4096; omega, hw2⟩
    have HB := Lib.hid both
    clear both hw1' hw2 hjs hd1
    have hn1 : (0 : Int) ≤ ((init.length + 1 : Nat) : Int) - 1 := by omega
    have hn2 : (((init.length + 1 : Nat) : Int) - 1).toNat = init.length := by omega
    have HWL := Lib.hid hwl
    clear hwl
    generalize hW : init ++ [(⟨#[]⟩ : ByteArray)] = ws at *
    clear hW
    go_enter Try.func7, Try.ntmps7
    go_wp2_with (fail)
    refine H1.out.mono ?_
    rintro e w1 ⟨A1, c1, rfl, ht1, hb1⟩
    have T1 := Lib.hid ht1
    have B1 := Lib.hid hb1
    have z1 := hb1.size
    clear ht1 hb1
    go_wp2_with (fail)
    refine (H2.out _ _ _ T1.out).mono ?_
    rintro e w2 ⟨g, cap, rfl, hcap1, hcap2, hst, hb2⟩
    have S2 := Lib.hid hst
    have B2 := Lib.hid (B1.out.trans (hb2.mono z1))
    have z2 := B2.out.size
    clear hst hb2
    go_wp2_with (fail)
    go_loopw [6, 43] (fun d i wr => ∃ k : Nat, k ≤ init.length ∧ i = .int .i64 (k : Int) ∧ d = .string (dense (init.take k)) ∧ Hid (StrA wr (some ⟨g, 0, none⟩) ws) ∧ Hid (Below w.heap.size w wr)) (fun _ i _ => init.length - (intOf i).toNat)
    case atStart => exact ⟨0, Nat.zero_le _, rfl, rfl, S2, B2⟩
    case round =>
      obtain ⟨k, hk, rfl, rfl, hS, hbw⟩ := hrel
      have hbz := hbw.out.size
      by_cases hlt : k < init.length
      · have ck := str_at hS.out k _ (HGET.out k hlt)
        by_cases h0 : k = 0
        · have HD := Lib.hid (HFIRST.out k hlt h0)
          have hk0 : decide ((0 : Int) < (k : Int)) = false := decide_eq_false (by omega)
          have hk1 : decide (0 < k) = false := decide_eq_false (by omega)
          have hk2 : ¬ 0 < k := by omega
          have hDs := HDS.out k
          have hxs := HA.out _ (List.getElem_mem hlt)
          clear h0
          generalize init[k] = x at *
          generalize dense (init.take k) = D at *
          go_wp2_with (fail)
          exact ⟨⟨k + 1, by omega, by go_num, by rw [HD.out], hS, hbw⟩, by simp [intOf]; omega⟩
        · obtain ⟨a, ha1, ha2, ha3, hd⟩ := HSUM.out k hlt (by omega)
          have cp := str_at hS.out (k - 1) a ha3
          have HD := Lib.hid hd
          have hkk : (0 : Int) < (k : Int) := by omega
          have hk1 : ((k : Int) - 1).toNat = k - 1 := by omega
          have hDs := HDS.out k
          generalize init[k] = x at *
          generalize dense (init.take k) = D at *
          have HX := Lib.hid (fun w => space_any a x w (by omega) (by omega))
          have hsp := space_size a x
          have hsz : (D ++ spaceS a x).size ≤ 1201 := by rw [ByteArray.size_append]; omega
          generalize spaceS a x = sp at *
          clear hd ha3
          go_wp2_with (fail)
          refine (HX.out _).mono ?_
          rintro e w3 ⟨rfl, hb3⟩
          have S3 := Lib.hid (hS.out.below hb3)
          have B3 := Lib.hid (hbw.out.trans (hb3.mono hbz))
          clear hb3
          go_wp2_with (fail)
          exact ⟨⟨k + 1, by omega, by go_num, by rw [HD.out], S3, B3⟩, by simp [intOf]; omega⟩
      · obtain rfl : k = init.length := by omega
        rw [HDF.out]
        have hgl := str_lt hS.out (by have := HWL.out; omega)
        have HC := Lib.hid (fun (j : Nat) (x : ByteArray) (hx : ws[j]? = some x) => show wr.cell? ⟨g, 0 + j, none⟩ = some (.string x) by rw [Nat.zero_add]; exact str_at hS.out j x hx)
        generalize dense init = D at *
        go_wp2_with (fail)
        refine (HJ.out g cap wr HC.out hgl hcap1).mono ?_
        rintro e w3 ⟨rfl, hb3⟩
        have S3 := Lib.hid (hS.out.below hb3)
        have B3 := Lib.hid (hbw.out.trans (hb3.mono hbz))
        have z3 := B3.out.size
        have B3a := Lib.hid (B3.out.alloc z3 (.cells #[.string J, .string D] 9))
        have S3a := Lib.hid (S3.out.below ((Below.refl _ _).alloc (Nat.le_refl _) (.cells #[.string J, .string D] 9)))
        have L3 := Lib.hid (lit_strs w3 [J, D] 9)
        clear hb3 hgl
        go_wp2_with (fail)
        obtain ⟨wo, rfl⟩ : ∃ wo : World, wo = wr := ⟨_, rfl⟩
        go_loopw [68] (fun i wr => ∃ k : Nat, k ≤ 2 ∧ i = .int .i64 (k : Int) ∧ Hid (StrA wr (some ⟨w3.heap.size, 0, none⟩) [J, D]) ∧ Hid (StrA wr (some ⟨g, 0, none⟩) ws) ∧ Hid (Below w.heap.size w wr)) (fun i _ => 2 - (intOf i).toNat)
        case atStart => exact ⟨0, by omega, rfl, L3, S3a, B3a⟩
        case round =>
          obtain ⟨k, hk, rfl, hL, hS, hbw⟩ := hrel
          have hbz := hbw.out.size
          by_cases hlt : k < 2
          · obtain ⟨hq1, hq2⟩ := HB.out k hlt
            have ct := str_at hL.out k _ (List.getElem?_eq_getElem hlt)
            have hkk : (k : Int) < 2 := by omega
            generalize [J, D][k] = t at *
            have hlen := scan_length t.data.toList
            have htl : t.data.toList.length = t.size := by simp
            rw [htl] at hlen
            have K1 := Lib.hid (fun w => scan_any t w hq1)
            have K2 := Lib.hid (fun A c w ht => words_any t A c (scan t.data.toList) w (by omega) (by omega) ht)
            have K3 := Lib.hid (fun A B c d w h1 h2 => texts_any A B c d ws w (by have := HWL.out; omega) h1 h2)
            rw [hq2, HWL.out] at K2
            rw [HWL.out] at K3
            clear hq2 htl
            generalize scan t.data.toList = l at *
            go_wp2_with (fail)
            refine (K1.out _).mono ?_
            rintro e w4 ⟨A4, c4, rfl, ht4, hb4⟩
            have T4 := Lib.hid ht4
            have L4 := Lib.hid (hL.out.below hb4)
            have S4 := Lib.hid (hS.out.below hb4)
            have B4 := Lib.hid (hbw.out.trans (hb4.mono hbz))
            have z4 := B4.out.size
            clear ht4 hb4
            go_wp2_with (fail)
            refine (K2.out _ _ _ T4.out).mono ?_
            rintro e w5 ⟨A5, c5, rfl, hs5, hb5⟩
            have R5 := Lib.hid hs5
            have L5 := Lib.hid (L4.out.below hb5)
            have S5 := Lib.hid (S4.out.below hb5)
            have B5 := Lib.hid (B4.out.trans (hb5.mono z4))
            have z5 := B5.out.size
            clear hs5 hb5
            go_wp2_with (fail)
            refine (K3.out _ _ _ _ _ R5.out S5.out).mono ?_
            rintro e w6 ⟨rfl, n6, rfl⟩
            have L6 := Lib.hid (L5.out.below (below_drewN (Below.refl _ _) n6))
            have S6 := Lib.hid (S5.out.below (below_drewN (Below.refl _ _) n6))
            have B6 := Lib.hid (below_drewN B5.out n6)
            go_wp2_with (fail)
            exact ⟨⟨k + 1, by omega, by go_num, L6, S6, B6⟩, by simp [intOf]; omega⟩
          · go_wp2_with (fail)
            refine (awake_any _).mono ?_
            rintro e w4 ⟨rfl, hb⟩
            have B4 := Lib.hid (hbw.out.trans (hb.mono hbz))
            clear hb
            go_wp2_with (fail)
            go_ret
            exact ⟨rfl, B4.out⟩
end Go.Proofs.Ytgihfnnffailiab
