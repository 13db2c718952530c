/- What is proved: the law LexerLossless answers true, whatever the text. -/
import Derived.Test.YtgihfnnffailiabJoin
import Derived.Test.YtgihfnnffailiabTokensLaw
set_option linter.unusedVariables false
namespace Go.Proofs.Ytgihfnnffailiab
open Go.RowKit

/-- tokens that follow one another from a place to the end -/
def chain (n : Nat) : Nat → List Tok → Prop
  | i, [] => i = n
  | i, t :: ts => t.lo = i ∧ (i : Int) ≤ t.at_ ∧ t.at_ ≤ t.hi ∧ t.hi ≤ n ∧ (t.kind = 5 ↔ ts = []) ∧ (t.at_ = t.hi ↔ ts = []) ∧ chain n t.hi.toNat ts

theorem scanTo_ne (l : List UInt8) (f i : Nat) (h : 0 < f) : scanTo l f i ≠ [] := by
  cases f with
  | zero => omega
  | succ f => rw [scanTo_step]; simp
theorem scanTo_chain (l : List UInt8) : ∀ f i, i ≤ l.length → l.length - i < f → chain l.length i (scanTo l f i) := by
  intro f
  induction f with
  | zero => intro i h1 h2; omega
  | succ f ih =>
    intro i hi hf
    rw [scanTo_step]
    have a := nextTok_bd l i hi
    have b := nextTok_end l i hi
    have c : (nextTok l i).at_ = (blank l i : Nat) := rfl
    have d := blank_bd l i hi
    split
    · rename_i h
      have e := b.1 h
      have z : (nextTok l i).hi = (l.length : Int) := by omega
      refine ⟨a.2.2.2.2.2, a.1, a.2.1, a.2.2.1, by simp [h], ?_, ?_⟩
      · simp
        omega
      · show (nextTok l i).hi.toNat = l.length
        omega
    · rename_i h
      have m := nextTok_more l i hi h
      have ne := scanTo_ne l f (nextTok l i).hi.toNat (by omega)
      refine ⟨a.2.2.2.2.2, a.1, a.2.1, a.2.2.1, ?_, ?_, ih _ (by omega) (by omega)⟩
      · exact ⟨fun e => absurd e h, fun e => absurd e ne⟩
      · exact ⟨fun e => by omega, fun e => absurd e ne⟩
theorem scan_chain (l : List UInt8) : chain l.length 0 (scan l) := scanTo_chain l _ 0 (Nat.zero_le _) (by omega)
theorem scan_ne (l : List UInt8) : scan l ≠ [] := scanTo_ne l _ 0 (by omega)

theorem chain_ok (n : Nat) : ∀ (ts : List Tok) (i : Nat), chain n i ts → ts.all (okTok n) = true := by
  intro ts
  induction ts with
  | nil => intro i _; rfl
  | cons t ts ih =>
    rintro i ⟨h1, h2, h3, h4, _, _, h7⟩
    rw [List.all_cons, ih _ h7, Bool.and_true]
    exact (okTok_iff _ _).2 ⟨by omega, by omega, h3, h4⟩
theorem cut_join (l : List UInt8) (i j : Nat) (h : i ≤ j) : (l.take j).drop i ++ l.drop j = l.drop i := by
  rw [List.drop_take]
  have e : l.drop j = (l.drop i).drop (j - i) := by rw [List.drop_drop]; congr 1; omega
  rw [e, List.take_append_drop]
theorem chain_join (l : List UInt8) : ∀ (ts : List Tok) (i : Nat), i ≤ l.length → chain l.length i ts → joinL l ts = l.drop i := by
  intro ts
  induction ts with
  | nil =>
    intro i hi h
    have h' : i = l.length := h
    rw [h', List.drop_length]
    rfl
  | cons t ts ih =>
    rintro i hi ⟨h1, h2, h3, h4, _, _, h7⟩
    have e := ih _ (by omega) h7
    unfold joinL at e ⊢
    rw [List.flatMap_cons, e]
    unfold part
    rw [h1, Int.toNat_natCast]
    exact cut_join l i _ (by omega)
theorem scan_fit (s : ByteArray) (h : s.size ≤ 4096) : fitB s.size (scan s.data.toList) = true := by
  have hl : s.data.toList.length = s.size := by simp
  have a := chain_ok _ _ _ (scan_chain s.data.toList)
  have b := scan_length s.data.toList
  unfold fitB
  rw [hl] at a b
  rw [a, decide_eq_true (show (scan s.data.toList).length ≤ 4097 by omega)]
  rfl
theorem scan_join (s : ByteArray) (h : s.size ≤ 4096) : joinS s (scan s.data.toList) = s := by
  unfold joinS
  rw [scan_fit s h, if_pos rfl, chain_join s.data.toList _ 0 (Nat.zero_le _) (scan_chain _)]
  rfl
theorem chain_get (n : Nat) (l : List Tok) (k i : Nat) (hk : k < l.length) (h : chain n i (l.drop k)) : l[k].lo = i ∧ (i : Int) ≤ l[k].at_ ∧ l[k].at_ ≤ l[k].hi ∧ l[k].hi ≤ n ∧ (l[k].kind = 5 ↔ k + 1 = l.length) ∧ (l[k].at_ = l[k].hi ↔ k + 1 = l.length) ∧ chain n l[k].hi.toNat (l.drop (k + 1)) := by
  rw [List.drop_eq_getElem_cons hk] at h
  obtain ⟨h1, h2, h3, h4, h5, h6, h7⟩ := h
  have e : (l.drop (k + 1) = []) ↔ k + 1 = l.length := by
    rw [List.drop_eq_nil_iff]
    omega
  exact ⟨h1, h2, h3, h4, h5.trans e, h6.trans e, h7⟩
theorem chain_out (n : Nat) (l : List Tok) (k i : Nat) (hk : ¬ k < l.length) (h : chain n i (l.drop k)) : i = n := by
  rw [List.drop_of_length_le (by omega)] at h
  exact h

set_option maxHeartbeats 1000000 in
theorem lossless_law (s : ByteArray) (w : World) :
    Calls Try.prog 6 #[.string s] w fun e w' => e = .returned (.bool true) ∧ Below w.heap.size w w' := by
  by_cases h : 600 < s.size
  · go_enter Try.func6, Try.ntmps6
    go_wp2_with (fail)
    refine (awake_any _).mono ?_
    rintro e w1 ⟨rfl, hb⟩
    go_wp2_with (fail)
    go_ret
    exact ⟨rfl, hb⟩
  · have hlen := scan_length s.data.toList
    have hll : s.data.toList.length = s.size := by simp
    have HC0 := Lib.hid (scan_chain s.data.toList)
    have hne := scan_ne s.data.toList
    have hj := scan_join s (by omega)
    have H1 := Lib.hid (scan_any s w (by omega))
    rw [hll] at hlen HC0
    clear hll
    generalize scan s.data.toList = l at *
    have hpos : 0 < l.length := List.length_pos_iff.2 hne
    have HJ := Lib.hid (fun A c w ht => join_any s A c l w (by omega) (by omega) ht)
    rw [hj] at HJ
    have hss : (s.toList != s.toList) = false := by simp
    have hl0 : ((l.length : Int) == 0) = false := by simp; omega
    clear hne hj
    go_enter Try.func6, Try.ntmps6
    go_wp2_with (fail)
    refine H1.out.mono ?_
    rintro e w1 ⟨A, c, rfl, ht, hb⟩
    have T1 := Lib.hid ht
    have B1 := Lib.hid hb
    have z1 := hb.size
    clear ht hb
    go_wp2_with (fail)
    refine (HJ.out A c w1 T1.out).mono ?_
    rintro e w2 ⟨rfl, hb⟩
    have T2 := Lib.hid (T1.out.below hb)
    have B2 := Lib.hid (B1.out.trans (hb.mono z1))
    have z2 := B2.out.size
    clear hb
    go_wp2_with (fail)
    go_loopw [5, 34] (fun x y wr => ∃ k i : Nat, k ≤ l.length ∧ y = .int .i64 (k : Int) ∧ x = .int .i64 (i : Int) ∧ Hid (chain s.size i (l.drop k)) ∧ Hid (TokA wr A l) ∧ Hid (Below w.heap.size w wr)) (fun _ y _ => l.length - (intOf y).toNat)
    case atStart => exact ⟨0, 0, Nat.zero_le _, rfl, rfl, HC0.out, T2.out, B2.out⟩
    case round =>
      obtain ⟨k, i, hk, rfl, rfl, hch, hT, hbw⟩ := hrel
      have hbz := hbw.out.size
      by_cases hlt : k < l.length
      · obtain ⟨b, off, rfl, hb, hr⟩ := hT.out (by omega)
        obtain ⟨c1, c2, c3, c4⟩ := hr k hlt
        obtain ⟨g1, g2, g3, g4, g5, g6, g7⟩ := chain_get _ _ _ _ hlt hch.out
        clear hr
        generalize l[k] = t at *
        obtain ⟨kd, lo, ta, th⟩ := t
        simp only at c1 c2 c3 c4 g1 g2 g3 g4 g5 g6 g7
        subst g1
        obtain ⟨q, rfl⟩ := Int.eq_ofNat_of_zero_le (show 0 ≤ th by omega)
        rw [Int.toNat_natCast] at g7
        have HN := Lib.hid g7
        have hT2 := Lib.hid (hT.out.below ((Below.refl wr.heap.size wr).alloc (Nat.le_refl _) (.cells #[.int .i64 kd, .int .i64 (i : Int), .int .i64 ta, .int .i64 (q : Int)] 39)))
        have hB2 := Lib.hid (hbw.out.alloc hbz (.cells #[.int .i64 kd, .int .i64 (i : Int), .int .i64 ta, .int .i64 (q : Int)] 39))
        clear g7
        by_cases hla : k + 1 = l.length
        · have e1 : (kd == 5) = true := by simpa using g5.2 hla
          have e2 : (ta == (q : Int)) = true := by simpa using g6.2 hla
          have e3 : ((k : Int) == (l.length : Int) - 1) = true := by simp; omega
          clear g5 g6
          go_wp2_with (fail)
          exact ⟨⟨k + 1, q, by omega, by go_num, rfl, HN, hT2, hB2⟩, by simp [intOf]; omega⟩
        · have e1 : (kd == 5) = false := by
            have := fun e => hla (g5.1 e)
            simpa using this
          have e2 : (ta == (q : Int)) = false := by
            have := fun e => hla (g6.1 e)
            simpa using this
          have e3 : ((k : Int) == (l.length : Int) - 1) = false := by simp; omega
          clear g5 g6
          go_wp2_with (fail)
          exact ⟨⟨k + 1, q, by omega, by go_num, rfl, HN, hT2, hB2⟩, by simp [intOf]; omega⟩
      · have e := chain_out _ _ _ _ hlt hch.out
        subst e
        go_wp2_with (fail)
        refine (awake_any _).mono ?_
        rintro e w4 ⟨rfl, hb⟩
        have B4 := Lib.hid (hbw.out.trans (hb.mono hbz))
        clear hb
        go_wp2_with (fail)
        go_ret
        exact ⟨rfl, B4.out⟩
end Go.Proofs.Ytgihfnnffailiab
