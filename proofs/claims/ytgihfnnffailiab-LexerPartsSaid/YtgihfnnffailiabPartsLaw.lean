/- What is proved: the law LexerParts answers true, whatever the two texts. -/
import Derived.Test.YtgihfnnffailiabTokensLaw
import Derived.Test.YtgihfnnffailiabLossless
import Derived.Test.YtgihfnnffailiabPartsPlain
set_option linter.unusedVariables false
namespace Go.Proofs.Ytgihfnnffailiab
open Go.RowKit

/-- Z: the tokens X without the last, then the tokens Y, n + 1 bytes on -/
def PartsRel (X Y Z : List Tok) (n : Nat) : Prop := Z.length + 1 = X.length + Y.length
    ∧ (∀ (k : Nat) (h1 : k < Z.length) (h2 : k + 1 < X.length), Z[k] = X[k])
    ∧ (∀ (k j : Nat) (h1 : k < Z.length) (h2 : j < Y.length), k + 1 = X.length + j → Z[k].kind = Y[j].kind ∧ Z[k].at_ = Y[j].at_ + n + 1 ∧ Z[k].hi = Y[j].hi + n + 1)

theorem parts_facts (a b : ByteArray) : PartsRel (scan a.data.toList) (scan b.data.toList) (scan ((a ++ ⟨#[10]⟩ ++ b).data.toList)) a.size := by
  have e : (a ++ ⟨#[10]⟩ ++ b).data.toList = a.data.toList ++ 10 :: b.data.toList := by simp [ByteArray.data_append]
  obtain ⟨z, hz, hl, hF⟩ := scan_parts a.data.toList b.data.toList
  have hp : 0 < (scan a.data.toList).length := List.length_pos_iff.2 (scan_ne _)
  have hs : a.data.toList.length = a.size := by simp
  unfold PartsRel
  rw [← e] at hz
  rw [hs] at hF
  clear e
  revert hF hl hz hp
  generalize scan (a ++ ⟨#[10]⟩ ++ b).data.toList = Z
  generalize scan a.data.toList = X
  generalize scan b.data.toList = Y
  intro hz hl hF hp
  subst hz
  have hd : X.dropLast.length = X.length - 1 := by simp
  refine ⟨by simp; omega, ?_, ?_⟩
  · intro k h1 h2
    rw [List.getElem_append_left (by omega)]
    simp
  · intro k j h1 h2 h3
    rw [List.getElem_append_right (by omega)]
    have := hF j (by omega) h2
    simp only [hd, show k - (X.length - 1) = j from by omega]
    refine ⟨this.1, ?_, ?_⟩
    · rw [this.2.1]; omega
    · rw [this.2.2]; omega

set_option maxRecDepth 100000 in
set_option maxHeartbeats 1000000 in
theorem parts_law (a b : ByteArray) (w : World) :
    Calls Try.prog 8 #[.string a, .string b] w fun e w' => e = .returned (.bool true) ∧ Below w.heap.size w w' := by
  by_cases h : 300 < a.size
  · go_enter Try.func8, Try.ntmps8
    go_wp2_with (fail)
    refine (awake_any _).mono ?_
    rintro e w1 ⟨rfl, hb⟩
    go_wp2_with (fail)
    go_ret
    exact ⟨rfl, hb⟩
  · by_cases h' : 300 < b.size
    · go_enter Try.func8, Try.ntmps8
      go_wp2_with (fail)
      refine (awake_any _).mono ?_
      rintro e w1 ⟨rfl, hb⟩
      go_wp2_with (fail)
      go_ret
      exact ⟨rfl, hb⟩
    · have hsz : (a ++ ⟨#[10]⟩ ++ b).size = a.size + 1 + b.size := by rw [ByteArray.size_append, ByteArray.size_append]; rfl
      have ha := scan_length a.data.toList
      have hb := scan_length b.data.toList
      rw [show a.data.toList.length = a.size from by simp] at ha
      rw [show b.data.toList.length = b.size from by simp] at hb
      have h1 : 0 < (scan a.data.toList).length := List.length_pos_iff.2 (scan_ne _)
      have h2 : 0 < (scan b.data.toList).length := List.length_pos_iff.2 (scan_ne _)
      have hpf := parts_facts a b
      have H1 := Lib.hid (fun w => scan_any a w (by omega))
      have H2 := Lib.hid (fun w => scan_any b w (by omega))
      have H3 := Lib.hid (fun w => scan_any (a ++ ⟨#[10]⟩ ++ b) w (by omega))
      have hbh : ∀ (y : Tok), y ∈ scan b.data.toList → 0 ≤ y.at_ ∧ y.at_ ≤ b.size ∧ 0 ≤ y.hi ∧ y.hi ≤ b.size := by
        intro y hy
        have c := chain_ok _ _ _ (scan_chain b.data.toList)
        rw [List.all_eq_true] at c
        have d := (okTok_iff _ _).1 (c y hy)
        rw [show ((b.data.toList.length : Nat) : Int) = (b.size : Int) from by simp] at d
        omega
      generalize scan a.data.toList = X at *
      generalize scan b.data.toList = Y at *
      generalize scan (a ++ ⟨#[10]⟩ ++ b).data.toList = Z at *
      obtain ⟨f1, f2, f3⟩ := hpf
      have F2 := Lib.hid f2
      have F3 := Lib.hid f3
      have HY := Lib.hid hbh
      have hX0 : ((X.length : Int) == 0) = false := beq_eq_false_iff_ne.2 (by omega)
      have hZ0 : ((Z.length : Int) == (X.length : Int) - 1 + (Y.length : Int)) = true := beq_iff_eq.2 (by omega)
      clear f2 f3 hbh hsz
      go_enter Try.func8, Try.ntmps8
      go_wp2_with (fail)
      refine (H1.out _).mono ?_
      rintro e w1 ⟨A1, c1, rfl, ht1, hb1⟩
      have T1 := Lib.hid ht1
      have B1 := Lib.hid hb1
      have z1 := hb1.size
      clear ht1 hb1
      go_wp2_with (fail)
      refine (H2.out _).mono ?_
      rintro e w2 ⟨A2, c2, rfl, ht2, hb2⟩
      have T2 := Lib.hid ht2
      have U1 := Lib.hid (T1.out.below hb2)
      have B2 := Lib.hid (B1.out.trans (hb2.mono z1))
      have z2 := B2.out.size
      clear ht2 hb2
      go_wp2_with (fail)
      refine (H3.out _).mono ?_
      rintro e w3 ⟨A3, c3, rfl, ht3, hb3⟩
      have T3 := Lib.hid ht3
      have V1 := Lib.hid (U1.out.below hb3)
      have V2 := Lib.hid (T2.out.below hb3)
      have B3 := Lib.hid (B2.out.trans (hb3.mono z2))
      have z3 := B3.out.size
      clear ht3 hb3
      go_wp2_with (fail)
      go_loopw [69] (fun y wr => ∃ k : Nat, k ≤ Z.length ∧ y = .int .i64 (k : Int) ∧ Hid (TokA wr A1 X) ∧ Hid (TokA wr A2 Y) ∧ Hid (TokA wr A3 Z) ∧ Hid (Below w.heap.size w wr)) (fun y _ => Z.length - (intOf y).toNat)
      case atStart => exact ⟨0, Nat.zero_le _, rfl, V1, V2, T3, B3⟩
      case round =>
        obtain ⟨k, hk, rfl, hX, hY, hZ, hbw⟩ := hrel
        have hbz := hbw.out.size
        by_cases hlt : k < Z.length
        · obtain ⟨bz, oz, rfl, hbz', rz⟩ := hZ.out (by omega)
          obtain ⟨x1, x2, x3, x4⟩ := rz k hlt
          by_cases hp : k + 1 < X.length
          · have heq := F2.out k hlt hp
            obtain ⟨bx, ox, rfl, hbx, rx⟩ := hX.out (by omega)
            obtain ⟨y1, y2, y3, y4⟩ := rx k (by omega)
            have hkk : (k : Int) < (X.length : Int) := by omega
            have hkp : (k : Int) < (X.length : Int) - 1 := by omega
            clear rz rx
            rw [heq] at x1 x2 x3 x4
            generalize X[k] = t at *
            clear heq
            have BB := Lib.hid ((Below.refl wr.heap.size wr).alloc (Nat.le_refl _) (.cells #[.int .i64 t.kind, .int .i64 t.lo, .int .i64 t.at_, .int .i64 t.hi] 39))
            go_wp2_with (fail)
            go_quiet (fail)
            go_wp2_with (fail)
            refine ⟨⟨k + 1, by omega, by go_num, ?_, ?_, ?_, ?_⟩, by simp [intOf]; omega⟩
            · exact hX.out.below (below_drewN BB.out _)
            · exact hY.out.below (below_drewN BB.out _)
            · exact hZ.out.below (below_drewN BB.out _)
            · exact hbw.out.trans ((below_drewN BB.out _).mono hbz)
          · obtain ⟨j, hj⟩ : ∃ j, k + 1 = X.length + j := ⟨k + 1 - X.length, by omega⟩
            have hjl : j < Y.length := by omega
            obtain ⟨g1, g2, g3⟩ := F3.out k j hlt hjl hj
            obtain ⟨by_, oy, rfl, hby, ry⟩ := hY.out (by omega)
            obtain ⟨y1, y2, y3, y4⟩ := ry j hjl
            obtain ⟨m1, m2, m3, m4⟩ := HY.out Y[j] (List.getElem_mem _)
            have hkp : ¬ ((k : Int) < (X.length : Int) - 1) := by omega
            rw [g1] at x1
            rw [g2] at x3
            rw [g3] at x4
            clear rz ry g1 g2 g3
            generalize Y[j] = t at *
            generalize Z[k].lo = zl at *
            have hjj : j = ((k : Int) - (X.length : Int) + 1).toNat := by omega
            have hj1 : (0 : Int) ≤ (k : Int) - (X.length : Int) + 1 := by omega
            have hj2 : (k : Int) - (X.length : Int) + 1 < (Y.length : Int) := by omega
            rw [hjj] at y1 y2 y3 y4
            clear hjj
            have BB := Lib.hid (((Below.refl wr.heap.size wr).alloc (Nat.le_refl _) (.cells #[.int .i64 t.kind, .int .i64 zl, .int .i64 (t.at_ + (a.size : Int) + 1), .int .i64 (t.hi + (a.size : Int) + 1)] 39)).alloc (by simp) (.cells #[.int .i64 t.kind, .int .i64 t.lo, .int .i64 t.at_, .int .i64 t.hi] 39))
            go_wp2_with (fail)
            refine ⟨⟨k + 1, by omega, by go_num, ?_, ?_, ?_, ?_⟩, by simp [intOf]; omega⟩
            · exact hX.out.below BB.out
            · exact hY.out.below BB.out
            · exact hZ.out.below BB.out
            · exact hbw.out.trans (BB.out.mono hbz)
        · go_wp2_with (fail)
          refine (awake_any _).mono ?_
          rintro e w4 ⟨rfl, hb⟩
          have B4 := Lib.hid (hbw.out.trans (hb.mono hbz))
          clear hb
          go_wp2_with (fail)
          go_ret
          exact ⟨rfl, B4.out⟩
end Go.Proofs.Ytgihfnnffailiab
