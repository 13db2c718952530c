/- What is proved: the law LexerTokens answers true, whatever the text. -/
import Derived.Test.YtgihfnnffailiabRefToks
set_option linter.unusedVariables false
namespace Go.Proofs.Ytgihfnnffailiab
open Go.RowKit

theorem scanTo_length (l : List UInt8) : ∀ f i, i ≤ l.length → (scanTo l f i).length ≤ l.length - i + 1 := by
  intro f
  induction f with
  | zero => intro i _; simp [scanTo]
  | succ f ih =>
    intro i hi
    rw [scanTo_step]
    split
    · simp
    · rename_i h
      have a := nextTok_bd l i hi
      have b := nextTok_more l i hi h
      have c := blank_bd l i hi
      have := ih (nextTok l i).hi.toNat (by omega)
      rw [List.length_cons]
      omega
theorem scan_length (l : List UInt8) : (scan l).length ≤ l.length + 1 := by
  have := scanTo_length l (l.length + 1) 0 (Nat.zero_le _)
  unfold scan
  omega

set_option maxHeartbeats 400000 in
theorem tokens_law (s : ByteArray) (w : World) :
    Calls Try.prog 3 #[.string s] w fun e w' => e = .returned (.bool true) ∧ Below w.heap.size w w' := by
  by_cases h : 600 < s.size
  · go_enter Try.func3, Try.ntmps3
    go_wp2_with (fail)
    refine (awake_any _).mono ?_
    rintro e w1 ⟨rfl, hb⟩
    go_wp2_with (fail)
    go_ret
    exact ⟨rfl, hb⟩
  · have hlen := scan_length s.data.toList
    have hll : s.data.toList.length = s.size := by simp
    have H1 := Lib.hid (scan_any s w (by omega))
    have H2 := Lib.hid (fun w => r_scan_any s w (by omega))
    rw [hll] at hlen
    clear hll
    generalize scan s.data.toList = l at *
    go_enter Try.func3, Try.ntmps3
    go_wp2_with (fail)
    refine H1.out.mono ?_
    rintro e w1 ⟨A, c, rfl, ht, hb⟩
    have T1 := Lib.hid ht
    have B1 := Lib.hid hb
    have z1 := hb.size
    clear ht hb
    go_wp2_with (fail)
    refine (H2.out _).mono ?_
    rintro e w2 ⟨A', c', rfl, ht, hb⟩
    have T2 := Lib.hid ht
    have T1' := Lib.hid (T1.out.below hb)
    have B2 := Lib.hid (B1.out.trans (hb.mono z1))
    have z2 := B2.out.size
    clear ht hb
    go_wp2_with (fail)
    refine (same_any A A' c c' l _ (by omega) T1'.out T2.out).mono ?_
    rintro e w3 ⟨rfl, n, rfl⟩
    have B3 := Lib.hid (below_drewN B2.out n)
    go_wp2_with (fail)
    refine (awake_any _).mono ?_
    rintro e w4 ⟨rfl, hb⟩
    have B4 := Lib.hid (B3.out.trans (hb.mono (by simp; omega)))
    clear hb
    go_wp2_with (fail)
    go_ret
    exact ⟨rfl, B4.out⟩
end Go.Proofs.Ytgihfnnffailiab
