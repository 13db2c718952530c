/- What is proved: the law ValueOperators, over the example's contract. -/
import Derived.Test.YtlndlipicbkhiaaDoorVaAwake
import Derived.Test.YtlndlipicbkhiaaDoorVaRing
import Derived.Test.YtlndlipicbkhiaaDoorVaRBin2
import Derived.Test.YtlndlipicbkhiaaDoorVaRUn
set_option linter.unusedVariables false
namespace Go.Proofs.YtlndlipicbkhiaaDoor
open Go.RowKit

set_option maxRecDepth 100000 in
set_option maxHeartbeats 8000000 in
theorem law_ops (W : Int) (s : ByteArray) (a b : Int) (w : World) (hW : (Lit.int .i64 W).wf = true) (hs : s.size ≤ maxLen) (ha : (Lit.int .i64 a).wf = true) : Calls Tryd.prog 3 #[.int .i64 W, .string s, .int .i64 a, .int .i64 b] w fun e w' => e = .returned (.bool true) ∧ Below w.heap.size w w' := by
  have hWb := wf_int hW
  have hab := wf_int ha
  have hWW : IntKind.i64.wrap W = W := by simp [IntKind.wrap, IntKind.bits, IntKind.signed]; omega
  have HA := Lib.hid (fun W => va_awake W)
  have HB := Lib.hid (fun w => binary_any W a b s hWW hs w)
  have HRB := Lib.hid (fun w => r_binary_any W a b s w)
  have HU := Lib.hid (fun w => unary_any W a s hWW hs w)
  have HRU := Lib.hid (fun w => r_unary_any W a hab s w)
  have HW := Lib.hid (fun w => wrap_any W a hWW w)
  have HRW := Lib.hid (fun w => r_wrap_any W a hab w)
  have HL := Lib.hid (fun w => least_any W hWW w)
  have HRL := Lib.hid (fun w => r_least_any W w)
  have HG := Lib.hid (fun w => greatest_any W hWW w)
  have HRG := Lib.hid (fun w => r_greatest_any W w)
  generalize wrpP W a = x1 at *
  generalize loP W = x2 at *
  generalize hiP W = x3 at *
  generalize binP W (opN s.data.toList) a b = r at *
  generalize unP W (unN s.data.toList) a = u at *
  obtain ⟨r1, r2, r3⟩ := r
  obtain ⟨u1, u2⟩ := u
  rw [show binV (r1, r2, r3) = .tuple #[.int .i64 r1, .int .i64 r2, .int .i64 r3] from rfl] at HB HRB
  rw [show unV (u1, u2) = .tuple #[.int .i64 u1, .int .i64 u2] from rfl] at HU HRU
  clear hW hs ha hWb hab hWW
  go_enter Tryd.func3, Tryd.ntmps3
  go_wp2_with (fail)
  refine (HB.out _).mono ?_
  rintro e w1 ⟨rfl, hb⟩
  have B1 := Lib.hid (hb)
  clear hb
  go_wp2_with (fail)
  refine (HRB.out _).mono ?_
  rintro e w2 ⟨rfl, hb⟩
  have B2 := Lib.hid (B1.out.trans (hb.mono B1.out.size))
  clear hb
  go_wp2_with (fail)
  refine (HU.out _).mono ?_
  rintro e w3 ⟨rfl, hb⟩
  have B3 := Lib.hid (B2.out.trans (hb.mono B2.out.size))
  clear hb
  go_wp2_with (fail)
  refine (HRU.out _).mono ?_
  rintro e w4 ⟨rfl, rfl⟩
  go_wp2_with (fail)
  refine (HW.out _).mono ?_
  rintro e w5 ⟨rfl, rfl⟩
  go_wp2_with (fail)
  refine (HRW.out _).mono ?_
  rintro e w6 ⟨rfl, rfl⟩
  go_wp2_with (fail)
  refine (HL.out _).mono ?_
  rintro e w7 ⟨rfl, rfl⟩
  go_wp2_with (fail)
  refine (HRL.out _).mono ?_
  rintro e w8 ⟨rfl, rfl⟩
  go_wp2_with (fail)
  refine (HG.out _).mono ?_
  rintro e w9 ⟨rfl, rfl⟩
  go_wp2_with (fail)
  refine (HRG.out _).mono ?_
  rintro e w10 ⟨rfl, rfl⟩
  go_wp2_with (fail)
  refine (HA.out _).mono ?_
  rintro e w11 ⟨rfl, hb⟩
  have B4 := Lib.hid (B3.out.trans (hb.mono B3.out.size))
  clear hb
  go_wp2_with (fail)
  go_ret
  exact ⟨rfl, B4.out⟩
end Go.Proofs.YtlndlipicbkhiaaDoor
