/- What is proved: the law BitvecSupport, over what the row lays. -/
import Derived.Test.YtlnpgcdgpahdmaaDoorBvTab
import Derived.Test.YtlnpgcdgpahdmaaDoorBvSuLaw
import Derived.Test.YtlnpgcdgpahdmaaDoorBvOpenD
set_option linter.unusedVariables false
namespace Go.Proofs.YtlnpgcdgpahdmaaDoor
open Go.RowKit
theorem intBytes : Tryd.prog.bytesOf 3 = 8 := by kernel_rfl
/-- a list of numbers among what was read takes no more bytes than the memory has -/
theorem sized_zs {H : Type} {ts : List TypeId} {ds : List (DataW H)} {l : List Int} {d : DataW H} {j : Nat} (h : (DataW.weightsEach Tryd.prog ts ds).all (· ≤ reachBytes) = true) (ht : ts[j]? = some 45) (hd : ds[j]? = some d) (hl : l = [] ∨ ∃ E S, d = .slice E S ∧ l.length ≤ E.length) : l.length * 8 ≤ 140737488351232 := by
  rcases hl with rfl | ⟨E, S, rfl, hle⟩
  · simp
  · have := sized_slice h ht hd Tryd.underlying45
    rw [intBytes] at this
    unfold reachBytes at this
    omega
theorem support_row (a : Int) (A : Option Addr) (c : Nat) (l : List Tm) (Ai : Option Addr) (ci : Nat) (inp : List Int) (Ao : Option Addr) (co : Nat) (oth : List Int) (W : World) (ha : (Lit.int .i64 a).wf = true) (hl : TOpn W A l) (hi : ZOpn W Ai ci inp) (ho : ZOpn W Ao co oth) (hL : laidMetH Tryd.prog Rows.bitvecSupportRow.laid W) (h8 : oth.length * 8 ≤ 140737488351232) :
    Calls Tryd.prog 9 #[.int .i64 a, .slice A l.length c, .slice Ai inp.length ci, .slice Ao oth.length co] W fun e w' => e = .returned (.bool true) ∧ Below W.heap.size W w' := by
  have h : laidMetH Tryd.prog [("assessor/bitvec.shapes", (Rows.laid_assessor_bitvec_shapes : DataW Unit))] W := hL
  rw [MakeChecks.laidMetH_plain _ _ _ (by kernel_rfl)] at h
  exact law_support a A Ai Ao c ci co l inp oth W (tabS_of h) hl hi.2.2.1 ho.2.2.1 h8
end Go.Proofs.YtlnpgcdgpahdmaaDoor
