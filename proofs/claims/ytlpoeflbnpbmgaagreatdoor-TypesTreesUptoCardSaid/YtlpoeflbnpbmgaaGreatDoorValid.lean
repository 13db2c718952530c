/- What is proved: Valid, Expression, Statement. -/
import Derived.Test.YtlpoeflbnpbmgaaGreatDoorShapedSt
import Derived.Test.YtlpoeflbnpbmgaaGreatDoorShapedKi
import Derived.Deep.RegionHeld3
set_option linter.unusedVariables false
namespace Go.Proofs.YtlpoeflbnpbmgaaGreatDoor
open Go.RowKit Go.Shelf Go.Maps
attribute [local go_sem] Oper.semAt_some

theorem valid_step {w w' : World} {T : NT} (hi : InT w.heap.size w T) (hb : Below (w.alloc (.cells #[.int .i64 T.kind, .string T.text, .int .i64 T.lo, .int .i64 T.hi, .slice T.A T.kids.length T.c] 24)).drew.heap.size (w.alloc (.cells #[.int .i64 T.kind, .string T.text, .int .i64 T.lo, .int .i64 T.hi, .slice T.A T.kids.length T.c] 24)).drew w') : InT w'.heap.size w' T := by
  have h1 := ((Below.refl w.heap.size w).alloc (Nat.le_refl _) (.cells #[.int .i64 T.kind, .string T.text, .int .i64 T.lo, .int .i64 T.hi, .slice T.A T.kids.length T.c] 24)).drew
  have h2 := h1.trans (hb.mono h1.size)
  exact InT.mono h2.size T (InT.below h2 T hi)
theorem valid_below {w w' w2 : World} {T : NT} (hb : Below (w.alloc (.cells #[.int .i64 T.kind, .string T.text, .int .i64 T.lo, .int .i64 T.hi, .slice T.A T.kids.length T.c] 24)).drew.heap.size (w.alloc (.cells #[.int .i64 T.kind, .string T.text, .int .i64 T.lo, .int .i64 T.hi, .slice T.A T.kids.length T.c] 24)).drew w') (hb2 : Below w'.heap.size w' w2) : Below w.heap.size w w2 := by
  have h1 := ((Below.refl w.heap.size w).alloc (Nat.le_refl _) (.cells #[.int .i64 T.kind, .string T.text, .int .i64 T.lo, .int .i64 T.hi, .slice T.A T.kids.length T.c] 24)).drew
  have h2 := h1.trans (hb.mono h1.size)
  exact h2.trans (hb2.mono h2.size)
theorem valid_cells {w w' w2 : World} {T : NT} (hn : NBox (w.alloc (.cells #[.int .i64 T.kind, .string T.text, .int .i64 T.lo, .int .i64 T.hi, .slice T.A T.kids.length T.c] 24)).drew w.heap.size T) (hb : Below (w.alloc (.cells #[.int .i64 T.kind, .string T.text, .int .i64 T.lo, .int .i64 T.hi, .slice T.A T.kids.length T.c] 24)).drew.heap.size (w.alloc (.cells #[.int .i64 T.kind, .string T.text, .int .i64 T.lo, .int .i64 T.hi, .slice T.A T.kids.length T.c] 24)).drew w') (hb2 : Below w'.heap.size w' w2) : w2.cell? ⟨w.heap.size, 0, none⟩ = some (.int .i64 T.kind) ∧ w2.cell? ⟨w.heap.size, 1, none⟩ = some (.string T.text) ∧ w2.cell? ⟨w.heap.size, 2, none⟩ = some (.int .i64 T.lo) ∧ w2.cell? ⟨w.heap.size, 3, none⟩ = some (.int .i64 T.hi) ∧ w2.cell? ⟨w.heap.size, 4, none⟩ = some (.slice T.A T.kids.length T.c) := by
  have hz : w.heap.size < (w.alloc (.cells #[.int .i64 T.kind, .string T.text, .int .i64 T.lo, .int .i64 T.hi, .slice T.A T.kids.length T.c] 24)).drew.heap.size := by simp
  exact ((hn.below hb hz).below hb2 (Nat.lt_of_lt_of_le hz hb.size)).cells
theorem of_two (w : World) (T : NT) : Calls Tryz.prog 36 #[.slice (some ⟨w.heap.size + 1, 0, none⟩) 1 1] ((w.alloc (.cells #[.int .i64 T.kind, .string T.text, .int .i64 T.lo, .int .i64 T.hi, .slice T.A T.kids.length T.c] 24)).alloc (.cells #[.int .i64 2] 3)).drew fun e w' => e = .returned (.func (.func 49) #[] #[.pointer (some ⟨w.heap.size + 1 + 1, 0, none⟩)]) ∧ Cls w' (.func (.func 49) #[] #[.pointer (some ⟨w.heap.size + 1 + 1, 0, none⟩)]) (kindB [2]) ∧ Below (w.alloc (.cells #[.int .i64 T.kind, .string T.text, .int .i64 T.lo, .int .i64 T.hi, .slice T.A T.kids.length T.c] 24)).drew.heap.size (w.alloc (.cells #[.int .i64 T.kind, .string T.text, .int .i64 T.lo, .int .i64 T.hi, .slice T.A T.kids.length T.c] 24)).drew w' := by
  have h := of_lit (w.alloc (.cells #[.int .i64 T.kind, .string T.text, .int .i64 T.lo, .int .i64 T.hi, .slice T.A T.kids.length T.c] 24)).drew [2] #[.int .i64 2] rfl (by decide)
  have e : (w.alloc (.cells #[.int .i64 T.kind, .string T.text, .int .i64 T.lo, .int .i64 T.hi, .slice T.A T.kids.length T.c] 24)).drew.heap.size = w.heap.size + 1 := by simp
  rw [e] at h
  rw [e]
  exact h
set_option maxRecDepth 100000 in
theorem valid_f (T : NT) (w : World) (hin : InT w.heap.size w T) (hc : NT.cnt T ≤ 1000000000) (hwf : ∀ x ∈ NT.nds T, I64 x.kind) :
    Calls Tryz.prog 24 #[.agg #[.int .i64 T.kind, .string T.text, .int .i64 T.lo, .int .i64 T.hi, .slice T.A T.kids.length T.c]] w fun e w' => e = .returned (.bool (shapedB (kindB [2]) T)) ∧ Below w.heap.size w w' := by
  have HI := Lib.hid hin
  have HF := Lib.hid hwf
  have HOF := Lib.hid (of_two w T)
  clear hin hwf
  go_enter Tryz.func24, Tryz.ntmps24
  go_wp2_with (fail)
  have hn := NBox.new w T
  have hz : (w.alloc (.cells #[.int .i64 T.kind, .string T.text, .int .i64 T.lo, .int .i64 T.hi, .slice T.A T.kids.length T.c] 24)).heap.size = w.heap.size + 1 := by simp
  have HN := Lib.hid (show NBox (w.alloc (.cells #[.int .i64 T.kind, .string T.text, .int .i64 T.lo, .int .i64 T.hi, .slice T.A T.kids.length T.c] 24)).drew w.heap.size T from hn)
  obtain ⟨s0, s1, s2, s3, s4⟩ := hn.cells
  clear hn
  go_region_held3 (fun w' => w'.cell? ⟨w.heap.size, 0, none⟩ = some (.int .i64 T.kind) ∧ w'.cell? ⟨w.heap.size, 1, none⟩ = some (.string T.text) ∧ w'.cell? ⟨w.heap.size, 2, none⟩ = some (.int .i64 T.lo) ∧ w'.cell? ⟨w.heap.size, 3, none⟩ = some (.int .i64 T.hi) ∧ w'.cell? ⟨w.heap.size, 4, none⟩ = some (.slice T.A T.kids.length T.c)) (first | exact HSS.out | go_keep) ((first | (go_at_call 36; refine HOF.out.mono ?_; rintro e w' ⟨rfl, hcls, hb⟩; have HSS := Lib.hid (NBox.below HN.out hb (by simp)).cells; have HCL := Lib.hid hcls; have HB := Lib.hid hb; clear hcls hb) | (go_at_call 35; refine (shaped_kinds _ _ T w' (valid_step HI.out HB.out) hc HF.out HCL.out).mono ?_; rintro e w2 ⟨rfl, hb2⟩; have HSS := Lib.hid (valid_cells HN.out HB.out hb2); have HB2 := Lib.hid (valid_below HB.out hb2); clear hb2)))
  go_wp2_with (fail)
  go_ret
  exact ⟨rfl, HB2.out⟩
end Go.Proofs.YtlpoeflbnpbmgaaGreatDoor
