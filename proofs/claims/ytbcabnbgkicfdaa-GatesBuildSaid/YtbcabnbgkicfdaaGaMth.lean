/- What is proved: the methods And, Or, Xor, Mux of the builders of package gates, whatever they are given. -/
import Derived.Test.YtbcabnbgkicfdaaGaOps
set_option linter.unusedVariables false
namespace Go.Proofs.Ytbcabnbgkicfdaa
open Go.RowKit Go.Maps

/-- what an operator answers: with an error, without literals, else -/
def opN (e0 : Int) (ok : Bool) (z : Int) : Int := if e0 = 0 ∧ ok = true then z else 0
def opL (e0 : Int) (ok : Bool) (gs L : List Gt) : List Gt := if e0 = 0 ∧ ok = true then L else gs
def opE (e0 : Int) (ok : Bool) : Int := if e0 = 0 then (if ok = true then 0 else 1) else e0
theorem op_err {e0 : Int} (h : e0 ≠ 0) (ok : Bool) (z : Int) (gs L : List Gt) : opN e0 ok z = 0 ∧ opL e0 ok gs L = gs ∧ opE e0 ok = e0 := by simp [opN, opL, opE, h]
theorem op_bad (z : Int) (gs L : List Gt) : opN 0 false z = 0 ∧ opL 0 false gs L = gs ∧ opE 0 false = 1 := by simp [opN, opL, opE]
theorem op_yes (z : Int) (gs L : List Gt) : opN 0 true z = z ∧ opL 0 true gs L = L ∧ opE 0 true = 0 := by simp [opN, opL, opE]
section
variable {w : World} {n₀ bb mb : Nat} {rv : Value} {I : Int} {gs : List Gt}
set_option maxRecDepth 100000 in
set_option maxHeartbeats 4000000 in
theorem m_And (x y e0 : Int) (h : Bld w n₀ bb mb rv I gs e0) (hf : gs.length + 1 ≤ 5000) :
    Calls Try.prog 46 #[.pointer (some ⟨bb, 0, none⟩), .int .i64 x, .int .i64 y] w fun e w' => e = .returned (.int .i64 (opN e0 (litB I gs.length x && litB I gs.length y) (andN I gs x y))) ∧ ∃ rv', BdRes n₀ bb mb rv I (opL e0 (litB I gs.length x && litB I gs.length y) gs (andL gs x y)) (opE e0 (litB I gs.length x && litB I gs.length y)) w w' rv' := by
  have hb1 : Below w.heap.size w (((w.alloc (.cells #[.pointer (some ⟨bb, 0, none⟩)] 24)).alloc (.cells #[.int .i64 x] 3)).alloc (.cells #[.int .i64 y] 3)) := ((((Below.refl w.heap.size w).alloc (by simp; try omega) (.cells #[.pointer (some ⟨bb, 0, none⟩)] 24)).alloc (by simp; try omega) (.cells #[.int .i64 x] 3)).alloc (by simp; try omega) (.cells #[.int .i64 y] 3))
  have hxb : Bx (w.alloc (.cells #[.pointer (some ⟨bb, 0, none⟩)] 24)) (w.heap.size + 0) 24 (.pointer (some ⟨bb, 0, none⟩)) := by
    have := heap_alloc_new w (.cells #[.pointer (some ⟨bb, 0, none⟩)] 24)
    rw [show w.heap.size = w.heap.size + 0 by simp] at this
    exact this
  have hxb := hxb.later ((Below.refl (w.alloc (.cells #[.pointer (some ⟨bb, 0, none⟩)] 24)).heap.size (w.alloc (.cells #[.pointer (some ⟨bb, 0, none⟩)] 24))).alloc (Nat.le_refl _) (.cells #[.int .i64 x] 3))
  have hxb := hxb.later ((Below.refl ((w.alloc (.cells #[.pointer (some ⟨bb, 0, none⟩)] 24)).alloc (.cells #[.int .i64 x] 3)).heap.size ((w.alloc (.cells #[.pointer (some ⟨bb, 0, none⟩)] 24)).alloc (.cells #[.int .i64 x] 3))).alloc (Nat.le_refl _) (.cells #[.int .i64 y] 3))
  have hxx : Bx ((w.alloc (.cells #[.pointer (some ⟨bb, 0, none⟩)] 24)).alloc (.cells #[.int .i64 x] 3)) (w.heap.size + 1) 3 (.int .i64 x) := by
    have := heap_alloc_new (w.alloc (.cells #[.pointer (some ⟨bb, 0, none⟩)] 24)) (.cells #[.int .i64 x] 3)
    rw [show (w.alloc (.cells #[.pointer (some ⟨bb, 0, none⟩)] 24)).heap.size = w.heap.size + 1 by simp] at this
    exact this
  have hxx := hxx.later ((Below.refl ((w.alloc (.cells #[.pointer (some ⟨bb, 0, none⟩)] 24)).alloc (.cells #[.int .i64 x] 3)).heap.size ((w.alloc (.cells #[.pointer (some ⟨bb, 0, none⟩)] 24)).alloc (.cells #[.int .i64 x] 3))).alloc (Nat.le_refl _) (.cells #[.int .i64 y] 3))
  have hxy : Bx (((w.alloc (.cells #[.pointer (some ⟨bb, 0, none⟩)] 24)).alloc (.cells #[.int .i64 x] 3)).alloc (.cells #[.int .i64 y] 3)) (w.heap.size + 2) 3 (.int .i64 y) := by
    have := heap_alloc_new ((w.alloc (.cells #[.pointer (some ⟨bb, 0, none⟩)] 24)).alloc (.cells #[.int .i64 x] 3)) (.cells #[.int .i64 y] 3)
    rw [show ((w.alloc (.cells #[.pointer (some ⟨bb, 0, none⟩)] 24)).alloc (.cells #[.int .i64 x] 3)).heap.size = w.heap.size + 2 by simp] at this
    exact this
  have hno : ∀ k, w.heap.size ≤ k → ¬ Own bb mb rv k := fun k hk ho => by have := (h.lt ho).2; omega
  have hsz : (((w.alloc (.cells #[.pointer (some ⟨bb, 0, none⟩)] 24)).alloc (.cells #[.int .i64 x] 3)).alloc (.cells #[.int .i64 y] 3)).heap.size = w.heap.size + 3 := by simp
  have HB1 := Lib.hid hb1
  have HH1 := Lib.hid (h.later hb1)
  have HNO := Lib.hid hno
  have HSZ := Lib.hid hsz
  have HXb := Lib.hid hxb
  have HXx := Lib.hid hxx
  have HXy := Lib.hid hxy
  have HFW := Lib.hid hf
  clear h hb1 hno hsz hf hxb hxx hxy
  go_enter Try.func46, Try.ntmps46
  go_upto_region 1 with fail
  generalize hgw : (((w.alloc (.cells #[.pointer (some ⟨bb, 0, none⟩)] 24)).alloc (.cells #[.int .i64 x] 3)).alloc (.cells #[.int .i64 y] 3)) = w1 at *
  clear hgw
  obtain ⟨pb, HPb⟩ : ∃ p, Hid (w.heap.size + 0 = p) := ⟨_, Lib.hid rfl⟩
  obtain ⟨px, HPx⟩ : ∃ p, Hid (w.heap.size + 1 = p) := ⟨_, Lib.hid rfl⟩
  obtain ⟨py, HPy⟩ : ∃ p, Hid (w.heap.size + 2 = p) := ⟨_, Lib.hid rfl⟩
  have HP0 := Lib.hid (show w.heap.size = pb from HPb.out)
  rw [HPb.out] at HXb
  rw [HPx.out] at HXx
  rw [HPy.out] at HXy
  rw [HP0.out, show pb + 1 = px from by rw [← HPx.out, ← HPb.out], show px + 1 = py from by rw [← HPy.out, ← HPx.out]]
  have cb := HXb.out.cell
  have cx := HXx.out.cell
  have cy := HXy.out.cell
  have hba := (Below.refl w1.heap.size w1).alloc (Nat.le_refl _) (.cells #[.int .i64 x, .int .i64 y] 3)
  have HBA := Lib.hid (HB1.out.trans (hba.mono HB1.out.size))
  have HH2 := Lib.hid (HH1.out.later hba)
  have HVb := Lib.hid (show VBx bb mb rv (w1.alloc (.cells #[.int .i64 x, .int .i64 y] 3)) pb 24 (.pointer (some ⟨bb, 0, none⟩)) from ⟨HXb.out.later hba, HNO.out _ (by rw [← HPb.out]; omega)⟩)
  have HVx := Lib.hid (show VBx bb mb rv (w1.alloc (.cells #[.int .i64 x, .int .i64 y] 3)) px 3 (.int .i64 x) from ⟨HXx.out.later hba, HNO.out _ (by rw [← HPx.out]; omega)⟩)
  have HVy := Lib.hid (show VBx bb mb rv (w1.alloc (.cells #[.int .i64 x, .int .i64 y] 3)) py 3 (.int .i64 y) from ⟨HXy.out.later hba, HNO.out _ (by rw [← HPy.out]; omega)⟩)
  have HZ := Lib.hid (show ZRow (w1.alloc (.cells #[.int .i64 x, .int .i64 y] 3)).heap.size (w1.alloc (.cells #[.int .i64 x, .int .i64 y] 3)) (some ⟨w1.heap.size, 0, none⟩) [x, y] from fun _ => ⟨w1.heap.size, 0, rfl, by simp, fun i hi => by
    have q := fun j => Lib.cell_of_heap (heap_alloc_new w1 (.cells #[.int .i64 x, .int .i64 y] 3)) j
    have : i = 0 ∨ i = 1 := by simp at hi; omega
    rcases this with rfl | rfl
    · exact q 0
    · exact q 1⟩)
  clear hba
  by_cases he : e0 = 0
  · subst he
    cases hok : (litB I gs.length x && litB I gs.length y) with
    | true =>
      have HQ := Lib.hid (show opN 0 (litB I gs.length x && litB I gs.length y) (andN I gs x y) = andN I gs x y ∧ opL 0 (litB I gs.length x && litB I gs.length y) gs (andL gs x y) = andL gs x y ∧ opE 0 (litB I gs.length x && litB I gs.length y) = 0 from by rw [hok]; exact op_yes _ _ _)
      rw [Bool.and_eq_true] at hok
      have HC := Lib.hid (build_And pb px py x y (some ⟨w1.heap.size, 0, none⟩) 2 HH2.out (litB_iff.1 hok.1) (litB_iff.1 hok.2) HVb.out HVx.out HVy.out HZ.out HFW.out)
      clear hok
      go_wp2_with (fail)
      refine HC.out.mono ?_
      rintro e w2 ⟨rfl, rv2, hr2⟩
      have HR := Lib.hid (hr2.ahead HBA.out)
      clear hr2
      go_wp2_with (fail)
      go_ret
      rw [HQ.out.1, HQ.out.2.1, HQ.out.2.2]
      exact ⟨rfl, rv2, HR.out⟩
    | false =>
      have HQ := Lib.hid (show opN 0 (litB I gs.length x && litB I gs.length y) (andN I gs x y) = 0 ∧ opL 0 (litB I gs.length x && litB I gs.length y) gs (andL gs x y) = gs ∧ opE 0 (litB I gs.length x && litB I gs.length y) = 1 from by rw [hok]; exact op_bad _ _ _)
      have HC := Lib.hid (build_bad (.func (.func 93) #[] #[.pointer (some ⟨pb, 0, none⟩), .pointer (some ⟨px, 0, none⟩), .pointer (some ⟨py, 0, none⟩)]) (some ⟨w1.heap.size, 0, none⟩) 2 [x, y] HH2.out HZ.out (by simp) (by simpa [Bool.and_assoc] using hok))
      clear hok
      go_wp2_with (fail)
      refine HC.out.mono ?_
      rintro e w2 ⟨rfl, hr2⟩
      have HR := Lib.hid (hr2.ahead HBA.out)
      clear hr2
      go_wp2_with (fail)
      go_ret
      rw [HQ.out.1, HQ.out.2.1, HQ.out.2.2]
      exact ⟨rfl, rv, HR.out⟩
  · have HQ := Lib.hid (op_err he (litB I gs.length x && litB I gs.length y) (andN I gs x y) gs (andL gs x y))
    have HC := Lib.hid (build_err (.func (.func 93) #[] #[.pointer (some ⟨pb, 0, none⟩), .pointer (some ⟨px, 0, none⟩), .pointer (some ⟨py, 0, none⟩)]) (some ⟨w1.heap.size, 0, none⟩) 2 2 e0 he HH2.out)
    clear he
    go_wp2_with (fail)
    refine HC.out.mono ?_
    rintro e w2 ⟨rfl, hw2⟩
    have HR := Lib.hid (BdRes.ahead HBA.out (BdRes.same HH2.out (Below.refl _ _)))
    obtain rfl := hw2.symm
    go_wp2_with (fail)
    go_ret
    rw [HQ.out.1, HQ.out.2.1, HQ.out.2.2]
    exact ⟨rfl, rv, HR.out⟩
set_option maxRecDepth 100000 in
set_option maxHeartbeats 4000000 in
theorem m_Or (x y e0 : Int) (h : Bld w n₀ bb mb rv I gs e0) (hf : gs.length + 1 ≤ 5000) :
    Calls Try.prog 55 #[.pointer (some ⟨bb, 0, none⟩), .int .i64 x, .int .i64 y] w fun e w' => e = .returned (.int .i64 (opN e0 (litB I gs.length x && litB I gs.length y) (orN I gs x y))) ∧ ∃ rv', BdRes n₀ bb mb rv I (opL e0 (litB I gs.length x && litB I gs.length y) gs (orL gs x y)) (opE e0 (litB I gs.length x && litB I gs.length y)) w w' rv' := by
  have hb1 : Below w.heap.size w (((w.alloc (.cells #[.pointer (some ⟨bb, 0, none⟩)] 24)).alloc (.cells #[.int .i64 x] 3)).alloc (.cells #[.int .i64 y] 3)) := ((((Below.refl w.heap.size w).alloc (by simp; try omega) (.cells #[.pointer (some ⟨bb, 0, none⟩)] 24)).alloc (by simp; try omega) (.cells #[.int .i64 x] 3)).alloc (by simp; try omega) (.cells #[.int .i64 y] 3))
  have hxb : Bx (w.alloc (.cells #[.pointer (some ⟨bb, 0, none⟩)] 24)) (w.heap.size + 0) 24 (.pointer (some ⟨bb, 0, none⟩)) := by
    have := heap_alloc_new w (.cells #[.pointer (some ⟨bb, 0, none⟩)] 24)
    rw [show w.heap.size = w.heap.size + 0 by simp] at this
    exact this
  have hxb := hxb.later ((Below.refl (w.alloc (.cells #[.pointer (some ⟨bb, 0, none⟩)] 24)).heap.size (w.alloc (.cells #[.pointer (some ⟨bb, 0, none⟩)] 24))).alloc (Nat.le_refl _) (.cells #[.int .i64 x] 3))
  have hxb := hxb.later ((Below.refl ((w.alloc (.cells #[.pointer (some ⟨bb, 0, none⟩)] 24)).alloc (.cells #[.int .i64 x] 3)).heap.size ((w.alloc (.cells #[.pointer (some ⟨bb, 0, none⟩)] 24)).alloc (.cells #[.int .i64 x] 3))).alloc (Nat.le_refl _) (.cells #[.int .i64 y] 3))
  have hxx : Bx ((w.alloc (.cells #[.pointer (some ⟨bb, 0, none⟩)] 24)).alloc (.cells #[.int .i64 x] 3)) (w.heap.size + 1) 3 (.int .i64 x) := by
    have := heap_alloc_new (w.alloc (.cells #[.pointer (some ⟨bb, 0, none⟩)] 24)) (.cells #[.int .i64 x] 3)
    rw [show (w.alloc (.cells #[.pointer (some ⟨bb, 0, none⟩)] 24)).heap.size = w.heap.size + 1 by simp] at this
    exact this
  have hxx := hxx.later ((Below.refl ((w.alloc (.cells #[.pointer (some ⟨bb, 0, none⟩)] 24)).alloc (.cells #[.int .i64 x] 3)).heap.size ((w.alloc (.cells #[.pointer (some ⟨bb, 0, none⟩)] 24)).alloc (.cells #[.int .i64 x] 3))).alloc (Nat.le_refl _) (.cells #[.int .i64 y] 3))
  have hxy : Bx (((w.alloc (.cells #[.pointer (some ⟨bb, 0, none⟩)] 24)).alloc (.cells #[.int .i64 x] 3)).alloc (.cells #[.int .i64 y] 3)) (w.heap.size + 2) 3 (.int .i64 y) := by
    have := heap_alloc_new ((w.alloc (.cells #[.pointer (some ⟨bb, 0, none⟩)] 24)).alloc (.cells #[.int .i64 x] 3)) (.cells #[.int .i64 y] 3)
    rw [show ((w.alloc (.cells #[.pointer (some ⟨bb, 0, none⟩)] 24)).alloc (.cells #[.int .i64 x] 3)).heap.size = w.heap.size + 2 by simp] at this
    exact this
  have hno : ∀ k, w.heap.size ≤ k → ¬ Own bb mb rv k := fun k hk ho => by have := (h.lt ho).2; omega
  have hsz : (((w.alloc (.cells #[.pointer (some ⟨bb, 0, none⟩)] 24)).alloc (.cells #[.int .i64 x] 3)).alloc (.cells #[.int .i64 y] 3)).heap.size = w.heap.size + 3 := by simp
  have HB1 := Lib.hid hb1
  have HH1 := Lib.hid (h.later hb1)
  have HNO := Lib.hid hno
  have HSZ := Lib.hid hsz
  have HXb := Lib.hid hxb
  have HXx := Lib.hid hxx
  have HXy := Lib.hid hxy
  have HFW := Lib.hid hf
  clear h hb1 hno hsz hf hxb hxx hxy
  go_enter Try.func55, Try.ntmps55
  go_upto_region 1 with fail
  generalize hgw : (((w.alloc (.cells #[.pointer (some ⟨bb, 0, none⟩)] 24)).alloc (.cells #[.int .i64 x] 3)).alloc (.cells #[.int .i64 y] 3)) = w1 at *
  clear hgw
  obtain ⟨pb, HPb⟩ : ∃ p, Hid (w.heap.size + 0 = p) := ⟨_, Lib.hid rfl⟩
  obtain ⟨px, HPx⟩ : ∃ p, Hid (w.heap.size + 1 = p) := ⟨_, Lib.hid rfl⟩
  obtain ⟨py, HPy⟩ : ∃ p, Hid (w.heap.size + 2 = p) := ⟨_, Lib.hid rfl⟩
  have HP0 := Lib.hid (show w.heap.size = pb from HPb.out)
  rw [HPb.out] at HXb
  rw [HPx.out] at HXx
  rw [HPy.out] at HXy
  rw [HP0.out, show pb + 1 = px from by rw [← HPx.out, ← HPb.out], show px + 1 = py from by rw [← HPy.out, ← HPx.out]]
  have cb := HXb.out.cell
  have cx := HXx.out.cell
  have cy := HXy.out.cell
  have hba := (Below.refl w1.heap.size w1).alloc (Nat.le_refl _) (.cells #[.int .i64 x, .int .i64 y] 3)
  have HBA := Lib.hid (HB1.out.trans (hba.mono HB1.out.size))
  have HH2 := Lib.hid (HH1.out.later hba)
  have HVb := Lib.hid (show VBx bb mb rv (w1.alloc (.cells #[.int .i64 x, .int .i64 y] 3)) pb 24 (.pointer (some ⟨bb, 0, none⟩)) from ⟨HXb.out.later hba, HNO.out _ (by rw [← HPb.out]; omega)⟩)
  have HVx := Lib.hid (show VBx bb mb rv (w1.alloc (.cells #[.int .i64 x, .int .i64 y] 3)) px 3 (.int .i64 x) from ⟨HXx.out.later hba, HNO.out _ (by rw [← HPx.out]; omega)⟩)
  have HVy := Lib.hid (show VBx bb mb rv (w1.alloc (.cells #[.int .i64 x, .int .i64 y] 3)) py 3 (.int .i64 y) from ⟨HXy.out.later hba, HNO.out _ (by rw [← HPy.out]; omega)⟩)
  have HZ := Lib.hid (show ZRow (w1.alloc (.cells #[.int .i64 x, .int .i64 y] 3)).heap.size (w1.alloc (.cells #[.int .i64 x, .int .i64 y] 3)) (some ⟨w1.heap.size, 0, none⟩) [x, y] from fun _ => ⟨w1.heap.size, 0, rfl, by simp, fun i hi => by
    have q := fun j => Lib.cell_of_heap (heap_alloc_new w1 (.cells #[.int .i64 x, .int .i64 y] 3)) j
    have : i = 0 ∨ i = 1 := by simp at hi; omega
    rcases this with rfl | rfl
    · exact q 0
    · exact q 1⟩)
  clear hba
  by_cases he : e0 = 0
  · subst he
    cases hok : (litB I gs.length x && litB I gs.length y) with
    | true =>
      have HQ := Lib.hid (show opN 0 (litB I gs.length x && litB I gs.length y) (orN I gs x y) = orN I gs x y ∧ opL 0 (litB I gs.length x && litB I gs.length y) gs (orL gs x y) = orL gs x y ∧ opE 0 (litB I gs.length x && litB I gs.length y) = 0 from by rw [hok]; exact op_yes _ _ _)
      rw [Bool.and_eq_true] at hok
      have HC := Lib.hid (build_Or pb px py x y (some ⟨w1.heap.size, 0, none⟩) 2 HH2.out (litB_iff.1 hok.1) (litB_iff.1 hok.2) HVb.out HVx.out HVy.out HZ.out HFW.out)
      clear hok
      go_wp2_with (fail)
      refine HC.out.mono ?_
      rintro e w2 ⟨rfl, rv2, hr2⟩
      have HR := Lib.hid (hr2.ahead HBA.out)
      clear hr2
      go_wp2_with (fail)
      go_ret
      rw [HQ.out.1, HQ.out.2.1, HQ.out.2.2]
      exact ⟨rfl, rv2, HR.out⟩
    | false =>
      have HQ := Lib.hid (show opN 0 (litB I gs.length x && litB I gs.length y) (orN I gs x y) = 0 ∧ opL 0 (litB I gs.length x && litB I gs.length y) gs (orL gs x y) = gs ∧ opE 0 (litB I gs.length x && litB I gs.length y) = 1 from by rw [hok]; exact op_bad _ _ _)
      have HC := Lib.hid (build_bad (.func (.func 98) #[] #[.pointer (some ⟨pb, 0, none⟩), .pointer (some ⟨px, 0, none⟩), .pointer (some ⟨py, 0, none⟩)]) (some ⟨w1.heap.size, 0, none⟩) 2 [x, y] HH2.out HZ.out (by simp) (by simpa [Bool.and_assoc] using hok))
      clear hok
      go_wp2_with (fail)
      refine HC.out.mono ?_
      rintro e w2 ⟨rfl, hr2⟩
      have HR := Lib.hid (hr2.ahead HBA.out)
      clear hr2
      go_wp2_with (fail)
      go_ret
      rw [HQ.out.1, HQ.out.2.1, HQ.out.2.2]
      exact ⟨rfl, rv, HR.out⟩
  · have HQ := Lib.hid (op_err he (litB I gs.length x && litB I gs.length y) (orN I gs x y) gs (orL gs x y))
    have HC := Lib.hid (build_err (.func (.func 98) #[] #[.pointer (some ⟨pb, 0, none⟩), .pointer (some ⟨px, 0, none⟩), .pointer (some ⟨py, 0, none⟩)]) (some ⟨w1.heap.size, 0, none⟩) 2 2 e0 he HH2.out)
    clear he
    go_wp2_with (fail)
    refine HC.out.mono ?_
    rintro e w2 ⟨rfl, hw2⟩
    have HR := Lib.hid (BdRes.ahead HBA.out (BdRes.same HH2.out (Below.refl _ _)))
    obtain rfl := hw2.symm
    go_wp2_with (fail)
    go_ret
    rw [HQ.out.1, HQ.out.2.1, HQ.out.2.2]
    exact ⟨rfl, rv, HR.out⟩
set_option maxRecDepth 100000 in
set_option maxHeartbeats 4000000 in
theorem m_Xor (x y e0 : Int) (h : Bld w n₀ bb mb rv I gs e0) (hf : gs.length + 3 ≤ 5000) :
    Calls Try.prog 47 #[.pointer (some ⟨bb, 0, none⟩), .int .i64 x, .int .i64 y] w fun e w' => e = .returned (.int .i64 (opN e0 (litB I gs.length x && litB I gs.length y) (muxN I gs x (notP y) y))) ∧ ∃ rv', BdRes n₀ bb mb rv I (opL e0 (litB I gs.length x && litB I gs.length y) gs (muxL I gs x (notP y) y)) (opE e0 (litB I gs.length x && litB I gs.length y)) w w' rv' := by
  have hb1 : Below w.heap.size w (((w.alloc (.cells #[.pointer (some ⟨bb, 0, none⟩)] 24)).alloc (.cells #[.int .i64 x] 3)).alloc (.cells #[.int .i64 y] 3)) := ((((Below.refl w.heap.size w).alloc (by simp; try omega) (.cells #[.pointer (some ⟨bb, 0, none⟩)] 24)).alloc (by simp; try omega) (.cells #[.int .i64 x] 3)).alloc (by simp; try omega) (.cells #[.int .i64 y] 3))
  have hxb : Bx (w.alloc (.cells #[.pointer (some ⟨bb, 0, none⟩)] 24)) (w.heap.size + 0) 24 (.pointer (some ⟨bb, 0, none⟩)) := by
    have := heap_alloc_new w (.cells #[.pointer (some ⟨bb, 0, none⟩)] 24)
    rw [show w.heap.size = w.heap.size + 0 by simp] at this
    exact this
  have hxb := hxb.later ((Below.refl (w.alloc (.cells #[.pointer (some ⟨bb, 0, none⟩)] 24)).heap.size (w.alloc (.cells #[.pointer (some ⟨bb, 0, none⟩)] 24))).alloc (Nat.le_refl _) (.cells #[.int .i64 x] 3))
  have hxb := hxb.later ((Below.refl ((w.alloc (.cells #[.pointer (some ⟨bb, 0, none⟩)] 24)).alloc (.cells #[.int .i64 x] 3)).heap.size ((w.alloc (.cells #[.pointer (some ⟨bb, 0, none⟩)] 24)).alloc (.cells #[.int .i64 x] 3))).alloc (Nat.le_refl _) (.cells #[.int .i64 y] 3))
  have hxx : Bx ((w.alloc (.cells #[.pointer (some ⟨bb, 0, none⟩)] 24)).alloc (.cells #[.int .i64 x] 3)) (w.heap.size + 1) 3 (.int .i64 x) := by
    have := heap_alloc_new (w.alloc (.cells #[.pointer (some ⟨bb, 0, none⟩)] 24)) (.cells #[.int .i64 x] 3)
    rw [show (w.alloc (.cells #[.pointer (some ⟨bb, 0, none⟩)] 24)).heap.size = w.heap.size + 1 by simp] at this
    exact this
  have hxx := hxx.later ((Below.refl ((w.alloc (.cells #[.pointer (some ⟨bb, 0, none⟩)] 24)).alloc (.cells #[.int .i64 x] 3)).heap.size ((w.alloc (.cells #[.pointer (some ⟨bb, 0, none⟩)] 24)).alloc (.cells #[.int .i64 x] 3))).alloc (Nat.le_refl _) (.cells #[.int .i64 y] 3))
  have hxy : Bx (((w.alloc (.cells #[.pointer (some ⟨bb, 0, none⟩)] 24)).alloc (.cells #[.int .i64 x] 3)).alloc (.cells #[.int .i64 y] 3)) (w.heap.size + 2) 3 (.int .i64 y) := by
    have := heap_alloc_new ((w.alloc (.cells #[.pointer (some ⟨bb, 0, none⟩)] 24)).alloc (.cells #[.int .i64 x] 3)) (.cells #[.int .i64 y] 3)
    rw [show ((w.alloc (.cells #[.pointer (some ⟨bb, 0, none⟩)] 24)).alloc (.cells #[.int .i64 x] 3)).heap.size = w.heap.size + 2 by simp] at this
    exact this
  have hno : ∀ k, w.heap.size ≤ k → ¬ Own bb mb rv k := fun k hk ho => by have := (h.lt ho).2; omega
  have hsz : (((w.alloc (.cells #[.pointer (some ⟨bb, 0, none⟩)] 24)).alloc (.cells #[.int .i64 x] 3)).alloc (.cells #[.int .i64 y] 3)).heap.size = w.heap.size + 3 := by simp
  have HB1 := Lib.hid hb1
  have HH1 := Lib.hid (h.later hb1)
  have HNO := Lib.hid hno
  have HSZ := Lib.hid hsz
  have HXb := Lib.hid hxb
  have HXx := Lib.hid hxx
  have HXy := Lib.hid hxy
  have HFW := Lib.hid hf
  clear h hb1 hno hsz hf hxb hxx hxy
  go_enter Try.func47, Try.ntmps47
  go_upto_region 1 with fail
  generalize hgw : (((w.alloc (.cells #[.pointer (some ⟨bb, 0, none⟩)] 24)).alloc (.cells #[.int .i64 x] 3)).alloc (.cells #[.int .i64 y] 3)) = w1 at *
  clear hgw
  obtain ⟨pb, HPb⟩ : ∃ p, Hid (w.heap.size + 0 = p) := ⟨_, Lib.hid rfl⟩
  obtain ⟨px, HPx⟩ : ∃ p, Hid (w.heap.size + 1 = p) := ⟨_, Lib.hid rfl⟩
  obtain ⟨py, HPy⟩ : ∃ p, Hid (w.heap.size + 2 = p) := ⟨_, Lib.hid rfl⟩
  have HP0 := Lib.hid (show w.heap.size = pb from HPb.out)
  rw [HPb.out] at HXb
  rw [HPx.out] at HXx
  rw [HPy.out] at HXy
  rw [HP0.out, show pb + 1 = px from by rw [← HPx.out, ← HPb.out], show px + 1 = py from by rw [← HPy.out, ← HPx.out]]
  have cb := HXb.out.cell
  have cx := HXx.out.cell
  have cy := HXy.out.cell
  have hba := (Below.refl w1.heap.size w1).alloc (Nat.le_refl _) (.cells #[.int .i64 x, .int .i64 y] 3)
  have HBA := Lib.hid (HB1.out.trans (hba.mono HB1.out.size))
  have HH2 := Lib.hid (HH1.out.later hba)
  have HVb := Lib.hid (show VBx bb mb rv (w1.alloc (.cells #[.int .i64 x, .int .i64 y] 3)) pb 24 (.pointer (some ⟨bb, 0, none⟩)) from ⟨HXb.out.later hba, HNO.out _ (by rw [← HPb.out]; omega)⟩)
  have HVx := Lib.hid (show VBx bb mb rv (w1.alloc (.cells #[.int .i64 x, .int .i64 y] 3)) px 3 (.int .i64 x) from ⟨HXx.out.later hba, HNO.out _ (by rw [← HPx.out]; omega)⟩)
  have HVy := Lib.hid (show VBx bb mb rv (w1.alloc (.cells #[.int .i64 x, .int .i64 y] 3)) py 3 (.int .i64 y) from ⟨HXy.out.later hba, HNO.out _ (by rw [← HPy.out]; omega)⟩)
  have HZ := Lib.hid (show ZRow (w1.alloc (.cells #[.int .i64 x, .int .i64 y] 3)).heap.size (w1.alloc (.cells #[.int .i64 x, .int .i64 y] 3)) (some ⟨w1.heap.size, 0, none⟩) [x, y] from fun _ => ⟨w1.heap.size, 0, rfl, by simp, fun i hi => by
    have q := fun j => Lib.cell_of_heap (heap_alloc_new w1 (.cells #[.int .i64 x, .int .i64 y] 3)) j
    have : i = 0 ∨ i = 1 := by simp at hi; omega
    rcases this with rfl | rfl
    · exact q 0
    · exact q 1⟩)
  clear hba
  by_cases he : e0 = 0
  · subst he
    cases hok : (litB I gs.length x && litB I gs.length y) with
    | true =>
      have HQ := Lib.hid (show opN 0 (litB I gs.length x && litB I gs.length y) (muxN I gs x (notP y) y) = muxN I gs x (notP y) y ∧ opL 0 (litB I gs.length x && litB I gs.length y) gs (muxL I gs x (notP y) y) = muxL I gs x (notP y) y ∧ opE 0 (litB I gs.length x && litB I gs.length y) = 0 from by rw [hok]; exact op_yes _ _ _)
      rw [Bool.and_eq_true] at hok
      have HC := Lib.hid (build_Xor pb px py x y (some ⟨w1.heap.size, 0, none⟩) 2 HH2.out (litB_iff.1 hok.1) (litB_iff.1 hok.2) HVb.out HVx.out HVy.out HZ.out HFW.out)
      clear hok
      go_wp2_with (fail)
      refine HC.out.mono ?_
      rintro e w2 ⟨rfl, rv2, hr2⟩
      have HR := Lib.hid (hr2.ahead HBA.out)
      clear hr2
      go_wp2_with (fail)
      go_ret
      rw [HQ.out.1, HQ.out.2.1, HQ.out.2.2]
      exact ⟨rfl, rv2, HR.out⟩
    | false =>
      have HQ := Lib.hid (show opN 0 (litB I gs.length x && litB I gs.length y) (muxN I gs x (notP y) y) = 0 ∧ opL 0 (litB I gs.length x && litB I gs.length y) gs (muxL I gs x (notP y) y) = gs ∧ opE 0 (litB I gs.length x && litB I gs.length y) = 1 from by rw [hok]; exact op_bad _ _ _)
      have HC := Lib.hid (build_bad (.func (.func 95) #[] #[.pointer (some ⟨pb, 0, none⟩), .pointer (some ⟨px, 0, none⟩), .pointer (some ⟨py, 0, none⟩)]) (some ⟨w1.heap.size, 0, none⟩) 2 [x, y] HH2.out HZ.out (by simp) (by simpa [Bool.and_assoc] using hok))
      clear hok
      go_wp2_with (fail)
      refine HC.out.mono ?_
      rintro e w2 ⟨rfl, hr2⟩
      have HR := Lib.hid (hr2.ahead HBA.out)
      clear hr2
      go_wp2_with (fail)
      go_ret
      rw [HQ.out.1, HQ.out.2.1, HQ.out.2.2]
      exact ⟨rfl, rv, HR.out⟩
  · have HQ := Lib.hid (op_err he (litB I gs.length x && litB I gs.length y) (muxN I gs x (notP y) y) gs (muxL I gs x (notP y) y))
    have HC := Lib.hid (build_err (.func (.func 95) #[] #[.pointer (some ⟨pb, 0, none⟩), .pointer (some ⟨px, 0, none⟩), .pointer (some ⟨py, 0, none⟩)]) (some ⟨w1.heap.size, 0, none⟩) 2 2 e0 he HH2.out)
    clear he
    go_wp2_with (fail)
    refine HC.out.mono ?_
    rintro e w2 ⟨rfl, hw2⟩
    have HR := Lib.hid (BdRes.ahead HBA.out (BdRes.same HH2.out (Below.refl _ _)))
    obtain rfl := hw2.symm
    go_wp2_with (fail)
    go_ret
    rw [HQ.out.1, HQ.out.2.1, HQ.out.2.2]
    exact ⟨rfl, rv, HR.out⟩
set_option maxRecDepth 100000 in
set_option maxHeartbeats 4000000 in
theorem m_Mux (c x y e0 : Int) (h : Bld w n₀ bb mb rv I gs e0) (hf : gs.length + 3 ≤ 5000) :
    Calls Try.prog 56 #[.pointer (some ⟨bb, 0, none⟩), .int .i64 c, .int .i64 x, .int .i64 y] w fun e w' => e = .returned (.int .i64 (opN e0 (litB I gs.length c && litB I gs.length x && litB I gs.length y) (muxN I gs c x y))) ∧ ∃ rv', BdRes n₀ bb mb rv I (opL e0 (litB I gs.length c && litB I gs.length x && litB I gs.length y) gs (muxL I gs c x y)) (opE e0 (litB I gs.length c && litB I gs.length x && litB I gs.length y)) w w' rv' := by
  have hb1 : Below w.heap.size w ((((w.alloc (.cells #[.pointer (some ⟨bb, 0, none⟩)] 24)).alloc (.cells #[.int .i64 c] 3)).alloc (.cells #[.int .i64 x] 3)).alloc (.cells #[.int .i64 y] 3)) := (((((Below.refl w.heap.size w).alloc (by simp; try omega) (.cells #[.pointer (some ⟨bb, 0, none⟩)] 24)).alloc (by simp; try omega) (.cells #[.int .i64 c] 3)).alloc (by simp; try omega) (.cells #[.int .i64 x] 3)).alloc (by simp; try omega) (.cells #[.int .i64 y] 3))
  have hxb : Bx (w.alloc (.cells #[.pointer (some ⟨bb, 0, none⟩)] 24)) (w.heap.size + 0) 24 (.pointer (some ⟨bb, 0, none⟩)) := by
    have := heap_alloc_new w (.cells #[.pointer (some ⟨bb, 0, none⟩)] 24)
    rw [show w.heap.size = w.heap.size + 0 by simp] at this
    exact this
  have hxb := hxb.later ((Below.refl (w.alloc (.cells #[.pointer (some ⟨bb, 0, none⟩)] 24)).heap.size (w.alloc (.cells #[.pointer (some ⟨bb, 0, none⟩)] 24))).alloc (Nat.le_refl _) (.cells #[.int .i64 c] 3))
  have hxb := hxb.later ((Below.refl ((w.alloc (.cells #[.pointer (some ⟨bb, 0, none⟩)] 24)).alloc (.cells #[.int .i64 c] 3)).heap.size ((w.alloc (.cells #[.pointer (some ⟨bb, 0, none⟩)] 24)).alloc (.cells #[.int .i64 c] 3))).alloc (Nat.le_refl _) (.cells #[.int .i64 x] 3))
  have hxb := hxb.later ((Below.refl (((w.alloc (.cells #[.pointer (some ⟨bb, 0, none⟩)] 24)).alloc (.cells #[.int .i64 c] 3)).alloc (.cells #[.int .i64 x] 3)).heap.size (((w.alloc (.cells #[.pointer (some ⟨bb, 0, none⟩)] 24)).alloc (.cells #[.int .i64 c] 3)).alloc (.cells #[.int .i64 x] 3))).alloc (Nat.le_refl _) (.cells #[.int .i64 y] 3))
  have hxc : Bx ((w.alloc (.cells #[.pointer (some ⟨bb, 0, none⟩)] 24)).alloc (.cells #[.int .i64 c] 3)) (w.heap.size + 1) 3 (.int .i64 c) := by
    have := heap_alloc_new (w.alloc (.cells #[.pointer (some ⟨bb, 0, none⟩)] 24)) (.cells #[.int .i64 c] 3)
    rw [show (w.alloc (.cells #[.pointer (some ⟨bb, 0, none⟩)] 24)).heap.size = w.heap.size + 1 by simp] at this
    exact this
  have hxc := hxc.later ((Below.refl ((w.alloc (.cells #[.pointer (some ⟨bb, 0, none⟩)] 24)).alloc (.cells #[.int .i64 c] 3)).heap.size ((w.alloc (.cells #[.pointer (some ⟨bb, 0, none⟩)] 24)).alloc (.cells #[.int .i64 c] 3))).alloc (Nat.le_refl _) (.cells #[.int .i64 x] 3))
  have hxc := hxc.later ((Below.refl (((w.alloc (.cells #[.pointer (some ⟨bb, 0, none⟩)] 24)).alloc (.cells #[.int .i64 c] 3)).alloc (.cells #[.int .i64 x] 3)).heap.size (((w.alloc (.cells #[.pointer (some ⟨bb, 0, none⟩)] 24)).alloc (.cells #[.int .i64 c] 3)).alloc (.cells #[.int .i64 x] 3))).alloc (Nat.le_refl _) (.cells #[.int .i64 y] 3))
  have hxx : Bx (((w.alloc (.cells #[.pointer (some ⟨bb, 0, none⟩)] 24)).alloc (.cells #[.int .i64 c] 3)).alloc (.cells #[.int .i64 x] 3)) (w.heap.size + 2) 3 (.int .i64 x) := by
    have := heap_alloc_new ((w.alloc (.cells #[.pointer (some ⟨bb, 0, none⟩)] 24)).alloc (.cells #[.int .i64 c] 3)) (.cells #[.int .i64 x] 3)
    rw [show ((w.alloc (.cells #[.pointer (some ⟨bb, 0, none⟩)] 24)).alloc (.cells #[.int .i64 c] 3)).heap.size = w.heap.size + 2 by simp] at this
    exact this
  have hxx := hxx.later ((Below.refl (((w.alloc (.cells #[.pointer (some ⟨bb, 0, none⟩)] 24)).alloc (.cells #[.int .i64 c] 3)).alloc (.cells #[.int .i64 x] 3)).heap.size (((w.alloc (.cells #[.pointer (some ⟨bb, 0, none⟩)] 24)).alloc (.cells #[.int .i64 c] 3)).alloc (.cells #[.int .i64 x] 3))).alloc (Nat.le_refl _) (.cells #[.int .i64 y] 3))
  have hxy : Bx ((((w.alloc (.cells #[.pointer (some ⟨bb, 0, none⟩)] 24)).alloc (.cells #[.int .i64 c] 3)).alloc (.cells #[.int .i64 x] 3)).alloc (.cells #[.int .i64 y] 3)) (w.heap.size + 3) 3 (.int .i64 y) := by
    have := heap_alloc_new (((w.alloc (.cells #[.pointer (some ⟨bb, 0, none⟩)] 24)).alloc (.cells #[.int .i64 c] 3)).alloc (.cells #[.int .i64 x] 3)) (.cells #[.int .i64 y] 3)
    rw [show (((w.alloc (.cells #[.pointer (some ⟨bb, 0, none⟩)] 24)).alloc (.cells #[.int .i64 c] 3)).alloc (.cells #[.int .i64 x] 3)).heap.size = w.heap.size + 3 by simp] at this
    exact this
  have hno : ∀ k, w.heap.size ≤ k → ¬ Own bb mb rv k := fun k hk ho => by have := (h.lt ho).2; omega
  have hsz : ((((w.alloc (.cells #[.pointer (some ⟨bb, 0, none⟩)] 24)).alloc (.cells #[.int .i64 c] 3)).alloc (.cells #[.int .i64 x] 3)).alloc (.cells #[.int .i64 y] 3)).heap.size = w.heap.size + 4 := by simp
  have HB1 := Lib.hid hb1
  have HH1 := Lib.hid (h.later hb1)
  have HNO := Lib.hid hno
  have HSZ := Lib.hid hsz
  have HXb := Lib.hid hxb
  have HXc := Lib.hid hxc
  have HXx := Lib.hid hxx
  have HXy := Lib.hid hxy
  have HFW := Lib.hid hf
  clear h hb1 hno hsz hf hxb hxc hxx hxy
  go_enter Try.func56, Try.ntmps56
  go_upto_region 1 with fail
  generalize hgw : ((((w.alloc (.cells #[.pointer (some ⟨bb, 0, none⟩)] 24)).alloc (.cells #[.int .i64 c] 3)).alloc (.cells #[.int .i64 x] 3)).alloc (.cells #[.int .i64 y] 3)) = w1 at *
  clear hgw
  obtain ⟨pb, HPb⟩ : ∃ p, Hid (w.heap.size + 0 = p) := ⟨_, Lib.hid rfl⟩
  obtain ⟨pc, HPc⟩ : ∃ p, Hid (w.heap.size + 1 = p) := ⟨_, Lib.hid rfl⟩
  obtain ⟨px, HPx⟩ : ∃ p, Hid (w.heap.size + 2 = p) := ⟨_, Lib.hid rfl⟩
  obtain ⟨py, HPy⟩ : ∃ p, Hid (w.heap.size + 3 = p) := ⟨_, Lib.hid rfl⟩
  have HP0 := Lib.hid (show w.heap.size = pb from HPb.out)
  rw [HPb.out] at HXb
  rw [HPc.out] at HXc
  rw [HPx.out] at HXx
  rw [HPy.out] at HXy
  rw [HP0.out, show pb + 1 = pc from by rw [← HPc.out, ← HPb.out], show pc + 1 = px from by rw [← HPx.out, ← HPc.out], show px + 1 = py from by rw [← HPy.out, ← HPx.out]]
  have cb := HXb.out.cell
  have cc := HXc.out.cell
  have cx := HXx.out.cell
  have cy := HXy.out.cell
  have hba := (Below.refl w1.heap.size w1).alloc (Nat.le_refl _) (.cells #[.int .i64 c, .int .i64 x, .int .i64 y] 3)
  have HBA := Lib.hid (HB1.out.trans (hba.mono HB1.out.size))
  have HH2 := Lib.hid (HH1.out.later hba)
  have HVb := Lib.hid (show VBx bb mb rv (w1.alloc (.cells #[.int .i64 c, .int .i64 x, .int .i64 y] 3)) pb 24 (.pointer (some ⟨bb, 0, none⟩)) from ⟨HXb.out.later hba, HNO.out _ (by rw [← HPb.out]; omega)⟩)
  have HVc := Lib.hid (show VBx bb mb rv (w1.alloc (.cells #[.int .i64 c, .int .i64 x, .int .i64 y] 3)) pc 3 (.int .i64 c) from ⟨HXc.out.later hba, HNO.out _ (by rw [← HPc.out]; omega)⟩)
  have HVx := Lib.hid (show VBx bb mb rv (w1.alloc (.cells #[.int .i64 c, .int .i64 x, .int .i64 y] 3)) px 3 (.int .i64 x) from ⟨HXx.out.later hba, HNO.out _ (by rw [← HPx.out]; omega)⟩)
  have HVy := Lib.hid (show VBx bb mb rv (w1.alloc (.cells #[.int .i64 c, .int .i64 x, .int .i64 y] 3)) py 3 (.int .i64 y) from ⟨HXy.out.later hba, HNO.out _ (by rw [← HPy.out]; omega)⟩)
  have HZ := Lib.hid (show ZRow (w1.alloc (.cells #[.int .i64 c, .int .i64 x, .int .i64 y] 3)).heap.size (w1.alloc (.cells #[.int .i64 c, .int .i64 x, .int .i64 y] 3)) (some ⟨w1.heap.size, 0, none⟩) [c, x, y] from fun _ => ⟨w1.heap.size, 0, rfl, by simp, fun i hi => by
    have q := fun j => Lib.cell_of_heap (heap_alloc_new w1 (.cells #[.int .i64 c, .int .i64 x, .int .i64 y] 3)) j
    have : i = 0 ∨ i = 1 ∨ i = 2 := by simp at hi; omega
    rcases this with rfl | rfl | rfl
    · exact q 0
    · exact q 1
    · exact q 2⟩)
  clear hba
  by_cases he : e0 = 0
  · subst he
    cases hok : (litB I gs.length c && litB I gs.length x && litB I gs.length y) with
    | true =>
      have HQ := Lib.hid (show opN 0 (litB I gs.length c && litB I gs.length x && litB I gs.length y) (muxN I gs c x y) = muxN I gs c x y ∧ opL 0 (litB I gs.length c && litB I gs.length x && litB I gs.length y) gs (muxL I gs c x y) = muxL I gs c x y ∧ opE 0 (litB I gs.length c && litB I gs.length x && litB I gs.length y) = 0 from by rw [hok]; exact op_yes _ _ _)
      rw [Bool.and_eq_true, Bool.and_eq_true] at hok
      have HC := Lib.hid (build_Mux pb pc px py c x y (some ⟨w1.heap.size, 0, none⟩) 3 HH2.out (litB_iff.1 hok.1.1) (litB_iff.1 hok.1.2) (litB_iff.1 hok.2) HVb.out HVc.out HVx.out HVy.out HZ.out HFW.out)
      clear hok
      go_wp2_with (fail)
      refine HC.out.mono ?_
      rintro e w2 ⟨rfl, rv2, hr2⟩
      have HR := Lib.hid (hr2.ahead HBA.out)
      clear hr2
      go_wp2_with (fail)
      go_ret
      rw [HQ.out.1, HQ.out.2.1, HQ.out.2.2]
      exact ⟨rfl, rv2, HR.out⟩
    | false =>
      have HQ := Lib.hid (show opN 0 (litB I gs.length c && litB I gs.length x && litB I gs.length y) (muxN I gs c x y) = 0 ∧ opL 0 (litB I gs.length c && litB I gs.length x && litB I gs.length y) gs (muxL I gs c x y) = gs ∧ opE 0 (litB I gs.length c && litB I gs.length x && litB I gs.length y) = 1 from by rw [hok]; exact op_bad _ _ _)
      have HC := Lib.hid (build_bad (.func (.func 99) #[] #[.pointer (some ⟨pb, 0, none⟩), .pointer (some ⟨pc, 0, none⟩), .pointer (some ⟨px, 0, none⟩), .pointer (some ⟨py, 0, none⟩)]) (some ⟨w1.heap.size, 0, none⟩) 3 [c, x, y] HH2.out HZ.out (by simp) (by simpa [Bool.and_assoc] using hok))
      clear hok
      go_wp2_with (fail)
      refine HC.out.mono ?_
      rintro e w2 ⟨rfl, hr2⟩
      have HR := Lib.hid (hr2.ahead HBA.out)
      clear hr2
      go_wp2_with (fail)
      go_ret
      rw [HQ.out.1, HQ.out.2.1, HQ.out.2.2]
      exact ⟨rfl, rv, HR.out⟩
  · have HQ := Lib.hid (op_err he (litB I gs.length c && litB I gs.length x && litB I gs.length y) (muxN I gs c x y) gs (muxL I gs c x y))
    have HC := Lib.hid (build_err (.func (.func 99) #[] #[.pointer (some ⟨pb, 0, none⟩), .pointer (some ⟨pc, 0, none⟩), .pointer (some ⟨px, 0, none⟩), .pointer (some ⟨py, 0, none⟩)]) (some ⟨w1.heap.size, 0, none⟩) 3 3 e0 he HH2.out)
    clear he
    go_wp2_with (fail)
    refine HC.out.mono ?_
    rintro e w2 ⟨rfl, hw2⟩
    have HR := Lib.hid (BdRes.ahead HBA.out (BdRes.same HH2.out (Below.refl _ _)))
    obtain rfl := hw2.symm
    go_wp2_with (fail)
    go_ret
    rw [HQ.out.1, HQ.out.2.1, HQ.out.2.2]
    exact ⟨rfl, rv, HR.out⟩
end
end Go.Proofs.Ytbcabnbgkicfdaa
