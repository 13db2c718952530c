/- What is proved: package blast: the operators on words, whatever their lengths. -/
import Derived.Test.YtbcabnbgkicfdaaBlMade
set_option linter.unusedVariables false
namespace Go.Proofs.Ytbcabnbgkicfdaa
open Go.RowKit Go.Maps

section
variable {n₀ bb mb : Nat} {rv rv1 : Value} {I : Int} {gs : List Gt} {w w1 : World}
set_option maxRecDepth 100000 in
set_option maxHeartbeats 2000000 in
theorem clo_Neg (pb px : Nat) (A : Option Addr) (cx : Nat) (x : List Int) (ht : Bld w1 n₀ bb mb rv1 I gs 0) (hbb : Bx w1 pb 24 (.pointer (some ⟨bb, 0, none⟩))) (hbx : Bx w1 px 47 (.slice A x.length cx)) (hX : WRow w1.heap.size w1 A x) (lx : Lts I gs x) (h0 : 0 < x.length) (h8 : x.length ≤ 8)  (hf : gs.length + 7 * x.length ≤ 5000) :
    Calls Try.prog 75 #[.pointer (some ⟨pb, 0, none⟩), .pointer (some ⟨px, 0, none⟩)] w1 (WdG n₀ bb mb rv1 I gs (7 * x.length) w1 x.length (NegH x)) := by
  have HC := Lib.hid (negative_any A cx x ht hX lx (by omega) (by omega))
  have eb := hbb.cell
  have ex := hbx.cell
  clear ht hX lx hbb hbx h0 h8 hf
  go_enter Try.func75, Try.ntmps75
  go_wp2_with (fail)
  refine HC.out.mono ?_
  rintro e w2 ⟨A', c', z, rv2, gs2, rfl, hac, hz, hh⟩
  have HAC := Lib.hid hac
  have HZ := Lib.hid hz
  have HH := Lib.hid hh
  clear hac hz hh HC eb ex
  go_wp2_with (fail)
  go_ret
  exact ⟨A', c', z, rv2, gs2, rfl, HAC.out, HZ.out, HH.out⟩
theorem clo_Neg_eK : ∀ args w, (callFunc 75 args).run Try.prog w = .ok (.enter 75 args) w := enters_of Try.func75 (by kernel_rfl) rfl
set_option maxRecDepth 100000 in
set_option maxHeartbeats 4000000 in
theorem Neg_yes (A : Option Addr) (cx : Nat) (x : List Int) (h : Bld w n₀ bb mb rv I gs 0) (hX : WRow w.heap.size w A x) (lx : Lts I gs x) (h0 : 0 < x.length) (h8 : x.length ≤ 8)  (hf : gs.length + (7 * x.length) + 1 ≤ 5000) :
    Calls Try.prog 36 #[.pointer (some ⟨bb, 0, none⟩), .slice A x.length cx] w (WdG n₀ bb mb rv I gs (7 * x.length) w x.length (NegH x)) := by
  have hb1 : Below w.heap.size w ((w.alloc (.cells #[.pointer (some ⟨bb, 0, none⟩)] 24)).alloc (.cells #[.slice A x.length cx] 47)) := (((Below.refl w.heap.size w).alloc (by simp; try omega) (.cells #[.pointer (some ⟨bb, 0, none⟩)] 24)).alloc (by simp; try omega) (.cells #[.slice A x.length cx] 47))
  have hbxb : Bx (w.alloc (.cells #[.pointer (some ⟨bb, 0, none⟩)] 24)) (w.heap.size + 0) 24 (.pointer (some ⟨bb, 0, none⟩)) := by
    have := heap_alloc_new w (.cells #[.pointer (some ⟨bb, 0, none⟩)] 24)
    rw [show w.heap.size = w.heap.size + 0 by simp] at this
    exact this
  have hbxb := hbxb.later ((Below.refl (w.alloc (.cells #[.pointer (some ⟨bb, 0, none⟩)] 24)).heap.size (w.alloc (.cells #[.pointer (some ⟨bb, 0, none⟩)] 24))).alloc (Nat.le_refl _) (.cells #[.slice A x.length cx] 47))
  have hbxx : Bx ((w.alloc (.cells #[.pointer (some ⟨bb, 0, none⟩)] 24)).alloc (.cells #[.slice A x.length cx] 47)) (w.heap.size + 1) 47 (.slice A x.length cx) := by
    have := heap_alloc_new (w.alloc (.cells #[.pointer (some ⟨bb, 0, none⟩)] 24)) (.cells #[.slice A x.length cx] 47)
    rw [show (w.alloc (.cells #[.pointer (some ⟨bb, 0, none⟩)] 24)).heap.size = w.heap.size + 1 by simp] at this
    exact this
  have HB1 := Lib.hid hb1
  have HT1 := Lib.hid (h.later hb1)
  have HX1 := Lib.hid ((hX.later hb1).here)
  have HXb := Lib.hid hbxb
  have HXx := Lib.hid hbxx
  have LX := Lib.hid lx
  have H_h0 := Lib.hid h0
  have H_h8 := Lib.hid h8
  have H_hf := Lib.hid hf
  clear h hX lx h0 h8 hf hb1 hbxb hbxx
  go_enter Try.func36, Try.ntmps36
  go_upto_region 1 with fail
  generalize hgw : ((w.alloc (.cells #[.pointer (some ⟨bb, 0, none⟩)] 24)).alloc (.cells #[.slice A x.length cx] 47)) = w1 at *
  clear hgw
  obtain ⟨pb, HPb⟩ : ∃ p, Hid (w.heap.size + 0 = p) := ⟨_, Lib.hid rfl⟩
  obtain ⟨px, HPx⟩ : ∃ p, Hid (w.heap.size + 1 = p) := ⟨_, Lib.hid rfl⟩
  have HP0 := Lib.hid (show w.heap.size = pb from HPb.out)
  rw [HPb.out] at HXb
  rw [HPx.out] at HXx
  rw [HP0.out, show pb + 1 = px from by rw [← HPx.out, ← HPb.out]]
  have eb := HXb.out.cell
  have ex := HXx.out.cell
  have hba := (Below.refl w1.heap.size w1).alloc (Nat.le_refl _) (.cells #[.slice A x.length cx] 47)
  have HBA := Lib.hid (HB1.out.trans (hba.mono HB1.out.size))
  have HT2 := Lib.hid (HT1.out.later hba)
  have hws : WdS (w1.alloc (.cells #[.slice A x.length cx] 47)) w1.heap.size [⟨A, cx, x⟩] := ⟨_, heap_alloc_new w1 _, fun k hk => by
    have : k = 0 := by simp at hk; omega
    subst this; rfl, fun k hk => by
    have : k = 0 := by simp at hk; omega
    subst this
    exact (HX1.out.later hba).here⟩
  have HC := Lib.hid (madeW_yes (w := w1.alloc (.cells #[.slice A x.length cx] 47)) w1.heap.size [⟨A, cx, x⟩] ⟨A, cx, x⟩ 75 #[.pointer (some ⟨pb, 0, none⟩), .pointer (some ⟨px, 0, none⟩)] (7 * x.length) x.length (NegH x) clo_Neg_eK HT2.out (by simp) rfl ⟨fun k hk => by
    have : k = 0 := by simp at hk; omega
    subst this; rfl, H_h0.out, H_h8.out⟩ (by simp) (fun k hk => by
    have : k = 0 := by simp at hk; omega
    subst this; exact LX.out) hws (by have := H_hf.out; omega) (fun w3 rv3 hs => clo_Neg pb px A cx x hs.tab ((HXb.out.later hba).stp (by decide) (by decide) HT2.out hs) ((HXx.out.later hba).stp (by decide) (by decide) HT2.out hs) ((((HX1.out.later hba).here).stp HT2.out hs).here) LX.out H_h0.out H_h8.out (by have := H_hf.out; omega)))
  clear hws hba
  go_wp2_with (fail)
  refine HC.out.mono ?_
  rintro e w2 ⟨A', c', z, rv2, gs2, rfl, hac, hz, hh⟩
  have HAC := Lib.hid (hac.ahead HBA.out)
  have HZ := Lib.hid hz
  have HH := Lib.hid hh
  clear hac hz hh HC
  go_wp2_with (fail)
  go_ret
  exact ⟨A', c', z, rv2, gs2, rfl, HAC.out, HZ.out, HH.out⟩
set_option maxRecDepth 100000 in
set_option maxHeartbeats 4000000 in
theorem Neg_no (A : Option Addr) (cx : Nat) (x : List Int) (h : Bld w n₀ bb mb rv I gs 0) (hX : WRow w.heap.size w A x) (lx : Lts I gs x) (hno : ¬ (0 < x.length ∧ x.length ≤ 8)) (hlx : x.length ≤ 1000000) :
    Calls Try.prog 36 #[.pointer (some ⟨bb, 0, none⟩), .slice A x.length cx] w fun e w' => e = .returned (.slice none 0 0) ∧ Below w.heap.size w w' := by
  have hb1 : Below w.heap.size w ((w.alloc (.cells #[.pointer (some ⟨bb, 0, none⟩)] 24)).alloc (.cells #[.slice A x.length cx] 47)) := (((Below.refl w.heap.size w).alloc (by simp; try omega) (.cells #[.pointer (some ⟨bb, 0, none⟩)] 24)).alloc (by simp; try omega) (.cells #[.slice A x.length cx] 47))
  have hbxb : Bx (w.alloc (.cells #[.pointer (some ⟨bb, 0, none⟩)] 24)) (w.heap.size + 0) 24 (.pointer (some ⟨bb, 0, none⟩)) := by
    have := heap_alloc_new w (.cells #[.pointer (some ⟨bb, 0, none⟩)] 24)
    rw [show w.heap.size = w.heap.size + 0 by simp] at this
    exact this
  have hbxb := hbxb.later ((Below.refl (w.alloc (.cells #[.pointer (some ⟨bb, 0, none⟩)] 24)).heap.size (w.alloc (.cells #[.pointer (some ⟨bb, 0, none⟩)] 24))).alloc (Nat.le_refl _) (.cells #[.slice A x.length cx] 47))
  have hbxx : Bx ((w.alloc (.cells #[.pointer (some ⟨bb, 0, none⟩)] 24)).alloc (.cells #[.slice A x.length cx] 47)) (w.heap.size + 1) 47 (.slice A x.length cx) := by
    have := heap_alloc_new (w.alloc (.cells #[.pointer (some ⟨bb, 0, none⟩)] 24)) (.cells #[.slice A x.length cx] 47)
    rw [show (w.alloc (.cells #[.pointer (some ⟨bb, 0, none⟩)] 24)).heap.size = w.heap.size + 1 by simp] at this
    exact this
  have HB1 := Lib.hid hb1
  have HT1 := Lib.hid (h.later hb1)
  have HX1 := Lib.hid ((hX.later hb1).here)
  have HXb := Lib.hid hbxb
  have HXx := Lib.hid hbxx
  have LX := Lib.hid lx
  have H_hno := Lib.hid hno
  have H_hlx := Lib.hid hlx
  clear h hX lx hno hlx hb1 hbxb hbxx
  go_enter Try.func36, Try.ntmps36
  go_upto_region 1 with fail
  generalize hgw : ((w.alloc (.cells #[.pointer (some ⟨bb, 0, none⟩)] 24)).alloc (.cells #[.slice A x.length cx] 47)) = w1 at *
  clear hgw
  obtain ⟨pb, HPb⟩ : ∃ p, Hid (w.heap.size + 0 = p) := ⟨_, Lib.hid rfl⟩
  obtain ⟨px, HPx⟩ : ∃ p, Hid (w.heap.size + 1 = p) := ⟨_, Lib.hid rfl⟩
  have HP0 := Lib.hid (show w.heap.size = pb from HPb.out)
  rw [HPb.out] at HXb
  rw [HPx.out] at HXx
  rw [HP0.out, show pb + 1 = px from by rw [← HPx.out, ← HPb.out]]
  have eb := HXb.out.cell
  have ex := HXx.out.cell
  have hba := (Below.refl w1.heap.size w1).alloc (Nat.le_refl _) (.cells #[.slice A x.length cx] 47)
  have HBA := Lib.hid (HB1.out.trans (hba.mono HB1.out.size))
  have HT2 := Lib.hid (HT1.out.later hba)
  have hws : WdS (w1.alloc (.cells #[.slice A x.length cx] 47)) w1.heap.size [⟨A, cx, x⟩] := ⟨_, heap_alloc_new w1 _, fun k hk => by
    have : k = 0 := by simp at hk; omega
    subst this; rfl, fun k hk => by
    have : k = 0 := by simp at hk; omega
    subst this
    exact (HX1.out.later hba).here⟩
  have HC := Lib.hid (madeW_no (bb := bb) w1.heap.size [⟨A, cx, x⟩] ⟨A, cx, x⟩ (.func (.func 75) #[] #[.pointer (some ⟨pb, 0, none⟩), .pointer (some ⟨px, 0, none⟩)]) (w1.alloc (.cells #[.slice A x.length cx] 47)) (by simp) rfl (fun ha => H_hno.out ⟨ha.2.1, ha.2.2⟩) (by simp) (fun k hk => by
    have : k = 0 := by simp at hk; omega
    subst this; exact H_hlx.out) hws)
  clear hws hba
  go_wp2_with (fail)
  refine HC.out.mono ?_
  rintro e w2 ⟨rfl, hb2⟩
  have HB2 := Lib.hid (HBA.out.trans (hb2.mono HBA.out.size))
  clear hb2 HC
  go_wp2_with (fail)
  go_ret
  exact ⟨rfl, HB2.out⟩
set_option maxRecDepth 100000 in
set_option maxHeartbeats 2000000 in
theorem clo_Add (pb px py : Nat) (A : Option Addr) (cx : Nat) (x : List Int) (B : Option Addr) (cy : Nat) (y : List Int) (ht : Bld w1 n₀ bb mb rv1 I gs 0) (hbb : Bx w1 pb 24 (.pointer (some ⟨bb, 0, none⟩))) (hbx : Bx w1 px 47 (.slice A x.length cx)) (hby : Bx w1 py 47 (.slice B y.length cy)) (hX : WRow w1.heap.size w1 A x) (hY : WRow w1.heap.size w1 B y) (lx : Lts I gs x) (ly : Lts I gs y) (h0 : 0 < x.length) (h8 : x.length ≤ 8) (hxy : y.length = x.length)  (hf : gs.length + 7 * x.length ≤ 5000) :
    Calls Try.prog 77 #[.pointer (some ⟨pb, 0, none⟩), .pointer (some ⟨px, 0, none⟩), .pointer (some ⟨py, 0, none⟩)] w1 (WdG n₀ bb mb rv1 I gs (7 * x.length) w1 x.length (AddH x y)) := by
  have HC := Lib.hid (sum_any A cx x B cy y ht hX hY lx ly (by omega) hxy (by omega))
  have eb := hbb.cell
  have ex := hbx.cell
  have ey := hby.cell
  clear ht hX hY lx ly hbb hbx hby h0 h8 hf hxy
  go_enter Try.func77, Try.ntmps77
  go_wp2_with (fail)
  refine HC.out.mono ?_
  rintro e w2 ⟨A', c', z, rv2, gs2, rfl, hac, hz, hh⟩
  have HAC := Lib.hid hac
  have HZ := Lib.hid hz
  have HH := Lib.hid hh
  clear hac hz hh HC eb ex ey
  go_wp2_with (fail)
  go_ret
  exact ⟨A', c', z, rv2, gs2, rfl, HAC.out, HZ.out, HH.out⟩
theorem clo_Add_eK : ∀ args w, (callFunc 77 args).run Try.prog w = .ok (.enter 77 args) w := enters_of Try.func77 (by kernel_rfl) rfl
set_option maxRecDepth 100000 in
set_option maxHeartbeats 4000000 in
theorem Add_yes (A : Option Addr) (cx : Nat) (x : List Int) (B : Option Addr) (cy : Nat) (y : List Int) (h : Bld w n₀ bb mb rv I gs 0) (hX : WRow w.heap.size w A x) (hY : WRow w.heap.size w B y) (lx : Lts I gs x) (ly : Lts I gs y) (h0 : 0 < x.length) (h8 : x.length ≤ 8) (hxy : y.length = x.length)  (hf : gs.length + (7 * x.length) + 1 ≤ 5000) :
    Calls Try.prog 37 #[.pointer (some ⟨bb, 0, none⟩), .slice A x.length cx, .slice B y.length cy] w (WdG n₀ bb mb rv I gs (7 * x.length) w x.length (AddH x y)) := by
  have hb1 : Below w.heap.size w (((w.alloc (.cells #[.pointer (some ⟨bb, 0, none⟩)] 24)).alloc (.cells #[.slice A x.length cx] 47)).alloc (.cells #[.slice B y.length cy] 47)) := ((((Below.refl w.heap.size w).alloc (by simp; try omega) (.cells #[.pointer (some ⟨bb, 0, none⟩)] 24)).alloc (by simp; try omega) (.cells #[.slice A x.length cx] 47)).alloc (by simp; try omega) (.cells #[.slice B y.length cy] 47))
  have hbxb : Bx (w.alloc (.cells #[.pointer (some ⟨bb, 0, none⟩)] 24)) (w.heap.size + 0) 24 (.pointer (some ⟨bb, 0, none⟩)) := by
    have := heap_alloc_new w (.cells #[.pointer (some ⟨bb, 0, none⟩)] 24)
    rw [show w.heap.size = w.heap.size + 0 by simp] at this
    exact this
  have hbxb := hbxb.later ((Below.refl (w.alloc (.cells #[.pointer (some ⟨bb, 0, none⟩)] 24)).heap.size (w.alloc (.cells #[.pointer (some ⟨bb, 0, none⟩)] 24))).alloc (Nat.le_refl _) (.cells #[.slice A x.length cx] 47))
  have hbxb := hbxb.later ((Below.refl ((w.alloc (.cells #[.pointer (some ⟨bb, 0, none⟩)] 24)).alloc (.cells #[.slice A x.length cx] 47)).heap.size ((w.alloc (.cells #[.pointer (some ⟨bb, 0, none⟩)] 24)).alloc (.cells #[.slice A x.length cx] 47))).alloc (Nat.le_refl _) (.cells #[.slice B y.length cy] 47))
  have hbxx : Bx ((w.alloc (.cells #[.pointer (some ⟨bb, 0, none⟩)] 24)).alloc (.cells #[.slice A x.length cx] 47)) (w.heap.size + 1) 47 (.slice A x.length cx) := by
    have := heap_alloc_new (w.alloc (.cells #[.pointer (some ⟨bb, 0, none⟩)] 24)) (.cells #[.slice A x.length cx] 47)
    rw [show (w.alloc (.cells #[.pointer (some ⟨bb, 0, none⟩)] 24)).heap.size = w.heap.size + 1 by simp] at this
    exact this
  have hbxx := hbxx.later ((Below.refl ((w.alloc (.cells #[.pointer (some ⟨bb, 0, none⟩)] 24)).alloc (.cells #[.slice A x.length cx] 47)).heap.size ((w.alloc (.cells #[.pointer (some ⟨bb, 0, none⟩)] 24)).alloc (.cells #[.slice A x.length cx] 47))).alloc (Nat.le_refl _) (.cells #[.slice B y.length cy] 47))
  have hbxy : Bx (((w.alloc (.cells #[.pointer (some ⟨bb, 0, none⟩)] 24)).alloc (.cells #[.slice A x.length cx] 47)).alloc (.cells #[.slice B y.length cy] 47)) (w.heap.size + 2) 47 (.slice B y.length cy) := by
    have := heap_alloc_new ((w.alloc (.cells #[.pointer (some ⟨bb, 0, none⟩)] 24)).alloc (.cells #[.slice A x.length cx] 47)) (.cells #[.slice B y.length cy] 47)
    rw [show ((w.alloc (.cells #[.pointer (some ⟨bb, 0, none⟩)] 24)).alloc (.cells #[.slice A x.length cx] 47)).heap.size = w.heap.size + 2 by simp] at this
    exact this
  have HB1 := Lib.hid hb1
  have HT1 := Lib.hid (h.later hb1)
  have HX1 := Lib.hid ((hX.later hb1).here)
  have HY1 := Lib.hid ((hY.later hb1).here)
  have HXb := Lib.hid hbxb
  have HXx := Lib.hid hbxx
  have HXy := Lib.hid hbxy
  have LX := Lib.hid lx
  have LY := Lib.hid ly
  have H_h0 := Lib.hid h0
  have H_h8 := Lib.hid h8
  have H_hxy := Lib.hid hxy
  have H_hf := Lib.hid hf
  clear h hX hY lx ly h0 h8 hxy hf hb1 hbxb hbxx hbxy
  go_enter Try.func37, Try.ntmps37
  go_upto_region 1 with fail
  generalize hgw : (((w.alloc (.cells #[.pointer (some ⟨bb, 0, none⟩)] 24)).alloc (.cells #[.slice A x.length cx] 47)).alloc (.cells #[.slice B y.length cy] 47)) = w1 at *
  clear hgw
  obtain ⟨pb, HPb⟩ : ∃ p, Hid (w.heap.size + 0 = p) := ⟨_, Lib.hid rfl⟩
  obtain ⟨px, HPx⟩ : ∃ p, Hid (w.heap.size + 1 = p) := ⟨_, Lib.hid rfl⟩
  obtain ⟨py, HPy⟩ : ∃ p, Hid (w.heap.size + 2 = p) := ⟨_, Lib.hid rfl⟩
  have HP0 := Lib.hid (show w.heap.size = pb from HPb.out)
  rw [HPb.out] at HXb
  rw [HPx.out] at HXx
  rw [HPy.out] at HXy
  rw [HP0.out, show pb + 1 = px from by rw [← HPx.out, ← HPb.out], show px + 1 = py from by rw [← HPy.out, ← HPx.out]]
  have eb := HXb.out.cell
  have ex := HXx.out.cell
  have ey := HXy.out.cell
  have hba := (Below.refl w1.heap.size w1).alloc (Nat.le_refl _) (.cells #[.slice A x.length cx, .slice B y.length cy] 47)
  have HBA := Lib.hid (HB1.out.trans (hba.mono HB1.out.size))
  have HT2 := Lib.hid (HT1.out.later hba)
  have hws : WdS (w1.alloc (.cells #[.slice A x.length cx, .slice B y.length cy] 47)) w1.heap.size [⟨A, cx, x⟩, ⟨B, cy, y⟩] := ⟨_, heap_alloc_new w1 _, fun k hk => by
    have : k = 0 ∨ k = 1 := by simp at hk; omega
    rcases this with rfl | rfl <;> rfl, fun k hk => by
    have : k = 0 ∨ k = 1 := by simp at hk; omega
    rcases this with rfl | rfl
    · exact (HX1.out.later hba).here
    · exact (HY1.out.later hba).here⟩
  have HC := Lib.hid (madeW_yes (w := w1.alloc (.cells #[.slice A x.length cx, .slice B y.length cy] 47)) w1.heap.size [⟨A, cx, x⟩, ⟨B, cy, y⟩] ⟨A, cx, x⟩ 77 #[.pointer (some ⟨pb, 0, none⟩), .pointer (some ⟨px, 0, none⟩), .pointer (some ⟨py, 0, none⟩)] (7 * x.length) x.length (AddH x y) clo_Add_eK HT2.out (by simp) rfl ⟨fun k hk => by
    have : k = 0 ∨ k = 1 := by simp at hk; omega
    rcases this with rfl | rfl
    · rfl
    · exact H_hxy.out, H_h0.out, H_h8.out⟩ (by simp) (fun k hk => by
    have : k = 0 ∨ k = 1 := by simp at hk; omega
    rcases this with rfl | rfl
    · exact LX.out
    · exact LY.out) hws (by have := H_hf.out; omega) (fun w3 rv3 hs => clo_Add pb px py A cx x B cy y hs.tab ((HXb.out.later hba).stp (by decide) (by decide) HT2.out hs) ((HXx.out.later hba).stp (by decide) (by decide) HT2.out hs) ((HXy.out.later hba).stp (by decide) (by decide) HT2.out hs) ((((HX1.out.later hba).here).stp HT2.out hs).here) ((((HY1.out.later hba).here).stp HT2.out hs).here) LX.out LY.out H_h0.out H_h8.out H_hxy.out (by have := H_hf.out; omega)))
  clear hws hba
  go_wp2_with (fail)
  refine HC.out.mono ?_
  rintro e w2 ⟨A', c', z, rv2, gs2, rfl, hac, hz, hh⟩
  have HAC := Lib.hid (hac.ahead HBA.out)
  have HZ := Lib.hid hz
  have HH := Lib.hid hh
  clear hac hz hh HC
  go_wp2_with (fail)
  go_ret
  exact ⟨A', c', z, rv2, gs2, rfl, HAC.out, HZ.out, HH.out⟩
set_option maxRecDepth 100000 in
set_option maxHeartbeats 4000000 in
theorem Add_no (A : Option Addr) (cx : Nat) (x : List Int) (B : Option Addr) (cy : Nat) (y : List Int) (h : Bld w n₀ bb mb rv I gs 0) (hX : WRow w.heap.size w A x) (hY : WRow w.heap.size w B y) (lx : Lts I gs x) (ly : Lts I gs y) (hno : ¬ (y.length = x.length ∧ 0 < x.length ∧ x.length ≤ 8)) (hlx : x.length ≤ 1000000) (hly : y.length ≤ 1000000) :
    Calls Try.prog 37 #[.pointer (some ⟨bb, 0, none⟩), .slice A x.length cx, .slice B y.length cy] w fun e w' => e = .returned (.slice none 0 0) ∧ Below w.heap.size w w' := by
  have hb1 : Below w.heap.size w (((w.alloc (.cells #[.pointer (some ⟨bb, 0, none⟩)] 24)).alloc (.cells #[.slice A x.length cx] 47)).alloc (.cells #[.slice B y.length cy] 47)) := ((((Below.refl w.heap.size w).alloc (by simp; try omega) (.cells #[.pointer (some ⟨bb, 0, none⟩)] 24)).alloc (by simp; try omega) (.cells #[.slice A x.length cx] 47)).alloc (by simp; try omega) (.cells #[.slice B y.length cy] 47))
  have hbxb : Bx (w.alloc (.cells #[.pointer (some ⟨bb, 0, none⟩)] 24)) (w.heap.size + 0) 24 (.pointer (some ⟨bb, 0, none⟩)) := by
    have := heap_alloc_new w (.cells #[.pointer (some ⟨bb, 0, none⟩)] 24)
    rw [show w.heap.size = w.heap.size + 0 by simp] at this
    exact this
  have hbxb := hbxb.later ((Below.refl (w.alloc (.cells #[.pointer (some ⟨bb, 0, none⟩)] 24)).heap.size (w.alloc (.cells #[.pointer (some ⟨bb, 0, none⟩)] 24))).alloc (Nat.le_refl _) (.cells #[.slice A x.length cx] 47))
  have hbxb := hbxb.later ((Below.refl ((w.alloc (.cells #[.pointer (some ⟨bb, 0, none⟩)] 24)).alloc (.cells #[.slice A x.length cx] 47)).heap.size ((w.alloc (.cells #[.pointer (some ⟨bb, 0, none⟩)] 24)).alloc (.cells #[.slice A x.length cx] 47))).alloc (Nat.le_refl _) (.cells #[.slice B y.length cy] 47))
  have hbxx : Bx ((w.alloc (.cells #[.pointer (some ⟨bb, 0, none⟩)] 24)).alloc (.cells #[.slice A x.length cx] 47)) (w.heap.size + 1) 47 (.slice A x.length cx) := by
    have := heap_alloc_new (w.alloc (.cells #[.pointer (some ⟨bb, 0, none⟩)] 24)) (.cells #[.slice A x.length cx] 47)
    rw [show (w.alloc (.cells #[.pointer (some ⟨bb, 0, none⟩)] 24)).heap.size = w.heap.size + 1 by simp] at this
    exact this
  have hbxx := hbxx.later ((Below.refl ((w.alloc (.cells #[.pointer (some ⟨bb, 0, none⟩)] 24)).alloc (.cells #[.slice A x.length cx] 47)).heap.size ((w.alloc (.cells #[.pointer (some ⟨bb, 0, none⟩)] 24)).alloc (.cells #[.slice A x.length cx] 47))).alloc (Nat.le_refl _) (.cells #[.slice B y.length cy] 47))
  have hbxy : Bx (((w.alloc (.cells #[.pointer (some ⟨bb, 0, none⟩)] 24)).alloc (.cells #[.slice A x.length cx] 47)).alloc (.cells #[.slice B y.length cy] 47)) (w.heap.size + 2) 47 (.slice B y.length cy) := by
    have := heap_alloc_new ((w.alloc (.cells #[.pointer (some ⟨bb, 0, none⟩)] 24)).alloc (.cells #[.slice A x.length cx] 47)) (.cells #[.slice B y.length cy] 47)
    rw [show ((w.alloc (.cells #[.pointer (some ⟨bb, 0, none⟩)] 24)).alloc (.cells #[.slice A x.length cx] 47)).heap.size = w.heap.size + 2 by simp] at this
    exact this
  have HB1 := Lib.hid hb1
  have HT1 := Lib.hid (h.later hb1)
  have HX1 := Lib.hid ((hX.later hb1).here)
  have HY1 := Lib.hid ((hY.later hb1).here)
  have HXb := Lib.hid hbxb
  have HXx := Lib.hid hbxx
  have HXy := Lib.hid hbxy
  have LX := Lib.hid lx
  have LY := Lib.hid ly
  have H_hno := Lib.hid hno
  have H_hlx := Lib.hid hlx
  have H_hly := Lib.hid hly
  clear h hX hY lx ly hno hlx hly hb1 hbxb hbxx hbxy
  go_enter Try.func37, Try.ntmps37
  go_upto_region 1 with fail
  generalize hgw : (((w.alloc (.cells #[.pointer (some ⟨bb, 0, none⟩)] 24)).alloc (.cells #[.slice A x.length cx] 47)).alloc (.cells #[.slice B y.length cy] 47)) = w1 at *
  clear hgw
  obtain ⟨pb, HPb⟩ : ∃ p, Hid (w.heap.size + 0 = p) := ⟨_, Lib.hid rfl⟩
  obtain ⟨px, HPx⟩ : ∃ p, Hid (w.heap.size + 1 = p) := ⟨_, Lib.hid rfl⟩
  obtain ⟨py, HPy⟩ : ∃ p, Hid (w.heap.size + 2 = p) := ⟨_, Lib.hid rfl⟩
  have HP0 := Lib.hid (show w.heap.size = pb from HPb.out)
  rw [HPb.out] at HXb
  rw [HPx.out] at HXx
  rw [HPy.out] at HXy
  rw [HP0.out, show pb + 1 = px from by rw [← HPx.out, ← HPb.out], show px + 1 = py from by rw [← HPy.out, ← HPx.out]]
  have eb := HXb.out.cell
  have ex := HXx.out.cell
  have ey := HXy.out.cell
  have hba := (Below.refl w1.heap.size w1).alloc (Nat.le_refl _) (.cells #[.slice A x.length cx, .slice B y.length cy] 47)
  have HBA := Lib.hid (HB1.out.trans (hba.mono HB1.out.size))
  have HT2 := Lib.hid (HT1.out.later hba)
  have hws : WdS (w1.alloc (.cells #[.slice A x.length cx, .slice B y.length cy] 47)) w1.heap.size [⟨A, cx, x⟩, ⟨B, cy, y⟩] := ⟨_, heap_alloc_new w1 _, fun k hk => by
    have : k = 0 ∨ k = 1 := by simp at hk; omega
    rcases this with rfl | rfl <;> rfl, fun k hk => by
    have : k = 0 ∨ k = 1 := by simp at hk; omega
    rcases this with rfl | rfl
    · exact (HX1.out.later hba).here
    · exact (HY1.out.later hba).here⟩
  have HC := Lib.hid (madeW_no (bb := bb) w1.heap.size [⟨A, cx, x⟩, ⟨B, cy, y⟩] ⟨A, cx, x⟩ (.func (.func 77) #[] #[.pointer (some ⟨pb, 0, none⟩), .pointer (some ⟨px, 0, none⟩), .pointer (some ⟨py, 0, none⟩)]) (w1.alloc (.cells #[.slice A x.length cx, .slice B y.length cy] 47)) (by simp) rfl (fun ha => H_hno.out ⟨ha.1 1 (by simp), ha.2.1, ha.2.2⟩) (by simp) (fun k hk => by
    have : k = 0 ∨ k = 1 := by simp at hk; omega
    rcases this with rfl | rfl
    · exact H_hlx.out
    · exact H_hly.out) hws)
  clear hws hba
  go_wp2_with (fail)
  refine HC.out.mono ?_
  rintro e w2 ⟨rfl, hb2⟩
  have HB2 := Lib.hid (HBA.out.trans (hb2.mono HBA.out.size))
  clear hb2 HC
  go_wp2_with (fail)
  go_ret
  exact ⟨rfl, HB2.out⟩
set_option maxRecDepth 100000 in
set_option maxHeartbeats 2000000 in
theorem clo_Sub (pb px py : Nat) (A : Option Addr) (cx : Nat) (x : List Int) (B : Option Addr) (cy : Nat) (y : List Int) (ht : Bld w1 n₀ bb mb rv1 I gs 0) (hbb : Bx w1 pb 24 (.pointer (some ⟨bb, 0, none⟩))) (hbx : Bx w1 px 47 (.slice A x.length cx)) (hby : Bx w1 py 47 (.slice B y.length cy)) (hX : WRow w1.heap.size w1 A x) (hY : WRow w1.heap.size w1 B y) (lx : Lts I gs x) (ly : Lts I gs y) (h0 : 0 < x.length) (h8 : x.length ≤ 8) (hxy : y.length = x.length)  (hf : gs.length + 7 * x.length ≤ 5000) :
    Calls Try.prog 79 #[.pointer (some ⟨pb, 0, none⟩), .pointer (some ⟨px, 0, none⟩), .pointer (some ⟨py, 0, none⟩)] w1 (WdG n₀ bb mb rv1 I gs (7 * x.length) w1 x.length (SubH x y)) := by
  have HC := Lib.hid (difference_any A cx x B cy y ht hX hY lx ly (by omega) hxy (by omega))
  have eb := hbb.cell
  have ex := hbx.cell
  have ey := hby.cell
  clear ht hX hY lx ly hbb hbx hby h0 h8 hf hxy
  go_enter Try.func79, Try.ntmps79
  go_wp2_with (fail)
  refine HC.out.mono ?_
  rintro e w2 ⟨A', c', z, rv2, gs2, rfl, hac, hz, hh⟩
  have HAC := Lib.hid hac
  have HZ := Lib.hid hz
  have HH := Lib.hid hh
  clear hac hz hh HC eb ex ey
  go_wp2_with (fail)
  go_ret
  exact ⟨A', c', z, rv2, gs2, rfl, HAC.out, HZ.out, HH.out⟩
theorem clo_Sub_eK : ∀ args w, (callFunc 79 args).run Try.prog w = .ok (.enter 79 args) w := enters_of Try.func79 (by kernel_rfl) rfl
set_option maxRecDepth 100000 in
set_option maxHeartbeats 4000000 in
theorem Sub_yes (A : Option Addr) (cx : Nat) (x : List Int) (B : Option Addr) (cy : Nat) (y : List Int) (h : Bld w n₀ bb mb rv I gs 0) (hX : WRow w.heap.size w A x) (hY : WRow w.heap.size w B y) (lx : Lts I gs x) (ly : Lts I gs y) (h0 : 0 < x.length) (h8 : x.length ≤ 8) (hxy : y.length = x.length)  (hf : gs.length + (7 * x.length) + 1 ≤ 5000) :
    Calls Try.prog 38 #[.pointer (some ⟨bb, 0, none⟩), .slice A x.length cx, .slice B y.length cy] w (WdG n₀ bb mb rv I gs (7 * x.length) w x.length (SubH x y)) := by
  have hb1 : Below w.heap.size w (((w.alloc (.cells #[.pointer (some ⟨bb, 0, none⟩)] 24)).alloc (.cells #[.slice A x.length cx] 47)).alloc (.cells #[.slice B y.length cy] 47)) := ((((Below.refl w.heap.size w).alloc (by simp; try omega) (.cells #[.pointer (some ⟨bb, 0, none⟩)] 24)).alloc (by simp; try omega) (.cells #[.slice A x.length cx] 47)).alloc (by simp; try omega) (.cells #[.slice B y.length cy] 47))
  have hbxb : Bx (w.alloc (.cells #[.pointer (some ⟨bb, 0, none⟩)] 24)) (w.heap.size + 0) 24 (.pointer (some ⟨bb, 0, none⟩)) := by
    have := heap_alloc_new w (.cells #[.pointer (some ⟨bb, 0, none⟩)] 24)
    rw [show w.heap.size = w.heap.size + 0 by simp] at this
    exact this
  have hbxb := hbxb.later ((Below.refl (w.alloc (.cells #[.pointer (some ⟨bb, 0, none⟩)] 24)).heap.size (w.alloc (.cells #[.pointer (some ⟨bb, 0, none⟩)] 24))).alloc (Nat.le_refl _) (.cells #[.slice A x.length cx] 47))
  have hbxb := hbxb.later ((Below.refl ((w.alloc (.cells #[.pointer (some ⟨bb, 0, none⟩)] 24)).alloc (.cells #[.slice A x.length cx] 47)).heap.size ((w.alloc (.cells #[.pointer (some ⟨bb, 0, none⟩)] 24)).alloc (.cells #[.slice A x.length cx] 47))).alloc (Nat.le_refl _) (.cells #[.slice B y.length cy] 47))
  have hbxx : Bx ((w.alloc (.cells #[.pointer (some ⟨bb, 0, none⟩)] 24)).alloc (.cells #[.slice A x.length cx] 47)) (w.heap.size + 1) 47 (.slice A x.length cx) := by
    have := heap_alloc_new (w.alloc (.cells #[.pointer (some ⟨bb, 0, none⟩)] 24)) (.cells #[.slice A x.length cx] 47)
    rw [show (w.alloc (.cells #[.pointer (some ⟨bb, 0, none⟩)] 24)).heap.size = w.heap.size + 1 by simp] at this
    exact this
  have hbxx := hbxx.later ((Below.refl ((w.alloc (.cells #[.pointer (some ⟨bb, 0, none⟩)] 24)).alloc (.cells #[.slice A x.length cx] 47)).heap.size ((w.alloc (.cells #[.pointer (some ⟨bb, 0, none⟩)] 24)).alloc (.cells #[.slice A x.length cx] 47))).alloc (Nat.le_refl _) (.cells #[.slice B y.length cy] 47))
  have hbxy : Bx (((w.alloc (.cells #[.pointer (some ⟨bb, 0, none⟩)] 24)).alloc (.cells #[.slice A x.length cx] 47)).alloc (.cells #[.slice B y.length cy] 47)) (w.heap.size + 2) 47 (.slice B y.length cy) := by
    have := heap_alloc_new ((w.alloc (.cells #[.pointer (some ⟨bb, 0, none⟩)] 24)).alloc (.cells #[.slice A x.length cx] 47)) (.cells #[.slice B y.length cy] 47)
    rw [show ((w.alloc (.cells #[.pointer (some ⟨bb, 0, none⟩)] 24)).alloc (.cells #[.slice A x.length cx] 47)).heap.size = w.heap.size + 2 by simp] at this
    exact this
  have HB1 := Lib.hid hb1
  have HT1 := Lib.hid (h.later hb1)
  have HX1 := Lib.hid ((hX.later hb1).here)
  have HY1 := Lib.hid ((hY.later hb1).here)
  have HXb := Lib.hid hbxb
  have HXx := Lib.hid hbxx
  have HXy := Lib.hid hbxy
  have LX := Lib.hid lx
  have LY := Lib.hid ly
  have H_h0 := Lib.hid h0
  have H_h8 := Lib.hid h8
  have H_hxy := Lib.hid hxy
  have H_hf := Lib.hid hf
  clear h hX hY lx ly h0 h8 hxy hf hb1 hbxb hbxx hbxy
  go_enter Try.func38, Try.ntmps38
  go_upto_region 1 with fail
  generalize hgw : (((w.alloc (.cells #[.pointer (some ⟨bb, 0, none⟩)] 24)).alloc (.cells #[.slice A x.length cx] 47)).alloc (.cells #[.slice B y.length cy] 47)) = w1 at *
  clear hgw
  obtain ⟨pb, HPb⟩ : ∃ p, Hid (w.heap.size + 0 = p) := ⟨_, Lib.hid rfl⟩
  obtain ⟨px, HPx⟩ : ∃ p, Hid (w.heap.size + 1 = p) := ⟨_, Lib.hid rfl⟩
  obtain ⟨py, HPy⟩ : ∃ p, Hid (w.heap.size + 2 = p) := ⟨_, Lib.hid rfl⟩
  have HP0 := Lib.hid (show w.heap.size = pb from HPb.out)
  rw [HPb.out] at HXb
  rw [HPx.out] at HXx
  rw [HPy.out] at HXy
  rw [HP0.out, show pb + 1 = px from by rw [← HPx.out, ← HPb.out], show px + 1 = py from by rw [← HPy.out, ← HPx.out]]
  have eb := HXb.out.cell
  have ex := HXx.out.cell
  have ey := HXy.out.cell
  have hba := (Below.refl w1.heap.size w1).alloc (Nat.le_refl _) (.cells #[.slice A x.length cx, .slice B y.length cy] 47)
  have HBA := Lib.hid (HB1.out.trans (hba.mono HB1.out.size))
  have HT2 := Lib.hid (HT1.out.later hba)
  have hws : WdS (w1.alloc (.cells #[.slice A x.length cx, .slice B y.length cy] 47)) w1.heap.size [⟨A, cx, x⟩, ⟨B, cy, y⟩] := ⟨_, heap_alloc_new w1 _, fun k hk => by
    have : k = 0 ∨ k = 1 := by simp at hk; omega
    rcases this with rfl | rfl <;> rfl, fun k hk => by
    have : k = 0 ∨ k = 1 := by simp at hk; omega
    rcases this with rfl | rfl
    · exact (HX1.out.later hba).here
    · exact (HY1.out.later hba).here⟩
  have HC := Lib.hid (madeW_yes (w := w1.alloc (.cells #[.slice A x.length cx, .slice B y.length cy] 47)) w1.heap.size [⟨A, cx, x⟩, ⟨B, cy, y⟩] ⟨A, cx, x⟩ 79 #[.pointer (some ⟨pb, 0, none⟩), .pointer (some ⟨px, 0, none⟩), .pointer (some ⟨py, 0, none⟩)] (7 * x.length) x.length (SubH x y) clo_Sub_eK HT2.out (by simp) rfl ⟨fun k hk => by
    have : k = 0 ∨ k = 1 := by simp at hk; omega
    rcases this with rfl | rfl
    · rfl
    · exact H_hxy.out, H_h0.out, H_h8.out⟩ (by simp) (fun k hk => by
    have : k = 0 ∨ k = 1 := by simp at hk; omega
    rcases this with rfl | rfl
    · exact LX.out
    · exact LY.out) hws (by have := H_hf.out; omega) (fun w3 rv3 hs => clo_Sub pb px py A cx x B cy y hs.tab ((HXb.out.later hba).stp (by decide) (by decide) HT2.out hs) ((HXx.out.later hba).stp (by decide) (by decide) HT2.out hs) ((HXy.out.later hba).stp (by decide) (by decide) HT2.out hs) ((((HX1.out.later hba).here).stp HT2.out hs).here) ((((HY1.out.later hba).here).stp HT2.out hs).here) LX.out LY.out H_h0.out H_h8.out H_hxy.out (by have := H_hf.out; omega)))
  clear hws hba
  go_wp2_with (fail)
  refine HC.out.mono ?_
  rintro e w2 ⟨A', c', z, rv2, gs2, rfl, hac, hz, hh⟩
  have HAC := Lib.hid (hac.ahead HBA.out)
  have HZ := Lib.hid hz
  have HH := Lib.hid hh
  clear hac hz hh HC
  go_wp2_with (fail)
  go_ret
  exact ⟨A', c', z, rv2, gs2, rfl, HAC.out, HZ.out, HH.out⟩
set_option maxRecDepth 100000 in
set_option maxHeartbeats 4000000 in
theorem Sub_no (A : Option Addr) (cx : Nat) (x : List Int) (B : Option Addr) (cy : Nat) (y : List Int) (h : Bld w n₀ bb mb rv I gs 0) (hX : WRow w.heap.size w A x) (hY : WRow w.heap.size w B y) (lx : Lts I gs x) (ly : Lts I gs y) (hno : ¬ (y.length = x.length ∧ 0 < x.length ∧ x.length ≤ 8)) (hlx : x.length ≤ 1000000) (hly : y.length ≤ 1000000) :
    Calls Try.prog 38 #[.pointer (some ⟨bb, 0, none⟩), .slice A x.length cx, .slice B y.length cy] w fun e w' => e = .returned (.slice none 0 0) ∧ Below w.heap.size w w' := by
  have hb1 : Below w.heap.size w (((w.alloc (.cells #[.pointer (some ⟨bb, 0, none⟩)] 24)).alloc (.cells #[.slice A x.length cx] 47)).alloc (.cells #[.slice B y.length cy] 47)) := ((((Below.refl w.heap.size w).alloc (by simp; try omega) (.cells #[.pointer (some ⟨bb, 0, none⟩)] 24)).alloc (by simp; try omega) (.cells #[.slice A x.length cx] 47)).alloc (by simp; try omega) (.cells #[.slice B y.length cy] 47))
  have hbxb : Bx (w.alloc (.cells #[.pointer (some ⟨bb, 0, none⟩)] 24)) (w.heap.size + 0) 24 (.pointer (some ⟨bb, 0, none⟩)) := by
    have := heap_alloc_new w (.cells #[.pointer (some ⟨bb, 0, none⟩)] 24)
    rw [show w.heap.size = w.heap.size + 0 by simp] at this
    exact this
  have hbxb := hbxb.later ((Below.refl (w.alloc (.cells #[.pointer (some ⟨bb, 0, none⟩)] 24)).heap.size (w.alloc (.cells #[.pointer (some ⟨bb, 0, none⟩)] 24))).alloc (Nat.le_refl _) (.cells #[.slice A x.length cx] 47))
  have hbxb := hbxb.later ((Below.refl ((w.alloc (.cells #[.pointer (some ⟨bb, 0, none⟩)] 24)).alloc (.cells #[.slice A x.length cx] 47)).heap.size ((w.alloc (.cells #[.pointer (some ⟨bb, 0, none⟩)] 24)).alloc (.cells #[.slice A x.length cx] 47))).alloc (Nat.le_refl _) (.cells #[.slice B y.length cy] 47))
  have hbxx : Bx ((w.alloc (.cells #[.pointer (some ⟨bb, 0, none⟩)] 24)).alloc (.cells #[.slice A x.length cx] 47)) (w.heap.size + 1) 47 (.slice A x.length cx) := by
    have := heap_alloc_new (w.alloc (.cells #[.pointer (some ⟨bb, 0, none⟩)] 24)) (.cells #[.slice A x.length cx] 47)
    rw [show (w.alloc (.cells #[.pointer (some ⟨bb, 0, none⟩)] 24)).heap.size = w.heap.size + 1 by simp] at this
    exact this
  have hbxx := hbxx.later ((Below.refl ((w.alloc (.cells #[.pointer (some ⟨bb, 0, none⟩)] 24)).alloc (.cells #[.slice A x.length cx] 47)).heap.size ((w.alloc (.cells #[.pointer (some ⟨bb, 0, none⟩)] 24)).alloc (.cells #[.slice A x.length cx] 47))).alloc (Nat.le_refl _) (.cells #[.slice B y.length cy] 47))
  have hbxy : Bx (((w.alloc (.cells #[.pointer (some ⟨bb, 0, none⟩)] 24)).alloc (.cells #[.slice A x.length cx] 47)).alloc (.cells #[.slice B y.length cy] 47)) (w.heap.size + 2) 47 (.slice B y.length cy) := by
    have := heap_alloc_new ((w.alloc (.cells #[.pointer (some ⟨bb, 0, none⟩)] 24)).alloc (.cells #[.slice A x.length cx] 47)) (.cells #[.slice B y.length cy] 47)
    rw [show ((w.alloc (.cells #[.pointer (some ⟨bb, 0, none⟩)] 24)).alloc (.cells #[.slice A x.length cx] 47)).heap.size = w.heap.size + 2 by simp] at this
    exact this
  have HB1 := Lib.hid hb1
  have HT1 := Lib.hid (h.later hb1)
  have HX1 := Lib.hid ((hX.later hb1).here)
  have HY1 := Lib.hid ((hY.later hb1).here)
  have HXb := Lib.hid hbxb
  have HXx := Lib.hid hbxx
  have HXy := Lib.hid hbxy
  have LX := Lib.hid lx
  have LY := Lib.hid ly
  have H_hno := Lib.hid hno
  have H_hlx := Lib.hid hlx
  have H_hly := Lib.hid hly
  clear h hX hY lx ly hno hlx hly hb1 hbxb hbxx hbxy
  go_enter Try.func38, Try.ntmps38
  go_upto_region 1 with fail
  generalize hgw : (((w.alloc (.cells #[.pointer (some ⟨bb, 0, none⟩)] 24)).alloc (.cells #[.slice A x.length cx] 47)).alloc (.cells #[.slice B y.length cy] 47)) = w1 at *
  clear hgw
  obtain ⟨pb, HPb⟩ : ∃ p, Hid (w.heap.size + 0 = p) := ⟨_, Lib.hid rfl⟩
  obtain ⟨px, HPx⟩ : ∃ p, Hid (w.heap.size + 1 = p) := ⟨_, Lib.hid rfl⟩
  obtain ⟨py, HPy⟩ : ∃ p, Hid (w.heap.size + 2 = p) := ⟨_, Lib.hid rfl⟩
  have HP0 := Lib.hid (show w.heap.size = pb from HPb.out)
  rw [HPb.out] at HXb
  rw [HPx.out] at HXx
  rw [HPy.out] at HXy
  rw [HP0.out, show pb + 1 = px from by rw [← HPx.out, ← HPb.out], show px + 1 = py from by rw [← HPy.out, ← HPx.out]]
  have eb := HXb.out.cell
  have ex := HXx.out.cell
  have ey := HXy.out.cell
  have hba := (Below.refl w1.heap.size w1).alloc (Nat.le_refl _) (.cells #[.slice A x.length cx, .slice B y.length cy] 47)
  have HBA := Lib.hid (HB1.out.trans (hba.mono HB1.out.size))
  have HT2 := Lib.hid (HT1.out.later hba)
  have hws : WdS (w1.alloc (.cells #[.slice A x.length cx, .slice B y.length cy] 47)) w1.heap.size [⟨A, cx, x⟩, ⟨B, cy, y⟩] := ⟨_, heap_alloc_new w1 _, fun k hk => by
    have : k = 0 ∨ k = 1 := by simp at hk; omega
    rcases this with rfl | rfl <;> rfl, fun k hk => by
    have : k = 0 ∨ k = 1 := by simp at hk; omega
    rcases this with rfl | rfl
    · exact (HX1.out.later hba).here
    · exact (HY1.out.later hba).here⟩
  have HC := Lib.hid (madeW_no (bb := bb) w1.heap.size [⟨A, cx, x⟩, ⟨B, cy, y⟩] ⟨A, cx, x⟩ (.func (.func 79) #[] #[.pointer (some ⟨pb, 0, none⟩), .pointer (some ⟨px, 0, none⟩), .pointer (some ⟨py, 0, none⟩)]) (w1.alloc (.cells #[.slice A x.length cx, .slice B y.length cy] 47)) (by simp) rfl (fun ha => H_hno.out ⟨ha.1 1 (by simp), ha.2.1, ha.2.2⟩) (by simp) (fun k hk => by
    have : k = 0 ∨ k = 1 := by simp at hk; omega
    rcases this with rfl | rfl
    · exact H_hlx.out
    · exact H_hly.out) hws)
  clear hws hba
  go_wp2_with (fail)
  refine HC.out.mono ?_
  rintro e w2 ⟨rfl, hb2⟩
  have HB2 := Lib.hid (HBA.out.trans (hb2.mono HBA.out.size))
  clear hb2 HC
  go_wp2_with (fail)
  go_ret
  exact ⟨rfl, HB2.out⟩
set_option maxRecDepth 100000 in
set_option maxHeartbeats 2000000 in
theorem clo_Mul (pb px py : Nat) (A : Option Addr) (cx : Nat) (x : List Int) (B : Option Addr) (cy : Nat) (y : List Int) (ht : Bld w1 n₀ bb mb rv1 I gs 0) (hbb : Bx w1 pb 24 (.pointer (some ⟨bb, 0, none⟩))) (hbx : Bx w1 px 47 (.slice A x.length cx)) (hby : Bx w1 py 47 (.slice B y.length cy)) (hX : WRow w1.heap.size w1 A x) (hY : WRow w1.heap.size w1 B y) (lx : Lts I gs x) (ly : Lts I gs y) (h0 : 0 < x.length) (h8 : x.length ≤ 8) (hxy : y.length = x.length) (hcx : x.length ≤ cx) (hf : gs.length + 8 * x.length * x.length ≤ 5000) :
    Calls Try.prog 81 #[.pointer (some ⟨pb, 0, none⟩), .pointer (some ⟨px, 0, none⟩), .pointer (some ⟨py, 0, none⟩)] w1 (WdG n₀ bb mb rv1 I gs (8 * x.length * x.length) w1 x.length (MulH x y)) := by
  have HC := Lib.hid (product_any A cx x B cy y ht hX hY lx ly (by omega) hcx hxy (by omega))
  have eb := hbb.cell
  have ex := hbx.cell
  have ey := hby.cell
  clear ht hX hY lx ly hbb hbx hby h0 h8 hf hxy hcx
  go_enter Try.func81, Try.ntmps81
  go_wp2_with (fail)
  refine HC.out.mono ?_
  rintro e w2 ⟨A', c', z, rv2, gs2, rfl, hac, hz, hh⟩
  have HAC := Lib.hid hac
  have HZ := Lib.hid hz
  have HH := Lib.hid hh
  clear hac hz hh HC eb ex ey
  go_wp2_with (fail)
  go_ret
  exact ⟨A', c', z, rv2, gs2, rfl, HAC.out, HZ.out, HH.out⟩
theorem clo_Mul_eK : ∀ args w, (callFunc 81 args).run Try.prog w = .ok (.enter 81 args) w := enters_of Try.func81 (by kernel_rfl) rfl
set_option maxRecDepth 100000 in
set_option maxHeartbeats 4000000 in
theorem Mul_yes (A : Option Addr) (cx : Nat) (x : List Int) (B : Option Addr) (cy : Nat) (y : List Int) (h : Bld w n₀ bb mb rv I gs 0) (hX : WRow w.heap.size w A x) (hY : WRow w.heap.size w B y) (lx : Lts I gs x) (ly : Lts I gs y) (h0 : 0 < x.length) (h8 : x.length ≤ 8) (hxy : y.length = x.length) (hcx : x.length ≤ cx) (hf : gs.length + (8 * x.length * x.length) + 1 ≤ 5000) :
    Calls Try.prog 39 #[.pointer (some ⟨bb, 0, none⟩), .slice A x.length cx, .slice B y.length cy] w (WdG n₀ bb mb rv I gs (8 * x.length * x.length) w x.length (MulH x y)) := by
  have hb1 : Below w.heap.size w (((w.alloc (.cells #[.pointer (some ⟨bb, 0, none⟩)] 24)).alloc (.cells #[.slice A x.length cx] 47)).alloc (.cells #[.slice B y.length cy] 47)) := ((((Below.refl w.heap.size w).alloc (by simp; try omega) (.cells #[.pointer (some ⟨bb, 0, none⟩)] 24)).alloc (by simp; try omega) (.cells #[.slice A x.length cx] 47)).alloc (by simp; try omega) (.cells #[.slice B y.length cy] 47))
  have hbxb : Bx (w.alloc (.cells #[.pointer (some ⟨bb, 0, none⟩)] 24)) (w.heap.size + 0) 24 (.pointer (some ⟨bb, 0, none⟩)) := by
    have := heap_alloc_new w (.cells #[.pointer (some ⟨bb, 0, none⟩)] 24)
    rw [show w.heap.size = w.heap.size + 0 by simp] at this
    exact this
  have hbxb := hbxb.later ((Below.refl (w.alloc (.cells #[.pointer (some ⟨bb, 0, none⟩)] 24)).heap.size (w.alloc (.cells #[.pointer (some ⟨bb, 0, none⟩)] 24))).alloc (Nat.le_refl _) (.cells #[.slice A x.length cx] 47))
  have hbxb := hbxb.later ((Below.refl ((w.alloc (.cells #[.pointer (some ⟨bb, 0, none⟩)] 24)).alloc (.cells #[.slice A x.length cx] 47)).heap.size ((w.alloc (.cells #[.pointer (some ⟨bb, 0, none⟩)] 24)).alloc (.cells #[.slice A x.length cx] 47))).alloc (Nat.le_refl _) (.cells #[.slice B y.length cy] 47))
  have hbxx : Bx ((w.alloc (.cells #[.pointer (some ⟨bb, 0, none⟩)] 24)).alloc (.cells #[.slice A x.length cx] 47)) (w.heap.size + 1) 47 (.slice A x.length cx) := by
    have := heap_alloc_new (w.alloc (.cells #[.pointer (some ⟨bb, 0, none⟩)] 24)) (.cells #[.slice A x.length cx] 47)
    rw [show (w.alloc (.cells #[.pointer (some ⟨bb, 0, none⟩)] 24)).heap.size = w.heap.size + 1 by simp] at this
    exact this
  have hbxx := hbxx.later ((Below.refl ((w.alloc (.cells #[.pointer (some ⟨bb, 0, none⟩)] 24)).alloc (.cells #[.slice A x.length cx] 47)).heap.size ((w.alloc (.cells #[.pointer (some ⟨bb, 0, none⟩)] 24)).alloc (.cells #[.slice A x.length cx] 47))).alloc (Nat.le_refl _) (.cells #[.slice B y.length cy] 47))
  have hbxy : Bx (((w.alloc (.cells #[.pointer (some ⟨bb, 0, none⟩)] 24)).alloc (.cells #[.slice A x.length cx] 47)).alloc (.cells #[.slice B y.length cy] 47)) (w.heap.size + 2) 47 (.slice B y.length cy) := by
    have := heap_alloc_new ((w.alloc (.cells #[.pointer (some ⟨bb, 0, none⟩)] 24)).alloc (.cells #[.slice A x.length cx] 47)) (.cells #[.slice B y.length cy] 47)
    rw [show ((w.alloc (.cells #[.pointer (some ⟨bb, 0, none⟩)] 24)).alloc (.cells #[.slice A x.length cx] 47)).heap.size = w.heap.size + 2 by simp] at this
    exact this
  have HB1 := Lib.hid hb1
  have HT1 := Lib.hid (h.later hb1)
  have HX1 := Lib.hid ((hX.later hb1).here)
  have HY1 := Lib.hid ((hY.later hb1).here)
  have HXb := Lib.hid hbxb
  have HXx := Lib.hid hbxx
  have HXy := Lib.hid hbxy
  have LX := Lib.hid lx
  have LY := Lib.hid ly
  have H_h0 := Lib.hid h0
  have H_h8 := Lib.hid h8
  have H_hxy := Lib.hid hxy
  have H_hcx := Lib.hid hcx
  have H_hf := Lib.hid hf
  clear h hX hY lx ly h0 h8 hxy hcx hf hb1 hbxb hbxx hbxy
  go_enter Try.func39, Try.ntmps39
  go_upto_region 1 with fail
  generalize hgw : (((w.alloc (.cells #[.pointer (some ⟨bb, 0, none⟩)] 24)).alloc (.cells #[.slice A x.length cx] 47)).alloc (.cells #[.slice B y.length cy] 47)) = w1 at *
  clear hgw
  obtain ⟨pb, HPb⟩ : ∃ p, Hid (w.heap.size + 0 = p) := ⟨_, Lib.hid rfl⟩
  obtain ⟨px, HPx⟩ : ∃ p, Hid (w.heap.size + 1 = p) := ⟨_, Lib.hid rfl⟩
  obtain ⟨py, HPy⟩ : ∃ p, Hid (w.heap.size + 2 = p) := ⟨_, Lib.hid rfl⟩
  have HP0 := Lib.hid (show w.heap.size = pb from HPb.out)
  rw [HPb.out] at HXb
  rw [HPx.out] at HXx
  rw [HPy.out] at HXy
  rw [HP0.out, show pb + 1 = px from by rw [← HPx.out, ← HPb.out], show px + 1 = py from by rw [← HPy.out, ← HPx.out]]
  have eb := HXb.out.cell
  have ex := HXx.out.cell
  have ey := HXy.out.cell
  have hba := (Below.refl w1.heap.size w1).alloc (Nat.le_refl _) (.cells #[.slice A x.length cx, .slice B y.length cy] 47)
  have HBA := Lib.hid (HB1.out.trans (hba.mono HB1.out.size))
  have HT2 := Lib.hid (HT1.out.later hba)
  have hws : WdS (w1.alloc (.cells #[.slice A x.length cx, .slice B y.length cy] 47)) w1.heap.size [⟨A, cx, x⟩, ⟨B, cy, y⟩] := ⟨_, heap_alloc_new w1 _, fun k hk => by
    have : k = 0 ∨ k = 1 := by simp at hk; omega
    rcases this with rfl | rfl <;> rfl, fun k hk => by
    have : k = 0 ∨ k = 1 := by simp at hk; omega
    rcases this with rfl | rfl
    · exact (HX1.out.later hba).here
    · exact (HY1.out.later hba).here⟩
  have HC := Lib.hid (madeW_yes (w := w1.alloc (.cells #[.slice A x.length cx, .slice B y.length cy] 47)) w1.heap.size [⟨A, cx, x⟩, ⟨B, cy, y⟩] ⟨A, cx, x⟩ 81 #[.pointer (some ⟨pb, 0, none⟩), .pointer (some ⟨px, 0, none⟩), .pointer (some ⟨py, 0, none⟩)] (8 * x.length * x.length) x.length (MulH x y) clo_Mul_eK HT2.out (by simp) rfl ⟨fun k hk => by
    have : k = 0 ∨ k = 1 := by simp at hk; omega
    rcases this with rfl | rfl
    · rfl
    · exact H_hxy.out, H_h0.out, H_h8.out⟩ (by simp) (fun k hk => by
    have : k = 0 ∨ k = 1 := by simp at hk; omega
    rcases this with rfl | rfl
    · exact LX.out
    · exact LY.out) hws (by have := H_hf.out; omega) (fun w3 rv3 hs => clo_Mul pb px py A cx x B cy y hs.tab ((HXb.out.later hba).stp (by decide) (by decide) HT2.out hs) ((HXx.out.later hba).stp (by decide) (by decide) HT2.out hs) ((HXy.out.later hba).stp (by decide) (by decide) HT2.out hs) ((((HX1.out.later hba).here).stp HT2.out hs).here) ((((HY1.out.later hba).here).stp HT2.out hs).here) LX.out LY.out H_h0.out H_h8.out H_hxy.out H_hcx.out (by have := H_hf.out; omega)))
  clear hws hba
  go_wp2_with (fail)
  refine HC.out.mono ?_
  rintro e w2 ⟨A', c', z, rv2, gs2, rfl, hac, hz, hh⟩
  have HAC := Lib.hid (hac.ahead HBA.out)
  have HZ := Lib.hid hz
  have HH := Lib.hid hh
  clear hac hz hh HC
  go_wp2_with (fail)
  go_ret
  exact ⟨A', c', z, rv2, gs2, rfl, HAC.out, HZ.out, HH.out⟩
set_option maxRecDepth 100000 in
set_option maxHeartbeats 4000000 in
theorem Mul_no (A : Option Addr) (cx : Nat) (x : List Int) (B : Option Addr) (cy : Nat) (y : List Int) (h : Bld w n₀ bb mb rv I gs 0) (hX : WRow w.heap.size w A x) (hY : WRow w.heap.size w B y) (lx : Lts I gs x) (ly : Lts I gs y) (hno : ¬ (y.length = x.length ∧ 0 < x.length ∧ x.length ≤ 8)) (hlx : x.length ≤ 1000000) (hly : y.length ≤ 1000000) :
    Calls Try.prog 39 #[.pointer (some ⟨bb, 0, none⟩), .slice A x.length cx, .slice B y.length cy] w fun e w' => e = .returned (.slice none 0 0) ∧ Below w.heap.size w w' := by
  have hb1 : Below w.heap.size w (((w.alloc (.cells #[.pointer (some ⟨bb, 0, none⟩)] 24)).alloc (.cells #[.slice A x.length cx] 47)).alloc (.cells #[.slice B y.length cy] 47)) := ((((Below.refl w.heap.size w).alloc (by simp; try omega) (.cells #[.pointer (some ⟨bb, 0, none⟩)] 24)).alloc (by simp; try omega) (.cells #[.slice A x.length cx] 47)).alloc (by simp; try omega) (.cells #[.slice B y.length cy] 47))
  have hbxb : Bx (w.alloc (.cells #[.pointer (some ⟨bb, 0, none⟩)] 24)) (w.heap.size + 0) 24 (.pointer (some ⟨bb, 0, none⟩)) := by
    have := heap_alloc_new w (.cells #[.pointer (some ⟨bb, 0, none⟩)] 24)
    rw [show w.heap.size = w.heap.size + 0 by simp] at this
    exact this
  have hbxb := hbxb.later ((Below.refl (w.alloc (.cells #[.pointer (some ⟨bb, 0, none⟩)] 24)).heap.size (w.alloc (.cells #[.pointer (some ⟨bb, 0, none⟩)] 24))).alloc (Nat.le_refl _) (.cells #[.slice A x.length cx] 47))
  have hbxb := hbxb.later ((Below.refl ((w.alloc (.cells #[.pointer (some ⟨bb, 0, none⟩)] 24)).alloc (.cells #[.slice A x.length cx] 47)).heap.size ((w.alloc (.cells #[.pointer (some ⟨bb, 0, none⟩)] 24)).alloc (.cells #[.slice A x.length cx] 47))).alloc (Nat.le_refl _) (.cells #[.slice B y.length cy] 47))
  have hbxx : Bx ((w.alloc (.cells #[.pointer (some ⟨bb, 0, none⟩)] 24)).alloc (.cells #[.slice A x.length cx] 47)) (w.heap.size + 1) 47 (.slice A x.length cx) := by
    have := heap_alloc_new (w.alloc (.cells #[.pointer (some ⟨bb, 0, none⟩)] 24)) (.cells #[.slice A x.length cx] 47)
    rw [show (w.alloc (.cells #[.pointer (some ⟨bb, 0, none⟩)] 24)).heap.size = w.heap.size + 1 by simp] at this
    exact this
  have hbxx := hbxx.later ((Below.refl ((w.alloc (.cells #[.pointer (some ⟨bb, 0, none⟩)] 24)).alloc (.cells #[.slice A x.length cx] 47)).heap.size ((w.alloc (.cells #[.pointer (some ⟨bb, 0, none⟩)] 24)).alloc (.cells #[.slice A x.length cx] 47))).alloc (Nat.le_refl _) (.cells #[.slice B y.length cy] 47))
  have hbxy : Bx (((w.alloc (.cells #[.pointer (some ⟨bb, 0, none⟩)] 24)).alloc (.cells #[.slice A x.length cx] 47)).alloc (.cells #[.slice B y.length cy] 47)) (w.heap.size + 2) 47 (.slice B y.length cy) := by
    have := heap_alloc_new ((w.alloc (.cells #[.pointer (some ⟨bb, 0, none⟩)] 24)).alloc (.cells #[.slice A x.length cx] 47)) (.cells #[.slice B y.length cy] 47)
    rw [show ((w.alloc (.cells #[.pointer (some ⟨bb, 0, none⟩)] 24)).alloc (.cells #[.slice A x.length cx] 47)).heap.size = w.heap.size + 2 by simp] at this
    exact this
  have HB1 := Lib.hid hb1
  have HT1 := Lib.hid (h.later hb1)
  have HX1 := Lib.hid ((hX.later hb1).here)
  have HY1 := Lib.hid ((hY.later hb1).here)
  have HXb := Lib.hid hbxb
  have HXx := Lib.hid hbxx
  have HXy := Lib.hid hbxy
  have LX := Lib.hid lx
  have LY := Lib.hid ly
  have H_hno := Lib.hid hno
  have H_hlx := Lib.hid hlx
  have H_hly := Lib.hid hly
  clear h hX hY lx ly hno hlx hly hb1 hbxb hbxx hbxy
  go_enter Try.func39, Try.ntmps39
  go_upto_region 1 with fail
  generalize hgw : (((w.alloc (.cells #[.pointer (some ⟨bb, 0, none⟩)] 24)).alloc (.cells #[.slice A x.length cx] 47)).alloc (.cells #[.slice B y.length cy] 47)) = w1 at *
  clear hgw
  obtain ⟨pb, HPb⟩ : ∃ p, Hid (w.heap.size + 0 = p) := ⟨_, Lib.hid rfl⟩
  obtain ⟨px, HPx⟩ : ∃ p, Hid (w.heap.size + 1 = p) := ⟨_, Lib.hid rfl⟩
  obtain ⟨py, HPy⟩ : ∃ p, Hid (w.heap.size + 2 = p) := ⟨_, Lib.hid rfl⟩
  have HP0 := Lib.hid (show w.heap.size = pb from HPb.out)
  rw [HPb.out] at HXb
  rw [HPx.out] at HXx
  rw [HPy.out] at HXy
  rw [HP0.out, show pb + 1 = px from by rw [← HPx.out, ← HPb.out], show px + 1 = py from by rw [← HPy.out, ← HPx.out]]
  have eb := HXb.out.cell
  have ex := HXx.out.cell
  have ey := HXy.out.cell
  have hba := (Below.refl w1.heap.size w1).alloc (Nat.le_refl _) (.cells #[.slice A x.length cx, .slice B y.length cy] 47)
  have HBA := Lib.hid (HB1.out.trans (hba.mono HB1.out.size))
  have HT2 := Lib.hid (HT1.out.later hba)
  have hws : WdS (w1.alloc (.cells #[.slice A x.length cx, .slice B y.length cy] 47)) w1.heap.size [⟨A, cx, x⟩, ⟨B, cy, y⟩] := ⟨_, heap_alloc_new w1 _, fun k hk => by
    have : k = 0 ∨ k = 1 := by simp at hk; omega
    rcases this with rfl | rfl <;> rfl, fun k hk => by
    have : k = 0 ∨ k = 1 := by simp at hk; omega
    rcases this with rfl | rfl
    · exact (HX1.out.later hba).here
    · exact (HY1.out.later hba).here⟩
  have HC := Lib.hid (madeW_no (bb := bb) w1.heap.size [⟨A, cx, x⟩, ⟨B, cy, y⟩] ⟨A, cx, x⟩ (.func (.func 81) #[] #[.pointer (some ⟨pb, 0, none⟩), .pointer (some ⟨px, 0, none⟩), .pointer (some ⟨py, 0, none⟩)]) (w1.alloc (.cells #[.slice A x.length cx, .slice B y.length cy] 47)) (by simp) rfl (fun ha => H_hno.out ⟨ha.1 1 (by simp), ha.2.1, ha.2.2⟩) (by simp) (fun k hk => by
    have : k = 0 ∨ k = 1 := by simp at hk; omega
    rcases this with rfl | rfl
    · exact H_hlx.out
    · exact H_hly.out) hws)
  clear hws hba
  go_wp2_with (fail)
  refine HC.out.mono ?_
  rintro e w2 ⟨rfl, hb2⟩
  have HB2 := Lib.hid (HBA.out.trans (hb2.mono HBA.out.size))
  clear hb2 HC
  go_wp2_with (fail)
  go_ret
  exact ⟨rfl, HB2.out⟩
set_option maxRecDepth 100000 in
set_option maxHeartbeats 2000000 in
theorem clo_Choose (pb pc px py : Nat) (c : Int) (A : Option Addr) (cx : Nat) (x : List Int) (B : Option Addr) (cy : Nat) (y : List Int) (ht : Bld w1 n₀ bb mb rv1 I gs 0) (hbb : Bx w1 pb 24 (.pointer (some ⟨bb, 0, none⟩))) (hbc : Bx w1 pc 3 (.int .i64 c)) (hbx : Bx w1 px 47 (.slice A x.length cx)) (hby : Bx w1 py 47 (.slice B y.length cy)) (hX : WRow w1.heap.size w1 A x) (hY : WRow w1.heap.size w1 B y) (lx : Lts I gs x) (ly : Lts I gs y) (h0 : 0 < x.length) (h8 : x.length ≤ 8) (hxy : y.length = x.length) (lc : isLit I gs c) (hf : gs.length + 3 * x.length ≤ 5000) :
    Calls Try.prog 83 #[.pointer (some ⟨pb, 0, none⟩), .pointer (some ⟨pc, 0, none⟩), .pointer (some ⟨px, 0, none⟩), .pointer (some ⟨py, 0, none⟩)] w1 (WdG n₀ bb mb rv1 I gs (3 * x.length) w1 x.length (ChoH c x y)) := by
  have HC := Lib.hid (choose_any c A cx x B cy y ht lc hX hY lx ly (by omega) hxy (by omega))
  have eb := hbb.cell
  have ec := hbc.cell
  have ex := hbx.cell
  have ey := hby.cell
  clear ht hX hY lx ly hbb hbc hbx hby h0 h8 hf hxy lc
  go_enter Try.func83, Try.ntmps83
  go_wp2_with (fail)
  refine HC.out.mono ?_
  rintro e w2 ⟨A', c', z, rv2, gs2, rfl, hac, hz, hh⟩
  have HAC := Lib.hid hac
  have HZ := Lib.hid hz
  have HH := Lib.hid hh
  clear hac hz hh HC eb ec ex ey
  go_wp2_with (fail)
  go_ret
  exact ⟨A', c', z, rv2, gs2, rfl, HAC.out, HZ.out, HH.out⟩
theorem clo_Choose_eK : ∀ args w, (callFunc 83 args).run Try.prog w = .ok (.enter 83 args) w := enters_of Try.func83 (by kernel_rfl) rfl
set_option maxRecDepth 100000 in
set_option maxHeartbeats 4000000 in
theorem Choose_yes (c : Int) (A : Option Addr) (cx : Nat) (x : List Int) (B : Option Addr) (cy : Nat) (y : List Int) (h : Bld w n₀ bb mb rv I gs 0) (hX : WRow w.heap.size w A x) (hY : WRow w.heap.size w B y) (lx : Lts I gs x) (ly : Lts I gs y) (h0 : 0 < x.length) (h8 : x.length ≤ 8) (hxy : y.length = x.length) (lc : isLit I gs c) (hf : gs.length + (3 * x.length) + 1 ≤ 5000) :
    Calls Try.prog 40 #[.pointer (some ⟨bb, 0, none⟩), .int .i64 c, .slice A x.length cx, .slice B y.length cy] w (WdG n₀ bb mb rv I gs (3 * x.length) w x.length (ChoH c x y)) := by
  have hb1 : Below w.heap.size w ((((w.alloc (.cells #[.pointer (some ⟨bb, 0, none⟩)] 24)).alloc (.cells #[.int .i64 c] 3)).alloc (.cells #[.slice A x.length cx] 47)).alloc (.cells #[.slice B y.length cy] 47)) := (((((Below.refl w.heap.size w).alloc (by simp; try omega) (.cells #[.pointer (some ⟨bb, 0, none⟩)] 24)).alloc (by simp; try omega) (.cells #[.int .i64 c] 3)).alloc (by simp; try omega) (.cells #[.slice A x.length cx] 47)).alloc (by simp; try omega) (.cells #[.slice B y.length cy] 47))
  have hbxb : Bx (w.alloc (.cells #[.pointer (some ⟨bb, 0, none⟩)] 24)) (w.heap.size + 0) 24 (.pointer (some ⟨bb, 0, none⟩)) := by
    have := heap_alloc_new w (.cells #[.pointer (some ⟨bb, 0, none⟩)] 24)
    rw [show w.heap.size = w.heap.size + 0 by simp] at this
    exact this
  have hbxb := hbxb.later ((Below.refl (w.alloc (.cells #[.pointer (some ⟨bb, 0, none⟩)] 24)).heap.size (w.alloc (.cells #[.pointer (some ⟨bb, 0, none⟩)] 24))).alloc (Nat.le_refl _) (.cells #[.int .i64 c] 3))
  have hbxb := hbxb.later ((Below.refl ((w.alloc (.cells #[.pointer (some ⟨bb, 0, none⟩)] 24)).alloc (.cells #[.int .i64 c] 3)).heap.size ((w.alloc (.cells #[.pointer (some ⟨bb, 0, none⟩)] 24)).alloc (.cells #[.int .i64 c] 3))).alloc (Nat.le_refl _) (.cells #[.slice A x.length cx] 47))
  have hbxb := hbxb.later ((Below.refl (((w.alloc (.cells #[.pointer (some ⟨bb, 0, none⟩)] 24)).alloc (.cells #[.int .i64 c] 3)).alloc (.cells #[.slice A x.length cx] 47)).heap.size (((w.alloc (.cells #[.pointer (some ⟨bb, 0, none⟩)] 24)).alloc (.cells #[.int .i64 c] 3)).alloc (.cells #[.slice A x.length cx] 47))).alloc (Nat.le_refl _) (.cells #[.slice B y.length cy] 47))
  have hbxc : Bx ((w.alloc (.cells #[.pointer (some ⟨bb, 0, none⟩)] 24)).alloc (.cells #[.int .i64 c] 3)) (w.heap.size + 1) 3 (.int .i64 c) := by
    have := heap_alloc_new (w.alloc (.cells #[.pointer (some ⟨bb, 0, none⟩)] 24)) (.cells #[.int .i64 c] 3)
    rw [show (w.alloc (.cells #[.pointer (some ⟨bb, 0, none⟩)] 24)).heap.size = w.heap.size + 1 by simp] at this
    exact this
  have hbxc := hbxc.later ((Below.refl ((w.alloc (.cells #[.pointer (some ⟨bb, 0, none⟩)] 24)).alloc (.cells #[.int .i64 c] 3)).heap.size ((w.alloc (.cells #[.pointer (some ⟨bb, 0, none⟩)] 24)).alloc (.cells #[.int .i64 c] 3))).alloc (Nat.le_refl _) (.cells #[.slice A x.length cx] 47))
  have hbxc := hbxc.later ((Below.refl (((w.alloc (.cells #[.pointer (some ⟨bb, 0, none⟩)] 24)).alloc (.cells #[.int .i64 c] 3)).alloc (.cells #[.slice A x.length cx] 47)).heap.size (((w.alloc (.cells #[.pointer (some ⟨bb, 0, none⟩)] 24)).alloc (.cells #[.int .i64 c] 3)).alloc (.cells #[.slice A x.length cx] 47))).alloc (Nat.le_refl _) (.cells #[.slice B y.length cy] 47))
  have hbxx : Bx (((w.alloc (.cells #[.pointer (some ⟨bb, 0, none⟩)] 24)).alloc (.cells #[.int .i64 c] 3)).alloc (.cells #[.slice A x.length cx] 47)) (w.heap.size + 2) 47 (.slice A x.length cx) := by
    have := heap_alloc_new ((w.alloc (.cells #[.pointer (some ⟨bb, 0, none⟩)] 24)).alloc (.cells #[.int .i64 c] 3)) (.cells #[.slice A x.length cx] 47)
    rw [show ((w.alloc (.cells #[.pointer (some ⟨bb, 0, none⟩)] 24)).alloc (.cells #[.int .i64 c] 3)).heap.size = w.heap.size + 2 by simp] at this
    exact this
  have hbxx := hbxx.later ((Below.refl (((w.alloc (.cells #[.pointer (some ⟨bb, 0, none⟩)] 24)).alloc (.cells #[.int .i64 c] 3)).alloc (.cells #[.slice A x.length cx] 47)).heap.size (((w.alloc (.cells #[.pointer (some ⟨bb, 0, none⟩)] 24)).alloc (.cells #[.int .i64 c] 3)).alloc (.cells #[.slice A x.length cx] 47))).alloc (Nat.le_refl _) (.cells #[.slice B y.length cy] 47))
  have hbxy : Bx ((((w.alloc (.cells #[.pointer (some ⟨bb, 0, none⟩)] 24)).alloc (.cells #[.int .i64 c] 3)).alloc (.cells #[.slice A x.length cx] 47)).alloc (.cells #[.slice B y.length cy] 47)) (w.heap.size + 3) 47 (.slice B y.length cy) := by
    have := heap_alloc_new (((w.alloc (.cells #[.pointer (some ⟨bb, 0, none⟩)] 24)).alloc (.cells #[.int .i64 c] 3)).alloc (.cells #[.slice A x.length cx] 47)) (.cells #[.slice B y.length cy] 47)
    rw [show (((w.alloc (.cells #[.pointer (some ⟨bb, 0, none⟩)] 24)).alloc (.cells #[.int .i64 c] 3)).alloc (.cells #[.slice A x.length cx] 47)).heap.size = w.heap.size + 3 by simp] at this
    exact this
  have HB1 := Lib.hid hb1
  have HT1 := Lib.hid (h.later hb1)
  have HX1 := Lib.hid ((hX.later hb1).here)
  have HY1 := Lib.hid ((hY.later hb1).here)
  have HXb := Lib.hid hbxb
  have HXc := Lib.hid hbxc
  have HXx := Lib.hid hbxx
  have HXy := Lib.hid hbxy
  have LX := Lib.hid lx
  have LY := Lib.hid ly
  have H_h0 := Lib.hid h0
  have H_h8 := Lib.hid h8
  have H_hxy := Lib.hid hxy
  have H_lc := Lib.hid lc
  have H_hf := Lib.hid hf
  clear h hX hY lx ly h0 h8 hxy lc hf hb1 hbxb hbxc hbxx hbxy
  go_enter Try.func40, Try.ntmps40
  go_upto_region 1 with fail
  generalize hgw : ((((w.alloc (.cells #[.pointer (some ⟨bb, 0, none⟩)] 24)).alloc (.cells #[.int .i64 c] 3)).alloc (.cells #[.slice A x.length cx] 47)).alloc (.cells #[.slice B y.length cy] 47)) = w1 at *
  clear hgw
  obtain ⟨pb, HPb⟩ : ∃ p, Hid (w.heap.size + 0 = p) := ⟨_, Lib.hid rfl⟩
  obtain ⟨pc, HPc⟩ : ∃ p, Hid (w.heap.size + 1 = p) := ⟨_, Lib.hid rfl⟩
  obtain ⟨px, HPx⟩ : ∃ p, Hid (w.heap.size + 2 = p) := ⟨_, Lib.hid rfl⟩
  obtain ⟨py, HPy⟩ : ∃ p, Hid (w.heap.size + 3 = p) := ⟨_, Lib.hid rfl⟩
  have HP0 := Lib.hid (show w.heap.size = pb from HPb.out)
  rw [HPb.out] at HXb
  rw [HPc.out] at HXc
  rw [HPx.out] at HXx
  rw [HPy.out] at HXy
  rw [HP0.out, show pb + 1 = pc from by rw [← HPc.out, ← HPb.out], show pc + 1 = px from by rw [← HPx.out, ← HPc.out], show px + 1 = py from by rw [← HPy.out, ← HPx.out]]
  have eb := HXb.out.cell
  have ec := HXc.out.cell
  have ex := HXx.out.cell
  have ey := HXy.out.cell
  have hba := (Below.refl w1.heap.size w1).alloc (Nat.le_refl _) (.cells #[.slice A x.length cx, .slice B y.length cy] 47)
  have HBA := Lib.hid (HB1.out.trans (hba.mono HB1.out.size))
  have HT2 := Lib.hid (HT1.out.later hba)
  have hws : WdS (w1.alloc (.cells #[.slice A x.length cx, .slice B y.length cy] 47)) w1.heap.size [⟨A, cx, x⟩, ⟨B, cy, y⟩] := ⟨_, heap_alloc_new w1 _, fun k hk => by
    have : k = 0 ∨ k = 1 := by simp at hk; omega
    rcases this with rfl | rfl <;> rfl, fun k hk => by
    have : k = 0 ∨ k = 1 := by simp at hk; omega
    rcases this with rfl | rfl
    · exact (HX1.out.later hba).here
    · exact (HY1.out.later hba).here⟩
  have HC := Lib.hid (madeW_yes (w := w1.alloc (.cells #[.slice A x.length cx, .slice B y.length cy] 47)) w1.heap.size [⟨A, cx, x⟩, ⟨B, cy, y⟩] ⟨A, cx, x⟩ 83 #[.pointer (some ⟨pb, 0, none⟩), .pointer (some ⟨pc, 0, none⟩), .pointer (some ⟨px, 0, none⟩), .pointer (some ⟨py, 0, none⟩)] (3 * x.length) x.length (ChoH c x y) clo_Choose_eK HT2.out (by simp) rfl ⟨fun k hk => by
    have : k = 0 ∨ k = 1 := by simp at hk; omega
    rcases this with rfl | rfl
    · rfl
    · exact H_hxy.out, H_h0.out, H_h8.out⟩ (by simp) (fun k hk => by
    have : k = 0 ∨ k = 1 := by simp at hk; omega
    rcases this with rfl | rfl
    · exact LX.out
    · exact LY.out) hws (by have := H_hf.out; omega) (fun w3 rv3 hs => clo_Choose pb pc px py c A cx x B cy y hs.tab ((HXb.out.later hba).stp (by decide) (by decide) HT2.out hs) ((HXc.out.later hba).stp (by decide) (by decide) HT2.out hs) ((HXx.out.later hba).stp (by decide) (by decide) HT2.out hs) ((HXy.out.later hba).stp (by decide) (by decide) HT2.out hs) ((((HX1.out.later hba).here).stp HT2.out hs).here) ((((HY1.out.later hba).here).stp HT2.out hs).here) LX.out LY.out H_h0.out H_h8.out H_hxy.out H_lc.out (by have := H_hf.out; omega)))
  clear hws hba
  go_wp2_with (fail)
  refine HC.out.mono ?_
  rintro e w2 ⟨A', c', z, rv2, gs2, rfl, hac, hz, hh⟩
  have HAC := Lib.hid (hac.ahead HBA.out)
  have HZ := Lib.hid hz
  have HH := Lib.hid hh
  clear hac hz hh HC
  go_wp2_with (fail)
  go_ret
  exact ⟨A', c', z, rv2, gs2, rfl, HAC.out, HZ.out, HH.out⟩
set_option maxRecDepth 100000 in
set_option maxHeartbeats 4000000 in
theorem Choose_no (c : Int) (A : Option Addr) (cx : Nat) (x : List Int) (B : Option Addr) (cy : Nat) (y : List Int) (h : Bld w n₀ bb mb rv I gs 0) (hX : WRow w.heap.size w A x) (hY : WRow w.heap.size w B y) (lx : Lts I gs x) (ly : Lts I gs y) (hno : ¬ (y.length = x.length ∧ 0 < x.length ∧ x.length ≤ 8)) (hlx : x.length ≤ 1000000) (hly : y.length ≤ 1000000) :
    Calls Try.prog 40 #[.pointer (some ⟨bb, 0, none⟩), .int .i64 c, .slice A x.length cx, .slice B y.length cy] w fun e w' => e = .returned (.slice none 0 0) ∧ Below w.heap.size w w' := by
  have hb1 : Below w.heap.size w ((((w.alloc (.cells #[.pointer (some ⟨bb, 0, none⟩)] 24)).alloc (.cells #[.int .i64 c] 3)).alloc (.cells #[.slice A x.length cx] 47)).alloc (.cells #[.slice B y.length cy] 47)) := (((((Below.refl w.heap.size w).alloc (by simp; try omega) (.cells #[.pointer (some ⟨bb, 0, none⟩)] 24)).alloc (by simp; try omega) (.cells #[.int .i64 c] 3)).alloc (by simp; try omega) (.cells #[.slice A x.length cx] 47)).alloc (by simp; try omega) (.cells #[.slice B y.length cy] 47))
  have hbxb : Bx (w.alloc (.cells #[.pointer (some ⟨bb, 0, none⟩)] 24)) (w.heap.size + 0) 24 (.pointer (some ⟨bb, 0, none⟩)) := by
    have := heap_alloc_new w (.cells #[.pointer (some ⟨bb, 0, none⟩)] 24)
    rw [show w.heap.size = w.heap.size + 0 by simp] at this
    exact this
  have hbxb := hbxb.later ((Below.refl (w.alloc (.cells #[.pointer (some ⟨bb, 0, none⟩)] 24)).heap.size (w.alloc (.cells #[.pointer (some ⟨bb, 0, none⟩)] 24))).alloc (Nat.le_refl _) (.cells #[.int .i64 c] 3))
  have hbxb := hbxb.later ((Below.refl ((w.alloc (.cells #[.pointer (some ⟨bb, 0, none⟩)] 24)).alloc (.cells #[.int .i64 c] 3)).heap.size ((w.alloc (.cells #[.pointer (some ⟨bb, 0, none⟩)] 24)).alloc (.cells #[.int .i64 c] 3))).alloc (Nat.le_refl _) (.cells #[.slice A x.length cx] 47))
  have hbxb := hbxb.later ((Below.refl (((w.alloc (.cells #[.pointer (some ⟨bb, 0, none⟩)] 24)).alloc (.cells #[.int .i64 c] 3)).alloc (.cells #[.slice A x.length cx] 47)).heap.size (((w.alloc (.cells #[.pointer (some ⟨bb, 0, none⟩)] 24)).alloc (.cells #[.int .i64 c] 3)).alloc (.cells #[.slice A x.length cx] 47))).alloc (Nat.le_refl _) (.cells #[.slice B y.length cy] 47))
  have hbxc : Bx ((w.alloc (.cells #[.pointer (some ⟨bb, 0, none⟩)] 24)).alloc (.cells #[.int .i64 c] 3)) (w.heap.size + 1) 3 (.int .i64 c) := by
    have := heap_alloc_new (w.alloc (.cells #[.pointer (some ⟨bb, 0, none⟩)] 24)) (.cells #[.int .i64 c] 3)
    rw [show (w.alloc (.cells #[.pointer (some ⟨bb, 0, none⟩)] 24)).heap.size = w.heap.size + 1 by simp] at this
    exact this
  have hbxc := hbxc.later ((Below.refl ((w.alloc (.cells #[.pointer (some ⟨bb, 0, none⟩)] 24)).alloc (.cells #[.int .i64 c] 3)).heap.size ((w.alloc (.cells #[.pointer (some ⟨bb, 0, none⟩)] 24)).alloc (.cells #[.int .i64 c] 3))).alloc (Nat.le_refl _) (.cells #[.slice A x.length cx] 47))
  have hbxc := hbxc.later ((Below.refl (((w.alloc (.cells #[.pointer (some ⟨bb, 0, none⟩)] 24)).alloc (.cells #[.int .i64 c] 3)).alloc (.cells #[.slice A x.length cx] 47)).heap.size (((w.alloc (.cells #[.pointer (some ⟨bb, 0, none⟩)] 24)).alloc (.cells #[.int .i64 c] 3)).alloc (.cells #[.slice A x.length cx] 47))).alloc (Nat.le_refl _) (.cells #[.slice B y.length cy] 47))
  have hbxx : Bx (((w.alloc (.cells #[.pointer (some ⟨bb, 0, none⟩)] 24)).alloc (.cells #[.int .i64 c] 3)).alloc (.cells #[.slice A x.length cx] 47)) (w.heap.size + 2) 47 (.slice A x.length cx) := by
    have := heap_alloc_new ((w.alloc (.cells #[.pointer (some ⟨bb, 0, none⟩)] 24)).alloc (.cells #[.int .i64 c] 3)) (.cells #[.slice A x.length cx] 47)
    rw [show ((w.alloc (.cells #[.pointer (some ⟨bb, 0, none⟩)] 24)).alloc (.cells #[.int .i64 c] 3)).heap.size = w.heap.size + 2 by simp] at this
    exact this
  have hbxx := hbxx.later ((Below.refl (((w.alloc (.cells #[.pointer (some ⟨bb, 0, none⟩)] 24)).alloc (.cells #[.int .i64 c] 3)).alloc (.cells #[.slice A x.length cx] 47)).heap.size (((w.alloc (.cells #[.pointer (some ⟨bb, 0, none⟩)] 24)).alloc (.cells #[.int .i64 c] 3)).alloc (.cells #[.slice A x.length cx] 47))).alloc (Nat.le_refl _) (.cells #[.slice B y.length cy] 47))
  have hbxy : Bx ((((w.alloc (.cells #[.pointer (some ⟨bb, 0, none⟩)] 24)).alloc (.cells #[.int .i64 c] 3)).alloc (.cells #[.slice A x.length cx] 47)).alloc (.cells #[.slice B y.length cy] 47)) (w.heap.size + 3) 47 (.slice B y.length cy) := by
    have := heap_alloc_new (((w.alloc (.cells #[.pointer (some ⟨bb, 0, none⟩)] 24)).alloc (.cells #[.int .i64 c] 3)).alloc (.cells #[.slice A x.length cx] 47)) (.cells #[.slice B y.length cy] 47)
    rw [show (((w.alloc (.cells #[.pointer (some ⟨bb, 0, none⟩)] 24)).alloc (.cells #[.int .i64 c] 3)).alloc (.cells #[.slice A x.length cx] 47)).heap.size = w.heap.size + 3 by simp] at this
    exact this
  have HB1 := Lib.hid hb1
  have HT1 := Lib.hid (h.later hb1)
  have HX1 := Lib.hid ((hX.later hb1).here)
  have HY1 := Lib.hid ((hY.later hb1).here)
  have HXb := Lib.hid hbxb
  have HXc := Lib.hid hbxc
  have HXx := Lib.hid hbxx
  have HXy := Lib.hid hbxy
  have LX := Lib.hid lx
  have LY := Lib.hid ly
  have H_hno := Lib.hid hno
  have H_hlx := Lib.hid hlx
  have H_hly := Lib.hid hly
  clear h hX hY lx ly hno hlx hly hb1 hbxb hbxc hbxx hbxy
  go_enter Try.func40, Try.ntmps40
  go_upto_region 1 with fail
  generalize hgw : ((((w.alloc (.cells #[.pointer (some ⟨bb, 0, none⟩)] 24)).alloc (.cells #[.int .i64 c] 3)).alloc (.cells #[.slice A x.length cx] 47)).alloc (.cells #[.slice B y.length cy] 47)) = w1 at *
  clear hgw
  obtain ⟨pb, HPb⟩ : ∃ p, Hid (w.heap.size + 0 = p) := ⟨_, Lib.hid rfl⟩
  obtain ⟨pc, HPc⟩ : ∃ p, Hid (w.heap.size + 1 = p) := ⟨_, Lib.hid rfl⟩
  obtain ⟨px, HPx⟩ : ∃ p, Hid (w.heap.size + 2 = p) := ⟨_, Lib.hid rfl⟩
  obtain ⟨py, HPy⟩ : ∃ p, Hid (w.heap.size + 3 = p) := ⟨_, Lib.hid rfl⟩
  have HP0 := Lib.hid (show w.heap.size = pb from HPb.out)
  rw [HPb.out] at HXb
  rw [HPc.out] at HXc
  rw [HPx.out] at HXx
  rw [HPy.out] at HXy
  rw [HP0.out, show pb + 1 = pc from by rw [← HPc.out, ← HPb.out], show pc + 1 = px from by rw [← HPx.out, ← HPc.out], show px + 1 = py from by rw [← HPy.out, ← HPx.out]]
  have eb := HXb.out.cell
  have ec := HXc.out.cell
  have ex := HXx.out.cell
  have ey := HXy.out.cell
  have hba := (Below.refl w1.heap.size w1).alloc (Nat.le_refl _) (.cells #[.slice A x.length cx, .slice B y.length cy] 47)
  have HBA := Lib.hid (HB1.out.trans (hba.mono HB1.out.size))
  have HT2 := Lib.hid (HT1.out.later hba)
  have hws : WdS (w1.alloc (.cells #[.slice A x.length cx, .slice B y.length cy] 47)) w1.heap.size [⟨A, cx, x⟩, ⟨B, cy, y⟩] := ⟨_, heap_alloc_new w1 _, fun k hk => by
    have : k = 0 ∨ k = 1 := by simp at hk; omega
    rcases this with rfl | rfl <;> rfl, fun k hk => by
    have : k = 0 ∨ k = 1 := by simp at hk; omega
    rcases this with rfl | rfl
    · exact (HX1.out.later hba).here
    · exact (HY1.out.later hba).here⟩
  have HC := Lib.hid (madeW_no (bb := bb) w1.heap.size [⟨A, cx, x⟩, ⟨B, cy, y⟩] ⟨A, cx, x⟩ (.func (.func 83) #[] #[.pointer (some ⟨pb, 0, none⟩), .pointer (some ⟨pc, 0, none⟩), .pointer (some ⟨px, 0, none⟩), .pointer (some ⟨py, 0, none⟩)]) (w1.alloc (.cells #[.slice A x.length cx, .slice B y.length cy] 47)) (by simp) rfl (fun ha => H_hno.out ⟨ha.1 1 (by simp), ha.2.1, ha.2.2⟩) (by simp) (fun k hk => by
    have : k = 0 ∨ k = 1 := by simp at hk; omega
    rcases this with rfl | rfl
    · exact H_hlx.out
    · exact H_hly.out) hws)
  clear hws hba
  go_wp2_with (fail)
  refine HC.out.mono ?_
  rintro e w2 ⟨rfl, hb2⟩
  have HB2 := Lib.hid (HBA.out.trans (hb2.mono HBA.out.size))
  clear hb2 HC
  go_wp2_with (fail)
  go_ret
  exact ⟨rfl, HB2.out⟩
set_option maxRecDepth 100000 in
set_option maxHeartbeats 2000000 in
theorem clo_Equal (pb px py : Nat) (A : Option Addr) (cx : Nat) (x : List Int) (B : Option Addr) (cy : Nat) (y : List Int) (ht : Bld w1 n₀ bb mb rv1 I gs 0) (hbb : Bx w1 pb 24 (.pointer (some ⟨bb, 0, none⟩))) (hbx : Bx w1 px 47 (.slice A x.length cx)) (hby : Bx w1 py 47 (.slice B y.length cy)) (hX : WRow w1.heap.size w1 A x) (hY : WRow w1.heap.size w1 B y) (lx : Lts I gs x) (ly : Lts I gs y) (h0 : 0 < x.length) (h8 : x.length ≤ 8) (hxy : y.length = x.length)  (hf : gs.length + 4 * x.length ≤ 5000) :
    Calls Try.prog 88 #[.pointer (some ⟨pb, 0, none⟩), .pointer (some ⟨px, 0, none⟩), .pointer (some ⟨py, 0, none⟩)] w1 (OneG n₀ bb mb rv1 I gs (4 * x.length) w1 (EqH x y)) := by
  have HC := Lib.hid (equal_any A cx x B cy y ht hX hY lx ly h0 (by omega) hxy (by omega))
  have eb := hbb.cell
  have ex := hbx.cell
  have ey := hby.cell
  clear ht hX hY lx ly hbb hbx hby h0 h8 hf hxy
  go_enter Try.func88, Try.ntmps88
  go_wp2_with (fail)
  refine HC.out.mono ?_
  rintro e w2 ⟨z, rv2, gs2, rfl, hs, hz, hh⟩
  have HAC := Lib.hid hs
  have HZ := Lib.hid hz
  have HH := Lib.hid hh
  clear hs hz hh HC eb ex ey
  go_wp2_with (fail)
  go_ret
  exact ⟨z, rv2, gs2, rfl, HAC.out, HZ.out, HH.out⟩
theorem clo_Equal_eK : ∀ args w, (callFunc 88 args).run Try.prog w = .ok (.enter 88 args) w := enters_of Try.func88 (by kernel_rfl) rfl
set_option maxRecDepth 100000 in
set_option maxHeartbeats 4000000 in
theorem Equal_yes (A : Option Addr) (cx : Nat) (x : List Int) (B : Option Addr) (cy : Nat) (y : List Int) (h : Bld w n₀ bb mb rv I gs 0) (hX : WRow w.heap.size w A x) (hY : WRow w.heap.size w B y) (lx : Lts I gs x) (ly : Lts I gs y) (h0 : 0 < x.length) (h8 : x.length ≤ 8) (hxy : y.length = x.length)  (hf : gs.length + (4 * x.length) + 1 ≤ 5000) :
    Calls Try.prog 42 #[.pointer (some ⟨bb, 0, none⟩), .slice A x.length cx, .slice B y.length cy] w (OneG n₀ bb mb rv I gs (4 * x.length) w (EqH x y)) := by
  have hb1 : Below w.heap.size w (((w.alloc (.cells #[.pointer (some ⟨bb, 0, none⟩)] 24)).alloc (.cells #[.slice A x.length cx] 47)).alloc (.cells #[.slice B y.length cy] 47)) := ((((Below.refl w.heap.size w).alloc (by simp; try omega) (.cells #[.pointer (some ⟨bb, 0, none⟩)] 24)).alloc (by simp; try omega) (.cells #[.slice A x.length cx] 47)).alloc (by simp; try omega) (.cells #[.slice B y.length cy] 47))
  have hbxb : Bx (w.alloc (.cells #[.pointer (some ⟨bb, 0, none⟩)] 24)) (w.heap.size + 0) 24 (.pointer (some ⟨bb, 0, none⟩)) := by
    have := heap_alloc_new w (.cells #[.pointer (some ⟨bb, 0, none⟩)] 24)
    rw [show w.heap.size = w.heap.size + 0 by simp] at this
    exact this
  have hbxb := hbxb.later ((Below.refl (w.alloc (.cells #[.pointer (some ⟨bb, 0, none⟩)] 24)).heap.size (w.alloc (.cells #[.pointer (some ⟨bb, 0, none⟩)] 24))).alloc (Nat.le_refl _) (.cells #[.slice A x.length cx] 47))
  have hbxb := hbxb.later ((Below.refl ((w.alloc (.cells #[.pointer (some ⟨bb, 0, none⟩)] 24)).alloc (.cells #[.slice A x.length cx] 47)).heap.size ((w.alloc (.cells #[.pointer (some ⟨bb, 0, none⟩)] 24)).alloc (.cells #[.slice A x.length cx] 47))).alloc (Nat.le_refl _) (.cells #[.slice B y.length cy] 47))
  have hbxx : Bx ((w.alloc (.cells #[.pointer (some ⟨bb, 0, none⟩)] 24)).alloc (.cells #[.slice A x.length cx] 47)) (w.heap.size + 1) 47 (.slice A x.length cx) := by
    have := heap_alloc_new (w.alloc (.cells #[.pointer (some ⟨bb, 0, none⟩)] 24)) (.cells #[.slice A x.length cx] 47)
    rw [show (w.alloc (.cells #[.pointer (some ⟨bb, 0, none⟩)] 24)).heap.size = w.heap.size + 1 by simp] at this
    exact this
  have hbxx := hbxx.later ((Below.refl ((w.alloc (.cells #[.pointer (some ⟨bb, 0, none⟩)] 24)).alloc (.cells #[.slice A x.length cx] 47)).heap.size ((w.alloc (.cells #[.pointer (some ⟨bb, 0, none⟩)] 24)).alloc (.cells #[.slice A x.length cx] 47))).alloc (Nat.le_refl _) (.cells #[.slice B y.length cy] 47))
  have hbxy : Bx (((w.alloc (.cells #[.pointer (some ⟨bb, 0, none⟩)] 24)).alloc (.cells #[.slice A x.length cx] 47)).alloc (.cells #[.slice B y.length cy] 47)) (w.heap.size + 2) 47 (.slice B y.length cy) := by
    have := heap_alloc_new ((w.alloc (.cells #[.pointer (some ⟨bb, 0, none⟩)] 24)).alloc (.cells #[.slice A x.length cx] 47)) (.cells #[.slice B y.length cy] 47)
    rw [show ((w.alloc (.cells #[.pointer (some ⟨bb, 0, none⟩)] 24)).alloc (.cells #[.slice A x.length cx] 47)).heap.size = w.heap.size + 2 by simp] at this
    exact this
  have HB1 := Lib.hid hb1
  have HT1 := Lib.hid (h.later hb1)
  have HX1 := Lib.hid ((hX.later hb1).here)
  have HY1 := Lib.hid ((hY.later hb1).here)
  have HXb := Lib.hid hbxb
  have HXx := Lib.hid hbxx
  have HXy := Lib.hid hbxy
  have LX := Lib.hid lx
  have LY := Lib.hid ly
  have H_h0 := Lib.hid h0
  have H_h8 := Lib.hid h8
  have H_hxy := Lib.hid hxy
  have H_hf := Lib.hid hf
  clear h hX hY lx ly h0 h8 hxy hf hb1 hbxb hbxx hbxy
  go_enter Try.func42, Try.ntmps42
  go_upto_region 1 with fail
  generalize hgw : (((w.alloc (.cells #[.pointer (some ⟨bb, 0, none⟩)] 24)).alloc (.cells #[.slice A x.length cx] 47)).alloc (.cells #[.slice B y.length cy] 47)) = w1 at *
  clear hgw
  obtain ⟨pb, HPb⟩ : ∃ p, Hid (w.heap.size + 0 = p) := ⟨_, Lib.hid rfl⟩
  obtain ⟨px, HPx⟩ : ∃ p, Hid (w.heap.size + 1 = p) := ⟨_, Lib.hid rfl⟩
  obtain ⟨py, HPy⟩ : ∃ p, Hid (w.heap.size + 2 = p) := ⟨_, Lib.hid rfl⟩
  have HP0 := Lib.hid (show w.heap.size = pb from HPb.out)
  rw [HPb.out] at HXb
  rw [HPx.out] at HXx
  rw [HPy.out] at HXy
  rw [HP0.out, show pb + 1 = px from by rw [← HPx.out, ← HPb.out], show px + 1 = py from by rw [← HPy.out, ← HPx.out]]
  have eb := HXb.out.cell
  have ex := HXx.out.cell
  have ey := HXy.out.cell
  have hba := (Below.refl w1.heap.size w1).alloc (Nat.le_refl _) (.cells #[.slice A x.length cx, .slice B y.length cy] 47)
  have HBA := Lib.hid (HB1.out.trans (hba.mono HB1.out.size))
  have HT2 := Lib.hid (HT1.out.later hba)
  have hws : WdS (w1.alloc (.cells #[.slice A x.length cx, .slice B y.length cy] 47)) w1.heap.size [⟨A, cx, x⟩, ⟨B, cy, y⟩] := ⟨_, heap_alloc_new w1 _, fun k hk => by
    have : k = 0 ∨ k = 1 := by simp at hk; omega
    rcases this with rfl | rfl <;> rfl, fun k hk => by
    have : k = 0 ∨ k = 1 := by simp at hk; omega
    rcases this with rfl | rfl
    · exact (HX1.out.later hba).here
    · exact (HY1.out.later hba).here⟩
  have HC := Lib.hid (madeI_yes (w := w1.alloc (.cells #[.slice A x.length cx, .slice B y.length cy] 47)) w1.heap.size [⟨A, cx, x⟩, ⟨B, cy, y⟩] ⟨A, cx, x⟩ 88 #[.pointer (some ⟨pb, 0, none⟩), .pointer (some ⟨px, 0, none⟩), .pointer (some ⟨py, 0, none⟩)] (4 * x.length) (EqH x y) clo_Equal_eK HT2.out (by simp) rfl ⟨fun k hk => by
    have : k = 0 ∨ k = 1 := by simp at hk; omega
    rcases this with rfl | rfl
    · rfl
    · exact H_hxy.out, H_h0.out, H_h8.out⟩ (by simp) (fun k hk => by
    have : k = 0 ∨ k = 1 := by simp at hk; omega
    rcases this with rfl | rfl
    · exact LX.out
    · exact LY.out) hws (by have := H_hf.out; omega) (fun w3 rv3 hs => clo_Equal pb px py A cx x B cy y hs.tab ((HXb.out.later hba).stp (by decide) (by decide) HT2.out hs) ((HXx.out.later hba).stp (by decide) (by decide) HT2.out hs) ((HXy.out.later hba).stp (by decide) (by decide) HT2.out hs) ((((HX1.out.later hba).here).stp HT2.out hs).here) ((((HY1.out.later hba).here).stp HT2.out hs).here) LX.out LY.out H_h0.out H_h8.out H_hxy.out (by have := H_hf.out; omega)))
  clear hws hba
  go_wp2_with (fail)
  refine HC.out.mono ?_
  rintro e w2 ⟨z, rv2, gs2, rfl, hs, hz, hh⟩
  have HAC := Lib.hid (hs.ahead HBA.out)
  have HZ := Lib.hid hz
  have HH := Lib.hid hh
  clear hs hz hh HC
  go_wp2_with (fail)
  go_ret
  exact ⟨z, rv2, gs2, rfl, HAC.out, HZ.out, HH.out⟩
set_option maxRecDepth 100000 in
set_option maxHeartbeats 4000000 in
theorem Equal_no (A : Option Addr) (cx : Nat) (x : List Int) (B : Option Addr) (cy : Nat) (y : List Int) (h : Bld w n₀ bb mb rv I gs 0) (hX : WRow w.heap.size w A x) (hY : WRow w.heap.size w B y) (lx : Lts I gs x) (ly : Lts I gs y) (hno : ¬ (y.length = x.length ∧ 0 < x.length ∧ x.length ≤ 8)) (hlx : x.length ≤ 1000000) (hly : y.length ≤ 1000000) :
    Calls Try.prog 42 #[.pointer (some ⟨bb, 0, none⟩), .slice A x.length cx, .slice B y.length cy] w fun e w' => e = .returned (.int .i64 0) ∧ Below w.heap.size w w' := by
  have hb1 : Below w.heap.size w (((w.alloc (.cells #[.pointer (some ⟨bb, 0, none⟩)] 24)).alloc (.cells #[.slice A x.length cx] 47)).alloc (.cells #[.slice B y.length cy] 47)) := ((((Below.refl w.heap.size w).alloc (by simp; try omega) (.cells #[.pointer (some ⟨bb, 0, none⟩)] 24)).alloc (by simp; try omega) (.cells #[.slice A x.length cx] 47)).alloc (by simp; try omega) (.cells #[.slice B y.length cy] 47))
  have hbxb : Bx (w.alloc (.cells #[.pointer (some ⟨bb, 0, none⟩)] 24)) (w.heap.size + 0) 24 (.pointer (some ⟨bb, 0, none⟩)) := by
    have := heap_alloc_new w (.cells #[.pointer (some ⟨bb, 0, none⟩)] 24)
    rw [show w.heap.size = w.heap.size + 0 by simp] at this
    exact this
  have hbxb := hbxb.later ((Below.refl (w.alloc (.cells #[.pointer (some ⟨bb, 0, none⟩)] 24)).heap.size (w.alloc (.cells #[.pointer (some ⟨bb, 0, none⟩)] 24))).alloc (Nat.le_refl _) (.cells #[.slice A x.length cx] 47))
  have hbxb := hbxb.later ((Below.refl ((w.alloc (.cells #[.pointer (some ⟨bb, 0, none⟩)] 24)).alloc (.cells #[.slice A x.length cx] 47)).heap.size ((w.alloc (.cells #[.pointer (some ⟨bb, 0, none⟩)] 24)).alloc (.cells #[.slice A x.length cx] 47))).alloc (Nat.le_refl _) (.cells #[.slice B y.length cy] 47))
  have hbxx : Bx ((w.alloc (.cells #[.pointer (some ⟨bb, 0, none⟩)] 24)).alloc (.cells #[.slice A x.length cx] 47)) (w.heap.size + 1) 47 (.slice A x.length cx) := by
    have := heap_alloc_new (w.alloc (.cells #[.pointer (some ⟨bb, 0, none⟩)] 24)) (.cells #[.slice A x.length cx] 47)
    rw [show (w.alloc (.cells #[.pointer (some ⟨bb, 0, none⟩)] 24)).heap.size = w.heap.size + 1 by simp] at this
    exact this
  have hbxx := hbxx.later ((Below.refl ((w.alloc (.cells #[.pointer (some ⟨bb, 0, none⟩)] 24)).alloc (.cells #[.slice A x.length cx] 47)).heap.size ((w.alloc (.cells #[.pointer (some ⟨bb, 0, none⟩)] 24)).alloc (.cells #[.slice A x.length cx] 47))).alloc (Nat.le_refl _) (.cells #[.slice B y.length cy] 47))
  have hbxy : Bx (((w.alloc (.cells #[.pointer (some ⟨bb, 0, none⟩)] 24)).alloc (.cells #[.slice A x.length cx] 47)).alloc (.cells #[.slice B y.length cy] 47)) (w.heap.size + 2) 47 (.slice B y.length cy) := by
    have := heap_alloc_new ((w.alloc (.cells #[.pointer (some ⟨bb, 0, none⟩)] 24)).alloc (.cells #[.slice A x.length cx] 47)) (.cells #[.slice B y.length cy] 47)
    rw [show ((w.alloc (.cells #[.pointer (some ⟨bb, 0, none⟩)] 24)).alloc (.cells #[.slice A x.length cx] 47)).heap.size = w.heap.size + 2 by simp] at this
    exact this
  have HB1 := Lib.hid hb1
  have HT1 := Lib.hid (h.later hb1)
  have HX1 := Lib.hid ((hX.later hb1).here)
  have HY1 := Lib.hid ((hY.later hb1).here)
  have HXb := Lib.hid hbxb
  have HXx := Lib.hid hbxx
  have HXy := Lib.hid hbxy
  have LX := Lib.hid lx
  have LY := Lib.hid ly
  have H_hno := Lib.hid hno
  have H_hlx := Lib.hid hlx
  have H_hly := Lib.hid hly
  clear h hX hY lx ly hno hlx hly hb1 hbxb hbxx hbxy
  go_enter Try.func42, Try.ntmps42
  go_upto_region 1 with fail
  generalize hgw : (((w.alloc (.cells #[.pointer (some ⟨bb, 0, none⟩)] 24)).alloc (.cells #[.slice A x.length cx] 47)).alloc (.cells #[.slice B y.length cy] 47)) = w1 at *
  clear hgw
  obtain ⟨pb, HPb⟩ : ∃ p, Hid (w.heap.size + 0 = p) := ⟨_, Lib.hid rfl⟩
  obtain ⟨px, HPx⟩ : ∃ p, Hid (w.heap.size + 1 = p) := ⟨_, Lib.hid rfl⟩
  obtain ⟨py, HPy⟩ : ∃ p, Hid (w.heap.size + 2 = p) := ⟨_, Lib.hid rfl⟩
  have HP0 := Lib.hid (show w.heap.size = pb from HPb.out)
  rw [HPb.out] at HXb
  rw [HPx.out] at HXx
  rw [HPy.out] at HXy
  rw [HP0.out, show pb + 1 = px from by rw [← HPx.out, ← HPb.out], show px + 1 = py from by rw [← HPy.out, ← HPx.out]]
  have eb := HXb.out.cell
  have ex := HXx.out.cell
  have ey := HXy.out.cell
  have hba := (Below.refl w1.heap.size w1).alloc (Nat.le_refl _) (.cells #[.slice A x.length cx, .slice B y.length cy] 47)
  have HBA := Lib.hid (HB1.out.trans (hba.mono HB1.out.size))
  have HT2 := Lib.hid (HT1.out.later hba)
  have hws : WdS (w1.alloc (.cells #[.slice A x.length cx, .slice B y.length cy] 47)) w1.heap.size [⟨A, cx, x⟩, ⟨B, cy, y⟩] := ⟨_, heap_alloc_new w1 _, fun k hk => by
    have : k = 0 ∨ k = 1 := by simp at hk; omega
    rcases this with rfl | rfl <;> rfl, fun k hk => by
    have : k = 0 ∨ k = 1 := by simp at hk; omega
    rcases this with rfl | rfl
    · exact (HX1.out.later hba).here
    · exact (HY1.out.later hba).here⟩
  have HC := Lib.hid (madeI_no (bb := bb) w1.heap.size [⟨A, cx, x⟩, ⟨B, cy, y⟩] ⟨A, cx, x⟩ (.func (.func 88) #[] #[.pointer (some ⟨pb, 0, none⟩), .pointer (some ⟨px, 0, none⟩), .pointer (some ⟨py, 0, none⟩)]) (w1.alloc (.cells #[.slice A x.length cx, .slice B y.length cy] 47)) (by simp) rfl (fun ha => H_hno.out ⟨ha.1 1 (by simp), ha.2.1, ha.2.2⟩) (by simp) (fun k hk => by
    have : k = 0 ∨ k = 1 := by simp at hk; omega
    rcases this with rfl | rfl
    · exact H_hlx.out
    · exact H_hly.out) hws)
  clear hws hba
  go_wp2_with (fail)
  refine HC.out.mono ?_
  rintro e w2 ⟨rfl, hb2⟩
  have HB2 := Lib.hid (HBA.out.trans (hb2.mono HBA.out.size))
  clear hb2 HC
  go_wp2_with (fail)
  go_ret
  exact ⟨rfl, HB2.out⟩
set_option maxRecDepth 100000 in
set_option maxHeartbeats 2000000 in
theorem clo_Less (pb px py : Nat) (A : Option Addr) (cx : Nat) (x : List Int) (B : Option Addr) (cy : Nat) (y : List Int) (ht : Bld w1 n₀ bb mb rv1 I gs 0) (hbb : Bx w1 pb 24 (.pointer (some ⟨bb, 0, none⟩))) (hbx : Bx w1 px 47 (.slice A x.length cx)) (hby : Bx w1 py 47 (.slice B y.length cy)) (hX : WRow w1.heap.size w1 A x) (hY : WRow w1.heap.size w1 B y) (lx : Lts I gs x) (ly : Lts I gs y) (h0 : 0 < x.length) (h8 : x.length ≤ 8) (hxy : y.length = x.length)  (hf : gs.length + 4 * x.length ≤ 5000) :
    Calls Try.prog 90 #[.pointer (some ⟨pb, 0, none⟩), .pointer (some ⟨px, 0, none⟩), .pointer (some ⟨py, 0, none⟩)] w1 (OneG n₀ bb mb rv1 I gs (4 * x.length) w1 (LsH x y)) := by
  have HC := Lib.hid (less_any A cx x B cy y ht hX hY lx ly h0 (by omega) hxy (by omega))
  have eb := hbb.cell
  have ex := hbx.cell
  have ey := hby.cell
  clear ht hX hY lx ly hbb hbx hby h0 h8 hf hxy
  go_enter Try.func90, Try.ntmps90
  go_wp2_with (fail)
  refine HC.out.mono ?_
  rintro e w2 ⟨z, rv2, gs2, rfl, hs, hz, hh⟩
  have HAC := Lib.hid hs
  have HZ := Lib.hid hz
  have HH := Lib.hid hh
  clear hs hz hh HC eb ex ey
  go_wp2_with (fail)
  go_ret
  exact ⟨z, rv2, gs2, rfl, HAC.out, HZ.out, HH.out⟩
theorem clo_Less_eK : ∀ args w, (callFunc 90 args).run Try.prog w = .ok (.enter 90 args) w := enters_of Try.func90 (by kernel_rfl) rfl
set_option maxRecDepth 100000 in
set_option maxHeartbeats 4000000 in
theorem Less_yes (A : Option Addr) (cx : Nat) (x : List Int) (B : Option Addr) (cy : Nat) (y : List Int) (h : Bld w n₀ bb mb rv I gs 0) (hX : WRow w.heap.size w A x) (hY : WRow w.heap.size w B y) (lx : Lts I gs x) (ly : Lts I gs y) (h0 : 0 < x.length) (h8 : x.length ≤ 8) (hxy : y.length = x.length)  (hf : gs.length + (4 * x.length) + 1 ≤ 5000) :
    Calls Try.prog 43 #[.pointer (some ⟨bb, 0, none⟩), .slice A x.length cx, .slice B y.length cy] w (OneG n₀ bb mb rv I gs (4 * x.length) w (LsH x y)) := by
  have hb1 : Below w.heap.size w (((w.alloc (.cells #[.pointer (some ⟨bb, 0, none⟩)] 24)).alloc (.cells #[.slice A x.length cx] 47)).alloc (.cells #[.slice B y.length cy] 47)) := ((((Below.refl w.heap.size w).alloc (by simp; try omega) (.cells #[.pointer (some ⟨bb, 0, none⟩)] 24)).alloc (by simp; try omega) (.cells #[.slice A x.length cx] 47)).alloc (by simp; try omega) (.cells #[.slice B y.length cy] 47))
  have hbxb : Bx (w.alloc (.cells #[.pointer (some ⟨bb, 0, none⟩)] 24)) (w.heap.size + 0) 24 (.pointer (some ⟨bb, 0, none⟩)) := by
    have := heap_alloc_new w (.cells #[.pointer (some ⟨bb, 0, none⟩)] 24)
    rw [show w.heap.size = w.heap.size + 0 by simp] at this
    exact this
  have hbxb := hbxb.later ((Below.refl (w.alloc (.cells #[.pointer (some ⟨bb, 0, none⟩)] 24)).heap.size (w.alloc (.cells #[.pointer (some ⟨bb, 0, none⟩)] 24))).alloc (Nat.le_refl _) (.cells #[.slice A x.length cx] 47))
  have hbxb := hbxb.later ((Below.refl ((w.alloc (.cells #[.pointer (some ⟨bb, 0, none⟩)] 24)).alloc (.cells #[.slice A x.length cx] 47)).heap.size ((w.alloc (.cells #[.pointer (some ⟨bb, 0, none⟩)] 24)).alloc (.cells #[.slice A x.length cx] 47))).alloc (Nat.le_refl _) (.cells #[.slice B y.length cy] 47))
  have hbxx : Bx ((w.alloc (.cells #[.pointer (some ⟨bb, 0, none⟩)] 24)).alloc (.cells #[.slice A x.length cx] 47)) (w.heap.size + 1) 47 (.slice A x.length cx) := by
    have := heap_alloc_new (w.alloc (.cells #[.pointer (some ⟨bb, 0, none⟩)] 24)) (.cells #[.slice A x.length cx] 47)
    rw [show (w.alloc (.cells #[.pointer (some ⟨bb, 0, none⟩)] 24)).heap.size = w.heap.size + 1 by simp] at this
    exact this
  have hbxx := hbxx.later ((Below.refl ((w.alloc (.cells #[.pointer (some ⟨bb, 0, none⟩)] 24)).alloc (.cells #[.slice A x.length cx] 47)).heap.size ((w.alloc (.cells #[.pointer (some ⟨bb, 0, none⟩)] 24)).alloc (.cells #[.slice A x.length cx] 47))).alloc (Nat.le_refl _) (.cells #[.slice B y.length cy] 47))
  have hbxy : Bx (((w.alloc (.cells #[.pointer (some ⟨bb, 0, none⟩)] 24)).alloc (.cells #[.slice A x.length cx] 47)).alloc (.cells #[.slice B y.length cy] 47)) (w.heap.size + 2) 47 (.slice B y.length cy) := by
    have := heap_alloc_new ((w.alloc (.cells #[.pointer (some ⟨bb, 0, none⟩)] 24)).alloc (.cells #[.slice A x.length cx] 47)) (.cells #[.slice B y.length cy] 47)
    rw [show ((w.alloc (.cells #[.pointer (some ⟨bb, 0, none⟩)] 24)).alloc (.cells #[.slice A x.length cx] 47)).heap.size = w.heap.size + 2 by simp] at this
    exact this
  have HB1 := Lib.hid hb1
  have HT1 := Lib.hid (h.later hb1)
  have HX1 := Lib.hid ((hX.later hb1).here)
  have HY1 := Lib.hid ((hY.later hb1).here)
  have HXb := Lib.hid hbxb
  have HXx := Lib.hid hbxx
  have HXy := Lib.hid hbxy
  have LX := Lib.hid lx
  have LY := Lib.hid ly
  have H_h0 := Lib.hid h0
  have H_h8 := Lib.hid h8
  have H_hxy := Lib.hid hxy
  have H_hf := Lib.hid hf
  clear h hX hY lx ly h0 h8 hxy hf hb1 hbxb hbxx hbxy
  go_enter Try.func43, Try.ntmps43
  go_upto_region 1 with fail
  generalize hgw : (((w.alloc (.cells #[.pointer (some ⟨bb, 0, none⟩)] 24)).alloc (.cells #[.slice A x.length cx] 47)).alloc (.cells #[.slice B y.length cy] 47)) = w1 at *
  clear hgw
  obtain ⟨pb, HPb⟩ : ∃ p, Hid (w.heap.size + 0 = p) := ⟨_, Lib.hid rfl⟩
  obtain ⟨px, HPx⟩ : ∃ p, Hid (w.heap.size + 1 = p) := ⟨_, Lib.hid rfl⟩
  obtain ⟨py, HPy⟩ : ∃ p, Hid (w.heap.size + 2 = p) := ⟨_, Lib.hid rfl⟩
  have HP0 := Lib.hid (show w.heap.size = pb from HPb.out)
  rw [HPb.out] at HXb
  rw [HPx.out] at HXx
  rw [HPy.out] at HXy
  rw [HP0.out, show pb + 1 = px from by rw [← HPx.out, ← HPb.out], show px + 1 = py from by rw [← HPy.out, ← HPx.out]]
  have eb := HXb.out.cell
  have ex := HXx.out.cell
  have ey := HXy.out.cell
  have hba := (Below.refl w1.heap.size w1).alloc (Nat.le_refl _) (.cells #[.slice A x.length cx, .slice B y.length cy] 47)
  have HBA := Lib.hid (HB1.out.trans (hba.mono HB1.out.size))
  have HT2 := Lib.hid (HT1.out.later hba)
  have hws : WdS (w1.alloc (.cells #[.slice A x.length cx, .slice B y.length cy] 47)) w1.heap.size [⟨A, cx, x⟩, ⟨B, cy, y⟩] := ⟨_, heap_alloc_new w1 _, fun k hk => by
    have : k = 0 ∨ k = 1 := by simp at hk; omega
    rcases this with rfl | rfl <;> rfl, fun k hk => by
    have : k = 0 ∨ k = 1 := by simp at hk; omega
    rcases this with rfl | rfl
    · exact (HX1.out.later hba).here
    · exact (HY1.out.later hba).here⟩
  have HC := Lib.hid (madeI_yes (w := w1.alloc (.cells #[.slice A x.length cx, .slice B y.length cy] 47)) w1.heap.size [⟨A, cx, x⟩, ⟨B, cy, y⟩] ⟨A, cx, x⟩ 90 #[.pointer (some ⟨pb, 0, none⟩), .pointer (some ⟨px, 0, none⟩), .pointer (some ⟨py, 0, none⟩)] (4 * x.length) (LsH x y) clo_Less_eK HT2.out (by simp) rfl ⟨fun k hk => by
    have : k = 0 ∨ k = 1 := by simp at hk; omega
    rcases this with rfl | rfl
    · rfl
    · exact H_hxy.out, H_h0.out, H_h8.out⟩ (by simp) (fun k hk => by
    have : k = 0 ∨ k = 1 := by simp at hk; omega
    rcases this with rfl | rfl
    · exact LX.out
    · exact LY.out) hws (by have := H_hf.out; omega) (fun w3 rv3 hs => clo_Less pb px py A cx x B cy y hs.tab ((HXb.out.later hba).stp (by decide) (by decide) HT2.out hs) ((HXx.out.later hba).stp (by decide) (by decide) HT2.out hs) ((HXy.out.later hba).stp (by decide) (by decide) HT2.out hs) ((((HX1.out.later hba).here).stp HT2.out hs).here) ((((HY1.out.later hba).here).stp HT2.out hs).here) LX.out LY.out H_h0.out H_h8.out H_hxy.out (by have := H_hf.out; omega)))
  clear hws hba
  go_wp2_with (fail)
  refine HC.out.mono ?_
  rintro e w2 ⟨z, rv2, gs2, rfl, hs, hz, hh⟩
  have HAC := Lib.hid (hs.ahead HBA.out)
  have HZ := Lib.hid hz
  have HH := Lib.hid hh
  clear hs hz hh HC
  go_wp2_with (fail)
  go_ret
  exact ⟨z, rv2, gs2, rfl, HAC.out, HZ.out, HH.out⟩
set_option maxRecDepth 100000 in
set_option maxHeartbeats 4000000 in
theorem Less_no (A : Option Addr) (cx : Nat) (x : List Int) (B : Option Addr) (cy : Nat) (y : List Int) (h : Bld w n₀ bb mb rv I gs 0) (hX : WRow w.heap.size w A x) (hY : WRow w.heap.size w B y) (lx : Lts I gs x) (ly : Lts I gs y) (hno : ¬ (y.length = x.length ∧ 0 < x.length ∧ x.length ≤ 8)) (hlx : x.length ≤ 1000000) (hly : y.length ≤ 1000000) :
    Calls Try.prog 43 #[.pointer (some ⟨bb, 0, none⟩), .slice A x.length cx, .slice B y.length cy] w fun e w' => e = .returned (.int .i64 0) ∧ Below w.heap.size w w' := by
  have hb1 : Below w.heap.size w (((w.alloc (.cells #[.pointer (some ⟨bb, 0, none⟩)] 24)).alloc (.cells #[.slice A x.length cx] 47)).alloc (.cells #[.slice B y.length cy] 47)) := ((((Below.refl w.heap.size w).alloc (by simp; try omega) (.cells #[.pointer (some ⟨bb, 0, none⟩)] 24)).alloc (by simp; try omega) (.cells #[.slice A x.length cx] 47)).alloc (by simp; try omega) (.cells #[.slice B y.length cy] 47))
  have hbxb : Bx (w.alloc (.cells #[.pointer (some ⟨bb, 0, none⟩)] 24)) (w.heap.size + 0) 24 (.pointer (some ⟨bb, 0, none⟩)) := by
    have := heap_alloc_new w (.cells #[.pointer (some ⟨bb, 0, none⟩)] 24)
    rw [show w.heap.size = w.heap.size + 0 by simp] at this
    exact this
  have hbxb := hbxb.later ((Below.refl (w.alloc (.cells #[.pointer (some ⟨bb, 0, none⟩)] 24)).heap.size (w.alloc (.cells #[.pointer (some ⟨bb, 0, none⟩)] 24))).alloc (Nat.le_refl _) (.cells #[.slice A x.length cx] 47))
  have hbxb := hbxb.later ((Below.refl ((w.alloc (.cells #[.pointer (some ⟨bb, 0, none⟩)] 24)).alloc (.cells #[.slice A x.length cx] 47)).heap.size ((w.alloc (.cells #[.pointer (some ⟨bb, 0, none⟩)] 24)).alloc (.cells #[.slice A x.length cx] 47))).alloc (Nat.le_refl _) (.cells #[.slice B y.length cy] 47))
  have hbxx : Bx ((w.alloc (.cells #[.pointer (some ⟨bb, 0, none⟩)] 24)).alloc (.cells #[.slice A x.length cx] 47)) (w.heap.size + 1) 47 (.slice A x.length cx) := by
    have := heap_alloc_new (w.alloc (.cells #[.pointer (some ⟨bb, 0, none⟩)] 24)) (.cells #[.slice A x.length cx] 47)
    rw [show (w.alloc (.cells #[.pointer (some ⟨bb, 0, none⟩)] 24)).heap.size = w.heap.size + 1 by simp] at this
    exact this
  have hbxx := hbxx.later ((Below.refl ((w.alloc (.cells #[.pointer (some ⟨bb, 0, none⟩)] 24)).alloc (.cells #[.slice A x.length cx] 47)).heap.size ((w.alloc (.cells #[.pointer (some ⟨bb, 0, none⟩)] 24)).alloc (.cells #[.slice A x.length cx] 47))).alloc (Nat.le_refl _) (.cells #[.slice B y.length cy] 47))
  have hbxy : Bx (((w.alloc (.cells #[.pointer (some ⟨bb, 0, none⟩)] 24)).alloc (.cells #[.slice A x.length cx] 47)).alloc (.cells #[.slice B y.length cy] 47)) (w.heap.size + 2) 47 (.slice B y.length cy) := by
    have := heap_alloc_new ((w.alloc (.cells #[.pointer (some ⟨bb, 0, none⟩)] 24)).alloc (.cells #[.slice A x.length cx] 47)) (.cells #[.slice B y.length cy] 47)
    rw [show ((w.alloc (.cells #[.pointer (some ⟨bb, 0, none⟩)] 24)).alloc (.cells #[.slice A x.length cx] 47)).heap.size = w.heap.size + 2 by simp] at this
    exact this
  have HB1 := Lib.hid hb1
  have HT1 := Lib.hid (h.later hb1)
  have HX1 := Lib.hid ((hX.later hb1).here)
  have HY1 := Lib.hid ((hY.later hb1).here)
  have HXb := Lib.hid hbxb
  have HXx := Lib.hid hbxx
  have HXy := Lib.hid hbxy
  have LX := Lib.hid lx
  have LY := Lib.hid ly
  have H_hno := Lib.hid hno
  have H_hlx := Lib.hid hlx
  have H_hly := Lib.hid hly
  clear h hX hY lx ly hno hlx hly hb1 hbxb hbxx hbxy
  go_enter Try.func43, Try.ntmps43
  go_upto_region 1 with fail
  generalize hgw : (((w.alloc (.cells #[.pointer (some ⟨bb, 0, none⟩)] 24)).alloc (.cells #[.slice A x.length cx] 47)).alloc (.cells #[.slice B y.length cy] 47)) = w1 at *
  clear hgw
  obtain ⟨pb, HPb⟩ : ∃ p, Hid (w.heap.size + 0 = p) := ⟨_, Lib.hid rfl⟩
  obtain ⟨px, HPx⟩ : ∃ p, Hid (w.heap.size + 1 = p) := ⟨_, Lib.hid rfl⟩
  obtain ⟨py, HPy⟩ : ∃ p, Hid (w.heap.size + 2 = p) := ⟨_, Lib.hid rfl⟩
  have HP0 := Lib.hid (show w.heap.size = pb from HPb.out)
  rw [HPb.out] at HXb
  rw [HPx.out] at HXx
  rw [HPy.out] at HXy
  rw [HP0.out, show pb + 1 = px from by rw [← HPx.out, ← HPb.out], show px + 1 = py from by rw [← HPy.out, ← HPx.out]]
  have eb := HXb.out.cell
  have ex := HXx.out.cell
  have ey := HXy.out.cell
  have hba := (Below.refl w1.heap.size w1).alloc (Nat.le_refl _) (.cells #[.slice A x.length cx, .slice B y.length cy] 47)
  have HBA := Lib.hid (HB1.out.trans (hba.mono HB1.out.size))
  have HT2 := Lib.hid (HT1.out.later hba)
  have hws : WdS (w1.alloc (.cells #[.slice A x.length cx, .slice B y.length cy] 47)) w1.heap.size [⟨A, cx, x⟩, ⟨B, cy, y⟩] := ⟨_, heap_alloc_new w1 _, fun k hk => by
    have : k = 0 ∨ k = 1 := by simp at hk; omega
    rcases this with rfl | rfl <;> rfl, fun k hk => by
    have : k = 0 ∨ k = 1 := by simp at hk; omega
    rcases this with rfl | rfl
    · exact (HX1.out.later hba).here
    · exact (HY1.out.later hba).here⟩
  have HC := Lib.hid (madeI_no (bb := bb) w1.heap.size [⟨A, cx, x⟩, ⟨B, cy, y⟩] ⟨A, cx, x⟩ (.func (.func 90) #[] #[.pointer (some ⟨pb, 0, none⟩), .pointer (some ⟨px, 0, none⟩), .pointer (some ⟨py, 0, none⟩)]) (w1.alloc (.cells #[.slice A x.length cx, .slice B y.length cy] 47)) (by simp) rfl (fun ha => H_hno.out ⟨ha.1 1 (by simp), ha.2.1, ha.2.2⟩) (by simp) (fun k hk => by
    have : k = 0 ∨ k = 1 := by simp at hk; omega
    rcases this with rfl | rfl
    · exact H_hlx.out
    · exact H_hly.out) hws)
  clear hws hba
  go_wp2_with (fail)
  refine HC.out.mono ?_
  rintro e w2 ⟨rfl, hb2⟩
  have HB2 := Lib.hid (HBA.out.trans (hb2.mono HBA.out.size))
  clear hb2 HC
  go_wp2_with (fail)
  go_ret
  exact ⟨rfl, HB2.out⟩
end
end Go.Proofs.Ytbcabnbgkicfdaa
