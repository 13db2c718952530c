/- What is proved: package blast: Divide, whatever the lengths of the words. -/
import Derived.Test.YtbcabnbgkicfdaaBlWds
set_option linter.unusedVariables false
set_option linter.unusedSimpArgs false
namespace Go.Proofs.Ytbcabnbgkicfdaa
open Go.RowKit Go.Maps

/-- a variable that holds two slices -/
def PBox (w : World) (b : Nat) (u v : Value) : Prop := w.heap[b]? = some (.cells #[u, v] 89 (0, 0))
section
variable {w w' : World} {b : Nat} {u v : Value}
theorem PBox.cells (h : PBox w b u v) : w.cell? ⟨b, 0, none⟩ = some u ∧ w.cell? ⟨b, 1, none⟩ = some v := ⟨Lib.cell_of_heap h 0, Lib.cell_of_heap h 1⟩
theorem PBox.frz (h : PBox w b u v) (i : Nat) : w.frozen? ⟨b, i, none⟩ = false := hfrz h i
theorem PBox.later (h : PBox w b u v) (hb : Below w.heap.size w w') : PBox w' b u v := (hb.block b (Go.Proofs.Ytbcabnbgkicfdaa.hlt h)).trans h
theorem PBox.put (h : PBox w b u v) (x y : Value) : PBox ((w.setCell ⟨b, 0, none⟩ x).setCell ⟨b, 1, none⟩ y) b x y := by
  unfold PBox at *
  rw [hset (hset h x) y]
  rfl
theorem WRow.pbox {n : Nat} {A : Option Addr} {l : List Int} (h : WRow n w A l) (hb : PBox w b u v) (x y : Value) : WRow n ((w.setCell ⟨b, 0, none⟩ x).setCell ⟨b, 1, none⟩ y) A l := h.stays fun c cs h1 h2 => by
  have hne : c ≠ b := fun e => by
    subst e
    unfold PBox at hb
    rw [h2] at hb
    simp only [Option.some.injEq, Obj.cells.injEq] at hb
    exact absurd hb.2.1 (by decide)
  rw [hfar (by show c ≠ b; exact hne), hfar (by show c ≠ b; exact hne)]
end
section
variable {n₀ bb mb : Nat} {rv rv1 : Value} {I : Int} {gs gs1 : List Gt} {w w1 : World} {n : Nat}
theorem PBox.stp {b : Nat} {u v : Value} (h : PBox w b u v) (ht : Bld w n₀ bb mb rv I gs 0) (hs : Stp n₀ bb mb rv I gs n w w1 rv1 gs1) : PBox w1 b u v :=
  (hs.res.fr.block b (Go.Proofs.Ytbcabnbgkicfdaa.hlt h) (kind_own (by decide) (by decide) ht h)).trans h
theorem Bx.pput {b c : Nat} {T : TypeId} {u v z : Value} (h : Bx w c T z) (hb : PBox w b u v) (hT : T ≠ 89) (x y : Value) : Bx ((w.setCell ⟨b, 0, none⟩ x).setCell ⟨b, 1, none⟩ y) c T z := by
  have hne : c ≠ b := fun e => by
    subst e
    unfold PBox at hb
    unfold Bx at h
    rw [h] at hb
    simp only [Option.some.injEq, Obj.cells.injEq] at hb
    exact hT hb.2.1
  exact (h.other hne x).other hne y
theorem Stp.pbox {b : Nat} {u v : Value} (h : Stp n₀ bb mb rv I gs n w w1 rv1 gs1) (hb : PBox w1 b u v) (hB : w.heap.size ≤ b) (x y : Value) : Stp n₀ bb mb rv I gs n w ((w1.setCell ⟨b, 0, none⟩ x).setCell ⟨b, 1, none⟩ y) rv1 gs1 := by
  have hk : ∀ k, k ≠ b → ((w1.setCell ⟨b, 0, none⟩ x).setCell ⟨b, 1, none⟩ y).heap[k]? = w1.heap[k]? := fun k hne => by rw [hfar (by show k ≠ b; exact hne), hfar (by show k ≠ b; exact hne)]
  refine ⟨⟨h.tab.stays fun k ho => hk k fun e => kind_own (by decide) (by decide) h.tab hb (by rw [← e]; exact ho), ⟨h.res.fr.os, h.res.fr.tape, h.res.fr.output, ?_, fun q hq hno => (hk q (by omega)).trans (h.res.fr.block q hq hno)⟩, h.res.new⟩, h.pre, h.len⟩
  have := h.size
  simp [World.setCell]
  omega
theorem pbox_below {B b : Nat} {a : World} (hB : B ≤ b) {w : World} (h : Below B a w) (x y : Value) : Below B a ((w.setCell ⟨b, 0, none⟩ x).setCell ⟨b, 1, none⟩ y) := (h.setCell (p := ⟨b, 0, none⟩) (by exact hB) x).setCell (p := ⟨b, 1, none⟩) (by exact hB) y
set_option maxRecDepth 100000 in
set_option maxHeartbeats 4000000 in
theorem madeT_no (a : Nat) (L : List Sz) (s : Sz) (fv : Value) (w : World) (h0 : 0 < L.length) (hs : L[0] = s) (hb : ¬ alk L s.l.length) (hL : L.length ≤ 10) (hlen : ∀ (k : Nat) (h : k < L.length), L[k].l.length ≤ 1000000) (hw : WdS w a L) :
    Calls Try.prog 70 #[.pointer (some ⟨bb, 0, none⟩), fv, .slice (some ⟨a, 0, none⟩) L.length L.length] w fun e w' => e = .returned (.agg #[.slice none 0 0, .slice none 0 0]) ∧ Below w.heap.size w w' := by
  have hba := (Below.refl w.heap.size w).alloc (Nat.le_refl _) (.cells #[.slice none 0 0, .slice none 0 0] 89)
  have hbb := (Below.refl (w.alloc (.cells #[.slice none 0 0, .slice none 0 0] 89)).heap.size _).alloc (Nat.le_refl _) (.cells #[.slice none 0 0, .slice none 0 0] 89)
  have hbc := hba.trans (hbb.mono hba.size)
  have HB := Lib.hid hbc
  have HP6 := Lib.hid (show PBox _ w.heap.size (.slice none 0 0) (.slice none 0 0) from PBox.later (heap_alloc_new w (.cells #[.slice none 0 0, .slice none 0 0] 89)) hbb)
  have hp7 := heap_alloc_new (w.alloc (.cells #[.slice none 0 0, .slice none 0 0] 89)) (.cells #[.slice none 0 0, .slice none 0 0] 89)
  rw [show (w.alloc (.cells #[.slice none 0 0, .slice none 0 0] 89)).heap.size = w.heap.size + 1 by simp] at hp7
  have HP7 := Lib.hid (show PBox _ (w.heap.size + 1) (.slice none 0 0) (.slice none 0 0) from hp7)
  have HAL := Lib.hid (alike_any a L s false _ h0 hs (by simpa using hb) hL hlen (hw.later hbc))
  clear hw hlen hs h0 hb hba hbb hbc hp7
  go_enter Try.func70, Try.ntmps70
  go_upto_region 2 with fail
  generalize hgw : (w.alloc (.cells #[.slice none 0 0, .slice none 0 0] 89)).alloc (.cells #[.slice none 0 0, .slice none 0 0] 89) = w1 at *
  clear hgw
  go_wp2_with (fail)
  refine HAL.out.mono ?_
  rintro e wx ⟨rfl, hwx⟩
  obtain rfl := hwx.symm
  obtain ⟨c0, c1⟩ := HP6.out.cells
  have f0 := HP6.out.frz 0
  have f1 := HP6.out.frz 1
  obtain ⟨d0, d1⟩ := HP7.out.cells
  have HFP := Lib.hid (HP6.out.put (.slice none 0 0) (.slice none 0 0))
  have HFB := Lib.hid (pbox_below (Nat.le_refl _) HB.out (.slice none 0 0) (.slice none 0 0))
  go_wp2_with (fail)
  obtain ⟨v0, v1⟩ := HFP.out.cells
  exact bodyPost_ret (v := .agg #[.slice none 0 0, .slice none 0 0]) (by simp [results, Try.results70, go_sem, v0, v1]) rfl ⟨rfl, HFB.out⟩
set_option maxRecDepth 100000 in
set_option maxHeartbeats 4000000 in
theorem madeT_yes (a : Nat) (L : List Sz) (s : Sz) (g : Nat) (caps : Array Value) (N m : Nat) (φ : List Int → List Int → (Int → Bool) → (Int → Prop) → Prop) (eK : ∀ args w, (callFunc g args).run Try.prog w = .ok (.enter g args) w) (h : Bld w n₀ bb mb rv I gs 0) (h0 : 0 < L.length) (hs : L[0] = s) (ha : alk L s.l.length) (hL : L.length ≤ 10) (hlit : ∀ (k : Nat) (h : k < L.length), Lts I gs L[k].l) (hw : WdS w a L) (hf : gs.length + 1 ≤ 5000)
    (hB : ∀ w1 rv1, (∃ w2, Below w.heap.size w w2 ∧ Stp n₀ bb mb rv I gs 0 w2 w1 rv1 gs) → Calls Try.prog g caps w1 (TwoG n₀ bb mb rv1 I gs N w1 m φ)) :
    Calls Try.prog 70 #[.pointer (some ⟨bb, 0, none⟩), .func (.func g) #[] caps, .slice (some ⟨a, 0, none⟩) L.length L.length] w (TwoG n₀ bb mb rv I gs N w m φ) := by
  have hba := (Below.refl w.heap.size w).alloc (Nat.le_refl _) (.cells #[.slice none 0 0, .slice none 0 0] 89)
  have hbb := (Below.refl (w.alloc (.cells #[.slice none 0 0, .slice none 0 0] 89)).heap.size _).alloc (Nat.le_refl _) (.cells #[.slice none 0 0, .slice none 0 0] 89)
  have hbc := hba.trans (hbb.mono hba.size)
  have HBW := Lib.hid hbc
  have HP6 := Lib.hid (show PBox _ w.heap.size (.slice none 0 0) (.slice none 0 0) from PBox.later (heap_alloc_new w (.cells #[.slice none 0 0, .slice none 0 0] 89)) hbb)
  have HAL := Lib.hid (alike_any a L s true _ h0 hs (by simpa using ha) hL (fun k hk => by have := ha.1 k hk; have := ha.2.2; omega) (hw.later hbc))
  have HT := Lib.hid (h.later hbc)
  have HW := Lib.hid (hw.later hbc)
  have HLI := Lib.hid hlit
  have HB := Lib.hid (fun w1 rv1 (hs : Stp n₀ bb mb rv I gs 0 _ w1 rv1 gs) => hB w1 rv1 ⟨_, hbc, hs⟩)
  have HAK := Lib.hid ha
  have HS0 := Lib.hid (Stp.refl (h.later hbc))
  have HF := Lib.hid hf
  clear hw hs h0 ha h hlit hB hf hba hbb hbc
  go_enter Try.func70, Try.ntmps70
  go_upto_region 2 with fail
  generalize hgw : (w.alloc (.cells #[.slice none 0 0, .slice none 0 0] 89)).alloc (.cells #[.slice none 0 0, .slice none 0 0] 89) = w1 at *
  clear hgw
  go_wp2_with (fail)
  refine HAL.out.mono ?_
  rintro e wx ⟨rfl, hwx⟩
  obtain rfl := hwx.symm
  go_wp2_with (fail)
  go_loopw [19] (fun jv wr => ∃ (k : Nat) (rv1 : Value), k ≤ L.length ∧ jv = .int .i64 (k : Int) ∧ Hid (Stp n₀ bb mb rv I gs 0 w1 wr rv1 gs)) (fun jv _ => L.length - (intOf jv).toNat)
  case atStart => exact ⟨0, rv, Nat.zero_le _, rfl, HS0⟩
  case round =>
    obtain ⟨k, rv1, hk, rfl, hst⟩ := hrel
    by_cases hlt' : k < L.length
    · have c0 := (HW.out.stp HT.out hst.out).cell hlt'
      have hlk := HAK.out.1 k hlt'
      have hn8 := HAK.out.2.2
      have HLK := Lib.hid (HLI.out k hlt')
      have HRK := Lib.hid (fun (w2 : World) (rv2 : Value) (hs : Stp n₀ bb mb rv I gs 0 w1 w2 rv2 gs) => show WRow w2.heap.size w2 L[k].A L[k].l from by
        obtain ⟨cs, _, _, h3⟩ := HW.out.stp HT.out hs
        exact h3 k hlt')
      obtain ⟨t, HTT⟩ : ∃ t, Hid (L[k] = t) := ⟨_, Lib.hid rfl⟩
      rw [HTT.out] at c0 hlk HLK HRK
      have ht8 : t.l.length ≤ 8 := by omega
      clear hlk hn8
      go_wp2_with (fail)
      clear c0
      go_loopw [25] (fun jv wr => ∃ (j : Nat) (rv1 : Value), j ≤ t.l.length ∧ jv = .int .i64 (j : Int) ∧ Hid (Stp n₀ bb mb rv I gs 0 w1 wr rv1 gs)) (fun jv _ => t.l.length - (intOf jv).toNat)
      case atStart => exact ⟨0, rv1, Nat.zero_le _, rfl, hst⟩
      case round =>
        obtain ⟨j, rv1, hj, rfl, hst⟩ := hrel
        by_cases hjt : j < t.l.length
        · obtain ⟨b, off, hA, c0⟩ := (HRK.out _ _ hst.out).at hjt
          have HAN := Lib.hid (and1_any t.l[j] hst.out.tab (HLK.out.at hjt) HF.out)
          rw [hA]
          go_wp2_with (fail)
          refine HAN.out.mono ?_
          rintro e w2 ⟨z, rv2, rfl, hs2⟩
          have HS2 := Lib.hid (hst.out.trans hs2 HT.out)
          clear hs2 HAN c0
          go_wp2_with (fail)
          exact ⟨⟨j + 1, rv2, by omega, by go_num, HS2⟩, by simp [intOf]; omega⟩
        · obtain rfl : j = t.l.length := by omega
          go_wp2_with (fail)
          exact ⟨⟨k + 1, rv1, by omega, by go_num, hst⟩, by simp [intOf]; omega⟩
    · obtain rfl : k = L.length := by omega
      have HBC := Lib.hid (HB.out _ _ hst.out)
      go_wp2_with (fail)
      refine HBC.out.mono ?_
      rintro e w2 ⟨QA, qc, RA, rc, q, r, rv2, gs2, rfl, hs, h1, h2, h3, h4, h5, h6, h7⟩
      have HP2 := Lib.hid ((HP6.out.stp HT.out hst.out).stp hst.out.tab hs)
      have HS2 := Lib.hid ((hst.out.trans hs HT.out).mono (m := N) (by omega))
      have hb3 := (Below.refl w2.heap.size w2).alloc (Nat.le_refl _) (.cells #[.slice QA m qc, .slice RA m rc] 89)
      have HS3 := Lib.hid (HS2.out.later hb3 HT.out)
      have HP3 := Lib.hid (HP2.out.later hb3)
      have HQ3 := Lib.hid (h1.later hb3)
      have HR3 := Lib.hid (h2.later hb3)
      have HX3 := Lib.hid (show PBox (w2.alloc (.cells #[.slice QA m qc, .slice RA m rc] 89)) w2.heap.size (.slice QA m qc) (.slice RA m rc) from heap_alloc_new w2 _)
      have HER := Lib.hid (berr_any HS3.out.tab)
      have H3 := Lib.hid h3
      have H4 := Lib.hid h4
      have H5 := Lib.hid h5
      have H6 := Lib.hid h6
      have H7 := Lib.hid h7
      clear hs h1 h2 h3 h4 h5 h6 h7 hb3 HBC
      go_upto_region 14 with fail
      generalize hgw : w2.alloc (.cells #[.slice QA m qc, .slice RA m rc] 89) = w3 at *
      clear hgw
      go_wp2_with (fail)
      refine HER.out.mono ?_
      rintro e wx ⟨rfl, hwx⟩
      obtain rfl := hwx.symm
      obtain ⟨c0, c1⟩ := HP3.out.cells
      have f0 := HP3.out.frz 0
      have f1 := HP3.out.frz 1
      obtain ⟨d0, d1⟩ := HX3.out.cells
      have HFP := Lib.hid (HP3.out.put (.slice QA m qc) (.slice RA m rc))
      have HFS := Lib.hid ((HS3.out.ahead HBW.out).pbox HP3.out (Nat.le_refl _) (.slice QA m qc) (.slice RA m rc))
      have HFQ := Lib.hid (HQ3.out.pbox HP3.out (.slice QA m qc) (.slice RA m rc)).here
      have HFR := Lib.hid (HR3.out.pbox HP3.out (.slice QA m qc) (.slice RA m rc)).here
      go_wp2_with (fail)
      obtain ⟨v0, v1⟩ := HFP.out.cells
      exact bodyPost_ret (v := .agg #[.slice QA m qc, .slice RA m rc]) (by simp [results, Try.results70, go_sem, v0, v1]) rfl ⟨QA, qc, RA, rc, q, r, rv2, gs2, rfl, HFS.out, HFQ.out, HFR.out, H3.out, H4.out, H5.out, H6.out, H7.out⟩
/-- the quotient and the remainder of integers -/
def DvdH (x y q r : List Int) (v : Int → Bool) (d : Int → Prop) : Prop := QuoH x y q v d ∧ RemH x y r v d
set_option maxRecDepth 100000 in
set_option maxHeartbeats 4000000 in
theorem clo_Divide (pb px py : Nat) (A : Option Addr) (cx : Nat) (x : List Int) (B : Option Addr) (cy : Nat) (y : List Int) (ht : Bld w1 n₀ bb mb rv1 I gs 0) (hbb : Bx w1 pb 24 (.pointer (some ⟨bb, 0, none⟩))) (hbx : Bx w1 px 47 (.slice A x.length cx)) (hby : Bx w1 py 47 (.slice B y.length cy)) (hX : WRow w1.heap.size w1 A x) (hY : WRow w1.heap.size w1 B y) (lx : Lts I gs x) (ly : Lts I gs y) (h0 : 0 < x.length) (h8 : x.length ≤ 8) (hxy : y.length = x.length) (hf : gs.length + (64 * x.length + 3 + 2 * ((10 * x.length + 8) * x.length)) ≤ 5000) :
    Calls Try.prog 71 #[.pointer (some ⟨pb, 0, none⟩), .pointer (some ⟨px, 0, none⟩), .pointer (some ⟨py, 0, none⟩)] w1 (TwoG n₀ bb mb rv1 I gs (64 * x.length + 3 + 2 * ((10 * x.length + 8) * x.length)) w1 x.length (DvdH x y)) := by
  have hba := (Below.refl w1.heap.size w1).alloc (Nat.le_refl _) (.cells #[.slice none 0 0, .slice none 0 0] 89)
  have hbd := (Below.refl (w1.alloc (.cells #[.slice none 0 0, .slice none 0 0] 89)).heap.size (w1.alloc (.cells #[.slice none 0 0, .slice none 0 0] 89))).drew
  have hbw := hba.trans (hbd.mono hba.size)
  have HBW := Lib.hid hbw
  have HP := Lib.hid (show PBox _ w1.heap.size (.slice none 0 0) (.slice none 0 0) from PBox.later (heap_alloc_new w1 (.cells #[.slice none 0 0, .slice none 0 0] 89)) hbd)
  have HT := Lib.hid (ht.later hbw)
  have HBb := Lib.hid (hbb.later hbw)
  have HBx := Lib.hid (hbx.later hbw)
  have HBy := Lib.hid (hby.later hbw)
  have HX := Lib.hid ((hX.later hbw).here)
  have HY := Lib.hid ((hY.later hbw).here)
  have LX := Lib.hid lx
  have LY := Lib.hid ly
  have H0 := Lib.hid h0
  have H8 := Lib.hid h8
  have HXY := Lib.hid hxy
  have HF := Lib.hid hf
  clear ht hbb hbx hby hX hY lx ly h0 h8 hxy hf hba hbd hbw
  go_enter Try.func71, Try.ntmps71
  go_upto_region 1 with fail
  rename_i K hKK
  generalize hgw : w1.alloc (.cells #[.slice none 0 0, .slice none 0 0] 89) = w2 at *
  clear hgw
  obtain ⟨tb, HTB⟩ : ∃ tb, Hid (w1.heap.size = tb) := ⟨_, Lib.hid rfl⟩
  rw [HTB.out] at HP ⊢
  have HCS := Lib.hid (fun (W : World) (n : Nat) (rv' : Value) (gs' : List Gt) (hs : Stp n₀ bb mb rv1 I gs n w2.drew W rv' gs') => And.intro (HBb.out.stp (by decide) (by decide) HT.out hs).cell (And.intro (HBx.out.stp (by decide) (by decide) HT.out hs).cell (HBy.out.stp (by decide) (by decide) HT.out hs).cell))
  have HS0 := Lib.hid (Stp.refl HT.out)
  have HQU := Lib.hid (quotient_any A cx x B cy y HT.out HX.out HY.out LX.out LY.out H0.out (by have := H8.out; omega) HXY.out (by have := HF.out; omega))
  refine wp_region_noPanic ?_
  refine wp_region_held_drew (S := fun w' => w'.cell? ⟨pb, 0, none⟩ = some (.pointer (some ⟨bb, 0, none⟩)) ∧ w'.cell? ⟨px, 0, none⟩ = some (.slice A x.length cx) ∧ w'.cell? ⟨py, 0, none⟩ = some (.slice B y.length cy)) (by kernel_rfl) (HCS.out _ _ _ _ HS0.out) (fun _ => ?_)
  generalize w2.drew = w3 at *
  refine wpAnyH_take (i := 0) (oi := { dst := some 4, op := Op.load 24 (Operand.tmp 0), type := 24, pos := "words.go:30", after := #[], guard := none }) (v := .pointer (some ⟨bb, 0, none⟩)) rfl (by kernel_rfl) (by kernel_rfl) (by kernel_rfl) (fun _ _ _ h => h) (Or.inl ⟨by rfl, ?_⟩) (HCS.out _ _ _ _ HS0.out) ?_
  · (intro w' hSw; obtain ⟨z0, z1, z2⟩ := hSw; go_simp)
  simp only [Act.put, List.setIfInBounds_toArray, List.set_cons_zero, List.set_cons_succ]
  refine wpAnyH_take (i := 1) (oi := { dst := some 5, op := Op.load 47 (Operand.tmp 1), type := 47, pos := "words.go:30", after := #[], guard := none }) (v := .slice A x.length cx) rfl (by kernel_rfl) (by kernel_rfl) (by kernel_rfl) (fun _ _ _ h => h) (Or.inl ⟨by rfl, ?_⟩) (HCS.out _ _ _ _ HS0.out) ?_
  · (intro w' hSw; obtain ⟨z0, z1, z2⟩ := hSw; go_simp)
  simp only [Act.put, List.setIfInBounds_toArray, List.set_cons_zero, List.set_cons_succ]
  refine wpAnyH_take (i := 2) (oi := { dst := some 6, op := Op.load 47 (Operand.tmp 2), type := 47, pos := "words.go:30", after := #[], guard := none }) (v := .slice B y.length cy) rfl (by kernel_rfl) (by kernel_rfl) (by kernel_rfl) (fun _ _ _ h => h) (Or.inl ⟨by rfl, ?_⟩) (HCS.out _ _ _ _ HS0.out) ?_
  · (intro w' hSw; obtain ⟨z0, z1, z2⟩ := hSw; go_simp)
  simp only [Act.put, List.setIfInBounds_toArray, List.set_cons_zero, List.set_cons_succ]
  refine wpAnyH_take (i := 4) (oi := { dst := some 8, op := Op.load 24 (Operand.tmp 0), type := 24, pos := "words.go:30", after := #[], guard := none }) (v := .pointer (some ⟨bb, 0, none⟩)) rfl (by kernel_rfl) (by kernel_rfl) (by kernel_rfl) (fun _ _ _ h => h) (Or.inl ⟨by rfl, ?_⟩) (HCS.out _ _ _ _ HS0.out) ?_
  · (intro w' hSw; obtain ⟨z0, z1, z2⟩ := hSw; go_simp)
  simp only [Act.put, List.setIfInBounds_toArray, List.set_cons_zero, List.set_cons_succ]
  refine wpAnyH_take (i := 5) (oi := { dst := some 9, op := Op.load 47 (Operand.tmp 1), type := 47, pos := "words.go:30", after := #[], guard := none }) (v := .slice A x.length cx) rfl (by kernel_rfl) (by kernel_rfl) (by kernel_rfl) (fun _ _ _ h => h) (Or.inl ⟨by rfl, ?_⟩) (HCS.out _ _ _ _ HS0.out) ?_
  · (intro w' hSw; obtain ⟨z0, z1, z2⟩ := hSw; go_simp)
  simp only [Act.put, List.setIfInBounds_toArray, List.set_cons_zero, List.set_cons_succ]
  refine wpAnyH_take (i := 6) (oi := { dst := some 10, op := Op.load 47 (Operand.tmp 2), type := 47, pos := "words.go:30", after := #[], guard := none }) (v := .slice B y.length cy) rfl (by kernel_rfl) (by kernel_rfl) (by kernel_rfl) (fun _ _ _ h => h) (Or.inl ⟨by rfl, ?_⟩) (HCS.out _ _ _ _ HS0.out) ?_
  · (intro w' hSw; obtain ⟨z0, z1, z2⟩ := hSw; go_simp)
  simp only [Act.put, List.setIfInBounds_toArray, List.set_cons_zero, List.set_cons_succ]
  refine wpAnyH_ready (rs := [3]) (by kernel_rfl) (by simp) (AllReadyH.cons (o := { dst := some 7, op := Op.call { callee := Callee.value (Operand.func 72), args := #[Operand.tmp 4, Operand.tmp 5, Operand.tmp 6], argTypes := #[24, 47, 47] }, type := 47, pos := "words.go:30", after := #[{ on := 0, ground := Ground.data }, { on := 1, ground := Ground.data }, { on := 2, ground := Ground.data }], guard := none }) rfl (fun K hK => ?_) AllReadyH.nil)
  go_simp
  go_at_call 72
  refine HQU.out.mono ?_
  rintro e w4 ⟨QA, qc, q, rv4, gs4, rfl, hac4, hl4, hh4⟩
  have HS4 := Lib.hid hac4.st
  have HQ4 := Lib.hid hac4.own.wrow.2.2
  have HLQ := Lib.hid hac4.lts
  have HQL := Lib.hid hl4
  have HH4 := Lib.hid hh4
  have HRE := Lib.hid (remainder_any A cx x B cy y hac4.st.tab (HX.out.stp HT.out hac4.st).here (HY.out.stp HT.out hac4.st).here (LX.out.more hac4.st.grow) (LY.out.more hac4.st.grow) H0.out (by have := H8.out; omega) HXY.out (by have := hac4.st.len; have := HF.out; omega))
  clear hac4 hl4 hh4 HQU
  refine hK.out _ _ (HCS.out _ _ _ _ HS4.out) (fun _ => ?_)
  clear hK K
  try simp only [Act.put, List.setIfInBounds_toArray, List.set_cons_zero, List.set_cons_succ]
  refine wpAnyH_ready (rs := [7]) (by kernel_rfl) (by simp) (AllReadyH.cons (o := { dst := some 11, op := Op.call { callee := Callee.value (Operand.func 73), args := #[Operand.tmp 8, Operand.tmp 9, Operand.tmp 10], argTypes := #[24, 47, 47] }, type := 47, pos := "words.go:30", after := #[{ on := 4, ground := Ground.data }, { on := 5, ground := Ground.data }, { on := 6, ground := Ground.data }, { on := 3, ground := Ground.chain }], guard := none }) rfl (fun K hK => ?_) AllReadyH.nil)
  go_simp
  go_at_call 73
  refine HRE.out.mono ?_
  rintro e w5 ⟨RA, rc, r, rv5, gs5, rfl, hac5, hl5, hh5⟩
  have HS5 := Lib.hid ((HS4.out.trans hac5.st HT.out).mono (m := 64 * x.length + 3 + 2 * ((10 * x.length + 8) * x.length)) (by omega))
  have HR5 := Lib.hid hac5.own.wrow.2.2
  have HQ5 := Lib.hid (HQ4.out.stp HS4.out.tab hac5.st)
  have HLR := Lib.hid hac5.lts
  have HLQ5 := Lib.hid (HLQ.out.more hac5.st.grow)
  have HRL := Lib.hid hl5
  have HH5 : Hid (Hol I gs5 (DvdH x y q r)) := Lib.hid ((HH4.out.more hac5.st.pre).mp2 hh5 fun v d _ a b => ⟨a, b⟩)
  have HP5 := Lib.hid ((HP.out.stp HT.out HS4.out).stp HS4.out.tab hac5.st)
  obtain ⟨c0, c1⟩ := HP5.out.cells
  have f0 := HP5.out.frz 0
  have f1 := HP5.out.frz 1
  have HFP := Lib.hid (HP5.out.put (.slice QA x.length qc) (.slice RA x.length rc))
  have HFS := Lib.hid ((HS5.out.ahead HBW.out).pbox HP5.out (Nat.le_of_eq HTB.out) (.slice QA x.length qc) (.slice RA x.length rc))
  have HFQ := Lib.hid (HQ5.out.pbox HP5.out (.slice QA x.length qc) (.slice RA x.length rc)).here
  have HFR := Lib.hid (HR5.out.pbox HP5.out (.slice QA x.length qc) (.slice RA x.length rc)).here
  have HC5 := Lib.hid (HCS.out _ _ _ _ HS5.out)
  have HCF := Lib.hid (And.intro ((HBb.out.stp (by decide) (by decide) HT.out HS5.out).pput HP5.out (by decide) (.slice QA x.length qc) (.slice RA x.length rc)).cell (And.intro ((HBx.out.stp (by decide) (by decide) HT.out HS5.out).pput HP5.out (by decide) (.slice QA x.length qc) (.slice RA x.length rc)).cell ((HBy.out.stp (by decide) (by decide) HT.out HS5.out).pput HP5.out (by decide) (.slice QA x.length qc) (.slice RA x.length rc)).cell))
  clear hac5 hl5 hh5 HRE HH4 HS4 HQ4
  refine hK.out _ _ HC5.out (fun _ => ?_)
  clear hK K
  try simp only [Act.put, List.setIfInBounds_toArray, List.set_cons_zero, List.set_cons_succ]
  refine wpAnyH_take (i := 8) (oi := { dst := some 12, op := Op.build 89 #[(0, Operand.tmp 7), (1, Operand.tmp 11)], type := 89, pos := "words.go:30", after := #[{ on := 3, ground := Ground.data }, { on := 7, ground := Ground.data }], guard := none }) (v := .agg #[.slice QA x.length qc, .slice RA x.length rc]) rfl (by kernel_rfl) (by kernel_rfl) (by kernel_rfl) (fun _ _ _ h => h) (Or.inl ⟨by rfl, ?_⟩) HC5.out ?_
  · (intro w' hSw; go_simp)
  simp only [Act.put, List.setIfInBounds_toArray, List.set_cons_zero, List.set_cons_succ]
  refine wpAnyH_ready (rs := [9]) (by kernel_rfl) (by simp) (AllReadyH.cons (o := { dst := none, op := Op.store 89 (Operand.tmp 3) (Operand.tmp 12), type := 0, pos := "words.go:30", after := #[{ on := 8, ground := Ground.data }, { on := 7, ground := Ground.chain }, { on := 0, ground := Ground.phase }, { on := 1, ground := Ground.phase }, { on := 2, ground := Ground.phase }, { on := 3, ground := Ground.phase }, { on := 4, ground := Ground.phase }, { on := 5, ground := Ground.phase }, { on := 6, ground := Ground.phase }, { on := 7, ground := Ground.phase }, { on := 8, ground := Ground.phase }], guard := none }) rfl (fun K hK => ?_) AllReadyH.nil)
  go_simp
  clear c0 c1 f0 f1
  refine hK.out _ _ HCF.out (fun _ => ?_)
  clear hK K
  try simp only [Act.put, List.setIfInBounds_toArray, List.set_cons_zero, List.set_cons_succ]
  refine wpAnyH_done (by kernel_rfl) ?_ _
  refine NoPanic.normal ?_
  obtain ⟨v0, v1⟩ := HFP.out.cells
  generalize (w5.setCell ⟨tb, 0, none⟩ (.slice QA x.length qc)).setCell ⟨tb, 1, none⟩ (.slice RA x.length rc) = w6 at *
  go_wp2_with (fail)
  exact bodyPost_ret (v := .agg #[.slice QA x.length qc, .slice RA x.length rc]) (by simp [results, Try.results71, go_sem, v0, v1]) rfl ⟨QA, qc, RA, rc, q, r, rv5, gs5, rfl, HFS.out, HFQ.out, HFR.out, HQL.out, HRL.out, HLQ5.out, HLR.out, HH5.out⟩
theorem clo_Divide_eK : ∀ args w, (callFunc 71 args).run Try.prog w = .ok (.enter 71 args) w := enters_of Try.func71 (by kernel_rfl) rfl
set_option maxRecDepth 100000 in
set_option maxHeartbeats 4000000 in
theorem Divide_yes (A : Option Addr) (cx : Nat) (x : List Int) (B : Option Addr) (cy : Nat) (y : List Int) (h : Bld w n₀ bb mb rv I gs 0) (hX : WRow w.heap.size w A x) (hY : WRow w.heap.size w B y) (lx : Lts I gs x) (ly : Lts I gs y) (h0 : 0 < x.length) (h8 : x.length ≤ 8) (hxy : y.length = x.length)  (hf : gs.length + (64 * x.length + 3 + 2 * ((10 * x.length + 8) * x.length)) + 1 ≤ 5000) :
    Calls Try.prog 35 #[.pointer (some ⟨bb, 0, none⟩), .slice A x.length cx, .slice B y.length cy] w (fun e w' => ∃ QA qc RA rc q r rv' gs', e = .returned (.tuple #[.slice QA x.length qc, .slice RA x.length rc]) ∧ Stp n₀ bb mb rv I gs (64 * x.length + 3 + 2 * ((10 * x.length + 8) * x.length)) w w' rv' gs' ∧ WRow w'.heap.size w' QA q ∧ WRow w'.heap.size w' RA r ∧ q.length = x.length ∧ r.length = x.length ∧ Lts I gs' q ∧ Lts I gs' r ∧ Hol I gs' (DvdH x y q r)) := by
  have hb1 : Below w.heap.size w (((w.alloc (.cells #[.pointer (some ⟨bb, 0, none⟩)] 24)).alloc (.cells #[.slice A x.length cx] 47)).alloc (.cells #[.slice B y.length cy] 47)) := ((((Below.refl w.heap.size w).alloc (by simp; try omega) (.cells #[.pointer (some ⟨bb, 0, none⟩)] 24)).alloc (by simp; try omega) (.cells #[.slice A x.length cx] 47)).alloc (by simp; try omega) (.cells #[.slice B y.length cy] 47))
  have hbxb : Bx (w.alloc (.cells #[.pointer (some ⟨bb, 0, none⟩)] 24)) (w.heap.size + 0) 24 (.pointer (some ⟨bb, 0, none⟩)) := by
    have := heap_alloc_new w (.cells #[.pointer (some ⟨bb, 0, none⟩)] 24)
    rw [show w.heap.size = w.heap.size + 0 by simp] at this
    exact this
  have hbxb := hbxb.later ((Below.refl (w.alloc (.cells #[.pointer (some ⟨bb, 0, none⟩)] 24)).heap.size (w.alloc (.cells #[.pointer (some ⟨bb, 0, none⟩)] 24))).alloc (Nat.le_refl _) (.cells #[.slice A x.length cx] 47))
  have hbxb := hbxb.later ((Below.refl ((w.alloc (.cells #[.pointer (some ⟨bb, 0, none⟩)] 24)).alloc (.cells #[.slice A x.length cx] 47)).heap.size ((w.alloc (.cells #[.pointer (some ⟨bb, 0, none⟩)] 24)).alloc (.cells #[.slice A x.length cx] 47))).alloc (Nat.le_refl _) (.cells #[.slice B y.length cy] 47))
  have hbxx : Bx ((w.alloc (.cells #[.pointer (some ⟨bb, 0, none⟩)] 24)).alloc (.cells #[.slice A x.length cx] 47)) (w.heap.size + 1) 47 (.slice A x.length cx) := by
    have := heap_alloc_new (w.alloc (.cells #[.pointer (some ⟨bb, 0, none⟩)] 24)) (.cells #[.slice A x.length cx] 47)
    rw [show (w.alloc (.cells #[.pointer (some ⟨bb, 0, none⟩)] 24)).heap.size = w.heap.size + 1 by simp] at this
    exact this
  have hbxx := hbxx.later ((Below.refl ((w.alloc (.cells #[.pointer (some ⟨bb, 0, none⟩)] 24)).alloc (.cells #[.slice A x.length cx] 47)).heap.size ((w.alloc (.cells #[.pointer (some ⟨bb, 0, none⟩)] 24)).alloc (.cells #[.slice A x.length cx] 47))).alloc (Nat.le_refl _) (.cells #[.slice B y.length cy] 47))
  have hbxy : Bx (((w.alloc (.cells #[.pointer (some ⟨bb, 0, none⟩)] 24)).alloc (.cells #[.slice A x.length cx] 47)).alloc (.cells #[.slice B y.length cy] 47)) (w.heap.size + 2) 47 (.slice B y.length cy) := by
    have := heap_alloc_new ((w.alloc (.cells #[.pointer (some ⟨bb, 0, none⟩)] 24)).alloc (.cells #[.slice A x.length cx] 47)) (.cells #[.slice B y.length cy] 47)
    rw [show ((w.alloc (.cells #[.pointer (some ⟨bb, 0, none⟩)] 24)).alloc (.cells #[.slice A x.length cx] 47)).heap.size = w.heap.size + 2 by simp] at this
    exact this
  have HB1 := Lib.hid hb1
  have HT1 := Lib.hid (h.later hb1)
  have HX1 := Lib.hid ((hX.later hb1).here)
  have HY1 := Lib.hid ((hY.later hb1).here)
  have HXb := Lib.hid hbxb
  have HXx := Lib.hid hbxx
  have HXy := Lib.hid hbxy
  have LX := Lib.hid lx
  have LY := Lib.hid ly
  have H_h0 := Lib.hid h0
  have H_h8 := Lib.hid h8
  have H_hxy := Lib.hid hxy
  have H_hf := Lib.hid hf
  clear h hX hY lx ly h0 h8 hxy hf hb1 hbxb hbxx hbxy
  go_enter Try.func35, Try.ntmps35
  go_upto_region 1 with fail
  generalize hgw : (((w.alloc (.cells #[.pointer (some ⟨bb, 0, none⟩)] 24)).alloc (.cells #[.slice A x.length cx] 47)).alloc (.cells #[.slice B y.length cy] 47)) = w1 at *
  clear hgw
  obtain ⟨pb, HPb⟩ : ∃ p, Hid (w.heap.size + 0 = p) := ⟨_, Lib.hid rfl⟩
  obtain ⟨px, HPx⟩ : ∃ p, Hid (w.heap.size + 1 = p) := ⟨_, Lib.hid rfl⟩
  obtain ⟨py, HPy⟩ : ∃ p, Hid (w.heap.size + 2 = p) := ⟨_, Lib.hid rfl⟩
  have HP0 := Lib.hid (show w.heap.size = pb from HPb.out)
  rw [HPb.out] at HXb
  rw [HPx.out] at HXx
  rw [HPy.out] at HXy
  rw [HP0.out, show pb + 1 = px from by rw [← HPx.out, ← HPb.out], show px + 1 = py from by rw [← HPy.out, ← HPx.out]]
  have eb := HXb.out.cell
  have ex := HXx.out.cell
  have ey := HXy.out.cell
  have hba := (Below.refl w1.heap.size w1).alloc (Nat.le_refl _) (.cells #[.slice A x.length cx, .slice B y.length cy] 47)
  have HBA := Lib.hid (HB1.out.trans (hba.mono HB1.out.size))
  have HT2 := Lib.hid (HT1.out.later hba)
  have hws : WdS (w1.alloc (.cells #[.slice A x.length cx, .slice B y.length cy] 47)) w1.heap.size [⟨A, cx, x⟩, ⟨B, cy, y⟩] := ⟨_, heap_alloc_new w1 _, fun k hk => by
    have : k = 0 ∨ k = 1 := by simp at hk; omega
    rcases this with rfl | rfl <;> rfl, fun k hk => by
    have : k = 0 ∨ k = 1 := by simp at hk; omega
    rcases this with rfl | rfl
    · exact (HX1.out.later hba).here
    · exact (HY1.out.later hba).here⟩
  have HC := Lib.hid (madeT_yes (w := w1.alloc (.cells #[.slice A x.length cx, .slice B y.length cy] 47)) w1.heap.size [⟨A, cx, x⟩, ⟨B, cy, y⟩] ⟨A, cx, x⟩ 71 #[.pointer (some ⟨pb, 0, none⟩), .pointer (some ⟨px, 0, none⟩), .pointer (some ⟨py, 0, none⟩)] (64 * x.length + 3 + 2 * ((10 * x.length + 8) * x.length)) x.length (DvdH x y) clo_Divide_eK HT2.out (by simp) rfl ⟨fun k hk => by
    have : k = 0 ∨ k = 1 := by simp at hk; omega
    rcases this with rfl | rfl
    · rfl
    · exact H_hxy.out, H_h0.out, H_h8.out⟩ (by simp) (fun k hk => by
    have : k = 0 ∨ k = 1 := by simp at hk; omega
    rcases this with rfl | rfl
    · exact LX.out
    · exact LY.out) hws (by have := H_hf.out; omega) (fun w3 rv3 hh => by
    obtain ⟨wm, hbm, hs⟩ := hh
    exact clo_Divide pb px py A cx x B cy y hs.tab (((HXb.out.later hba).later hbm).stp (by decide) (by decide) (HT2.out.later hbm) hs) (((HXx.out.later hba).later hbm).stp (by decide) (by decide) (HT2.out.later hbm) hs) (((HXy.out.later hba).later hbm).stp (by decide) (by decide) (HT2.out.later hbm) hs) ((((HX1.out.later hba).later hbm).stp (HT2.out.later hbm) hs).here) ((((HY1.out.later hba).later hbm).stp (HT2.out.later hbm) hs).here) LX.out LY.out H_h0.out H_h8.out H_hxy.out (by have := H_hf.out; omega)))
  clear hws hba
  go_wp2_with (fail)
  refine HC.out.mono ?_
  rintro e w2 ⟨QA, qc, RA, rc, q, r, rv2, gs2, rfl, hs, h1, h2, h3, h4, h5, h6, h7⟩
  have hb3 := (Below.refl w2.heap.size w2).alloc (Nat.le_refl _) (.cells #[.slice QA x.length qc, .slice RA x.length rc] 89)
  have hbd := (Below.refl (w2.alloc (.cells #[.slice QA x.length qc, .slice RA x.length rc] 89)).heap.size (w2.alloc (.cells #[.slice QA x.length qc, .slice RA x.length rc] 89))).drew
  have hb4 := hb3.trans (hbd.mono hb3.size)
  have HS := Lib.hid ((hs.later hb4 HT2.out).ahead HBA.out)
  have H1 := Lib.hid ((h1.later hb4).here)
  have H2 := Lib.hid ((h2.later hb4).here)
  have H3 := Lib.hid h3
  have H4 := Lib.hid h4
  have H5 := Lib.hid h5
  have H6 := Lib.hid h6
  have H7 := Lib.hid h7
  have HPX := Lib.hid (show PBox _ w2.heap.size (.slice QA x.length qc) (.slice RA x.length rc) from PBox.later (heap_alloc_new w2 (.cells #[.slice QA x.length qc, .slice RA x.length rc] 89)) hbd)
  clear hs h1 h2 h3 h4 h5 h6 h7 hb3 hbd hb4 HC
  go_upto_region 2 with fail
  rename_i K hKK
  generalize hgw : w2.alloc (.cells #[.slice QA x.length qc, .slice RA x.length rc] 89) = w3 at *
  clear hgw
  obtain ⟨tb, HTB⟩ : ∃ tb, Hid (w2.heap.size = tb) := ⟨_, Lib.hid rfl⟩
  rw [HTB.out] at HPX ⊢
  refine wp_region_noPanic ?_
  refine wp_region_held_drew (S := fun w' => w'.cell? ⟨tb, 0, none⟩ = some (.slice QA x.length qc) ∧ w'.cell? ⟨tb, 1, none⟩ = some (.slice RA x.length rc)) (by kernel_rfl) HPX.out.cells (fun _ => ?_)
  generalize w3.drew = w4 at *
  refine wpAnyH_take (i := 0) (oi := { dst := some 15, op := Op.indexAddr 89 (Operand.tmp 8) (Operand.const (Value.int IntKind.i64 0)), type := 0, pos := "words.go:31", after := #[], guard := none }) (v := .pointer (some ⟨tb, 0, none⟩)) rfl (by kernel_rfl) (by kernel_rfl) (by kernel_rfl) (fun _ _ _ h => h) (Or.inl ⟨by rfl, ?_⟩) HPX.out.cells ?_
  · (intro w' hSw; go_simp)
  simp only [Act.put, List.setIfInBounds_toArray, List.set_cons_zero, List.set_cons_succ]
  refine wpAnyH_take (i := 1) (oi := { dst := some 16, op := Op.load 47 (Operand.tmp 15), type := 47, pos := "words.go:31", after := #[{ on := 0, ground := Ground.data }], guard := none }) (v := .slice QA x.length qc) rfl (by kernel_rfl) (by kernel_rfl) (by kernel_rfl) (fun _ _ _ h => h) (Or.inl ⟨by rfl, ?_⟩) HPX.out.cells ?_
  · (intro w' hSw; obtain ⟨z0, z1⟩ := hSw; go_simp)
  simp only [Act.put, List.setIfInBounds_toArray, List.set_cons_zero, List.set_cons_succ]
  refine wpAnyH_take (i := 2) (oi := { dst := some 17, op := Op.indexAddr 89 (Operand.tmp 8) (Operand.const (Value.int IntKind.i64 1)), type := 0, pos := "words.go:31", after := #[{ on := 4, ground := Ground.gcOnly Departure.lateStores }], guard := none }) (v := .pointer (some ⟨tb, 1, none⟩)) rfl (by kernel_rfl) (by kernel_rfl) (by kernel_rfl) (fun _ _ _ h => h) (Or.inl ⟨by rfl, ?_⟩) HPX.out.cells ?_
  · (intro w' hSw; go_simp)
  simp only [Act.put, List.setIfInBounds_toArray, List.set_cons_zero, List.set_cons_succ]
  refine wpAnyH_take (i := 3) (oi := { dst := some 18, op := Op.load 47 (Operand.tmp 17), type := 47, pos := "words.go:31", after := #[{ on := 2, ground := Ground.data }, { on := 4, ground := Ground.gcOnly Departure.lateStores }], guard := none }) (v := .slice RA x.length rc) rfl (by kernel_rfl) (by kernel_rfl) (by kernel_rfl) (fun _ _ _ h => h) (Or.inl ⟨by rfl, ?_⟩) HPX.out.cells ?_
  · (intro w' hSw; obtain ⟨z0, z1⟩ := hSw; go_simp)
  simp only [Act.put, List.setIfInBounds_toArray, List.set_cons_zero, List.set_cons_succ]
  refine wpAnyH_take (i := 4) (oi := { dst := some 6, op := Op.assign (Operand.tmp 16), type := 47, pos := "words.go:31", after := #[{ on := 1, ground := Ground.data }, { on := 0, ground := Ground.phase }, { on := 1, ground := Ground.phase }, { on := 2, ground := Ground.textOnly Departure.lateStores }, { on := 3, ground := Ground.textOnly Departure.lateStores }], guard := none }) (v := .slice QA x.length qc) rfl (by kernel_rfl) (by kernel_rfl) (by kernel_rfl) (fun _ _ _ h => h) (Or.inl ⟨by rfl, ?_⟩) HPX.out.cells ?_
  · (intro w' hSw; go_simp)
  simp only [Act.put, List.setIfInBounds_toArray, List.set_cons_zero, List.set_cons_succ]
  refine wpAnyH_take (i := 5) (oi := { dst := some 7, op := Op.assign (Operand.tmp 18), type := 47, pos := "words.go:31", after := #[{ on := 3, ground := Ground.data }, { on := 4, ground := Ground.chain }, { on := 0, ground := Ground.phase }, { on := 1, ground := Ground.phase }, { on := 2, ground := Ground.phase }, { on := 3, ground := Ground.phase }, { on := 4, ground := Ground.phase }], guard := none }) (v := .slice RA x.length rc) rfl (by kernel_rfl) (by kernel_rfl) (by kernel_rfl) (fun _ _ _ h => h) (Or.inl ⟨by rfl, ?_⟩) HPX.out.cells ?_
  · (intro w' hSw; go_simp)
  simp only [Act.put, List.setIfInBounds_toArray, List.set_cons_zero, List.set_cons_succ]
  refine wpAnyH_done (by kernel_rfl) ?_ _
  refine NoPanic.normal ?_
  go_wp2_with (fail)
  go_ret2
  exact ⟨QA, qc, RA, rc, q, r, rv2, gs2, rfl, HS.out, H1.out, H2.out, H3.out, H4.out, H5.out, H6.out, H7.out⟩
set_option maxRecDepth 100000 in
set_option maxHeartbeats 4000000 in
theorem Divide_no (A : Option Addr) (cx : Nat) (x : List Int) (B : Option Addr) (cy : Nat) (y : List Int) (h : Bld w n₀ bb mb rv I gs 0) (hX : WRow w.heap.size w A x) (hY : WRow w.heap.size w B y) (lx : Lts I gs x) (ly : Lts I gs y) (hno : ¬ (y.length = x.length ∧ 0 < x.length ∧ x.length ≤ 8)) (hlx : x.length ≤ 1000000) (hly : y.length ≤ 1000000) :
    Calls Try.prog 35 #[.pointer (some ⟨bb, 0, none⟩), .slice A x.length cx, .slice B y.length cy] w fun e w' => e = .returned (.tuple #[.slice none 0 0, .slice none 0 0]) ∧ Below w.heap.size w w' := by
  have hb1 : Below w.heap.size w (((w.alloc (.cells #[.pointer (some ⟨bb, 0, none⟩)] 24)).alloc (.cells #[.slice A x.length cx] 47)).alloc (.cells #[.slice B y.length cy] 47)) := ((((Below.refl w.heap.size w).alloc (by simp; try omega) (.cells #[.pointer (some ⟨bb, 0, none⟩)] 24)).alloc (by simp; try omega) (.cells #[.slice A x.length cx] 47)).alloc (by simp; try omega) (.cells #[.slice B y.length cy] 47))
  have hbxb : Bx (w.alloc (.cells #[.pointer (some ⟨bb, 0, none⟩)] 24)) (w.heap.size + 0) 24 (.pointer (some ⟨bb, 0, none⟩)) := by
    have := heap_alloc_new w (.cells #[.pointer (some ⟨bb, 0, none⟩)] 24)
    rw [show w.heap.size = w.heap.size + 0 by simp] at this
    exact this
  have hbxb := hbxb.later ((Below.refl (w.alloc (.cells #[.pointer (some ⟨bb, 0, none⟩)] 24)).heap.size (w.alloc (.cells #[.pointer (some ⟨bb, 0, none⟩)] 24))).alloc (Nat.le_refl _) (.cells #[.slice A x.length cx] 47))
  have hbxb := hbxb.later ((Below.refl ((w.alloc (.cells #[.pointer (some ⟨bb, 0, none⟩)] 24)).alloc (.cells #[.slice A x.length cx] 47)).heap.size ((w.alloc (.cells #[.pointer (some ⟨bb, 0, none⟩)] 24)).alloc (.cells #[.slice A x.length cx] 47))).alloc (Nat.le_refl _) (.cells #[.slice B y.length cy] 47))
  have hbxx : Bx ((w.alloc (.cells #[.pointer (some ⟨bb, 0, none⟩)] 24)).alloc (.cells #[.slice A x.length cx] 47)) (w.heap.size + 1) 47 (.slice A x.length cx) := by
    have := heap_alloc_new (w.alloc (.cells #[.pointer (some ⟨bb, 0, none⟩)] 24)) (.cells #[.slice A x.length cx] 47)
    rw [show (w.alloc (.cells #[.pointer (some ⟨bb, 0, none⟩)] 24)).heap.size = w.heap.size + 1 by simp] at this
    exact this
  have hbxx := hbxx.later ((Below.refl ((w.alloc (.cells #[.pointer (some ⟨bb, 0, none⟩)] 24)).alloc (.cells #[.slice A x.length cx] 47)).heap.size ((w.alloc (.cells #[.pointer (some ⟨bb, 0, none⟩)] 24)).alloc (.cells #[.slice A x.length cx] 47))).alloc (Nat.le_refl _) (.cells #[.slice B y.length cy] 47))
  have hbxy : Bx (((w.alloc (.cells #[.pointer (some ⟨bb, 0, none⟩)] 24)).alloc (.cells #[.slice A x.length cx] 47)).alloc (.cells #[.slice B y.length cy] 47)) (w.heap.size + 2) 47 (.slice B y.length cy) := by
    have := heap_alloc_new ((w.alloc (.cells #[.pointer (some ⟨bb, 0, none⟩)] 24)).alloc (.cells #[.slice A x.length cx] 47)) (.cells #[.slice B y.length cy] 47)
    rw [show ((w.alloc (.cells #[.pointer (some ⟨bb, 0, none⟩)] 24)).alloc (.cells #[.slice A x.length cx] 47)).heap.size = w.heap.size + 2 by simp] at this
    exact this
  have HB1 := Lib.hid hb1
  have HT1 := Lib.hid (h.later hb1)
  have HX1 := Lib.hid ((hX.later hb1).here)
  have HY1 := Lib.hid ((hY.later hb1).here)
  have HXb := Lib.hid hbxb
  have HXx := Lib.hid hbxx
  have HXy := Lib.hid hbxy
  have LX := Lib.hid lx
  have LY := Lib.hid ly
  have H_hno := Lib.hid hno
  have H_hlx := Lib.hid hlx
  have H_hly := Lib.hid hly
  clear h hX hY lx ly hno hlx hly hb1 hbxb hbxx hbxy
  go_enter Try.func35, Try.ntmps35
  go_upto_region 1 with fail
  generalize hgw : (((w.alloc (.cells #[.pointer (some ⟨bb, 0, none⟩)] 24)).alloc (.cells #[.slice A x.length cx] 47)).alloc (.cells #[.slice B y.length cy] 47)) = w1 at *
  clear hgw
  obtain ⟨pb, HPb⟩ : ∃ p, Hid (w.heap.size + 0 = p) := ⟨_, Lib.hid rfl⟩
  obtain ⟨px, HPx⟩ : ∃ p, Hid (w.heap.size + 1 = p) := ⟨_, Lib.hid rfl⟩
  obtain ⟨py, HPy⟩ : ∃ p, Hid (w.heap.size + 2 = p) := ⟨_, Lib.hid rfl⟩
  have HP0 := Lib.hid (show w.heap.size = pb from HPb.out)
  rw [HPb.out] at HXb
  rw [HPx.out] at HXx
  rw [HPy.out] at HXy
  rw [HP0.out, show pb + 1 = px from by rw [← HPx.out, ← HPb.out], show px + 1 = py from by rw [← HPy.out, ← HPx.out]]
  have eb := HXb.out.cell
  have ex := HXx.out.cell
  have ey := HXy.out.cell
  have hba := (Below.refl w1.heap.size w1).alloc (Nat.le_refl _) (.cells #[.slice A x.length cx, .slice B y.length cy] 47)
  have HBA := Lib.hid (HB1.out.trans (hba.mono HB1.out.size))
  have HT2 := Lib.hid (HT1.out.later hba)
  have hws : WdS (w1.alloc (.cells #[.slice A x.length cx, .slice B y.length cy] 47)) w1.heap.size [⟨A, cx, x⟩, ⟨B, cy, y⟩] := ⟨_, heap_alloc_new w1 _, fun k hk => by
    have : k = 0 ∨ k = 1 := by simp at hk; omega
    rcases this with rfl | rfl <;> rfl, fun k hk => by
    have : k = 0 ∨ k = 1 := by simp at hk; omega
    rcases this with rfl | rfl
    · exact (HX1.out.later hba).here
    · exact (HY1.out.later hba).here⟩
  have HC := Lib.hid (madeT_no (bb := bb) w1.heap.size [⟨A, cx, x⟩, ⟨B, cy, y⟩] ⟨A, cx, x⟩ (.func (.func 71) #[] #[.pointer (some ⟨pb, 0, none⟩), .pointer (some ⟨px, 0, none⟩), .pointer (some ⟨py, 0, none⟩)]) (w1.alloc (.cells #[.slice A x.length cx, .slice B y.length cy] 47)) (by simp) rfl (fun ha => H_hno.out ⟨ha.1 1 (by simp), ha.2.1, ha.2.2⟩) (by simp) (fun k hk => by
    have : k = 0 ∨ k = 1 := by simp at hk; omega
    rcases this with rfl | rfl
    · exact H_hlx.out
    · exact H_hly.out) hws)
  clear hws hba
  go_wp2_with (fail)
  refine HC.out.mono ?_
  rintro e w2 ⟨rfl, hb2⟩
  have hb3 := (Below.refl w2.heap.size w2).alloc (Nat.le_refl _) (.cells #[.slice none 0 0, .slice none 0 0] 89)
  have hbd := (Below.refl (w2.alloc (.cells #[.slice none 0 0, .slice none 0 0] 89)).heap.size (w2.alloc (.cells #[.slice none 0 0, .slice none 0 0] 89))).drew
  have hb4 := hb3.trans (hbd.mono hb3.size)
  have HB2 := Lib.hid ((HBA.out.trans (hb2.mono HBA.out.size)).trans (hb4.mono (Nat.le_trans HBA.out.size hb2.size)))
  have HPX := Lib.hid (show PBox _ w2.heap.size (.slice none 0 0) (.slice none 0 0) from PBox.later (heap_alloc_new w2 (.cells #[.slice none 0 0, .slice none 0 0] 89)) hbd)
  clear hb2 hb3 hbd hb4 HC
  go_upto_region 2 with fail
  rename_i K hKK
  generalize hgw : w2.alloc (.cells #[.slice none 0 0, .slice none 0 0] 89) = w3 at *
  clear hgw
  obtain ⟨tb, HTB⟩ : ∃ tb, Hid (w2.heap.size = tb) := ⟨_, Lib.hid rfl⟩
  rw [HTB.out] at HPX ⊢
  refine wp_region_noPanic ?_
  refine wp_region_held_drew (S := fun w' => w'.cell? ⟨tb, 0, none⟩ = some (.slice none 0 0) ∧ w'.cell? ⟨tb, 1, none⟩ = some (.slice none 0 0)) (by kernel_rfl) HPX.out.cells (fun _ => ?_)
  generalize w3.drew = w4 at *
  refine wpAnyH_take (i := 0) (oi := { dst := some 15, op := Op.indexAddr 89 (Operand.tmp 8) (Operand.const (Value.int IntKind.i64 0)), type := 0, pos := "words.go:31", after := #[], guard := none }) (v := .pointer (some ⟨tb, 0, none⟩)) rfl (by kernel_rfl) (by kernel_rfl) (by kernel_rfl) (fun _ _ _ h => h) (Or.inl ⟨by rfl, ?_⟩) HPX.out.cells ?_
  · (intro w' hSw; go_simp)
  simp only [Act.put, List.setIfInBounds_toArray, List.set_cons_zero, List.set_cons_succ]
  refine wpAnyH_take (i := 1) (oi := { dst := some 16, op := Op.load 47 (Operand.tmp 15), type := 47, pos := "words.go:31", after := #[{ on := 0, ground := Ground.data }], guard := none }) (v := .slice none 0 0) rfl (by kernel_rfl) (by kernel_rfl) (by kernel_rfl) (fun _ _ _ h => h) (Or.inl ⟨by rfl, ?_⟩) HPX.out.cells ?_
  · (intro w' hSw; obtain ⟨z0, z1⟩ := hSw; go_simp)
  simp only [Act.put, List.setIfInBounds_toArray, List.set_cons_zero, List.set_cons_succ]
  refine wpAnyH_take (i := 2) (oi := { dst := some 17, op := Op.indexAddr 89 (Operand.tmp 8) (Operand.const (Value.int IntKind.i64 1)), type := 0, pos := "words.go:31", after := #[{ on := 4, ground := Ground.gcOnly Departure.lateStores }], guard := none }) (v := .pointer (some ⟨tb, 1, none⟩)) rfl (by kernel_rfl) (by kernel_rfl) (by kernel_rfl) (fun _ _ _ h => h) (Or.inl ⟨by rfl, ?_⟩) HPX.out.cells ?_
  · (intro w' hSw; go_simp)
  simp only [Act.put, List.setIfInBounds_toArray, List.set_cons_zero, List.set_cons_succ]
  refine wpAnyH_take (i := 3) (oi := { dst := some 18, op := Op.load 47 (Operand.tmp 17), type := 47, pos := "words.go:31", after := #[{ on := 2, ground := Ground.data }, { on := 4, ground := Ground.gcOnly Departure.lateStores }], guard := none }) (v := .slice none 0 0) rfl (by kernel_rfl) (by kernel_rfl) (by kernel_rfl) (fun _ _ _ h => h) (Or.inl ⟨by rfl, ?_⟩) HPX.out.cells ?_
  · (intro w' hSw; obtain ⟨z0, z1⟩ := hSw; go_simp)
  simp only [Act.put, List.setIfInBounds_toArray, List.set_cons_zero, List.set_cons_succ]
  refine wpAnyH_take (i := 4) (oi := { dst := some 6, op := Op.assign (Operand.tmp 16), type := 47, pos := "words.go:31", after := #[{ on := 1, ground := Ground.data }, { on := 0, ground := Ground.phase }, { on := 1, ground := Ground.phase }, { on := 2, ground := Ground.textOnly Departure.lateStores }, { on := 3, ground := Ground.textOnly Departure.lateStores }], guard := none }) (v := .slice none 0 0) rfl (by kernel_rfl) (by kernel_rfl) (by kernel_rfl) (fun _ _ _ h => h) (Or.inl ⟨by rfl, ?_⟩) HPX.out.cells ?_
  · (intro w' hSw; go_simp)
  simp only [Act.put, List.setIfInBounds_toArray, List.set_cons_zero, List.set_cons_succ]
  refine wpAnyH_take (i := 5) (oi := { dst := some 7, op := Op.assign (Operand.tmp 18), type := 47, pos := "words.go:31", after := #[{ on := 3, ground := Ground.data }, { on := 4, ground := Ground.chain }, { on := 0, ground := Ground.phase }, { on := 1, ground := Ground.phase }, { on := 2, ground := Ground.phase }, { on := 3, ground := Ground.phase }, { on := 4, ground := Ground.phase }], guard := none }) (v := .slice none 0 0) rfl (by kernel_rfl) (by kernel_rfl) (by kernel_rfl) (fun _ _ _ h => h) (Or.inl ⟨by rfl, ?_⟩) HPX.out.cells ?_
  · (intro w' hSw; go_simp)
  simp only [Act.put, List.setIfInBounds_toArray, List.set_cons_zero, List.set_cons_succ]
  refine wpAnyH_done (by kernel_rfl) ?_ _
  refine NoPanic.normal ?_
  go_wp2_with (fail)
  go_ret2
  exact ⟨rfl, HB2.out⟩
end
end Go.Proofs.Ytbcabnbgkicfdaa
