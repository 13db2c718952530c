/- What is proved: package blast: alike, made. -/
import Derived.Test.YtbcabnbgkicfdaaBlQuo
import Derived.Test.YtbcabnbgkicfdaaBlMul
import Derived.Test.YtbcabnbgkicfdaaBlEq
set_option linter.unusedVariables false
namespace Go.Proofs.Ytbcabnbgkicfdaa
open Go.RowKit Go.Maps

/-- a slice of words -/
def WdS (w : World) (a : Nat) (L : List Sz) : Prop := ∃ cs : Array Value, w.heap[a]? = some (.cells cs 47 (0, 0)) ∧ (∀ (k : Nat) (h : k < L.length), cs[k]? = some (.slice L[k].A L[k].l.length L[k].c)) ∧ ∀ (k : Nat) (h : k < L.length), WRow w.heap.size w L[k].A L[k].l
theorem WdS.cell {w : World} {a : Nat} {L : List Sz} (h : WdS w a L) {k : Nat} (hk : k < L.length) : w.cell? ⟨a, k, none⟩ = some (.slice L[k].A L[k].l.length L[k].c) := by
  obtain ⟨cs, h1, h2, _⟩ := h
  rw [Lib.cell_of_heap h1 k]
  exact h2 k hk
/-- words have one length that is possible -/
def alk (L : List Sz) (n : Nat) : Prop := (∀ (k : Nat) (h : k < L.length), L[k].l.length = n) ∧ 0 < n ∧ n ≤ 8
set_option maxRecDepth 100000 in
set_option maxHeartbeats 2000000 in
theorem alike_any (a : Nat) (L : List Sz) (s : Sz) (b : Bool) (w : World) (h0 : 0 < L.length) (hs : L[0] = s) (hb : b = true ↔ alk L s.l.length) (hL : L.length ≤ 10) (hlen : ∀ (k : Nat) (h : k < L.length), L[k].l.length ≤ 1000000) (hw : WdS w a L) :
    Calls Try.prog 102 #[.slice (some ⟨a, 0, none⟩) L.length L.length] w fun e w' => e = .returned (.bool b) ∧ w' = w := by
  have HW := Lib.hid hw
  have HB := Lib.hid hb
  have HLE := Lib.hid hlen
  have c0 := hw.cell h0
  have hsl := hlen 0 h0
  rw [hs] at c0 hsl
  clear hw hb hlen
  go_enter Try.func102, Try.ntmps102
  go_wp2_with (fail)
  clear c0
  go_loop [12] (fun jv => ∃ (k : Nat), k ≤ L.length ∧ jv = .int .i64 (k : Int) ∧ Hid (∀ (j : Nat) (h : j < L.length), j < k → L[j].l.length = s.l.length)) (fun jv => L.length - (intOf jv).toNat)
  case atStart => exact ⟨0, Nat.zero_le _, rfl, Lib.hid fun j h hj => by omega⟩
  case round =>
    obtain ⟨k, hk, rfl, hpre⟩ := hrel
    by_cases hlt' : k < L.length
    · have c1 := HW.out.cell hlt'
      have HL1 := Lib.hid (HLE.out k hlt')
      have HNX := Lib.hid (show L[k].l.length = s.l.length → ∀ (j : Nat) (h : j < L.length), j < k + 1 → L[j].l.length = s.l.length from fun e j h hj => by
        by_cases e2 : j = k
        · subst e2; exact e
        · exact hpre.out j h (by omega))
      have HNO := Lib.hid (show L[k].l.length ≠ s.l.length → b = false from fun e => by
        cases hbb : b with
        | false => rfl
        | true => exact absurd ((HB.out.1 hbb).1 k hlt') e)
      obtain ⟨t, HTT⟩ : ∃ t, Hid (L[k] = t) := ⟨_, Lib.hid rfl⟩
      rw [HTT.out] at c1 HL1 HNX HNO
      have hl1 := HL1.out
      by_cases he : t.l.length = s.l.length
      · have HE := Lib.hid (HNX.out he)
        have hne : ((t.l.length : Int) != (s.l.length : Int)) = false := by rw [he]; simp
        clear he
        go_wp2_with (fail)
        exact ⟨⟨k + 1, by omega, by go_num, HE⟩, by simp [intOf]; omega⟩
      · have HE := Lib.hid (HNO.out he)
        have hne : ((t.l.length : Int) != (s.l.length : Int)) = true := by simp; omega
        clear he
        go_wp2_with (fail)
        go_ret
        rw [HE.out]
        exact ⟨rfl, rfl⟩
    · obtain rfl : k = L.length := by omega
      by_cases hp : 0 < s.l.length
      · by_cases h8 : s.l.length ≤ 8
        · have HE := Lib.hid (show b = true from HB.out.2 ⟨fun k h => hpre.out k h h, hp, h8⟩)
          have d2 : decide ((s.l.length : Int) ≤ 8) = true := decide_eq_true (by omega)
          go_wp2_with (fail)
          go_ret
          rw [HE.out]
          exact ⟨rfl, rfl⟩
        · have HE := Lib.hid (show b = false from by
            cases hbb : b with
            | false => rfl
            | true => exact absurd (HB.out.1 hbb).2.2 h8)
          have d2 : decide ((s.l.length : Int) ≤ 8) = false := decide_eq_false (by omega)
          clear h8
          go_wp2_with (fail)
          go_ret
          rw [HE.out]
          exact ⟨rfl, rfl⟩
      · have HE := Lib.hid (show b = false from by
          cases hbb : b with
          | false => rfl
          | true => exact absurd (HB.out.1 hbb).2.1 hp)
        have e0 : s.l.length = 0 := by omega
        rw [e0]
        clear hp e0
        go_wp2_with (fail)
        go_ret
        rw [HE.out]
        exact ⟨rfl, rfl⟩
section
variable {n₀ bb mb : Nat} {rv rv1 : Value} {I : Int} {gs : List Gt} {w w1 : World}
/-- a block of another kind stays -/
theorem kind_own {T : TypeId} {fr : Nat × Nat} (h1 : T ≠ 80) (h2 : T ≠ 76) (ht : Bld w n₀ bb mb rv I gs 0) {b : Nat} {cs : Array Value} (h : w.heap[b]? = some (.cells cs T fr)) : ¬ Own bb mb rv b := fun ho => by
  rcases ho with rfl | rfl | ho
  · have := ht.box
    rw [h] at this
    simp only [Option.some.injEq, Obj.cells.injEq] at this
    exact h1 this.2.1
  · obtain ⟨es, clock, hm0, _⟩ := ht.map
    rw [h] at hm0
    cases hm0
  · obtain ⟨_, _, cs2, hc⟩ := own_block' ht.row ho
    rw [h] at hc
    simp only [Option.some.injEq, Obj.cells.injEq] at hc
    exact h2 hc.2.1
theorem Bx.stp {b : Nat} {T : TypeId} {v : Value} {n : Nat} {gs1 : List Gt} (h : Bx w b T v) (h1 : T ≠ 80) (h2 : T ≠ 76) (ht : Bld w n₀ bb mb rv I gs 0) (hs : Stp n₀ bb mb rv I gs n w w1 rv1 gs1) : Bx w1 b T v :=
  (hs.res.fr.block b h.lt (kind_own h1 h2 ht h)).trans h
theorem WdS.stp {a : Nat} {L : List Sz} {n : Nat} {gs1 : List Gt} (h : WdS w a L) (ht : Bld w n₀ bb mb rv I gs 0) (hs : Stp n₀ bb mb rv I gs n w w1 rv1 gs1) : WdS w1 a L := by
  obtain ⟨cs, h1, h2, h3⟩ := h
  exact ⟨cs, (hs.res.fr.block a (Go.Proofs.Ytbcabnbgkicfdaa.hlt h1) (kind_own (by decide) (by decide) ht h1)).trans h1, h2, fun k hk => ((h3 k hk).stp ht hs).here⟩
theorem WdS.later {a : Nat} {L : List Sz} (h : WdS w a L) (hb : Below w.heap.size w w1) : WdS w1 a L := by
  obtain ⟨cs, h1, h2, h3⟩ := h
  exact ⟨cs, (hb.block a (Go.Proofs.Ytbcabnbgkicfdaa.hlt h1)).trans h1, h2, fun k hk => ((h3 k hk).later hb).here⟩
theorem and1_any (x : Int) (h : Bld w n₀ bb mb rv I gs 0) (hx : isLit I gs x) (hf : gs.length + 1 ≤ 5000) :
    Calls Try.prog 46 #[.pointer (some ⟨bb, 0, none⟩), .int .i64 x, .int .i64 1] w fun e w' => ∃ z rv', e = .returned (.int .i64 z) ∧ Stp n₀ bb mb rv I gs 0 w w' rv' gs := by
  have hk : ∃ z, andK x 1 = some z := by
    unfold andK
    split
    · exact ⟨_, rfl⟩
    · split
      · exact ⟨_, rfl⟩
      · rw [if_pos (.inl rfl)]; exact ⟨_, rfl⟩
  obtain ⟨z, hk⟩ := hk
  obtain ⟨e1, e2⟩ := and_some (I := I) (gs := gs) hk
  refine (m_And x 1 0 h hf).mono ?_
  rintro e w1 ⟨rfl, rv', hr⟩
  obtain ⟨g1, g2, g3⟩ := op_yes (andN I gs x 1) gs (andL gs x 1)
  have h1 : isLit I gs 1 := ⟨by omega, by have := h.ck.lo; omega⟩
  rw [lit_yes hx, lit_yes h1, Bool.and_self, g2, g3, e2] at hr
  exact ⟨_, rv', rfl, ⟨hr, List.prefix_refl _, by omega⟩⟩
/-- two words -/
def TwoG (n₀ bb mb : Nat) (rv : Value) (I : Int) (gs : List Gt) (n : Nat) (w : World) (m : Nat) (φ : List Int → List Int → (Int → Bool) → (Int → Prop) → Prop) (e : Ending) (w' : World) : Prop :=
  ∃ QA qc RA rc q r rv' gs', e = .returned (.agg #[.slice QA m qc, .slice RA m rc]) ∧ Stp n₀ bb mb rv I gs n w w' rv' gs' ∧ WRow w'.heap.size w' QA q ∧ WRow w'.heap.size w' RA r ∧ q.length = m ∧ r.length = m ∧ Lts I gs' q ∧ Lts I gs' r ∧ Hol I gs' (φ q r)
theorem WdG.ahead {n m : Nat} {φ : List Int → (Int → Bool) → (Int → Prop) → Prop} {e : Ending} {w' : World} (ht : Bld w n₀ bb mb rv I gs 0) (h0 : Stp n₀ bb mb rv I gs 0 w w1 rv1 gs) (h : WdG n₀ bb mb rv1 I gs n w1 m φ e w') : WdG n₀ bb mb rv I gs n w m φ e w' := by
  obtain ⟨A', c', z, rv', gs', h1, h2, h3, h4⟩ := h
  exact ⟨A', c', z, rv', gs', h1, (h2.over h0 ht).mono (by omega), h3, h4⟩
theorem OneG.ahead {n : Nat} {φ : Int → (Int → Bool) → (Int → Prop) → Prop} {e : Ending} {w' : World} (ht : Bld w n₀ bb mb rv I gs 0) (h0 : Stp n₀ bb mb rv I gs 0 w w1 rv1 gs) (h : OneG n₀ bb mb rv1 I gs n w1 φ e w') : OneG n₀ bb mb rv I gs n w φ e w' := by
  obtain ⟨z, rv', gs', h1, h2, h3, h4⟩ := h
  exact ⟨z, rv', gs', h1, (h0.trans h2 ht).mono (by omega), h3, h4⟩
theorem TwoG.ahead {n m : Nat} {φ : List Int → List Int → (Int → Bool) → (Int → Prop) → Prop} {e : Ending} {w' : World} (ht : Bld w n₀ bb mb rv I gs 0) (h0 : Stp n₀ bb mb rv I gs 0 w w1 rv1 gs) (h : TwoG n₀ bb mb rv1 I gs n w1 m φ e w') : TwoG n₀ bb mb rv I gs n w m φ e w' := by
  obtain ⟨QA, qc, RA, rc, q, r, rv', gs', h1, h2, h3⟩ := h
  exact ⟨QA, qc, RA, rc, q, r, rv', gs', h1, (h0.trans h2 ht).mono (by omega), h3⟩
set_option maxRecDepth 100000 in
set_option maxHeartbeats 4000000 in
theorem madeW_no (a : Nat) (L : List Sz) (s : Sz) (fv : Value) (w : World) (h0 : 0 < L.length) (hs : L[0] = s) (hb : ¬ alk L s.l.length) (hL : L.length ≤ 10) (hlen : ∀ (k : Nat) (h : k < L.length), L[k].l.length ≤ 1000000) (hw : WdS w a L) :
    Calls Try.prog 74 #[.pointer (some ⟨bb, 0, none⟩), fv, .slice (some ⟨a, 0, none⟩) L.length L.length] w fun e w' => e = .returned (.slice none 0 0) ∧ Below w.heap.size w w' := by
  have HAL := Lib.hid (alike_any a L s false w h0 hs (by simpa using hb) hL hlen hw)
  clear hw hlen hs h0 hb
  go_enter Try.func74, Try.ntmps74
  go_wp2_with (fail)
  refine HAL.out.mono ?_
  rintro e wx ⟨rfl, hwx⟩
  obtain rfl := hwx.symm
  go_wp2_with (fail)
  go_ret
  exact ⟨rfl, Below.refl _ _⟩
set_option maxRecDepth 100000 in
set_option maxHeartbeats 4000000 in
theorem madeW_yes (a : Nat) (L : List Sz) (s : Sz) (g : Nat) (caps : Array Value) (N : Nat) (m : Nat) (φ : List Int → (Int → Bool) → (Int → Prop) → Prop) (eK : ∀ args w, (callFunc g args).run Try.prog w = .ok (.enter g args) w) (h : Bld w n₀ bb mb rv I gs 0) (h0 : 0 < L.length) (hs : L[0] = s) (ha : alk L s.l.length) (hL : L.length ≤ 10) (hlit : ∀ (k : Nat) (h : k < L.length), Lts I gs L[k].l) (hw : WdS w a L) (hf : gs.length + 1 ≤ 5000)
    (hB : ∀ w1 rv1, Stp n₀ bb mb rv I gs 0 w w1 rv1 gs → Calls Try.prog g caps w1 (WdG n₀ bb mb rv1 I gs N w1 m φ)) :
    Calls Try.prog 74 #[.pointer (some ⟨bb, 0, none⟩), .func (.func g) #[] caps, .slice (some ⟨a, 0, none⟩) L.length L.length] w (WdG n₀ bb mb rv I gs N w m φ) := by
  have HAL := Lib.hid (alike_any a L s true w h0 hs (by simpa using ha) hL (fun k hk => by have := ha.1 k hk; have := ha.2.2; omega) hw)
  have HT := Lib.hid h
  have HW := Lib.hid hw
  have HLI := Lib.hid hlit
  have HB := Lib.hid hB
  have HAK := Lib.hid ha
  have HS0 := Lib.hid (Stp.refl h)
  have HF := Lib.hid hf
  clear hw hs h0 ha h hlit hB hf
  go_enter Try.func74, Try.ntmps74
  go_wp2_with (fail)
  refine HAL.out.mono ?_
  rintro e wx ⟨rfl, hwx⟩
  obtain rfl := hwx.symm
  go_wp2_with (fail)
  go_loopw [19] (fun jv wr => ∃ (k : Nat) (rv1 : Value), k ≤ L.length ∧ jv = .int .i64 (k : Int) ∧ Hid (Stp n₀ bb mb rv I gs 0 w wr rv1 gs)) (fun jv _ => L.length - (intOf jv).toNat)
  case atStart => exact ⟨0, rv, Nat.zero_le _, rfl, HS0⟩
  case round =>
    obtain ⟨k, rv1, hk, rfl, hst⟩ := hrel
    by_cases hlt' : k < L.length
    · have c0 := (HW.out.stp HT.out hst.out).cell hlt'
      have hlk := HAK.out.1 k hlt'
      have hn8 := HAK.out.2.2
      have HLK := Lib.hid (HLI.out k hlt')
      have HRK := Lib.hid (fun (w2 : World) (rv2 : Value) (hs : Stp n₀ bb mb rv I gs 0 w w2 rv2 gs) => show WRow w2.heap.size w2 L[k].A L[k].l from by
        obtain ⟨cs, _, _, h3⟩ := HW.out.stp HT.out hs
        exact h3 k hlt')
      obtain ⟨t, HTT⟩ : ∃ t, Hid (L[k] = t) := ⟨_, Lib.hid rfl⟩
      rw [HTT.out] at c0 hlk HLK HRK
      have ht8 : t.l.length ≤ 8 := by omega
      clear hlk hn8
      go_wp2_with (fail)
      clear c0
      go_loopw [25] (fun jv wr => ∃ (j : Nat) (rv1 : Value), j ≤ t.l.length ∧ jv = .int .i64 (j : Int) ∧ Hid (Stp n₀ bb mb rv I gs 0 w wr rv1 gs)) (fun jv _ => t.l.length - (intOf jv).toNat)
      case atStart => exact ⟨0, rv1, Nat.zero_le _, rfl, hst⟩
      case round =>
        obtain ⟨j, rv1, hj, rfl, hst⟩ := hrel
        by_cases hjt : j < t.l.length
        · obtain ⟨b, off, hA, c0⟩ := (HRK.out _ _ hst.out).at hjt
          have HAN := Lib.hid (and1_any t.l[j] hst.out.tab (HLK.out.at hjt) HF.out)
          rw [hA]
          go_wp2_with (fail)
          refine HAN.out.mono ?_
          rintro e w2 ⟨z, rv2, rfl, hs2⟩
          have HS2 := Lib.hid (hst.out.trans hs2 HT.out)
          clear hs2 HAN c0
          go_wp2_with (fail)
          exact ⟨⟨j + 1, rv2, by omega, by go_num, HS2⟩, by simp [intOf]; omega⟩
        · obtain rfl : j = t.l.length := by omega
          go_wp2_with (fail)
          exact ⟨⟨k + 1, rv1, by omega, by go_num, hst⟩, by simp [intOf]; omega⟩
    · obtain rfl : k = L.length := by omega
      have HBC := Lib.hid (HB.out _ _ hst.out)
      go_wp2_with (fail)
      refine HBC.out.mono ?_
      rintro e w2 ⟨A1, c1, z, rv2, gs2, rfl, hac, hz, hh⟩
      have HER := Lib.hid (berr_any hac.st.tab)
      have HAC := Lib.hid ((hac.over hst.out HT.out).mono (m := N) (by omega))
      have HZ := Lib.hid hz
      have HH := Lib.hid hh
      clear hac hz hh HBC
      go_wp2_with (fail)
      refine HER.out.mono ?_
      rintro e wx ⟨rfl, hwx⟩
      obtain rfl := hwx.symm
      go_wp2_with (fail)
      go_ret
      exact ⟨A1, c1, z, rv2, gs2, rfl, HAC.out, HZ.out, HH.out⟩
set_option maxRecDepth 100000 in
set_option maxHeartbeats 4000000 in
theorem madeI_no (a : Nat) (L : List Sz) (s : Sz) (fv : Value) (w : World) (h0 : 0 < L.length) (hs : L[0] = s) (hb : ¬ alk L s.l.length) (hL : L.length ≤ 10) (hlen : ∀ (k : Nat) (h : k < L.length), L[k].l.length ≤ 1000000) (hw : WdS w a L) :
    Calls Try.prog 87 #[.pointer (some ⟨bb, 0, none⟩), fv, .slice (some ⟨a, 0, none⟩) L.length L.length] w fun e w' => e = .returned (.int .i64 0) ∧ Below w.heap.size w w' := by
  have HAL := Lib.hid (alike_any a L s false w h0 hs (by simpa using hb) hL hlen hw)
  clear hw hlen hs h0 hb
  go_enter Try.func87, Try.ntmps87
  go_wp2_with (fail)
  refine HAL.out.mono ?_
  rintro e wx ⟨rfl, hwx⟩
  obtain rfl := hwx.symm
  go_wp2_with (fail)
  go_ret
  exact ⟨rfl, Below.refl _ _⟩
set_option maxRecDepth 100000 in
set_option maxHeartbeats 4000000 in
theorem madeI_yes (a : Nat) (L : List Sz) (s : Sz) (g : Nat) (caps : Array Value) (N : Nat) (φ : Int → (Int → Bool) → (Int → Prop) → Prop) (eK : ∀ args w, (callFunc g args).run Try.prog w = .ok (.enter g args) w) (h : Bld w n₀ bb mb rv I gs 0) (h0 : 0 < L.length) (hs : L[0] = s) (ha : alk L s.l.length) (hL : L.length ≤ 10) (hlit : ∀ (k : Nat) (h : k < L.length), Lts I gs L[k].l) (hw : WdS w a L) (hf : gs.length + 1 ≤ 5000)
    (hB : ∀ w1 rv1, Stp n₀ bb mb rv I gs 0 w w1 rv1 gs → Calls Try.prog g caps w1 (OneG n₀ bb mb rv1 I gs N w1 φ)) :
    Calls Try.prog 87 #[.pointer (some ⟨bb, 0, none⟩), .func (.func g) #[] caps, .slice (some ⟨a, 0, none⟩) L.length L.length] w (OneG n₀ bb mb rv I gs N w φ) := by
  have HAL := Lib.hid (alike_any a L s true w h0 hs (by simpa using ha) hL (fun k hk => by have := ha.1 k hk; have := ha.2.2; omega) hw)
  have HT := Lib.hid h
  have HW := Lib.hid hw
  have HLI := Lib.hid hlit
  have HB := Lib.hid hB
  have HAK := Lib.hid ha
  have HS0 := Lib.hid (Stp.refl h)
  have HF := Lib.hid hf
  clear hw hs h0 ha h hlit hB hf
  go_enter Try.func87, Try.ntmps87
  go_wp2_with (fail)
  refine HAL.out.mono ?_
  rintro e wx ⟨rfl, hwx⟩
  obtain rfl := hwx.symm
  go_wp2_with (fail)
  go_loopw [19] (fun jv wr => ∃ (k : Nat) (rv1 : Value), k ≤ L.length ∧ jv = .int .i64 (k : Int) ∧ Hid (Stp n₀ bb mb rv I gs 0 w wr rv1 gs)) (fun jv _ => L.length - (intOf jv).toNat)
  case atStart => exact ⟨0, rv, Nat.zero_le _, rfl, HS0⟩
  case round =>
    obtain ⟨k, rv1, hk, rfl, hst⟩ := hrel
    by_cases hlt' : k < L.length
    · have c0 := (HW.out.stp HT.out hst.out).cell hlt'
      have hlk := HAK.out.1 k hlt'
      have hn8 := HAK.out.2.2
      have HLK := Lib.hid (HLI.out k hlt')
      have HRK := Lib.hid (fun (w2 : World) (rv2 : Value) (hs : Stp n₀ bb mb rv I gs 0 w w2 rv2 gs) => show WRow w2.heap.size w2 L[k].A L[k].l from by
        obtain ⟨cs, _, _, h3⟩ := HW.out.stp HT.out hs
        exact h3 k hlt')
      obtain ⟨t, HTT⟩ : ∃ t, Hid (L[k] = t) := ⟨_, Lib.hid rfl⟩
      rw [HTT.out] at c0 hlk HLK HRK
      have ht8 : t.l.length ≤ 8 := by omega
      clear hlk hn8
      go_wp2_with (fail)
      clear c0
      go_loopw [25] (fun jv wr => ∃ (j : Nat) (rv1 : Value), j ≤ t.l.length ∧ jv = .int .i64 (j : Int) ∧ Hid (Stp n₀ bb mb rv I gs 0 w wr rv1 gs)) (fun jv _ => t.l.length - (intOf jv).toNat)
      case atStart => exact ⟨0, rv1, Nat.zero_le _, rfl, hst⟩
      case round =>
        obtain ⟨j, rv1, hj, rfl, hst⟩ := hrel
        by_cases hjt : j < t.l.length
        · obtain ⟨b, off, hA, c0⟩ := (HRK.out _ _ hst.out).at hjt
          have HAN := Lib.hid (and1_any t.l[j] hst.out.tab (HLK.out.at hjt) HF.out)
          rw [hA]
          go_wp2_with (fail)
          refine HAN.out.mono ?_
          rintro e w2 ⟨z, rv2, rfl, hs2⟩
          have HS2 := Lib.hid (hst.out.trans hs2 HT.out)
          clear hs2 HAN c0
          go_wp2_with (fail)
          exact ⟨⟨j + 1, rv2, by omega, by go_num, HS2⟩, by simp [intOf]; omega⟩
        · obtain rfl : j = t.l.length := by omega
          go_wp2_with (fail)
          exact ⟨⟨k + 1, rv1, by omega, by go_num, hst⟩, by simp [intOf]; omega⟩
    · obtain rfl : k = L.length := by omega
      have HBC := Lib.hid (HB.out _ _ hst.out)
      go_wp2_with (fail)
      refine HBC.out.mono ?_
      rintro e w2 ⟨z, rv2, gs2, rfl, hs, hz, hh⟩
      have HER := Lib.hid (berr_any hs.tab)
      have HAC := Lib.hid ((hst.out.trans hs HT.out).mono (m := N) (by omega))
      have HZ := Lib.hid hz
      have HH := Lib.hid hh
      clear hs hz hh HBC
      go_wp2_with (fail)
      refine HER.out.mono ?_
      rintro e wx ⟨rfl, hwx⟩
      obtain rfl := hwx.symm
      go_wp2_with (fail)
      go_ret
      exact ⟨z, rv2, gs2, rfl, HAC.out, HZ.out, HH.out⟩
end
end Go.Proofs.Ytbcabnbgkicfdaa
