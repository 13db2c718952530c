/- What is proved: Valid tells whether a flow is valid. -/
import Derived.Test.YtbdpdbeekbbehaaDoFind
import Derived.Test.YtbdpdbeekbbehaaDoForw
set_option linter.unusedVariables false
namespace Go.Proofs.Ytbdpdbeekbbehaa
open Go.RowKit Go.Shelf

/-- a flow that is small -/
structure FlSm (l : List PtV) : Prop where
  n : l.length ≤ 30
  few : ∀ p ∈ l, p.nx.length ≤ 1000
theorem FlSm.ok {l : List PtV} (h : FlSm l) (hv : validP l = true) : FlOk l := ⟨hv, h.n, h.few⟩
def wrongP (n : Nat) (x : Int) : Bool := decide (x ≤ 0) || decide ((n : Int) ≤ x)
theorem wrong_eK : ∀ args w, (callFunc 41 args).run Try.prog w = .ok (.enter 41 args) w := enters_of Try.func41 (by kernel_rfl) rfl
theorem bad_eK : ∀ args w, (callFunc 43 args).run Try.prog w = .ok (.enter 43 args) w := enters_of Try.func43 (by kernel_rfl) rfl
theorem wrong_ok {w : World} {b : Nat} {A : Option Addr} {c : Nat} {l : List PtV} (hb : FBx w b A c l) (hn : l.length ≤ 1000000) (xs : List Int) : PrOk (wrongP l.length) xs 41 #[.pointer (some ⟨b, 0, none⟩)] w := fun W x hW _ => by
  have c0 := (hb.later hW).cell
  clear hb
  show Calls Try.prog 41 #[.int .i64 x, .pointer (some ⟨b, 0, none⟩)] W _
  by_cases h : x ≤ 0
  · have hB : wrongP l.length x = true := by unfold wrongP; simp [h]
    rw [hB]
    clear hB
    go_enter Try.func41, Try.ntmps41
    go_wp2_with (fail)
    go_ret
    exact ⟨rfl, Below.refl _ _⟩
  · have hB : wrongP l.length x = decide ((l.length : Int) ≤ x) := by unfold wrongP; simp [h]
    rw [hB]
    clear hB
    go_enter Try.func41, Try.ntmps41
    go_wp2_with (fail)
    go_ret
    exact ⟨rfl, Below.refl _ _⟩
def badP (n : Nat) (p : PtV) : Bool := p.nx.any (wrongP n)
theorem validP_eq (l : List PtV) : validP l = (decide (2 ≤ l.length) && decide (l.length ≤ 1024) && ((l[1]?.map PtV.nx).getD [] == []) && !l.any (badP l.length)) := by
  unfold validP
  congr 1
  rw [Bool.eq_iff_iff]
  simp only [List.all_eq_true, Bool.not_eq_true', List.any_eq_false, badP, wrongP, List.any_eq_true, Bool.and_eq_true, Bool.or_eq_true, decide_eq_true_eq]
  constructor
  · rintro h p hp ⟨x, hx, h2⟩
    have := h p hp x hx
    omega
  · intro h p hp x hx
    by_cases h3 : x ≤ 0
    · exact absurd ⟨x, hx, .inl h3⟩ (h p hp)
    · by_cases h4 : (l.length : Int) ≤ x
      · exact absurd ⟨x, hx, .inr h4⟩ (h p hp)
      · omega

set_option maxRecDepth 100000 in
set_option maxHeartbeats 1000000 in
theorem bad_ok {w : World} {b b2 : Nat} {A : Option Addr} {c : Nat} {l : List PtV} (hb : FBx w b A c l) (hp : PRow w.heap.size w A l) (hs : FlSm l) (hx : Bx w b2 51 (.func (.func 41) #[] #[.pointer (some ⟨b, 0, none⟩)])) : PpOk (badP l.length) l 43 #[.pointer (some ⟨b2, 0, none⟩)] w := fun W x hW hxl => by
  have hb2 := (Below.refl W.heap.size W).alloc (Nat.le_refl _) (.cells #[.int .i64 x.kind, .int .i64 x.node, .slice x.A x.nx.length x.c] 44)
  have h3 := hW.trans (hb2.mono hW.size)
  have HC := Lib.hid (indexC_any (W.alloc (.cells #[.int .i64 x.kind, .int .i64 x.node, .slice x.A x.nx.length x.c] 44)) x.A x.c x.nx 41 #[.pointer (some ⟨b, 0, none⟩)] (wrongP l.length) (((hp.2 x hxl).1.below h3).mono h3.size) (by have := hs.few x hxl; omega) (wrong_ok (hb.later h3) (by have := hs.n; omega) _) wrong_eK)
  have c0 := (hx.later h3).cell
  have HB2 := Lib.hid hb2
  show Calls Try.prog 43 #[.agg #[.int .i64 x.kind, .int .i64 x.node, .slice x.A x.nx.length x.c], .pointer (some ⟨b2, 0, none⟩)] W _
  unfold badP
  clear hb2 h3 hx hb hp hs
  generalize x.nx = nx at *
  go_enter Try.func43, Try.ntmps43
  go_wp2_with (fail)
  refine HC.out.mono ?_
  rintro e w2 ⟨rfl, hb3⟩
  have HB3 := Lib.hid (HB2.out.trans (hb3.mono HB2.out.size))
  clear hb3
  go_wp2_with (fail)
  go_ret
  exact ⟨rfl, HB3.out⟩

set_option maxRecDepth 100000 in
set_option maxHeartbeats 1000000 in
theorem valid_any (A : Option Addr) (c : Nat) (l : List PtV) (w : World) (hs : FlSm l) (hp : PRow w.heap.size w A l) :
    Calls Try.prog 13 #[.agg #[.slice A l.length c]] w fun e W => e = .returned (.bool (validP l)) ∧ Below w.heap.size w W := by
  have HS := Lib.hid hs
  have HP := Lib.hid hp
  have hn := hs.n
  have HB1 := Lib.hid ((Below.refl w.heap.size w).alloc (Nat.le_refl _) (.cells #[.slice A l.length c] 24))
  have HFB := Lib.hid (show FBx (w.alloc (.cells #[.slice A l.length c] 24)) w.heap.size A c l from heap_alloc_new w _)
  clear hs hp
  by_cases h2 : l.length < 2
  · have HV := Lib.hid (show validP l = false by rw [validP_eq]; simp; omega)
    go_enter Try.func13, Try.ntmps13
    go_wp2_with (fail)
    go_ret
    exact ⟨by rw [HV.out]; rfl, HB1.out⟩
  · obtain ⟨b, off, rfl, hb, e1, e2, e3, _⟩ := (HP.out.below HB1.out).at (show 1 < l.length by omega)
    have hA : l[1]? = some l[1] := List.getElem?_eq_getElem (by omega)
    have HFW := Lib.hid (HS.out.few l[1] (List.getElem_mem (by omega)))
    have h1024 : ¬ (1024 : Int) < (l.length : Int) := by omega
    by_cases h0 : 0 < l[1].nx.length
    · have HV := Lib.hid (show validP l = false by
        rw [validP_eq, hA]
        cases hq : l[1].nx with
        | nil => rw [hq] at h0; simp at h0
        | cons a t => simp [hq])
      generalize l[1] = p1 at *
      generalize p1.nx.length = m at *
      clear hA
      go_enter Try.func13, Try.ntmps13
      go_wp2_with (fail)
      go_ret
      exact ⟨by rw [HV.out]; rfl, HB1.out⟩
    · have HV := Lib.hid (show validP l = !l.any (badP l.length) by
        rw [validP_eq, hA]
        have hq : l[1].nx = [] := List.eq_nil_of_length_eq_zero (by omega)
        have h3 : decide (2 ≤ l.length) = true := by simp; omega
        have h4 : decide (l.length ≤ 1024) = true := by simp; omega
        rw [h3, h4]
        simp [hq])
      have hm0 : l[1].nx.length = 0 := by omega
      rw [hm0] at e3
      generalize l[1] = p1 at *
      clear hA h0 hm0 HFW
      go_enter Try.func13, Try.ntmps13
      go_wp2_with (fail)
      have hz1 : (w.alloc (.cells #[.slice (some ⟨b, off, none⟩) l.length c] 24)).heap.size = w.heap.size + 1 := by simp
      have HB1' := HB1
      have hbx := heap_alloc_new (w.alloc (.cells #[.slice (some ⟨b, off, none⟩) l.length c] 24)) (.cells #[.func (.func 41) #[] #[.pointer (some ⟨w.heap.size, 0, none⟩)]] 51)
      rw [hz1] at hbx
      have hb2 := (Below.refl _ (w.alloc (.cells #[.slice (some ⟨b, off, none⟩) l.length c] 24))).alloc (Nat.le_refl _) (.cells #[.func (.func 41) #[] #[.pointer (some ⟨w.heap.size, 0, none⟩)]] 51)
      have HFB2 := Lib.hid (HFB.out.later hb2)
      have HB2 := Lib.hid (HB1.out.trans (hb2.mono HB1.out.size))
      have HBX := Lib.hid (show Bx _ _ _ _ from hbx)
      clear hbx hb2 e1 e2 e3 HB1' HFB hz1
      generalize ((w.alloc (.cells #[.slice (some ⟨b, off, none⟩) l.length c] 24)).alloc (.cells #[.func (.func 41) #[] #[.pointer (some ⟨w.heap.size, 0, none⟩)]] 51)) = w2 at *
      have hp2 := (HP.out.below HB2.out).mono HB2.out.size
      refine (indexPC_any w2 (some ⟨b, off, none⟩) c l 43 #[.pointer (some ⟨w.heap.size + 1, 0, none⟩)] (badP l.length) hp2 (by omega) (bad_ok HFB2.out hp2 HS.out HBX.out) bad_eK).mono ?_
      rintro e w3 ⟨rfl, hb3⟩
      have HB3 := Lib.hid (HB2.out.trans (hb3.mono HB2.out.size))
      clear hp2 hb3
      go_wp2_with (fail)
      go_ret
      exact ⟨by rw [HV.out]; rfl, HB3.out⟩
end Go.Proofs.Ytbdpdbeekbbehaa
