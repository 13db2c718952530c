/- What is proved: value.Valid reports what the plain function says. -/
import Derived.Test.YtoopnddlcofhoaaGreatDoorTyScal
import Derived.Test.YtoopnddlcofhoaaGreatDoorVaWrap
import Derived.Test.YtoopnddlcofhoaaGreatDoorVaRow
import Derived.Deep.QuietTactic
import Derived.BigQuiet
set_option linter.unusedVariables false
namespace Go.Proofs.YtoopnddlcofhoaaGreatDoor
open Go.RowKit

/-- numbers that are scalars of these types -/
def fitsZ (W : Int) : List TyV → List Int → Bool
  | [], [] => true
  | t :: ts, n :: ns => scB W (t.kind == 2) n && fitsZ W ts ns
  | _, _ => false
theorem fitsZ_len (W : Int) : ∀ (ts : List TyV) (m : List Int), fitsZ W ts m = true → ts.length = m.length
  | [], [], _ => rfl
  | t :: ts, n :: ns, h => by
    unfold fitsZ at h
    rw [Bool.and_eq_true] at h
    simp [fitsZ_len W ts ns h.2]
  | [], _ :: _, h => by simp [fitsZ] at h
  | _ :: _, [], h => by simp [fitsZ] at h
theorem fitsZ_ne (W : Int) (ts : List TyV) (m : List Int) (h : ts.length ≠ m.length) : fitsZ W ts m = false := by
  cases e : fitsZ W ts m with
  | false => rfl
  | true => exact absurd (fitsZ_len W ts m e) h
theorem fitsZ_bad (W : Int) : ∀ (ts : List TyV) (m : List Int) (k : Nat) (h1 : k < ts.length) (h2 : k < m.length), scB W (ts[k].kind == 2) m[k] = false → fitsZ W ts m = false
  | t :: ts, n :: ns, 0, h1, h2, h => by
    unfold fitsZ
    rw [show scB W (t.kind == 2) n = false from h]; rfl
  | t :: ts, n :: ns, k + 1, h1, h2, h => by
    unfold fitsZ
    rw [fitsZ_bad W ts ns k (by simpa using h1) (by simpa using h2) h, Bool.and_false]
  | [], _, _, h1, _, _ => by simp at h1
  | _ :: _, [], _, _, h2, _ => by simp at h2
theorem fitsZ_all (W : Int) : ∀ (ts : List TyV) (m : List Int), ts.length = m.length → (∀ (k : Nat) (h1 : k < ts.length) (h2 : k < m.length), scB W (ts[k].kind == 2) m[k] = true) → fitsZ W ts m = true
  | [], [], _, _ => rfl
  | t :: ts, n :: ns, hl, h => by
    unfold fitsZ
    rw [show scB W (t.kind == 2) n = true from h 0 (by simp) (by simp), fitsZ_all W ts ns (by simpa using hl) (fun k h1 h2 => h (k + 1) (by simpa using h1) (by simpa using h2))]
    rfl
  | [], _ :: _, hl, _ => by simp at hl
  | _ :: _, [], hl, _ => by simp at hl
theorem fitsZ_get (W : Int) (ts : List TyV) (m : List Int) (h : fitsZ W ts m = true) (k : Nat) (h1 : k < ts.length) (h2 : k < m.length) : scB W (ts[k].kind == 2) m[k] = true := by
  cases e : scB W (ts[k].kind == 2) m[k] with
  | true => rfl
  | false => rw [fitsZ_bad W ts m k h1 h2 e] at h; cases h
/-- is it a value of a type -/
def vlB (W : Int) (t : TyV) (l : List RcV) (m : List Int) : Bool := (decide (2 ≤ W ∧ W ≤ 8) && validB t l) && fitsZ W (scalT [t] l) m
theorem vlB_width {W : Int} {t : TyV} {l : List RcV} {m : List Int} (h : decide (2 ≤ W ∧ W ≤ 8) = false) : vlB W t l m = false := by unfold vlB; rw [h]; rfl
theorem vlB_type {W : Int} {t : TyV} {l : List RcV} {m : List Int} (h : validB t l = false) : vlB W t l m = false := by unfold vlB; rw [h]; simp
theorem vlB_fits {W : Int} {t : TyV} {l : List RcV} {m : List Int} (h : fitsZ W (scalT [t] l) m = false) : vlB W t l m = false := by unfold vlB; rw [h]; simp
theorem vlB_yes {W : Int} {t : TyV} {l : List RcV} {m : List Int} (h1 : decide (2 ≤ W ∧ W ≤ 8) = true) (h2 : validB t l = true) (h3 : fitsZ W (scalT [t] l) m = true) : vlB W t l m = true := by unfold vlB; rw [h1, h2, h3]; rfl
theorem scalT_len (t : TyV) (l : List RcV) (h20 : ∀ r ∈ l, r.flds.length ≤ 20) : (scalT [t] l).length ≤ 20 := by
  unfold scalT
  cases hv : validB t l with
  | false => simp [hv]
  | true => simpa [hv] using parts_len t l hv h20

theorem va_start (t : TyV) (w : World) : ∃ W2, (w.alloc (.cells #[.int .i64 t.kind, .int .i64 t.len, .string t.nm] 23)) = W2 ∧ Below w.heap.size w W2 ∧ W2.heap.size = w.heap.size + 1 ∧ TCells W2 w.heap.size 0 t :=
  ⟨_, rfl, (Below.refl _ _).alloc (Nat.le_refl _) _, by simp, TCells.of_box⟩

set_option maxRecDepth 100000 in
set_option maxHeartbeats 4000000 in
theorem val_any (W : Int) (t : TyV) (A C : Option Addr) (c cc : Nat) (l : List RcV) (m : List Int) (w : World) (hW : IntKind.i64.wrap W = W) (hr : RRow w.heap.size w A l) (hz : ZRow w.heap.size w C m) (hl : l.length ≤ 1000000000) (h20 : ∀ r ∈ l, r.flds.length ≤ 20) (hm : m.length ≤ 9223372036854775807) :
    Calls Tryz.prog 5 #[.int .i64 W, .agg #[.int .i64 t.kind, .int .i64 t.len, .string t.nm], .slice A l.length c, .slice C m.length cc] w fun e w' => e = .returned (.bool (vlB W t l m)) ∧ Below w.heap.size w w' := by
  have HR := Lib.hid hr
  have HL := Lib.hid hz
  have HWW := Lib.hid hW
  have H20 := Lib.hid h20
  clear hr hz hW h20
  obtain ⟨W2, HW2, hb2, hz2, ht2⟩ := va_start t w
  have HB2 := Lib.hid hb2
  have HZ2 := Lib.hid hz2
  have HT2 := Lib.hid ht2
  obtain ⟨c0, c1, c2⟩ := ht2.now
  have HPO := Lib.hid (possible_any W W2)
  clear hb2 hz2 ht2
  cases hw : decide (2 ≤ W ∧ W ≤ 8) with
  | false =>
    have HF := Lib.hid (vlB_width (t := t) (l := l) (m := m) hw)
    rw [hw] at HPO
    clear hw
    go_enter Tryz.func5, Tryz.ntmps5
    go_wp2_with (fail)
    refine HPO.out.mono ?_
    rintro e w3 ⟨rfl, rfl⟩
    go_wp2_with (fail)
    go_ret
    exact ⟨ret_bool HF.out.symm, HB2.out⟩
  | true =>
    rw [hw] at HPO
    have HWD := Lib.hid hw
    clear hw
    cases hv : validB t l with
    | false =>
      have HF := Lib.hid (vlB_type (W := W) (t := t) (l := l) (m := m) hv)
      have HV := Lib.hid (ty_valid_f t A c l W2 false hv (HR.out.later HB2.out) hl)
      clear hv
      go_enter Tryz.func5, Tryz.ntmps5
      go_wp2_with (fail)
      refine HPO.out.mono ?_
      rintro e w3 ⟨rfl, rfl⟩
      go_wp2_with (fail)
      refine HV.out.mono ?_
      rintro e w3 ⟨rfl, hb3⟩
      have HB3 := Lib.hid (HB2.out.trans (hb3.mono HB2.out.size))
      clear hb3
      go_wp2_with (fail)
      go_ret
      exact ⟨ret_bool HF.out.symm, HB3.out⟩
    | true =>
      have HVT := Lib.hid hv
      have HV := Lib.hid (ty_valid_f t A c l W2 true hv (HR.out.later HB2.out) hl)
      clear hv
      go_enter Tryz.func5, Tryz.ntmps5
      go_wp2_with (fail)
      refine HPO.out.mono ?_
      rintro e w3 ⟨rfl, rfl⟩
      go_wp2_with (fail)
      refine HV.out.mono ?_
      rintro e w3 ⟨rfl, hb3⟩
      have HB3 := Lib.hid (HB2.out.trans (hb3.mono HB2.out.size))
      have hz3 : w.heap.size < w3.heap.size := by have := hb3.size; have := HZ2.out; omega
      have HZ3 := Lib.hid hz3
      have HT3 := Lib.hid (HT2.out.below hb3 (by have := HZ2.out; omega))
      clear hb3 hz3 c0 c1 c2
      obtain ⟨c0, c1, c2⟩ := HT3.out.now
      have HS := Lib.hid (fun (W4 : World) (hb : Below w3.heap.size w3 W4) (h0 : TCells W4 w3.heap.size 0 t) (hs : w3.heap.size < W4.heap.size) => scalars_any A (some ⟨w3.heap.size, 0, none⟩) c 1 l [t] W4 ((HR.out.later HB3.out).later hb) (fun _ => ⟨w3.heap.size, 0, rfl, hs, fun i h => by
        obtain rfl : i = 0 := by simpa using h
        exact h0⟩) hl H20.out (by simp))
      have HAL := Lib.hid (box_ty w3 t)
      go_wp2_with (fail)
      clear c0 c1 c2
      have HA1 := Lib.hid HAL.out.1
      have HA2 := Lib.hid HAL.out.2.1
      have HA3 := Lib.hid HAL.out.2.2
      clear HAL
      generalize (w3.alloc (.cells #[.int .i64 t.kind, .int .i64 t.len, .string t.nm] 23)) = w4 at *
      refine (HS.out w4 HA1.out HA2.out (by have := HA3.out; omega)).mono ?_
      rintro e w5 ⟨v, rfl, hown, hb5⟩
      obtain ⟨A5, c5, rfl, hrow⟩ := types_own hown
      have HB5 := Lib.hid (HB3.out.trans ((HA1.out.trans (hb5.mono HA1.out.size)).mono HB3.out.size))
      have HROW := Lib.hid hrow
      have HL5 := Lib.hid (HL.out.later HB5.out)
      clear hown hb5 hrow HS HA1 HA2 HA3 HT3 HT2
      obtain ⟨ts, HTS⟩ : ∃ ts, Hid (scalT [t] l = ts) := ⟨_, Lib.hid rfl⟩
      have htl : ts.length ≤ 20 := by rw [← HTS.out]; exact scalT_len t l H20.out
      rw [HTS.out] at HROW ⊢
      by_cases hne : ts.length = m.length
      · have hne' : ((ts.length : Int) != (m.length : Int)) = false := by simp; omega
        have HNE := Lib.hid hne
        have hml : m.length ≤ 20 := by omega
        clear hne
        go_wp2_with (fail)
        go_loopw [32] (fun i wr => ∃ k : Nat, k ≤ ts.length ∧ i = .int .i64 (k : Int) ∧ Hid (∀ (j : Nat) (h1 : j < ts.length) (h2 : j < m.length), j < k → scB W (ts[j].kind == 2) m[j] = true) ∧ Hid (Below w5.heap.size w5 wr)) (fun i _ => ts.length - (intOf i).toNat)
        case atStart => exact ⟨0, Nat.zero_le _, rfl, Lib.hid (fun j _ _ h => by omega), Lib.hid (Below.refl _ _)⟩
        case round =>
          obtain ⟨k, hk, rfl, hal, hbw⟩ := hrel
          by_cases hlt : k < ts.length
          · have hlt2 : k < m.length := by have := HNE.out; omega
            obtain ⟨b, off, rfl, hb, hcs⟩ := (HROW.out.below hbw.out) (by omega)
            obtain ⟨bl, ol, rfl, hbl, hcl⟩ := (HL5.out.below hbw.out) (by omega)
            obtain ⟨c0, c1, c2⟩ := hcs k hlt
            have cl := hcl k hlt2
            clear hcs hcl
            have hzw := hbw.out.size
            have HOK := Lib.hid (show scB W (ts[k].kind == 2) m[k] = true → ∀ (j : Nat) (h1 : j < ts.length) (h2 : j < m.length), j < k + 1 → scB W (ts[j].kind == 2) m[j] = true from fun h j h1 h2 hj => by
              rcases Nat.lt_or_ge j k with h' | h'
              · exact hal.out j h1 h2 h'
              · obtain rfl : j = k := by omega
                exact h)
            have HNO := Lib.hid (fitsZ_bad W ts m k hlt hlt2)
            generalize ts[k] = x at *
            generalize m[k] = n at *
            obtain ⟨hal1, hc1, hza⟩ := box_ty wr x
            have cla := (hal1.cell (p := ⟨bl, ol + k, none⟩) (by show bl < wr.heap.size; omega)).trans cl
            obtain ⟨d0, d1, d2⟩ := hc1.now
            have HBA := Lib.hid (hbw.out.trans (hal1.mono hzw))
            have HSC := Lib.hid (fun W' : World => scalar_any W n (x.kind == 2) HWW.out W')
            have HD := Lib.hid (And.intro d0 cla)
            clear cl hal1 hc1 hza d0 d1 d2 cla
            go_wp2_with (fail)
            clear c0 c1 c2
            generalize (wr.alloc (.cells #[.int .i64 x.kind, .int .i64 x.len, .string x.nm] 23)) = wa at *
            obtain ⟨d0, cla⟩ := HD.out
            obtain ⟨q, hq⟩ : ∃ q, scB W (x.kind == 2) n = q := ⟨_, rfl⟩
            rw [hq] at HSC
            have hk0 : (0 : Int) ≤ (k : Int) := by omega
            have hk1 : (k : Int) < (m.length : Int) := by omega
            clear HD
            cases q with
            | true =>
              have HY := Lib.hid (HOK.out hq)
              clear hq HOK HNO
              go_wp2_with (fail)
              go_quiet ((go_at_call 17; exact Calls.quiet_of_same (HSC.out _)))
              go_wp2_with (fail)
              exact ⟨⟨k + 1, by omega, by go_num, HY, below_drewN HBA.out _⟩, by simp [intOf]; omega⟩
            | false =>
              have HF := Lib.hid (vlB_fits (W := W) (t := t) (l := l) (m := m) (by rw [HTS.out]; exact HNO.out hq))
              clear hq HOK HNO
              go_wp2_with (fail)
              go_quiet ((go_at_call 17; exact Calls.quiet_of_same (HSC.out _)))
              go_wp2_with (fail)
              go_ret
              exact ⟨ret_bool HF.out.symm, below_drewN (HB5.out.trans (HBA.out.mono HB5.out.size)) _⟩
          · have HF := Lib.hid (vlB_yes (W := W) (t := t) (l := l) (m := m) HWD.out HVT.out (by rw [HTS.out]; exact fitsZ_all W ts m HNE.out (fun j h1 h2 => hal.out j h1 h2 (by omega))))
            go_wp2_with (fail)
            go_ret
            exact ⟨ret_bool HF.out.symm, HB5.out.trans (hbw.out.mono HB5.out.size)⟩
      · have hne' : ((ts.length : Int) != (m.length : Int)) = true := by simp; omega
        have HF := Lib.hid (vlB_fits (W := W) (t := t) (l := l) (m := m) (by rw [HTS.out]; exact fitsZ_ne W ts m hne))
        clear hne
        go_wp2_with (fail)
        go_ret
        exact ⟨ret_bool HF.out.symm, HB5.out⟩
end Go.Proofs.YtoopnddlcofhoaaGreatDoor
