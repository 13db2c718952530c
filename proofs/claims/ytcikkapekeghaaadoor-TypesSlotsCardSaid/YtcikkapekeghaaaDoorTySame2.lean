/- What is proved: EqualFunc over fields, Same. -/
import Derived.Test.YtcikkapekeghaaaDoorTySame
set_option linter.unusedVariables false
namespace Go.Proofs.YtcikkapekeghaaaDoor
open Go.RowKit

/-- two lists of fields are the same -/
def fldsP (l m : List FldV) : Prop := l.length = m.length ∧ ∀ (j : Nat) (h1 : j < l.length) (h2 : j < m.length), fldB l[j] m[j] = true
def Says (P : Prop) (w : World) (e : Ending) (w' : World) : Prop := ∃ r, e = .returned (.bool r) ∧ (r = true ↔ P) ∧ Below w.heap.size w w'
theorem Says.yes {P : Prop} {w w' : World} (h : P) (hb : Below w.heap.size w w') : Says P w (.returned (.bool true)) w' := ⟨true, rfl, ⟨fun _ => h, fun _ => rfl⟩, hb⟩
theorem Says.no {P : Prop} {w w' : World} (h : ¬ P) (hb : Below w.heap.size w w') : Says P w (.returned (.bool false)) w' := ⟨false, rfl, ⟨(fun e => by cases e), fun e => absurd e h⟩, hb⟩
theorem sameField_f (f g : FldV) (w : World) (v : Bool) (hv : fldB f g = v) :
    Calls Tryd.prog 29 #[.agg #[.string f.name, .int .i64 f.ty.kind, .int .i64 f.ty.len, .string f.ty.nm], .agg #[.string g.name, .int .i64 g.ty.kind, .int .i64 g.ty.len, .string g.ty.nm]] w fun e w' => e = .returned (.bool v) ∧ Below w.heap.size w w' := by
  rw [← hv]
  exact sameField_any f g w

set_option maxHeartbeats 2000000 in
theorem equalFunc_any (A B : Option Addr) (c d : Nat) (l m : List FldV) (w : World) (ha : FRow w.heap.size w A l) (hb : FRow w.heap.size w B m) (hl : l.length ≤ 1000000000) (hm : m.length ≤ 1000000000) :
    Calls Tryd.prog 28 #[.slice A l.length c, .slice B m.length d, .func (.func 29) #[] #[]] w (Says (fldsP l m) w) := by
  have H1 := Lib.hid ha
  have H2 := Lib.hid hb
  clear ha hb
  go_enter Tryd.func28, Tryd.ntmps28
  by_cases hlm : l.length = m.length
  · have hne : ((l.length : Int) != (m.length : Int)) = false := by simp; omega
    have HLM := Lib.hid hlm
    clear hlm
    go_wp2_with (fail)
    go_loopw [17] (fun i wr => ∃ k : Nat, k ≤ l.length ∧ i = .int .i64 (k : Int) ∧ Hid (∀ (j : Nat) (h1 : j < l.length) (h2 : j < m.length), j < k → fldB l[j] m[j] = true) ∧ Hid (Below w.heap.size w wr)) (fun i _ => l.length - (intOf i).toNat)
    case atStart => exact ⟨0, Nat.zero_le _, rfl, Lib.hid (fun j _ _ h => absurd h (by omega)), Lib.hid (Below.refl _ _)⟩
    case round =>
      obtain ⟨k, hk, rfl, heq, hbw⟩ := hrel
      by_cases hlt : k < l.length
      · have hlt2 : k < m.length := by have := HLM.out; omega
        obtain ⟨b1, o1, rfl, hb1, hc1⟩ := (H1.out.below hbw.out) (by omega)
        obtain ⟨b2, o2, rfl, hb2, hc2⟩ := (H2.out.below hbw.out) (by omega)
        obtain ⟨c0, c1, c2, c3⟩ := hc1 k hlt
        obtain ⟨d0, d1, d2, d3⟩ := hc2 k hlt2
        clear hc1 hc2
        have HX1 : ∃ x, Hid (l[k] = x) := ⟨_, Lib.hid rfl⟩
        obtain ⟨x, HX1⟩ := HX1
        have HX2 : ∃ y, Hid (m[k] = y) := ⟨_, Lib.hid rfl⟩
        obtain ⟨y, HX2⟩ := HX2
        rw [HX1.out] at c0 c1 c2 c3
        rw [HX2.out] at d0 d1 d2 d3
        have hzw := hbw.out.size
        have hal := (Below.refl wr.heap.size wr).alloc (Nat.le_refl _) (.cells #[.string x.name, .int .i64 x.ty.kind, .int .i64 x.ty.len, .string x.ty.nm] 59)
        obtain ⟨e0, e1, e2, e3⟩ := (show FCells wr b2 (o2 + k * 4) y from ⟨d0, d1, d2, d3⟩).below hal (show b2 < wr.heap.size by omega)
        clear d0 d1 d2 d3 hal
        go_wp2_with (fail)
        clear e0 e1 e2 e3 c0 c1 c2 c3
        obtain ⟨hb0, _, hs0⟩ := box_two wr x y
        generalize ((wr.alloc (.cells #[.string x.name, .int .i64 x.ty.kind, .int .i64 x.ty.len, .string x.ty.nm] 59)).alloc (.cells #[.string y.name, .int .i64 y.ty.kind, .int .i64 y.ty.len, .string y.ty.nm] 59)) = w0 at *
        have HB0 := Lib.hid (hbw.out.trans (hb0.mono hzw))
        clear hb0
        cases hv : fldB x y with
        | true =>
          have HV := Lib.hid hv
          clear hv
          refine (sameField_f x y w0 true HV.out).mono ?_
          rintro e w1 ⟨rfl, hb1⟩
          have HB1 := Lib.hid (HB0.out.trans (hb1.mono (by omega)))
          clear hb1 hs0
          go_wp2_with (fail)
          have HN := Lib.hid (show ∀ (j : Nat) (h1 : j < l.length) (h2 : j < m.length), j < k + 1 → fldB l[j] m[j] = true from fun j h1 h2 hj => by
            rcases Nat.lt_or_ge j k with h' | h'
            · exact heq.out j h1 h2 h'
            · obtain rfl : j = k := by omega
              rw [HX1.out, HX2.out]; exact HV.out)
          exact ⟨⟨k + 1, by omega, by go_num, HN, HB1⟩, by simp [intOf]; omega⟩
        | false =>
          have HV := Lib.hid hv
          clear hv
          refine (sameField_f x y w0 false HV.out).mono ?_
          rintro e w1 ⟨rfl, hb1⟩
          have HB1 := Lib.hid (HB0.out.trans (hb1.mono (by omega)))
          clear hb1 hs0
          go_wp2_with (fail)
          go_ret
          exact Says.no (fun h => by
            have := h.2 k hlt hlt2
            rw [HX1.out, HX2.out, HV.out] at this
            cases this) HB1.out
      · go_wp2_with (fail)
        go_ret
        exact Says.yes ⟨HLM.out, fun j h1 h2 => heq.out j h1 h2 (by omega)⟩ hbw.out
  · have hne : ((l.length : Int) != (m.length : Int)) = true := by simpa using (by omega : ¬ (l.length : Int) = (m.length : Int))
    have HLM := Lib.hid hlm
    clear hlm
    go_wp2_with (fail)
    go_ret
    exact Says.no (fun h => HLM.out h.1) (Below.refl _ _)
/-- two types with their records mean the same -/
def SameP (a : TyV) (ra : List RcV) (b : TyV) (rb : List RcV) : Prop :=
  a = b ∧ validB a ra = true ∧ validB b rb = true ∧ (a.kind = 4 → ∃ r s, fndR ra a.nm = some r ∧ fndR rb b.nm = some s ∧ fldsP r.flds s.flds)
theorem kind4 {t : TyV} {l : List RcV} (h : t.kind = 4) (hv : validB t l = true) : ∃ r, fndR l t.nm = some r := by
  unfold validB at hv
  rw [if_neg (by omega), if_neg (by omega), if_pos h] at hv
  simp only [Bool.and_eq_true] at hv
  exact Option.isSome_iff_exists.1 hv.1
theorem fndR_mem {l : List RcV} {s : ByteArray} {r : RcV} (h : fndR l s = some r) : r ∈ l := List.mem_of_find?_eq_some h
theorem RRow.fields {n₀ : Nat} {w : World} {A : Option Addr} {l : List RcV} (h : RRow n₀ w A l) {r : RcV} (hr : r ∈ l) : FRow n₀ w r.A r.flds ∧ r.flds.length ≤ 1000000000 := by
  obtain ⟨i, hi, rfl⟩ := List.getElem_of_mem hr
  obtain ⟨b, off, _, _, hc⟩ := h (by omega)
  exact (hc i hi).2.2
theorem tyB_ne {a b : TyV} (h : tyB a b = false) : a ≠ b := fun e => by rw [e, tyB_refl] at h; cases h

/-- what lies in two boxes -/
def TwoT (w : World) (b : Nat) (f g : TyV) : Prop := TCells w b 0 f ∧ TCells w (b + 1) 0 g
theorem TwoT.below {B b : Nat} {w w' : World} {f g : TyV} (h : TwoT w b f g) (hb : Below B w w') (hlt : b + 1 < B) : TwoT w' b f g := ⟨h.1.below hb (by omega), h.2.below hb hlt⟩
theorem TwoT.now {w : World} {b : Nat} {f g : TyV} (h : TwoT w b f g) : w.cell? ⟨b, 0, none⟩ = some (.int .i64 f.kind) ∧ w.cell? ⟨b, 1, none⟩ = some (.int .i64 f.len) ∧ w.cell? ⟨b, 2, none⟩ = some (.string f.nm) ∧
    w.cell? ⟨b + 1, 0, none⟩ = some (.int .i64 g.kind) ∧ w.cell? ⟨b + 1, 1, none⟩ = some (.int .i64 g.len) ∧ w.cell? ⟨b + 1, 2, none⟩ = some (.string g.nm) :=
  ⟨h.1.1, h.1.2.1, h.1.2.2, h.2.1, h.2.2.1, h.2.2.2⟩
theorem box_twoT (w : World) (f g : TyV) : Below w.heap.size w ((w.alloc (.cells #[.int .i64 f.kind, .int .i64 f.len, .string f.nm] 27)).alloc (.cells #[.int .i64 g.kind, .int .i64 g.len, .string g.nm] 27)) ∧ TwoT ((w.alloc (.cells #[.int .i64 f.kind, .int .i64 f.len, .string f.nm] 27)).alloc (.cells #[.int .i64 g.kind, .int .i64 g.len, .string g.nm] 27)) w.heap.size f g ∧ ((w.alloc (.cells #[.int .i64 f.kind, .int .i64 f.len, .string f.nm] 27)).alloc (.cells #[.int .i64 g.kind, .int .i64 g.len, .string g.nm] 27)).heap.size = w.heap.size + 2 := by
  refine ⟨((Below.refl _ _).alloc (Nat.le_refl _) _).alloc (by simp) _, ⟨TCells.of_box.below ((Below.refl _ _).alloc (Nat.le_refl _) _) (by simp), ?_⟩, by simp⟩
  have h := TCells.of_box (w := w.alloc (.cells #[.int .i64 f.kind, .int .i64 f.len, .string f.nm] 27)) (x := g)
  rwa [World.size_alloc] at h

set_option maxHeartbeats 2000000 in
/-- the types differ -/
theorem same_ne (a b : TyV) (A B : Option Addr) (c d : Nat) (ra rb : List RcV) (w : World) (h : tyB a b = false) :
    Calls Tryd.prog 18 #[.agg #[.int .i64 a.kind, .int .i64 a.len, .string a.nm], .slice A ra.length c, .agg #[.int .i64 b.kind, .int .i64 b.len, .string b.nm], .slice B rb.length d] w (Says (SameP a ra b rb) w) := by
  have hn := Lib.hid (show ¬ SameP a ra b rb from fun e => tyB_ne h e.1)
  have h3 : (a.kind == b.kind) = false ∨ (a.kind == b.kind) = true ∧ ((a.len == b.len) = false ∨ (a.len == b.len) = true ∧ (a.nm.toList == b.nm.toList) = false) := by
    unfold tyB at h
    cases h1 : (a.kind == b.kind) <;> cases h2 : (a.len == b.len) <;> cases h3 : (a.nm.toList == b.nm.toList) <;> simp [h1, h2, h3] at h <;> simp
  clear h
  rcases h3 with h1 | ⟨h1, h2 | ⟨h2, h3⟩⟩
  all_goals
    go_enter Tryd.func18, Tryd.ntmps18
    go_wp2_with (fail)
    go_ret
    exact Says.no hn.out (((Below.refl _ _).alloc (Nat.le_refl _) _).alloc (by simp) _)

theorem find_yes (A : Option Addr) (c : Nat) (l : List RcV) (s : ByteArray) (r : RcV) (w : World) (hf : fndR l s = some r) (hr : RRow w.heap.size w A l) (hl : l.length ≤ 1000000000) :
    Calls Tryd.prog 22 #[.slice A l.length c, .string s] w fun e w' => e = .returned (.tuple #[.slice r.A r.flds.length r.c, .bool true]) ∧ Below w.heap.size w w' := by
  refine (find_any A c l s w hr hl).mono ?_
  rintro e w' ⟨hb, ⟨h, _⟩ | ⟨r', h, rfl⟩⟩
  · rw [hf] at h; cases h
  · rw [hf] at h
    cases h
    exact ⟨rfl, hb⟩

set_option maxHeartbeats 2000000 in
theorem same_eq (a : TyV) (A B : Option Addr) (c d : Nat) (ra rb : List RcV) (w : World) (hra : RRow w.heap.size w A ra) (hrb : RRow w.heap.size w B rb) (hla : ra.length ≤ 1000000000) (hlb : rb.length ≤ 1000000000) :
    Calls Tryd.prog 18 #[.agg #[.int .i64 a.kind, .int .i64 a.len, .string a.nm], .slice A ra.length c, .agg #[.int .i64 a.kind, .int .i64 a.len, .string a.nm], .slice B rb.length d] w (Says (SameP a ra a rb) w) := by
  have HRA := Lib.hid hra
  have HRB := Lib.hid hrb
  clear hra hrb
  go_enter Tryd.func18, Tryd.ntmps18
  go_wp2_with (fail)
  obtain ⟨hb0, hc0, hs0⟩ := box_twoT w a a
  generalize ((w.alloc (.cells #[.int .i64 a.kind, .int .i64 a.len, .string a.nm] 27)).alloc (.cells #[.int .i64 a.kind, .int .i64 a.len, .string a.nm] 27)) = w0 at *
  have HB0 := Lib.hid hb0
  have HC0 := Lib.hid hc0
  have HS0 := Lib.hid (show w.heap.size + 2 ≤ w0.heap.size by omega)
  clear hb0 hc0 hs0
  cases hv1 : validB a ra with
  | false =>
    have HV1 := Lib.hid hv1
    clear hv1
    refine (valid_f a A c ra w0 false HV1.out (HRA.out.later HB0.out) hla).mono ?_
    rintro e w1 ⟨rfl, hb1⟩
    have HB1 := Lib.hid (HB0.out.trans (hb1.mono (by have := HS0.out; omega)))
    clear hb1
    go_wp2_with (fail)
    go_ret
    exact Says.no (fun h => by have h := h.2.1; rw [HV1.out] at h; cases h) HB1.out
  | true =>
    have HV1 := Lib.hid hv1
    clear hv1
    refine (valid_f a A c ra w0 true HV1.out (HRA.out.later HB0.out) hla).mono ?_
    rintro e w1 ⟨rfl, hb1⟩
    have HB1 := Lib.hid (HB0.out.trans (hb1.mono (by have := HS0.out; omega)))
    have HC1 := Lib.hid (HC0.out.below hb1 (by have := HS0.out; omega))
    have HS1 := Lib.hid (Nat.le_trans HS0.out hb1.size)
    clear hb1
    obtain ⟨c0, c1, c2, d0, d1, d2⟩ := HC1.out.now
    go_wp2_with (fail)
    clear c0 c1 c2 d0 d1 d2
    cases hv2 : validB a rb with
    | false =>
      have HV2 := Lib.hid hv2
      clear hv2
      refine (valid_f a B d rb w1 false HV2.out (HRB.out.later HB1.out) hlb).mono ?_
      rintro e w2 ⟨rfl, hb2⟩
      have HB2 := Lib.hid (HB1.out.trans (hb2.mono (by have := HS1.out; omega)))
      clear hb2
      go_wp2_with (fail)
      go_ret
      exact Says.no (fun h => by have h := h.2.2.1; rw [HV2.out] at h; cases h) HB2.out
    | true =>
      have HV2 := Lib.hid hv2
      clear hv2
      refine (valid_f a B d rb w1 true HV2.out (HRB.out.later HB1.out) hlb).mono ?_
      rintro e w2 ⟨rfl, hb2⟩
      have HB2 := Lib.hid (HB1.out.trans (hb2.mono (by have := HS1.out; omega)))
      have HC2 := Lib.hid (HC1.out.below hb2 (by have := HS1.out; omega))
      have HS2 := Lib.hid (Nat.le_trans HS1.out hb2.size)
      clear hb2
      obtain ⟨c0, c1, c2, d0, d1, d2⟩ := HC2.out.now
      by_cases hk : a.kind = 4
      · have hk' : (a.kind != 4) = false := by simpa using hk
        obtain ⟨r, hr⟩ := kind4 hk HV1.out
        obtain ⟨s, hs⟩ := kind4 hk HV2.out
        have HR := Lib.hid hr
        have HSS := Lib.hid hs
        have HK := Lib.hid hk
        clear hk hr hs
        go_wp2_with (fail)
        clear c0 c1 c2 d0 d1 d2
        refine (find_yes A c ra a.nm r w2 HR.out (HRA.out.later HB2.out) hla).mono ?_
        rintro e w3 ⟨rfl, hb3⟩
        have HB3 := Lib.hid (HB2.out.trans (hb3.mono (by have := HS2.out; omega)))
        have HC3 := Lib.hid (HC2.out.below hb3 (by have := HS2.out; omega))
        have HS3 := Lib.hid (Nat.le_trans HS2.out hb3.size)
        clear hb3
        obtain ⟨c0, c1, c2, d0, d1, d2⟩ := HC3.out.now
        go_wp2_with (fail)
        clear c0 c1 c2 d0 d1 d2
        refine (find_yes B d rb a.nm s w3 HSS.out (HRB.out.later HB3.out) hlb).mono ?_
        rintro e w4 ⟨rfl, hb4⟩
        have HB4 := Lib.hid (HB3.out.trans (hb4.mono (by have := HS3.out; omega)))
        clear hb4
        go_wp2_with (fail)
        have hfr := (HRA.out.later HB4.out).fields (fndR_mem HR.out)
        have hfs := (HRB.out.later HB4.out).fields (fndR_mem HSS.out)
        refine (equalFunc_any r.A s.A r.c s.c r.flds s.flds w4 hfr.1 hfs.1 hfr.2 hfs.2).mono ?_
        rintro e w5 ⟨q, rfl, hq, hb5⟩
        have HQ := Lib.hid hq
        have HB5 := Lib.hid (HB4.out.trans (hb5.mono HB4.out.size))
        clear hb5 hq hfr hfs
        go_wp2_with (fail)
        go_ret
        refine ⟨q, rfl, ⟨fun e => ⟨rfl, HV1.out, HV2.out, fun _ => ⟨r, s, HR.out, HSS.out, HQ.out.1 e⟩⟩, fun h => ?_⟩, HB5.out⟩
        obtain ⟨r', s', h1, h2, h3⟩ := h.2.2.2 HK.out
        rw [HR.out] at h1
        rw [HSS.out] at h2
        cases h1; cases h2
        exact HQ.out.2 h3
      · have hk' : (a.kind != 4) = true := by simpa using hk
        have HK := Lib.hid hk
        clear hk
        go_wp2_with (fail)
        go_ret
        exact Says.yes ⟨rfl, HV1.out, HV2.out, fun h => absurd h HK.out⟩ HB2.out
theorem same_any (a b : TyV) (A B : Option Addr) (c d : Nat) (ra rb : List RcV) (w : World) (hra : RRow w.heap.size w A ra) (hrb : RRow w.heap.size w B rb) (hla : ra.length ≤ 1000000000) (hlb : rb.length ≤ 1000000000) :
    Calls Tryd.prog 18 #[.agg #[.int .i64 a.kind, .int .i64 a.len, .string a.nm], .slice A ra.length c, .agg #[.int .i64 b.kind, .int .i64 b.len, .string b.nm], .slice B rb.length d] w (Says (SameP a ra b rb) w) := by
  cases h : tyB a b with
  | false => exact same_ne a b A B c d ra rb w h
  | true =>
    obtain rfl := tyB_eq h
    exact same_eq a A B c d ra rb w hra hrb hla hlb
theorem same_f (a b : TyV) (A B : Option Addr) (c d : Nat) (ra rb : List RcV) (w : World) (v : Bool) (hv : v = true ↔ SameP a ra b rb) (hra : RRow w.heap.size w A ra) (hrb : RRow w.heap.size w B rb) (hla : ra.length ≤ 1000000000) (hlb : rb.length ≤ 1000000000) :
    Calls Tryd.prog 18 #[.agg #[.int .i64 a.kind, .int .i64 a.len, .string a.nm], .slice A ra.length c, .agg #[.int .i64 b.kind, .int .i64 b.len, .string b.nm], .slice B rb.length d] w fun e w' => e = .returned (.bool v) ∧ Below w.heap.size w w' := by
  refine (same_any a b A B c d ra rb w hra hrb hla hlb).mono ?_
  rintro e w' ⟨r, rfl, hr, hb⟩
  have : r = v := by
    cases r <;> cases v <;> simp_all
  exact ⟨by rw [this], hb⟩

/-- what follows from it -/
theorem fldB_symm {f g : FldV} (h : fldB f g = true) : fldB g f = true := by
  unfold fldB at *
  simp only [Bool.and_eq_true, beq_iff_eq] at *
  exact ⟨h.1.symm, h.2.symm⟩
theorem fldB_refl (f : FldV) : fldB f f = true := by simp [fldB]
theorem fldsP_symm {l m : List FldV} (h : fldsP l m) : fldsP m l := ⟨h.1.symm, fun j h1 h2 => fldB_symm (h.2 j h2 h1)⟩
theorem fldsP_refl (l : List FldV) : fldsP l l := ⟨rfl, fun _ _ _ => fldB_refl _⟩
theorem SameP.symm {a b : TyV} {ra rb : List RcV} (h : SameP a ra b rb) : SameP b rb a ra := by
  obtain ⟨rfl, h1, h2, h3⟩ := h
  exact ⟨rfl, h2, h1, fun hk => by obtain ⟨r, s, hr, hs, hf⟩ := h3 hk; exact ⟨s, r, hs, hr, fldsP_symm hf⟩⟩
theorem SameP.self {a : TyV} {ra : List RcV} : SameP a ra a ra ↔ validB a ra = true :=
  ⟨fun h => h.2.1, fun h => ⟨rfl, h, h, fun hk => by obtain ⟨r, hr⟩ := kind4 hk h; exact ⟨r, r, hr, hr, fldsP_refl _⟩⟩⟩
theorem fldsP_map {l m : List FldV} (h : fldsP l m) : l.map fty = m.map fty := by
  apply List.ext_getElem (by simpa using h.1)
  intro i h1 h2
  simp only [List.getElem_map]
  have h3 := h.2 i (by simpa using h1) (by simpa using h2)
  unfold fldB at h3
  simp only [Bool.and_eq_true, beq_iff_eq] at h3
  rw [fty_eq, fty_eq, h3.2]
theorem SameP.parts {a b : TyV} {ra rb : List RcV} (h : SameP a ra b rb) : partsT a ra = partsT b rb := by
  obtain ⟨rfl, h1, h2, h3⟩ := h
  unfold partsT
  by_cases k3 : a.kind = 3
  · rw [if_pos k3, if_pos k3]
  · rw [if_neg k3, if_neg k3]
    by_cases k4 : a.kind = 4
    · obtain ⟨r, s, hr, hs, hf⟩ := h3 k4
      rw [if_pos k4, if_pos k4, hr, hs]
      exact fldsP_map hf
    · rw [if_neg k4, if_neg k4]

end Go.Proofs.YtcikkapekeghaaaDoor
