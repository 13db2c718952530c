/- What is proved: the checks of kids that row and many return, as function values; a map of such checks. -/
import Derived.Test.YtlpoeflbnpbmgaaGreatDoorTreeSame
import Derived.Test.YtlpoeflbnpbmgaaGreatDoorTreeNum
import Derived.Maps.Own
import Derived.Maps.OwnOps
import Derived.Maps.OwnSet
import Derived.Maps.Views
import Derived.Carry
import Derived.Laws.EntriesVeiled
set_option linter.unusedVariables false
namespace Go.Proofs.YtlpoeflbnpbmgaaGreatDoor
open Go.RowKit

theorem retB {a b : Bool} (h : a = b) : Ending.returned (.bool b) = .returned (.bool a) := by rw [h]

theorem not_take {l : List Int} {x : Int} {k : Nat} (hlt : k < l.length) (h : x ∉ l.take k) (hx : ¬ x = l[k]) : x ∉ l.take (k + 1) := by
  rw [List.take_succ_eq_append_getElem hlt, List.mem_append]
  rintro (h' | h')
  · exact h h'
  · simp at h'
    exact hx h'
set_option maxHeartbeats 400000 in
theorem index_any (A : Option Addr) (c : Nat) (l : List Int) (x : Int) (w : World) (hr : IRow w.heap.size w A l) (hl : l.length ≤ 1000000000) :
    Calls Tryz.prog 67 #[.slice A l.length c, .int .i64 x] w fun e w' => ∃ r : Int, e = .returned (.int .i64 r) ∧ decide (0 ≤ r) = decide (x ∈ l) ∧ -1 ≤ r ∧ w = w' := by
  have HW := Lib.hid hr
  clear hr
  go_enter Tryz.func67, Tryz.ntmps67
  go_wp2_with (fail)
  go_loop [8] (fun i => ∃ k : Nat, k ≤ l.length ∧ i = .int .i64 (k : Int) ∧ Hid (x ∉ l.take k)) (fun i => l.length - (intOf i).toNat)
  case atStart => exact ⟨0, Nat.zero_le _, rfl, (show x ∉ l.take 0 by simp)⟩
  case round =>
    obtain ⟨k, hk, rfl, hno⟩ := hrel
    by_cases hlt : k < l.length
    · obtain ⟨b, off, rfl, hb, hcs⟩ := HW.out (by omega)
      have c0 := hcs k hlt
      clear hcs
      by_cases hx : x = l[k]
      · have hm := Lib.hid (show x ∈ l from hx ▸ List.getElem_mem hlt)
        have hxb : (x == l[k]) = true := by simpa using hx
        clear hx
        generalize l[k] = y at *
        go_wp2_with (fail)
        go_ret
        exact ⟨k, rfl, by have := hm.out; simp [this], by omega, rfl⟩
      · have hxb : (x == l[k]) = false := by simpa using hx
        have HN := Lib.hid (show x ∉ l.take (k + 1) from not_take hlt hno.out hx)
        clear hx
        generalize l[k] = y at *
        go_wp2_with (fail)
        exact ⟨⟨k + 1, by omega, by go_num, HN⟩, by simp [intOf]; omega⟩
    · have e : l.take k = l := List.take_of_length_le (by omega)
      rw [e] at hno
      clear e
      go_wp2_with (fail)
      go_ret
      exact ⟨-1, rfl, by have := hno.out; simp [this], by omega, rfl⟩
theorem contains_any (A : Option Addr) (c : Nat) (l : List Int) (x : Int) (w : World) (hr : IRow w.heap.size w A l) (hl : l.length ≤ 1000000000) :
    Calls Tryz.prog 50 #[.slice A l.length c, .int .i64 x] w fun e w' => e = .returned (.bool (decide (x ∈ l))) ∧ w = w' := by
  have HX := Lib.hid (index_any A c l x w hr hl)
  clear hr
  go_enter Tryz.func50, Tryz.ntmps50
  go_wp2_with (fail)
  refine HX.out.mono ?_
  rintro e w' ⟨r, rfl, hr, _, rfl⟩
  have HR := Lib.hid hr
  clear hr
  go_wp2_with (fail)
  go_ret
  exact ⟨retB HR.out.symm, rfl⟩

/-- the classes -/
def exprB (n : NT) : Bool := decide (20 ≤ n.kind ∧ n.kind ≤ 29)
def stmtB (n : NT) : Bool := decide (12 ≤ n.kind ∧ n.kind ≤ 19)
def basicB (n : NT) : Bool := n.kind == 9 && (n.text.toList == [105, 110, 116] || n.text.toList == [98, 111, 111, 108])
def retOkB (n : NT) : Bool := n.kind == 0 || exprB n
def kindB (ks : List Int) (n : NT) : Bool := decide (n.kind ∈ ks)

theorem expression_any (n : NT) (w : World) : Calls Tryz.prog 60 #[.agg #[.int .i64 n.kind, .string n.text, .int .i64 n.lo, .int .i64 n.hi, .slice n.A n.kids.length n.c]] w fun e w' => e = .returned (.bool (exprB n)) ∧ Below w.heap.size w w' := by
  by_cases h1 : 20 ≤ n.kind
  · by_cases h2 : n.kind ≤ 29
    · go_enter Tryz.func60, Tryz.ntmps60
      go_wp2_with (fail)
      go_ret
      exact ⟨by simp [exprB, h1, h2], (Below.refl _ _).alloc (Nat.le_refl _) _⟩
    · have h2' : decide (n.kind ≤ 29) = false := by simpa using h2
      have hv := Lib.hid (show exprB n = false by simp [exprB]; omega)
      clear h2
      go_enter Tryz.func60, Tryz.ntmps60
      go_wp2_with (fail)
      go_ret
      exact ⟨retB hv.out, (Below.refl _ _).alloc (Nat.le_refl _) _⟩
  · have h1' : decide (20 ≤ n.kind) = false := by simpa using h1
    have hv := Lib.hid (show exprB n = false by simp [exprB]; omega)
    clear h1
    go_enter Tryz.func60, Tryz.ntmps60
    go_wp2_with (fail)
    go_ret
    exact ⟨retB hv.out, (Below.refl _ _).alloc (Nat.le_refl _) _⟩
theorem statement_any (n : NT) (w : World) : Calls Tryz.prog 59 #[.agg #[.int .i64 n.kind, .string n.text, .int .i64 n.lo, .int .i64 n.hi, .slice n.A n.kids.length n.c]] w fun e w' => e = .returned (.bool (stmtB n)) ∧ Below w.heap.size w w' := by
  by_cases h1 : 12 ≤ n.kind
  · by_cases h2 : n.kind ≤ 19
    · go_enter Tryz.func59, Tryz.ntmps59
      go_wp2_with (fail)
      go_ret
      exact ⟨by simp [stmtB, h1, h2], (Below.refl _ _).alloc (Nat.le_refl _) _⟩
    · have h2' : decide (n.kind ≤ 19) = false := by simpa using h2
      have hv := Lib.hid (show stmtB n = false by simp [stmtB]; omega)
      clear h2
      go_enter Tryz.func59, Tryz.ntmps59
      go_wp2_with (fail)
      go_ret
      exact ⟨retB hv.out, (Below.refl _ _).alloc (Nat.le_refl _) _⟩
  · have h1' : decide (12 ≤ n.kind) = false := by simpa using h1
    have hv := Lib.hid (show stmtB n = false by simp [stmtB]; omega)
    clear h1
    go_enter Tryz.func59, Tryz.ntmps59
    go_wp2_with (fail)
    go_ret
    exact ⟨retB hv.out, (Below.refl _ _).alloc (Nat.le_refl _) _⟩
theorem basic_any (n : NT) (w : World) : Calls Tryz.prog 58 #[.agg #[.int .i64 n.kind, .string n.text, .int .i64 n.lo, .int .i64 n.hi, .slice n.A n.kids.length n.c]] w fun e w' => e = .returned (.bool (basicB n)) ∧ Below w.heap.size w w' := by
  cases h1 : (n.kind == 9) with
  | false =>
    have hv := Lib.hid (show basicB n = false by simp only [basicB, h1]; rfl)
    go_enter Tryz.func58, Tryz.ntmps58
    go_wp2_with (fail)
    go_ret
    exact ⟨retB hv.out, (Below.refl _ _).alloc (Nat.le_refl _) _⟩
  | true =>
    cases h2 : (n.text.toList == [105, 110, 116]) with
    | true =>
      have hv := Lib.hid (show basicB n = true by simp only [basicB, h1, h2]; rfl)
      go_enter Tryz.func58, Tryz.ntmps58
      go_wp2_with (fail)
      go_ret
      exact ⟨retB hv.out, (Below.refl _ _).alloc (Nat.le_refl _) _⟩
    | false =>
      have hv := Lib.hid (show basicB n = (n.text.toList == [98, 111, 111, 108]) by simp only [basicB, h1, h2]; simp)
      go_enter Tryz.func58, Tryz.ntmps58
      go_wp2_with (fail)
      go_ret
      exact ⟨retB hv.out, (Below.refl _ _).alloc (Nat.le_refl _) _⟩
theorem retOk_any (n : NT) (w : World) : Calls Tryz.prog 61 #[.agg #[.int .i64 n.kind, .string n.text, .int .i64 n.lo, .int .i64 n.hi, .slice n.A n.kids.length n.c]] w fun e w' => e = .returned (.bool (retOkB n)) ∧ Below w.heap.size w w' := by
  cases h1 : (n.kind == 0) with
  | true =>
    have hv := Lib.hid (show retOkB n = true by simp only [retOkB, h1]; rfl)
    go_enter Tryz.func61, Tryz.ntmps61
    go_wp2_with (fail)
    go_ret
    exact ⟨retB hv.out, (Below.refl _ _).alloc (Nat.le_refl _) _⟩
  | false =>
    have hv := Lib.hid (show retOkB n = exprB n by simp only [retOkB, h1]; rfl)
    have HX := Lib.hid (fun w1 => expression_any n w1)
    go_enter Tryz.func61, Tryz.ntmps61
    go_wp2_with (fail)
    refine (HX.out _).mono ?_
    rintro e w' ⟨rfl, hb⟩
    go_wp2_with (fail)
    go_ret
    exact ⟨retB hv.out, ((Below.refl _ _).alloc (Nat.le_refl _) _).trans (hb.mono (by simp))⟩

/-- a box of numbers, and the class of the nodes of these kinds -/
theorem kinds_any (n : NT) (B : Nat) (A : Option Addr) (c : Nat) (ks : List Int) (w : World) (hB : B < w.heap.size) (hb : w.cell? ⟨B, 0, none⟩ = some (.slice A ks.length c)) (hr : IRow w.heap.size w A ks) (hl : ks.length ≤ 1000000000) :
    Calls Tryz.prog 49 #[.agg #[.int .i64 n.kind, .string n.text, .int .i64 n.lo, .int .i64 n.hi, .slice n.A n.kids.length n.c], .pointer (some ⟨B, 0, none⟩)] w fun e w' => e = .returned (.bool (kindB ks n)) ∧ Below w.heap.size w w' := by
  have hba := (Below.refl w.heap.size w).alloc (Nat.le_refl _) (.cells #[.int .i64 n.kind, .string n.text, .int .i64 n.lo, .int .i64 n.hi, .slice n.A n.kids.length n.c] 24)
  have hb' : (w.alloc (.cells #[.int .i64 n.kind, .string n.text, .int .i64 n.lo, .int .i64 n.hi, .slice n.A n.kids.length n.c] 24)).cell? ⟨B, 0, none⟩ = some (.slice A ks.length c) := (hba.cell (p := ⟨B, 0, none⟩) hB).trans hb
  have HC := Lib.hid (contains_any A c ks n.kind _ (hr.later hba) hl)
  have HBA := Lib.hid hba
  clear hb hr hba
  go_enter Tryz.func49, Tryz.ntmps49
  go_wp2_with (fail)
  refine HC.out.mono ?_
  rintro e w' ⟨rfl, rfl⟩
  go_wp2_with (fail)
  go_ret
  exact ⟨rfl, HBA.out⟩

/-- a class as a function value -/
def Cls (w : World) (v : Value) (p : NT → Bool) : Prop :=
  (∃ B A c ks, v = .func (.func 49) #[] #[.pointer (some ⟨B, 0, none⟩)] ∧ B < w.heap.size ∧ w.cell? ⟨B, 0, none⟩ = some (.slice A (List.length ks) c) ∧ IRow w.heap.size w A ks ∧ ks.length ≤ 1000000000 ∧ p = kindB ks) ∨
  (v = .func (.func 60) #[] #[] ∧ p = exprB) ∨ (v = .func (.func 59) #[] #[] ∧ p = stmtB) ∨ (v = .func (.func 58) #[] #[] ∧ p = basicB) ∨ (v = .func (.func 61) #[] #[] ∧ p = retOkB)
theorem Cls.later {w w' : World} {v : Value} {p : NT → Bool} (h : Cls w v p) (hb : Below w.heap.size w w') : Cls w' v p := by
  rcases h with ⟨B, A, c, ks, h1, h2, h3, h4, h5, h6⟩ | h
  · exact .inl ⟨B, A, c, ks, h1, by have := hb.size; omega, (hb.cell (p := ⟨B, 0, none⟩) h2).trans h3, h4.later hb, h5, h6⟩
  · exact .inr h

set_option maxHeartbeats 1000000 in
/-- row$1: a class at a node -/
theorem fits_any (n : NT) (v : Value) (p : NT → Bool) (w : World) (hc : Cls w v p) :
    Calls Tryz.prog 81 #[.agg #[.int .i64 n.kind, .string n.text, .int .i64 n.lo, .int .i64 n.hi, .slice n.A n.kids.length n.c], v] w fun e w' => e = .returned (.bool (p n)) ∧ Below w.heap.size w w' := by
  have hba := (Below.refl w.heap.size w).alloc (Nat.le_refl _) (.cells #[.int .i64 n.kind, .string n.text, .int .i64 n.lo, .int .i64 n.hi, .slice n.A n.kids.length n.c] 24)
  have hc' := hc.later hba
  have HBA := Lib.hid hba
  clear hba hc
  rcases hc' with ⟨B, A, c, ks, rfl, h2, h3, h4, h5, rfl⟩ | ⟨rfl, rfl⟩ | ⟨rfl, rfl⟩ | ⟨rfl, rfl⟩ | ⟨rfl, rfl⟩
  · have HK := Lib.hid (kinds_any n B A c ks _ h2 h3 h4 h5)
    clear h2 h3 h4
    go_enter Tryz.func81, Tryz.ntmps81
    go_wp2_with (fail)
    refine HK.out.mono ?_
    rintro e w' ⟨rfl, hb⟩
    go_wp2_with (fail)
    go_ret
    exact ⟨rfl, HBA.out.trans (hb.mono (by simp))⟩
  · go_enter Tryz.func81, Tryz.ntmps81
    go_wp2_with (fail)
    refine (expression_any n _).mono ?_
    rintro e w' ⟨rfl, hb⟩
    go_wp2_with (fail)
    go_ret
    exact ⟨rfl, HBA.out.trans (hb.mono (by simp))⟩
  · go_enter Tryz.func81, Tryz.ntmps81
    go_wp2_with (fail)
    refine (statement_any n _).mono ?_
    rintro e w' ⟨rfl, hb⟩
    go_wp2_with (fail)
    go_ret
    exact ⟨rfl, HBA.out.trans (hb.mono (by simp))⟩
  · go_enter Tryz.func81, Tryz.ntmps81
    go_wp2_with (fail)
    refine (basic_any n _).mono ?_
    rintro e w' ⟨rfl, hb⟩
    go_wp2_with (fail)
    go_ret
    exact ⟨rfl, HBA.out.trans (hb.mono (by simp))⟩
  · go_enter Tryz.func81, Tryz.ntmps81
    go_wp2_with (fail)
    refine (retOk_any n _).mono ?_
    rintro e w' ⟨rfl, hb⟩
    go_wp2_with (fail)
    go_ret
    exact ⟨rfl, HBA.out.trans (hb.mono (by simp))⟩

/-- a predicate as a function value that captures one variable -/
def PredAt1 (w : World) (g B : Nat) (p : NT → Bool) : Prop := ∀ (W : World) (x : NT), Below w.heap.size w W → Calls Tryz.prog g #[.agg #[.int .i64 x.kind, .string x.text, .int .i64 x.lo, .int .i64 x.hi, .slice x.A x.kids.length x.c], .pointer (some ⟨B, 0, none⟩)] W fun e w' => e = .returned (.bool (p x)) ∧ Below W.heap.size W w'

set_option maxHeartbeats 1000000 in
theorem indexP_any (A : Option Addr) (c : Nat) (l : List NT) (B : Nat) (p : NT → Bool) (w : World) (hp : PredAt1 w 84 B p) (hr : Row w.heap.size w A l) (hl : l.length ≤ 1000000000) :
    Calls Tryz.prog 98 #[.slice A l.length c, .func (.func 84) #[] #[.pointer (some ⟨B, 0, none⟩)]] w fun e w' => ∃ r : Int, e = .returned (.int .i64 r) ∧ decide (0 ≤ r) = l.any p ∧ Below w.heap.size w w' := by
  have HP := Lib.hid hp
  have HW := Lib.hid hr
  clear hp hr
  go_enter Tryz.func98, Tryz.ntmps98
  go_wp2_with (fail)
  go_loopw [8] (fun i wr => ∃ k : Nat, k ≤ l.length ∧ i = .int .i64 (k : Int) ∧ Hid ((l.take k).any p = false) ∧ Hid (Below w.heap.size w wr)) (fun i _ => l.length - (intOf i).toNat)
  case atStart => exact ⟨0, Nat.zero_le _, rfl, rfl, Below.refl _ _⟩
  case round =>
    obtain ⟨k, hk, rfl, hno, hbw⟩ := hrel
    have hzw := hbw.out.size
    by_cases hlt : k < l.length
    · obtain ⟨b, off, rfl, hb, hcs⟩ := (HW.out.below hbw.out) (by omega)
      obtain ⟨c0, c1, c2, c3, c4⟩ := hcs k hlt
      clear hcs
      obtain ⟨x, HX⟩ : ∃ x, Hid (l[k] = x) := ⟨_, Lib.hid rfl⟩
      rw [HX.out] at c0 c1 c2 c3 c4
      go_wp2_with (fail)
      refine (HP.out _ x hbw.out).mono ?_
      rintro e w' ⟨rfl, hb2⟩
      have HB2 := Lib.hid (hbw.out.trans (hb2.mono hzw))
      clear hb2
      cases hh : p x with
      | true =>
        have HH := Lib.hid (show l.any p = true from List.any_eq_true.2 ⟨l[k], List.getElem_mem hlt, by rw [HX.out]; exact hh⟩)
        clear hh
        go_wp2_with (fail)
        go_ret
        exact ⟨_, rfl, by rw [HH.out]; simp, HB2.out⟩
      | false =>
        have HN := Lib.hid (show (l.take (k + 1)).any p = false by rw [List.take_succ_eq_append_getElem hlt, List.any_append, hno.out, HX.out]; simp [hh])
        clear hh
        go_wp2_with (fail)
        exact ⟨⟨k + 1, by omega, by go_num, HN, HB2⟩, by simp [intOf]; omega⟩
    · have e : l.take k = l := List.take_of_length_le (by omega)
      rw [e] at hno
      clear e
      go_wp2_with (fail)
      go_ret
      exact ⟨-1, rfl, by rw [hno.out]; rfl, hbw.out⟩
theorem containsP_any (A : Option Addr) (c : Nat) (l : List NT) (B : Nat) (p : NT → Bool) (w : World) (hp : PredAt1 w 84 B p) (hr : Row w.heap.size w A l) (hl : l.length ≤ 1000000000) :
    Calls Tryz.prog 86 #[.slice A l.length c, .func (.func 84) #[] #[.pointer (some ⟨B, 0, none⟩)]] w fun e w' => e = .returned (.bool (l.any p)) ∧ Below w.heap.size w w' := by
  have HX := Lib.hid (indexP_any A c l B p w hp hr hl)
  clear hp hr
  go_enter Tryz.func86, Tryz.ntmps86
  go_wp2_with (fail)
  refine HX.out.mono ?_
  rintro e w' ⟨r, rfl, hr, hb⟩
  have HR := Lib.hid hr
  clear hr
  go_wp2_with (fail)
  go_ret
  exact ⟨retB HR.out.symm, hb⟩

set_option maxHeartbeats 1000000 in
/-- many$1: not the class -/
theorem other_any (n : NT) (B : Nat) (v : Value) (p : NT → Bool) (w : World) (hB : B < w.heap.size) (hb : w.cell? ⟨B, 0, none⟩ = some v) (hc : Cls w v p) :
    Calls Tryz.prog 84 #[.agg #[.int .i64 n.kind, .string n.text, .int .i64 n.lo, .int .i64 n.hi, .slice n.A n.kids.length n.c], .pointer (some ⟨B, 0, none⟩)] w fun e w' => e = .returned (.bool (!p n)) ∧ Below w.heap.size w w' := by
  have hba := (Below.refl w.heap.size w).alloc (Nat.le_refl _) (.cells #[.int .i64 n.kind, .string n.text, .int .i64 n.lo, .int .i64 n.hi, .slice n.A n.kids.length n.c] 24)
  have hc' := hc.later hba
  have hb' : (w.alloc (.cells #[.int .i64 n.kind, .string n.text, .int .i64 n.lo, .int .i64 n.hi, .slice n.A n.kids.length n.c] 24)).cell? ⟨B, 0, none⟩ = some v := (hba.cell (p := ⟨B, 0, none⟩) hB).trans hb
  have HBA := Lib.hid hba
  clear hba hc hb
  rcases hc' with ⟨B, A, c, ks, rfl, h2, h3, h4, h5, rfl⟩ | ⟨rfl, rfl⟩ | ⟨rfl, rfl⟩ | ⟨rfl, rfl⟩ | ⟨rfl, rfl⟩
  · have HK := Lib.hid (kinds_any n B A c ks _ h2 h3 h4 h5)
    clear h2 h3 h4
    go_enter Tryz.func84, Tryz.ntmps84
    go_wp2_with (fail)
    refine HK.out.mono ?_
    rintro e w' ⟨rfl, hb⟩
    go_wp2_with (fail)
    go_ret
    exact ⟨rfl, HBA.out.trans (hb.mono (by simp))⟩
  · go_enter Tryz.func84, Tryz.ntmps84
    go_wp2_with (fail)
    refine (expression_any n _).mono ?_
    rintro e w' ⟨rfl, hb⟩
    go_wp2_with (fail)
    go_ret
    exact ⟨rfl, HBA.out.trans (hb.mono (by simp))⟩
  · go_enter Tryz.func84, Tryz.ntmps84
    go_wp2_with (fail)
    refine (statement_any n _).mono ?_
    rintro e w' ⟨rfl, hb⟩
    go_wp2_with (fail)
    go_ret
    exact ⟨rfl, HBA.out.trans (hb.mono (by simp))⟩
  · go_enter Tryz.func84, Tryz.ntmps84
    go_wp2_with (fail)
    refine (basic_any n _).mono ?_
    rintro e w' ⟨rfl, hb⟩
    go_wp2_with (fail)
    go_ret
    exact ⟨rfl, HBA.out.trans (hb.mono (by simp))⟩
  · go_enter Tryz.func84, Tryz.ntmps84
    go_wp2_with (fail)
    refine (retOk_any n _).mono ?_
    rintro e w' ⟨rfl, hb⟩
    go_wp2_with (fail)
    go_ret
    exact ⟨rfl, HBA.out.trans (hb.mono (by simp))⟩

/-- many$2: at least so many kids, all of a class -/
def manyB (m : Int) (p : NT → Bool) (l : List NT) : Bool := decide (m ≤ (l.length : Int)) && l.all p
set_option maxHeartbeats 1000000 in
theorem manyKids_any (A : Option Addr) (c : Nat) (l : List NT) (B C D : Nat) (m : Int) (v : Value) (p : NT → Bool) (w : World) (hB : B < w.heap.size) (hb : w.cell? ⟨B, 0, none⟩ = some (.int .i64 m)) (hC : C < w.heap.size) (hcc : w.cell? ⟨C, 0, none⟩ = some (.func (.func 84) #[] #[.pointer (some ⟨D, 0, none⟩)])) (hD : D < w.heap.size) (hdd : w.cell? ⟨D, 0, none⟩ = some v) (hc : Cls w v p) (hr : Row w.heap.size w A l) (hl : l.length ≤ 1000000000) :
    Calls Tryz.prog 85 #[.slice A l.length c, .pointer (some ⟨B, 0, none⟩), .pointer (some ⟨C, 0, none⟩)] w fun e w' => e = .returned (.bool (manyB m p l)) ∧ Below w.heap.size w w' := by
  have HX := Lib.hid (containsP_any A c l D (fun n => !p n) w (fun W x hW => other_any x D v p W (by have := hW.size; omega) ((hW.cell (p := ⟨D, 0, none⟩) hD).trans hdd) (hc.later hW)) hr hl)
  have HE := Lib.hid (show (!l.any fun n => !p n) = l.all p by rw [List.all_eq_not_any_not])
  clear hc hr hdd
  by_cases h1 : m ≤ (l.length : Int)
  · have hv := Lib.hid (show manyB m p l = l.all p by simp [manyB, h1])
    go_enter Tryz.func85, Tryz.ntmps85
    go_wp2_with (fail)
    refine HX.out.mono ?_
    rintro e w' ⟨rfl, hb⟩
    have HB := Lib.hid hb
    clear hb
    go_wp2_with (fail)
    go_ret
    exact ⟨retB (hv.out.trans HE.out.symm), HB.out⟩
  · have h1' : decide (m ≤ (l.length : Int)) = false := by simpa using h1
    have hv := Lib.hid (show manyB m p l = false by simp [manyB]; omega)
    clear h1
    go_enter Tryz.func85, Tryz.ntmps85
    go_wp2_with (fail)
    go_ret
    exact ⟨retB hv.out, Below.refl _ _⟩
end Go.Proofs.YtlpoeflbnpbmgaaGreatDoor
set_option linter.unusedVariables false
namespace Go.Proofs.YtlpoeflbnpbmgaaGreatDoor
open Go.RowKit Go.Maps

/-- what cells held they hold -/
def Keeps (w w' : World) : Prop := w.heap.size ≤ w'.heap.size ∧ ∀ (p : Addr) (v : Value), w.cell? p = some v → w'.cell? p = some v
theorem Keeps.of_below {w w' : World} (h : Below w.heap.size w w') : Keeps w w' := ⟨h.size, fun p v hp => (h.cell (World.block_lt_of_cell? w _ hp)).trans hp⟩
theorem Keeps.trans {a b c : World} (h : Keeps a b) (k : Keeps b c) : Keeps a c := ⟨Nat.le_trans h.1 k.1, fun p v hp => k.2 p v (h.2 p v hp)⟩
theorem Keeps.of_map {w w' : World} {b : Nat} {es : Array MapEntry} {c : Nat} (hm : w.heap[b]? = some (.map es c)) (hg : w.grownBy w' (some b)) : Keeps w w' := ⟨hg.size, fun p v hp => by
  have hlt := World.block_lt_of_cell? w _ hp
  have hne : p.block ≠ b := fun e => by
    subst e
    simp [World.cell?, hm] at hp
  exact (hg.cell_far p hlt (fun e => hne (by cases e; rfl))).trans hp⟩
theorem IRow.keeps {w w' : World} {A : Option Addr} {l : List Int} (h : IRow w.heap.size w A l) (hk : Keeps w w') : IRow w'.heap.size w' A l := fun h0 => by
  obtain ⟨b, off, hA, hlt, hc⟩ := h h0
  exact ⟨b, off, hA, by have := hk.1; omega, fun i hi => hk.2 _ _ (hc i hi)⟩
theorem Cls.keeps {w w' : World} {v : Value} {p : NT → Bool} (h : Cls w v p) (hk : Keeps w w') : Cls w' v p := by
  rcases h with ⟨B, A, c, ks, h1, h2, h3, h4, h5, h6⟩ | h
  · exact .inl ⟨B, A, c, ks, h1, by have := hk.1; omega, hk.2 _ _ h3, h4.keeps hk, h5, h6⟩
  · exact .inr h

/-- a slice's address where classes lie -/
def CRow (w : World) (A : Option Addr) (ps : List (NT → Bool)) : Prop :=
  0 < ps.length → ∃ b off, A = some ⟨b, off, none⟩ ∧ b < w.heap.size ∧ ∀ (i : Nat) (h : i < ps.length), ∃ v, w.cell? ⟨b, off + i, none⟩ = some v ∧ Cls w v ps[i]
theorem CRow.keeps {w w' : World} {A : Option Addr} {ps : List (NT → Bool)} (h : CRow w A ps) (hk : Keeps w w') : CRow w' A ps := fun h0 => by
  obtain ⟨b, off, hA, hlt, hc⟩ := h h0
  refine ⟨b, off, hA, by have := hk.1; omega, fun i hi => ?_⟩
  obtain ⟨v, h1, h2⟩ := hc i hi
  exact ⟨v, hk.2 _ _ h1, h2.keeps hk⟩

/-- one kid of each class -/
def rowB : List (NT → Bool) → List NT → Bool
  | [], [] => true
  | p :: ps, x :: xs => p x && rowB ps xs
  | _, _ => false
theorem rowB_len (ps : List (NT → Bool)) (l : List NT) (h : l.length ≠ ps.length) : rowB ps l = false := by
  induction ps generalizing l with
  | nil => cases l with
    | nil => simp at h
    | cons y ys => rfl
  | cons p ps ih => cases l with
    | nil => rfl
    | cons y ys => simp only [rowB]; rw [ih ys (by simpa using h)]; simp
theorem rowB_iff (ps : List (NT → Bool)) (l : List NT) (h : l.length = ps.length) : rowB ps l = true ↔ ∀ (i : Nat) (h1 : i < l.length), (ps[i]'(by omega)) l[i] = true := by
  induction ps generalizing l with
  | nil => cases l with
    | nil => simp [rowB]
    | cons y ys => simp at h
  | cons p ps ih => cases l with
    | nil => simp at h
    | cons y ys =>
      simp only [rowB, Bool.and_eq_true]
      rw [ih ys (by simpa using h)]
      constructor
      · intro ⟨h1, h2⟩ i hi
        cases i with
        | zero => exact h1
        | succ i => exact h2 i (by simpa using hi)
      · intro h1
        exact ⟨h1 0 (by simp), fun i hi => h1 (i + 1) (by simpa using hi)⟩

set_option maxHeartbeats 1000000 in
theorem equalC_any (A C : Option Addr) (c d : Nat) (l : List NT) (ps : List (NT → Bool)) (w : World) (hra : Row w.heap.size w A l) (hrc : CRow w C ps) (hl : l.length ≤ 1000000000) (hp : ps.length ≤ 1000000000) :
    Calls Tryz.prog 83 #[.slice A l.length c, .slice C ps.length d, .func (.func 81) #[] #[]] w fun e w' => e = .returned (.bool (rowB ps l)) ∧ Below w.heap.size w w' := by
  have HA := Lib.hid hra
  have HC := Lib.hid hrc
  clear hra hrc
  by_cases hlen : l.length = ps.length
  · have hle : ((l.length : Int) != (ps.length : Int)) = false := by simp [hlen]
    have HL := Lib.hid hlen
    clear hlen
    go_enter Tryz.func83, Tryz.ntmps83
    go_wp2_with (fail)
    go_loopw [17] (fun i wr => ∃ k : Nat, k ≤ l.length ∧ i = .int .i64 (k : Int) ∧ Hid (∀ (j : Nat) (h : j < l.length) (h2 : j < ps.length), j < k → ps[j] l[j] = true) ∧ Hid (Below w.heap.size w wr)) (fun i _ => l.length - (intOf i).toNat)
    case atStart => exact ⟨0, Nat.zero_le _, rfl, (fun j _ _ h => absurd h (by omega) : ∀ (j : Nat) (h : j < l.length) (h2 : j < ps.length), j < 0 → ps[j] l[j] = true), Below.refl _ _⟩
    case round =>
      obtain ⟨k, hk, rfl, hall, hbw⟩ := hrel
      have hzw := hbw.out.size
      by_cases hlt : k < l.length
      · have hltm : k < ps.length := by have := HL.out; omega
        obtain ⟨b, off, rfl, hb, hcs⟩ := (HA.out.below hbw.out) (by omega)
        obtain ⟨c0, c1, c2, c3, c4⟩ := hcs k hlt
        obtain ⟨b', off', rfl, hb', hcs'⟩ := (HC.out.keeps (Keeps.of_below hbw.out)) (by omega)
        obtain ⟨v, d0, hcl⟩ := hcs' k hltm
        have HCL := Lib.hid hcl
        clear hcs hcs' hcl
        obtain ⟨x, HX⟩ : ∃ x, Hid (l[k] = x) := ⟨_, Lib.hid rfl⟩
        obtain ⟨p, HP⟩ : ∃ p, Hid (ps[k] = p) := ⟨_, Lib.hid rfl⟩
        rw [HX.out] at c0 c1 c2 c3 c4
        rw [HP.out] at HCL
        have hltm' : (k : Int) < (ps.length : Int) := by omega
        have hba := (Below.refl wr.heap.size wr).alloc (Nat.le_refl _) (.cells #[.int .i64 x.kind, .string x.text, .int .i64 x.lo, .int .i64 x.hi, .slice x.A x.kids.length x.c] 24)
        have HF := Lib.hid (fits_any x v p _ (HCL.out.later hba))
        have HBA := Lib.hid hba
        clear hba
        have hv : ∃ g lb, v = .func (.func g) #[] lb := by
          rcases HCL.out with ⟨B, A, c, ks, rfl, _⟩ | ⟨rfl, _⟩ | ⟨rfl, _⟩ | ⟨rfl, _⟩ | ⟨rfl, _⟩ <;> exact ⟨_, _, rfl⟩
        obtain ⟨g, lb, rfl⟩ := hv
        go_wp2_with (fail)
        refine HF.out.mono ?_
        rintro e w2 ⟨rfl, hb2⟩
        have hz2 := hb2.size
        simp at hz2
        have HB2 := Lib.hid (hbw.out.trans ((HBA.out.trans (hb2.mono (by simp))).mono hzw))
        clear hb2
        cases hh : p x with
        | true =>
          have HN := Lib.hid (show ∀ (j : Nat) (h : j < l.length) (h2 : j < ps.length), j < k + 1 → ps[j] l[j] = true from fun j h h2 hj => by
            rcases Nat.lt_or_ge j k with h' | h'
            · exact hall.out j h h2 h'
            · obtain rfl : j = k := by omega
              rw [HX.out, HP.out]; exact hh)
          clear hh
          go_wp2_with (fail)
          exact ⟨⟨k + 1, by omega, by go_num, HN, HB2⟩, by simp [intOf]; omega⟩
        | false =>
          have HS := Lib.hid (show rowB ps l = false by
            rw [Bool.eq_false_iff]
            intro e
            have := (rowB_iff ps l HL.out).1 e k hlt
            rw [HX.out, HP.out, hh] at this
            cases this)
          clear hh
          go_wp2_with (fail)
          go_ret
          exact ⟨retB HS.out, HB2.out⟩
      · have HS := Lib.hid ((rowB_iff ps l HL.out).2 (fun i hi => hall.out i hi (by have := HL.out; omega) (by omega)))
        go_wp2_with (fail)
        go_ret
        exact ⟨retB HS.out, hbw.out⟩
  · have hle : ((l.length : Int) != (ps.length : Int)) = true := by simp; omega
    have HS := Lib.hid (rowB_len ps l hlen)
    clear hlen
    go_enter Tryz.func83, Tryz.ntmps83
    go_wp2_with (fail)
    go_ret
    exact ⟨retB HS.out, Below.refl _ _⟩

/-- row$2: one kid of each class -/
theorem rowKids_any (A C : Option Addr) (c d : Nat) (l : List NT) (B D : Nat) (ps : List (NT → Bool)) (w : World) (hb : w.cell? ⟨B, 0, none⟩ = some (.slice C ps.length d)) (hd : w.cell? ⟨D, 0, none⟩ = some (.func (.func 81) #[] #[])) (hrc : CRow w C ps) (hr : Row w.heap.size w A l) (hl : l.length ≤ 1000000000) (hp : ps.length ≤ 1000000000) :
    Calls Tryz.prog 82 #[.slice A l.length c, .pointer (some ⟨B, 0, none⟩), .pointer (some ⟨D, 0, none⟩)] w fun e w' => e = .returned (.bool (rowB ps l)) ∧ Below w.heap.size w w' := by
  have HX := Lib.hid (equalC_any A C c d l ps w hr hrc hl hp)
  clear hr hrc
  go_enter Tryz.func82, Tryz.ntmps82
  go_wp2_with (fail)
  refine HX.out.mono ?_
  rintro e w' ⟨rfl, hb⟩
  go_wp2_with (fail)
  go_ret
  exact ⟨rfl, hb⟩

/-- a check of kids as a function value -/
def Chk (w : World) (v : Value) (P : List NT → Bool) : Prop :=
  (∃ (B D : Nat) (C : Option Addr) (d : Nat) (ps : List (NT → Bool)), v = .func (.func 82) #[] #[.pointer (some ⟨B, 0, none⟩), .pointer (some ⟨D, 0, none⟩)] ∧ w.cell? ⟨B, 0, none⟩ = some (.slice C ps.length d) ∧ w.cell? ⟨D, 0, none⟩ = some (.func (.func 81) #[] #[]) ∧ CRow w C ps ∧ ps.length ≤ 1000000000 ∧ P = rowB ps) ∨
  (∃ (B C D : Nat) (m : Int) (u : Value) (p : NT → Bool), v = .func (.func 85) #[] #[.pointer (some ⟨B, 0, none⟩), .pointer (some ⟨C, 0, none⟩)] ∧ w.cell? ⟨B, 0, none⟩ = some (.int .i64 m) ∧ w.cell? ⟨C, 0, none⟩ = some (.func (.func 84) #[] #[.pointer (some ⟨D, 0, none⟩)]) ∧ w.cell? ⟨D, 0, none⟩ = some u ∧ Cls w u p ∧ P = manyB m p)
theorem Chk.keeps {w w' : World} {v : Value} {P : List NT → Bool} (h : Chk w v P) (hk : Keeps w w') : Chk w' v P := by
  rcases h with ⟨B, D, C, d, ps, h1, h2, h3, h4, h5, h6⟩ | ⟨B, C, D, m, u, p, h1, h2, h3, h4, h5, h6⟩
  · exact .inl ⟨B, D, C, d, ps, h1, hk.2 _ _ h2, hk.2 _ _ h3, h4.keeps hk, h5, h6⟩
  · exact .inr ⟨B, C, D, m, u, p, h1, hk.2 _ _ h2, hk.2 _ _ h3, hk.2 _ _ h4, h5.keeps hk, h6⟩

/-- a class of some kinds, of a slice that was just laid -/
theorem of_lit (W : World) (ks : List Int) (cs : Array Value) (hcs : cs.toList = ks.map (Value.int .i64)) (hl : ks.length ≤ 1000000000) :
    Calls Tryz.prog 36 #[.slice (some ⟨W.heap.size, 0, none⟩) ks.length ks.length] (W.alloc (.cells cs 3)) fun e w' => e = .returned (.func (.func 49) #[] #[.pointer (some ⟨W.heap.size + 1, 0, none⟩)]) ∧ Cls w' (.func (.func 49) #[] #[.pointer (some ⟨W.heap.size + 1, 0, none⟩)]) (kindB ks) ∧ Below W.heap.size W w' := by
  have hr : IRow (W.alloc (.cells cs 3)).heap.size (W.alloc (.cells cs 3)) (some ⟨W.heap.size, 0, none⟩) ks := fun h0 => by
    refine ⟨W.heap.size, 0, rfl, by simp, fun i hi => ?_⟩
    have h := World.news_of_block (heap_alloc_new W (.cells cs 3)) i (.int .i64 ks[i]) (by rw [hcs]; simp [List.getElem?_eq_getElem hi])
    rwa [addr_add] at h
  have hz := World.size_alloc W (.cells cs 3)
  have hb := (Below.refl W.heap.size W).alloc (Nat.le_refl _) (.cells cs 3)
  generalize W.alloc (.cells cs 3) = V at *
  have HR := Lib.hid hr
  have HB := Lib.hid hb
  clear hr hb hcs
  rw [← hz]
  have HZ := Lib.hid hz
  clear hz
  go_enter Tryz.func36, Tryz.ntmps36
  go_wp2_with (fail)
  go_ret
  have hb2 := (Below.refl V.heap.size V).alloc (Nat.le_refl _) (.cells #[.slice (some ⟨W.heap.size, 0, none⟩) ks.length ks.length] 84)
  exact ⟨rfl, .inl ⟨V.heap.size, _, _, ks, rfl, by simp, Lib.cell_of_heap (heap_alloc_new V _) 0, HR.out.later hb2, hl, rfl⟩, HB.out.alloc (by have := HZ.out; omega) _⟩

/-- values that are classes -/
def AllC (w : World) : List Value → List (NT → Bool) → Prop
  | [], [] => True
  | v :: vs, p :: ps => Cls w v p ∧ AllC w vs ps
  | _, _ => False
theorem AllC.get {w : World} : ∀ (vs : List Value) (ps : List (NT → Bool)), AllC w vs ps → vs.length = ps.length ∧ ∀ (i : Nat) (h : i < ps.length), ∃ v, vs[i]? = some v ∧ Cls w v ps[i]
  | [], [], _ => ⟨rfl, fun i h => absurd h (by simp)⟩
  | v :: vs, p :: ps, ⟨h1, h2⟩ => by
    obtain ⟨g1, g2⟩ := AllC.get vs ps h2
    refine ⟨by simp [g1], fun i hi => ?_⟩
    cases i with
    | zero => exact ⟨v, rfl, h1⟩
    | succ i => exact g2 i (by simpa using hi)
/-- row of a slice of classes that was just laid -/
theorem row_lit (W : World) (vs : Array Value) (ps : List (NT → Bool)) (h : AllC W vs.toList ps) (hl : ps.length ≤ 1000000000) :
    Calls Tryz.prog 56 #[.slice (some ⟨W.heap.size, 0, none⟩) ps.length ps.length] (W.alloc (.cells vs 72)) fun e w' => e = .returned (.func (.func 82) #[] #[.pointer (some ⟨W.heap.size + 1, 0, none⟩), .pointer (some ⟨W.heap.size + 2, 0, none⟩)]) ∧ Chk w' (.func (.func 82) #[] #[.pointer (some ⟨W.heap.size + 1, 0, none⟩), .pointer (some ⟨W.heap.size + 2, 0, none⟩)]) (rowB ps) ∧ Below W.heap.size W w' := by
  have hb := (Below.refl W.heap.size W).alloc (Nat.le_refl _) (.cells vs 72)
  have hr : CRow (W.alloc (.cells vs 72)) (some ⟨W.heap.size, 0, none⟩) ps := fun h0 => by
    obtain ⟨g1, g2⟩ := AllC.get _ _ h
    refine ⟨W.heap.size, 0, rfl, by simp, fun i hi => ?_⟩
    obtain ⟨v, hv, hc⟩ := g2 i hi
    have h := World.news_of_block (heap_alloc_new W (.cells vs 72)) i v hv
    rw [addr_add] at h
    exact ⟨v, h, hc.keeps (Keeps.of_below hb)⟩
  have hz := World.size_alloc W (.cells vs 72)
  generalize W.alloc (.cells vs 72) = V at *
  have HR := Lib.hid hr
  have HB := Lib.hid hb
  clear hr hb h
  rw [show W.heap.size + 2 = V.heap.size + 1 by omega, ← hz]
  have HZ := Lib.hid hz
  clear hz
  go_enter Tryz.func56, Tryz.ntmps56
  go_wp2_with (fail)
  go_ret
  have hb2 := ((Below.refl V.heap.size V).alloc (Nat.le_refl _) (.cells #[.slice (some ⟨W.heap.size, 0, none⟩) ps.length ps.length] 114)).alloc (by simp) (.cells #[.func (.func 81) #[] #[]] 71)
  have q1 : ((V.alloc (.cells #[.slice (some ⟨W.heap.size, 0, none⟩) ps.length ps.length] 114)).alloc (.cells #[.func (.func 81) #[] #[]] 71)).heap[V.heap.size]? = some (.cells #[.slice (some ⟨W.heap.size, 0, none⟩) ps.length ps.length] 114 (0, 0)) := (heap_alloc_old _ _ (by simp)).trans (heap_alloc_new V _)
  have q2 : ((V.alloc (.cells #[.slice (some ⟨W.heap.size, 0, none⟩) ps.length ps.length] 114)).alloc (.cells #[.func (.func 81) #[] #[]] 71)).heap[V.heap.size + 1]? = some (.cells #[.func (.func 81) #[] #[]] 71 (0, 0)) := by
    have h := heap_alloc_new (V.alloc (.cells #[.slice (some ⟨W.heap.size, 0, none⟩) ps.length ps.length] 114)) (.cells #[.func (.func 81) #[] #[]] 71)
    rwa [World.size_alloc] at h
  exact ⟨rfl, .inl ⟨V.heap.size, V.heap.size + 1, _, _, ps, rfl, Lib.cell_of_heap q1 0, Lib.cell_of_heap q2 0, HR.out.keeps (Keeps.of_below hb2), hl, rfl⟩, (HB.out.alloc (by have := HZ.out; omega) _).alloc (by have := HZ.out; simp; omega) _⟩
end Go.Proofs.YtlpoeflbnpbmgaaGreatDoor
