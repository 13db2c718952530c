/- What is proved: the classes of nodes, as function values; IndexFunc and ContainsFunc over them; the checks of kids that row and many return. -/
import Derived.Test.YtjikfdifcpdhhaaTreeSame
import Derived.Test.YtjikfdifcpdhhaaTreeNum
set_option linter.unusedVariables false
namespace Go.Proofs.Ytjikfdifcpdhhaa
open Go.RowKit

theorem retB {a b : Bool} (h : a = b) : Ending.returned (.bool b) = .returned (.bool a) := by rw [h]

theorem not_take {l : List Int} {x : Int} {k : Nat} (hlt : k < l.length) (h : x ∉ l.take k) (hx : ¬ x = l[k]) : x ∉ l.take (k + 1) := by
  rw [List.take_succ_eq_append_getElem hlt, List.mem_append]
  rintro (h' | h')
  · exact h h'
  · simp at h'
    exact hx h'
set_option maxHeartbeats 400000 in
theorem index_any (A : Option Addr) (c : Nat) (l : List Int) (x : Int) (w : World) (hr : IRow w.heap.size w A l) (hl : l.length ≤ 1000000000) :
    Calls Try.prog 76 #[.slice A l.length c, .int .i64 x] w fun e w' => ∃ r : Int, e = .returned (.int .i64 r) ∧ decide (0 ≤ r) = decide (x ∈ l) ∧ -1 ≤ r ∧ w = w' := by
  have HW := Lib.hid hr
  clear hr
  go_enter Try.func76, Try.ntmps76
  go_wp2_with (fail)
  go_loop [8] (fun i => ∃ k : Nat, k ≤ l.length ∧ i = .int .i64 (k : Int) ∧ Hid (x ∉ l.take k)) (fun i => l.length - (intOf i).toNat)
  case atStart => exact ⟨0, Nat.zero_le _, rfl, (show x ∉ l.take 0 by simp)⟩
  case round =>
    obtain ⟨k, hk, rfl, hno⟩ := hrel
    by_cases hlt : k < l.length
    · obtain ⟨b, off, rfl, hb, hcs⟩ := HW.out (by omega)
      have c0 := hcs k hlt
      clear hcs
      by_cases hx : x = l[k]
      · have hm := Lib.hid (show x ∈ l from hx ▸ List.getElem_mem hlt)
        have hxb : (x == l[k]) = true := by simpa using hx
        clear hx
        generalize l[k] = y at *
        go_wp2_with (fail)
        go_ret
        exact ⟨k, rfl, by have := hm.out; simp [this], by omega, rfl⟩
      · have hxb : (x == l[k]) = false := by simpa using hx
        have HN := Lib.hid (show x ∉ l.take (k + 1) from not_take hlt hno.out hx)
        clear hx
        generalize l[k] = y at *
        go_wp2_with (fail)
        exact ⟨⟨k + 1, by omega, by go_num, HN⟩, by simp [intOf]; omega⟩
    · have e : l.take k = l := List.take_of_length_le (by omega)
      rw [e] at hno
      clear e
      go_wp2_with (fail)
      go_ret
      exact ⟨-1, rfl, by have := hno.out; simp [this], by omega, rfl⟩
theorem contains_any (A : Option Addr) (c : Nat) (l : List Int) (x : Int) (w : World) (hr : IRow w.heap.size w A l) (hl : l.length ≤ 1000000000) :
    Calls Try.prog 62 #[.slice A l.length c, .int .i64 x] w fun e w' => e = .returned (.bool (decide (x ∈ l))) ∧ w = w' := by
  have HX := Lib.hid (index_any A c l x w hr hl)
  clear hr
  go_enter Try.func62, Try.ntmps62
  go_wp2_with (fail)
  refine HX.out.mono ?_
  rintro e w' ⟨r, rfl, hr, _, rfl⟩
  have HR := Lib.hid hr
  clear hr
  go_wp2_with (fail)
  go_ret
  exact ⟨retB HR.out.symm, rfl⟩

/-- the classes -/
def exprB (n : NT) : Bool := decide (20 ≤ n.kind ∧ n.kind ≤ 29)
def stmtB (n : NT) : Bool := decide (12 ≤ n.kind ∧ n.kind ≤ 19)
def basicB (n : NT) : Bool := n.kind == 9 && (n.text.toList == [105, 110, 116] || n.text.toList == [98, 111, 111, 108])
def retOkB (n : NT) : Bool := n.kind == 0 || exprB n
def kindB (ks : List Int) (n : NT) : Bool := decide (n.kind ∈ ks)

theorem expression_any (n : NT) (w : World) : Calls Try.prog 45 #[.agg #[.int .i64 n.kind, .string n.text, .int .i64 n.lo, .int .i64 n.hi, .slice n.A n.kids.length n.c]] w fun e w' => e = .returned (.bool (exprB n)) ∧ Below w.heap.size w w' := by
  by_cases h1 : 20 ≤ n.kind
  · by_cases h2 : n.kind ≤ 29
    · go_enter Try.func45, Try.ntmps45
      go_wp2_with (fail)
      go_ret
      exact ⟨by simp [exprB, h1, h2], (Below.refl _ _).alloc (Nat.le_refl _) _⟩
    · have h2' : decide (n.kind ≤ 29) = false := by simpa using h2
      have hv := Lib.hid (show exprB n = false by simp [exprB]; omega)
      clear h2
      go_enter Try.func45, Try.ntmps45
      go_wp2_with (fail)
      go_ret
      exact ⟨retB hv.out, (Below.refl _ _).alloc (Nat.le_refl _) _⟩
  · have h1' : decide (20 ≤ n.kind) = false := by simpa using h1
    have hv := Lib.hid (show exprB n = false by simp [exprB]; omega)
    clear h1
    go_enter Try.func45, Try.ntmps45
    go_wp2_with (fail)
    go_ret
    exact ⟨retB hv.out, (Below.refl _ _).alloc (Nat.le_refl _) _⟩
theorem statement_any (n : NT) (w : World) : Calls Try.prog 47 #[.agg #[.int .i64 n.kind, .string n.text, .int .i64 n.lo, .int .i64 n.hi, .slice n.A n.kids.length n.c]] w fun e w' => e = .returned (.bool (stmtB n)) ∧ Below w.heap.size w w' := by
  by_cases h1 : 12 ≤ n.kind
  · by_cases h2 : n.kind ≤ 19
    · go_enter Try.func47, Try.ntmps47
      go_wp2_with (fail)
      go_ret
      exact ⟨by simp [stmtB, h1, h2], (Below.refl _ _).alloc (Nat.le_refl _) _⟩
    · have h2' : decide (n.kind ≤ 19) = false := by simpa using h2
      have hv := Lib.hid (show stmtB n = false by simp [stmtB]; omega)
      clear h2
      go_enter Try.func47, Try.ntmps47
      go_wp2_with (fail)
      go_ret
      exact ⟨retB hv.out, (Below.refl _ _).alloc (Nat.le_refl _) _⟩
  · have h1' : decide (12 ≤ n.kind) = false := by simpa using h1
    have hv := Lib.hid (show stmtB n = false by simp [stmtB]; omega)
    clear h1
    go_enter Try.func47, Try.ntmps47
    go_wp2_with (fail)
    go_ret
    exact ⟨retB hv.out, (Below.refl _ _).alloc (Nat.le_refl _) _⟩
theorem basic_any (n : NT) (w : World) : Calls Try.prog 71 #[.agg #[.int .i64 n.kind, .string n.text, .int .i64 n.lo, .int .i64 n.hi, .slice n.A n.kids.length n.c]] w fun e w' => e = .returned (.bool (basicB n)) ∧ Below w.heap.size w w' := by
  cases h1 : (n.kind == 9) with
  | false =>
    have hv := Lib.hid (show basicB n = false by simp only [basicB, h1]; rfl)
    go_enter Try.func71, Try.ntmps71
    go_wp2_with (fail)
    go_ret
    exact ⟨retB hv.out, (Below.refl _ _).alloc (Nat.le_refl _) _⟩
  | true =>
    cases h2 : (n.text.toList == [105, 110, 116]) with
    | true =>
      have hv := Lib.hid (show basicB n = true by simp only [basicB, h1, h2]; rfl)
      go_enter Try.func71, Try.ntmps71
      go_wp2_with (fail)
      go_ret
      exact ⟨retB hv.out, (Below.refl _ _).alloc (Nat.le_refl _) _⟩
    | false =>
      have hv := Lib.hid (show basicB n = (n.text.toList == [98, 111, 111, 108]) by simp only [basicB, h1, h2]; simp)
      go_enter Try.func71, Try.ntmps71
      go_wp2_with (fail)
      go_ret
      exact ⟨retB hv.out, (Below.refl _ _).alloc (Nat.le_refl _) _⟩
theorem retOk_any (n : NT) (w : World) : Calls Try.prog 72 #[.agg #[.int .i64 n.kind, .string n.text, .int .i64 n.lo, .int .i64 n.hi, .slice n.A n.kids.length n.c]] w fun e w' => e = .returned (.bool (retOkB n)) ∧ Below w.heap.size w w' := by
  cases h1 : (n.kind == 0) with
  | true =>
    have hv := Lib.hid (show retOkB n = true by simp only [retOkB, h1]; rfl)
    go_enter Try.func72, Try.ntmps72
    go_wp2_with (fail)
    go_ret
    exact ⟨retB hv.out, (Below.refl _ _).alloc (Nat.le_refl _) _⟩
  | false =>
    have hv := Lib.hid (show retOkB n = exprB n by simp only [retOkB, h1]; rfl)
    have HX := Lib.hid (fun w1 => expression_any n w1)
    go_enter Try.func72, Try.ntmps72
    go_wp2_with (fail)
    refine (HX.out _).mono ?_
    rintro e w' ⟨rfl, hb⟩
    go_wp2_with (fail)
    go_ret
    exact ⟨retB hv.out, ((Below.refl _ _).alloc (Nat.le_refl _) _).trans (hb.mono (by simp))⟩

/-- a box of numbers, and the class of the nodes of these kinds -/
theorem kinds_any (n : NT) (B : Nat) (A : Option Addr) (c : Nat) (ks : List Int) (w : World) (hB : B < w.heap.size) (hb : w.cell? ⟨B, 0, none⟩ = some (.slice A ks.length c)) (hr : IRow w.heap.size w A ks) (hl : ks.length ≤ 1000000000) :
    Calls Try.prog 61 #[.agg #[.int .i64 n.kind, .string n.text, .int .i64 n.lo, .int .i64 n.hi, .slice n.A n.kids.length n.c], .pointer (some ⟨B, 0, none⟩)] w fun e w' => e = .returned (.bool (kindB ks n)) ∧ Below w.heap.size w w' := by
  have hba := (Below.refl w.heap.size w).alloc (Nat.le_refl _) (.cells #[.int .i64 n.kind, .string n.text, .int .i64 n.lo, .int .i64 n.hi, .slice n.A n.kids.length n.c] 24)
  have hb' : (w.alloc (.cells #[.int .i64 n.kind, .string n.text, .int .i64 n.lo, .int .i64 n.hi, .slice n.A n.kids.length n.c] 24)).cell? ⟨B, 0, none⟩ = some (.slice A ks.length c) := (hba.cell (p := ⟨B, 0, none⟩) hB).trans hb
  have HC := Lib.hid (contains_any A c ks n.kind _ (hr.later hba) hl)
  have HBA := Lib.hid hba
  clear hb hr hba
  go_enter Try.func61, Try.ntmps61
  go_wp2_with (fail)
  refine HC.out.mono ?_
  rintro e w' ⟨rfl, rfl⟩
  go_wp2_with (fail)
  go_ret
  exact ⟨rfl, HBA.out⟩

/-- a class as a function value -/
def Cls (w : World) (v : Value) (p : NT → Bool) : Prop :=
  (∃ B A c ks, v = .func (.func 61) #[] #[.pointer (some ⟨B, 0, none⟩)] ∧ B < w.heap.size ∧ w.cell? ⟨B, 0, none⟩ = some (.slice A (List.length ks) c) ∧ IRow w.heap.size w A ks ∧ ks.length ≤ 1000000000 ∧ p = kindB ks) ∨
  (v = .func (.func 45) #[] #[] ∧ p = exprB) ∨ (v = .func (.func 47) #[] #[] ∧ p = stmtB) ∨ (v = .func (.func 71) #[] #[] ∧ p = basicB) ∨ (v = .func (.func 72) #[] #[] ∧ p = retOkB)
theorem Cls.later {w w' : World} {v : Value} {p : NT → Bool} (h : Cls w v p) (hb : Below w.heap.size w w') : Cls w' v p := by
  rcases h with ⟨B, A, c, ks, h1, h2, h3, h4, h5, h6⟩ | h
  · exact .inl ⟨B, A, c, ks, h1, by have := hb.size; omega, (hb.cell (p := ⟨B, 0, none⟩) h2).trans h3, h4.later hb, h5, h6⟩
  · exact .inr h

set_option maxHeartbeats 1000000 in
/-- row$1: a class at a node -/
theorem fits_any (n : NT) (v : Value) (p : NT → Bool) (w : World) (hc : Cls w v p) :
    Calls Try.prog 82 #[.agg #[.int .i64 n.kind, .string n.text, .int .i64 n.lo, .int .i64 n.hi, .slice n.A n.kids.length n.c], v] w fun e w' => e = .returned (.bool (p n)) ∧ Below w.heap.size w w' := by
  have hba := (Below.refl w.heap.size w).alloc (Nat.le_refl _) (.cells #[.int .i64 n.kind, .string n.text, .int .i64 n.lo, .int .i64 n.hi, .slice n.A n.kids.length n.c] 24)
  have hc' := hc.later hba
  have HBA := Lib.hid hba
  clear hba hc
  rcases hc' with ⟨B, A, c, ks, rfl, h2, h3, h4, h5, rfl⟩ | ⟨rfl, rfl⟩ | ⟨rfl, rfl⟩ | ⟨rfl, rfl⟩ | ⟨rfl, rfl⟩
  · have HK := Lib.hid (kinds_any n B A c ks _ h2 h3 h4 h5)
    clear h2 h3 h4
    go_enter Try.func82, Try.ntmps82
    go_wp2_with (fail)
    refine HK.out.mono ?_
    rintro e w' ⟨rfl, hb⟩
    go_wp2_with (fail)
    go_ret
    exact ⟨rfl, HBA.out.trans (hb.mono (by simp))⟩
  · go_enter Try.func82, Try.ntmps82
    go_wp2_with (fail)
    refine (expression_any n _).mono ?_
    rintro e w' ⟨rfl, hb⟩
    go_wp2_with (fail)
    go_ret
    exact ⟨rfl, HBA.out.trans (hb.mono (by simp))⟩
  · go_enter Try.func82, Try.ntmps82
    go_wp2_with (fail)
    refine (statement_any n _).mono ?_
    rintro e w' ⟨rfl, hb⟩
    go_wp2_with (fail)
    go_ret
    exact ⟨rfl, HBA.out.trans (hb.mono (by simp))⟩
  · go_enter Try.func82, Try.ntmps82
    go_wp2_with (fail)
    refine (basic_any n _).mono ?_
    rintro e w' ⟨rfl, hb⟩
    go_wp2_with (fail)
    go_ret
    exact ⟨rfl, HBA.out.trans (hb.mono (by simp))⟩
  · go_enter Try.func82, Try.ntmps82
    go_wp2_with (fail)
    refine (retOk_any n _).mono ?_
    rintro e w' ⟨rfl, hb⟩
    go_wp2_with (fail)
    go_ret
    exact ⟨rfl, HBA.out.trans (hb.mono (by simp))⟩

/-- a predicate as a function value that captures one variable -/
def PredAt1 (w : World) (g B : Nat) (p : NT → Bool) : Prop := ∀ (W : World) (x : NT), Below w.heap.size w W → Calls Try.prog g #[.agg #[.int .i64 x.kind, .string x.text, .int .i64 x.lo, .int .i64 x.hi, .slice x.A x.kids.length x.c], .pointer (some ⟨B, 0, none⟩)] W fun e w' => e = .returned (.bool (p x)) ∧ Below W.heap.size W w'

set_option maxHeartbeats 1000000 in
theorem indexP_any (A : Option Addr) (c : Nat) (l : List NT) (B : Nat) (p : NT → Bool) (w : World) (hp : PredAt1 w 85 B p) (hr : Row w.heap.size w A l) (hl : l.length ≤ 1000000000) :
    Calls Try.prog 53 #[.slice A l.length c, .func (.func 85) #[] #[.pointer (some ⟨B, 0, none⟩)]] w fun e w' => ∃ r : Int, e = .returned (.int .i64 r) ∧ decide (0 ≤ r) = l.any p ∧ Below w.heap.size w w' := by
  have HP := Lib.hid hp
  have HW := Lib.hid hr
  clear hp hr
  go_enter Try.func53, Try.ntmps53
  go_wp2_with (fail)
  go_loopw [8] (fun i wr => ∃ k : Nat, k ≤ l.length ∧ i = .int .i64 (k : Int) ∧ Hid ((l.take k).any p = false) ∧ Hid (Below w.heap.size w wr)) (fun i _ => l.length - (intOf i).toNat)
  case atStart => exact ⟨0, Nat.zero_le _, rfl, rfl, Below.refl _ _⟩
  case round =>
    obtain ⟨k, hk, rfl, hno, hbw⟩ := hrel
    have hzw := hbw.out.size
    by_cases hlt : k < l.length
    · obtain ⟨b, off, rfl, hb, hcs⟩ := (HW.out.below hbw.out) (by omega)
      obtain ⟨c0, c1, c2, c3, c4⟩ := hcs k hlt
      clear hcs
      obtain ⟨x, HX⟩ : ∃ x, Hid (l[k] = x) := ⟨_, Lib.hid rfl⟩
      rw [HX.out] at c0 c1 c2 c3 c4
      go_wp2_with (fail)
      refine (HP.out _ x hbw.out).mono ?_
      rintro e w' ⟨rfl, hb2⟩
      have HB2 := Lib.hid (hbw.out.trans (hb2.mono hzw))
      clear hb2
      cases hh : p x with
      | true =>
        have HH := Lib.hid (show l.any p = true from List.any_eq_true.2 ⟨l[k], List.getElem_mem hlt, by rw [HX.out]; exact hh⟩)
        clear hh
        go_wp2_with (fail)
        go_ret
        exact ⟨_, rfl, by rw [HH.out]; simp, HB2.out⟩
      | false =>
        have HN := Lib.hid (show (l.take (k + 1)).any p = false by rw [List.take_succ_eq_append_getElem hlt, List.any_append, hno.out, HX.out]; simp [hh])
        clear hh
        go_wp2_with (fail)
        exact ⟨⟨k + 1, by omega, by go_num, HN, HB2⟩, by simp [intOf]; omega⟩
    · have e : l.take k = l := List.take_of_length_le (by omega)
      rw [e] at hno
      clear e
      go_wp2_with (fail)
      go_ret
      exact ⟨-1, rfl, by rw [hno.out]; rfl, hbw.out⟩
theorem containsP_any (A : Option Addr) (c : Nat) (l : List NT) (B : Nat) (p : NT → Bool) (w : World) (hp : PredAt1 w 85 B p) (hr : Row w.heap.size w A l) (hl : l.length ≤ 1000000000) :
    Calls Try.prog 87 #[.slice A l.length c, .func (.func 85) #[] #[.pointer (some ⟨B, 0, none⟩)]] w fun e w' => e = .returned (.bool (l.any p)) ∧ Below w.heap.size w w' := by
  have HX := Lib.hid (indexP_any A c l B p w hp hr hl)
  clear hp hr
  go_enter Try.func87, Try.ntmps87
  go_wp2_with (fail)
  refine HX.out.mono ?_
  rintro e w' ⟨r, rfl, hr, hb⟩
  have HR := Lib.hid hr
  clear hr
  go_wp2_with (fail)
  go_ret
  exact ⟨retB HR.out.symm, hb⟩

set_option maxHeartbeats 1000000 in
/-- many$1: not the class -/
theorem other_any (n : NT) (B : Nat) (v : Value) (p : NT → Bool) (w : World) (hB : B < w.heap.size) (hb : w.cell? ⟨B, 0, none⟩ = some v) (hc : Cls w v p) :
    Calls Try.prog 85 #[.agg #[.int .i64 n.kind, .string n.text, .int .i64 n.lo, .int .i64 n.hi, .slice n.A n.kids.length n.c], .pointer (some ⟨B, 0, none⟩)] w fun e w' => e = .returned (.bool (!p n)) ∧ Below w.heap.size w w' := by
  have hba := (Below.refl w.heap.size w).alloc (Nat.le_refl _) (.cells #[.int .i64 n.kind, .string n.text, .int .i64 n.lo, .int .i64 n.hi, .slice n.A n.kids.length n.c] 24)
  have hc' := hc.later hba
  have hb' : (w.alloc (.cells #[.int .i64 n.kind, .string n.text, .int .i64 n.lo, .int .i64 n.hi, .slice n.A n.kids.length n.c] 24)).cell? ⟨B, 0, none⟩ = some v := (hba.cell (p := ⟨B, 0, none⟩) hB).trans hb
  have HBA := Lib.hid hba
  clear hba hc hb
  rcases hc' with ⟨B, A, c, ks, rfl, h2, h3, h4, h5, rfl⟩ | ⟨rfl, rfl⟩ | ⟨rfl, rfl⟩ | ⟨rfl, rfl⟩ | ⟨rfl, rfl⟩
  · have HK := Lib.hid (kinds_any n B A c ks _ h2 h3 h4 h5)
    clear h2 h3 h4
    go_enter Try.func85, Try.ntmps85
    go_wp2_with (fail)
    refine HK.out.mono ?_
    rintro e w' ⟨rfl, hb⟩
    go_wp2_with (fail)
    go_ret
    exact ⟨rfl, HBA.out.trans (hb.mono (by simp))⟩
  · go_enter Try.func85, Try.ntmps85
    go_wp2_with (fail)
    refine (expression_any n _).mono ?_
    rintro e w' ⟨rfl, hb⟩
    go_wp2_with (fail)
    go_ret
    exact ⟨rfl, HBA.out.trans (hb.mono (by simp))⟩
  · go_enter Try.func85, Try.ntmps85
    go_wp2_with (fail)
    refine (statement_any n _).mono ?_
    rintro e w' ⟨rfl, hb⟩
    go_wp2_with (fail)
    go_ret
    exact ⟨rfl, HBA.out.trans (hb.mono (by simp))⟩
  · go_enter Try.func85, Try.ntmps85
    go_wp2_with (fail)
    refine (basic_any n _).mono ?_
    rintro e w' ⟨rfl, hb⟩
    go_wp2_with (fail)
    go_ret
    exact ⟨rfl, HBA.out.trans (hb.mono (by simp))⟩
  · go_enter Try.func85, Try.ntmps85
    go_wp2_with (fail)
    refine (retOk_any n _).mono ?_
    rintro e w' ⟨rfl, hb⟩
    go_wp2_with (fail)
    go_ret
    exact ⟨rfl, HBA.out.trans (hb.mono (by simp))⟩

/-- many$2: at least so many kids, all of a class -/
def manyB (m : Int) (p : NT → Bool) (l : List NT) : Bool := decide (m ≤ (l.length : Int)) && l.all p
set_option maxHeartbeats 1000000 in
theorem manyKids_any (A : Option Addr) (c : Nat) (l : List NT) (B C D : Nat) (m : Int) (v : Value) (p : NT → Bool) (w : World) (hB : B < w.heap.size) (hb : w.cell? ⟨B, 0, none⟩ = some (.int .i64 m)) (hC : C < w.heap.size) (hcc : w.cell? ⟨C, 0, none⟩ = some (.func (.func 85) #[] #[.pointer (some ⟨D, 0, none⟩)])) (hD : D < w.heap.size) (hdd : w.cell? ⟨D, 0, none⟩ = some v) (hc : Cls w v p) (hr : Row w.heap.size w A l) (hl : l.length ≤ 1000000000) :
    Calls Try.prog 86 #[.slice A l.length c, .pointer (some ⟨B, 0, none⟩), .pointer (some ⟨C, 0, none⟩)] w fun e w' => e = .returned (.bool (manyB m p l)) ∧ Below w.heap.size w w' := by
  have HX := Lib.hid (containsP_any A c l D (fun n => !p n) w (fun W x hW => other_any x D v p W (by have := hW.size; omega) ((hW.cell (p := ⟨D, 0, none⟩) hD).trans hdd) (hc.later hW)) hr hl)
  have HE := Lib.hid (show (!l.any fun n => !p n) = l.all p by rw [List.all_eq_not_any_not])
  clear hc hr hdd
  by_cases h1 : m ≤ (l.length : Int)
  · have hv := Lib.hid (show manyB m p l = l.all p by simp [manyB, h1])
    go_enter Try.func86, Try.ntmps86
    go_wp2_with (fail)
    refine HX.out.mono ?_
    rintro e w' ⟨rfl, hb⟩
    have HB := Lib.hid hb
    clear hb
    go_wp2_with (fail)
    go_ret
    exact ⟨retB (hv.out.trans HE.out.symm), HB.out⟩
  · have h1' : decide (m ≤ (l.length : Int)) = false := by simpa using h1
    have hv := Lib.hid (show manyB m p l = false by simp [manyB]; omega)
    clear h1
    go_enter Try.func86, Try.ntmps86
    go_wp2_with (fail)
    go_ret
    exact ⟨retB hv.out, Below.refl _ _⟩
end Go.Proofs.Ytjikfdifcpdhhaa
