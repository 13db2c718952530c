/- What is proved: Binary of value answers what the plain function says. -/
import Derived.Test.YtoopnddlcofhoaaGreatDoorVaWrap
import Derived.Outline
import Derived.WalkLawsBesides
import Derived.Maps.Own
import Derived.Maps.OwnOps
import Derived.Maps.OwnSet
import Derived.Maps.Views
import Derived.Carry
import Derived.StringKeys
import Derived.Laws.EntriesVeiled
import Derived.Shelf.Abstract
set_option linter.unusedVariables false
namespace Go.Proofs.YtoopnddlcofhoaaGreatDoor
open Go.RowKit Go.Maps

theorem wpList_insert_tab {H : Type} {P : Program} (w : World) {ops : Array Oper} {rest : List Oper} {o : Oper} {a : Act} {Q : Exit → Act → World → Prop}
    (hg : o.guard = none) (m x v : Operand) (t : TypeId) (hop : o.op = Op.insert t m x v)
    (k e : TypeId) (K : Keyed P k) (ht : P.underlying t = some (.map k e)) (R : Value → Option (DataW H × List MemPlace)) (b n : Nat) (D : DataW H)
    (hm : a.eval m = .map (some b)) (hown : w.ownsMap P k R b n D) (hn : n < maxLen) (key val : Value) (kl : Lit) (hx : a.eval x = key) (hv : a.eval v = val) (hkey : keyOf P k key = some kl)
    (d : DataW H) (ps : List MemPlace) (hval : R val = some (d, ps))
    (hK : ∀ w', w'.ownsMap P k R b (n + 1) (D.put kl d) → w.grownBy w' (some b) → wpList P ops Q rest (a.put o.dst undef) w') :
    wpList P ops Q (o :: rest) a w := by
  refine wpList_plain hg fun K' hK' => ?_
  obtain ⟨w', hrun, r1, r2⟩ := hown.update K ht hn hkey hval
  unfold Oper.wp
  simp [execOp, hop, hm, hx, hv, hrun, Result.andThen]
  exact hK' _ _ (hK w' r1 r2)
theorem keyLaw : Keyed Tryz.prog 9 := string_keyed Tryz.underlying9

/-- how a function value reads -/
def fnR (v : Value) : Option (DataW Value × List MemPlace) := some (.held v, [])
/-- a map of functions, put in one behind the other -/
def tabD (l : List (List UInt8 × Value)) (D : DataW Value) : DataW Value := l.foldl (fun D k => D.put (.string k.1) (.held k.2)) D
/-- what a key has: the last function that was put in -/
def lkp (s : List UInt8) : List (List UInt8 × Value) → Value × Bool → Value × Bool
  | [], r => r
  | k :: ks, r => lkp s ks (if s = k.1 then (k.2, true) else r)
theorem tab_isMap (l : List (List UInt8 × Value)) : ∀ D : DataW Value, IsMap D → IsMap (tabD l D) := by
  induction l with
  | nil => intro D h; exact h
  | cons k ks ih => intro D h; exact ih _ (h.put _ _)
theorem tab_at (s : List UInt8) (l : List (List UInt8 × Value)) : ∀ (D : DataW Value) (v : Value) (b : Bool), IsMap D → D.atKey (.string s) (.held .nilFunc) = .held v → has D (.string s) = b → (tabD l D).atKey (.string s) (.held .nilFunc) = .held (lkp s l (v, b)).1 ∧ has (tabD l D) (.string s) = (lkp s l (v, b)).2 := by
  induction l with
  | nil => intro D v b hD h1 h2; exact ⟨h1, h2⟩
  | cons k ks ih =>
    intro D v b hD h1 h2
    show (tabD ks (D.put (.string k.1) (.held k.2))).atKey _ _ = _ ∧ has (tabD ks (D.put (.string k.1) (.held k.2))) _ = _
    unfold lkp
    by_cases h : s = k.1
    · subst h
      rw [if_pos rfl]
      exact ih _ _ _ (hD.put _ _) (atKey_put_same hD (by trivial) _ _) (has_put_same hD (by trivial) _)
    · rw [if_neg h]
      have e : (Lit.string s) ≠ (Lit.string k.1) := fun e => h (by cases e; rfl)
      exact ih _ _ _ (hD.put _ _) (by rw [atKey_put_other e]; exact h1) (by rw [has_put_other e]; exact h2)
/-- the look-up -/
theorem tab_look {w : World} {b n : Nat} (mt ft : TypeId) (hmt : Tryz.prog.underlying mt = some (.map 9 ft)) (hz : ∀ w, (zeroValue ft).run Tryz.prog w = .ok .nilFunc w) (l : List (List UInt8 × Value)) (h : w.ownsMap Tryz.prog 9 fnR b n (tabD l (.map []))) (s : ByteArray) (hs : s.size ≤ maxLen) :
    (Instr.lookup mt (.map (some b)) (.string s) true).run Tryz.prog w = .ok (.tuple #[(lkp s.data.toList l (.nilFunc, false)).1, .bool (lkp s.data.toList l (.nilFunc, false)).2]) w := by
  obtain ⟨v, ps, hrun, hv⟩ := h.look_ok keyLaw hmt (z := .nilFunc) (hz w) (zd := .held .nilFunc) (zp := []) rfl (WideMaps.keyOf_string_mk Tryz.underlying9 hs)
  obtain ⟨h1, h2⟩ := tab_at s.data.toList l (.map []) .nilFunc false isMap_empty rfl rfl
  simp only [fnR, Option.some.injEq, Prod.mk.injEq] at hv
  rw [h1] at hv
  simp only [DataW.held.injEq] at hv
  rw [h2] at hrun
  rw [hrun, hv.1]

def arT : List (List UInt8 × Value) := [([43], .func (.func 55) #[] #[]), ([45], .func (.func 56) #[] #[]), ([42], .func (.func 57) #[] #[]), ([47], .func (.func 58) #[] #[]), ([37], .func (.func 59) #[] #[])]
def reT : List (List UInt8 × Value) := [([61, 61], .func (.func 60) #[] #[]), ([33, 61], .func (.func 62) #[] #[]), ([60], .func (.func 63) #[] #[]), ([60, 61], .func (.func 64) #[] #[]), ([62], .func (.func 65) #[] #[]), ([62, 61], .func (.func 66) #[] #[])]
def coT : List (List UInt8 × Value) := [([97, 110, 100], .func (.func 67) #[] #[]), ([111, 114], .func (.func 68) #[] #[])]

set_option maxHeartbeats 2000000 in
set_option maxRecDepth 100000 in
set_option maxHeartbeats 2000000 in
theorem arithmetic_any (s : ByteArray) (hs : s.size ≤ maxLen) (w : World) : Calls Tryz.prog 41 #[.string s] w fun e w' => e = .returned (.tuple #[(lkp s.data.toList arT (.nilFunc, false)).1, .bool (lkp s.data.toList arT (.nilFunc, false)).2]) ∧ Below w.heap.size w w' := by
  have hmm := @run_makeMap Tryz.prog
  have ho := World.ownsMap_made w Tryz.prog 9 fnR
  have hb := (Below.refl w.heap.size w).alloc (Nat.le_refl _) (.map #[] 0)
  go_enter Tryz.func41, Tryz.ntmps41
  go_wp2_with (refine wpList_insert_tab _ rfl _ _ _ 101 rfl 9 85 keyLaw Tryz.underlying101 fnR w.heap.size _ _ rfl ho (by unfold maxLen; omega) _ _ _ rfl rfl (WideMaps.keyOf_string_mk Tryz.underlying9 (by unfold maxLen; decide)) _ [] rfl ?_; intro wn hon hgn; replace hb := hb.grown hgn (by have := hb.size; omega) (fun k hk => by injection hk with hk; omega); clear ho; have ho := hon; clear hon hgn)
  have HO : wn.ownsMap Tryz.prog 9 fnR w.heap.size _ (tabD arT (.map [])) := ho
  have HL := tab_look 101 85 Tryz.underlying101 (fun w => by kernel_rfl) arT HO s hs
  have HB := Lib.hid hb
  clear ho HO hb
  obtain ⟨⟨rf, rb⟩, HR⟩ : ∃ r, Hid (lkp s.data.toList arT (.nilFunc, false) = r) := ⟨_, Lib.hid rfl⟩
  rw [HR.out] at HL
  go_wp2_with (fail)
  go_ret2
  exact ⟨by rw [HR.out]; rfl, HB.out⟩

set_option maxRecDepth 100000 in
set_option maxHeartbeats 2000000 in
theorem relation_any (s : ByteArray) (hs : s.size ≤ maxLen) (w : World) : Calls Tryz.prog 42 #[.string s] w fun e w' => e = .returned (.tuple #[(lkp s.data.toList reT (.nilFunc, false)).1, .bool (lkp s.data.toList reT (.nilFunc, false)).2]) ∧ Below w.heap.size w w' := by
  have hmm := @run_makeMap Tryz.prog
  have ho := World.ownsMap_made w Tryz.prog 9 fnR
  have hb := (Below.refl w.heap.size w).alloc (Nat.le_refl _) (.map #[] 0)
  go_enter Tryz.func42, Tryz.ntmps42
  go_wp2_with (refine wpList_insert_tab _ rfl _ _ _ 101 rfl 9 85 keyLaw Tryz.underlying101 fnR w.heap.size _ _ rfl ho (by unfold maxLen; omega) _ _ _ rfl rfl (WideMaps.keyOf_string_mk Tryz.underlying9 (by unfold maxLen; decide)) _ [] rfl ?_; intro wn hon hgn; replace hb := hb.grown hgn (by have := hb.size; omega) (fun k hk => by injection hk with hk; omega); clear ho; have ho := hon; clear hon hgn)
  have HO : wn.ownsMap Tryz.prog 9 fnR w.heap.size _ (tabD reT (.map [])) := ho
  have HL := tab_look 101 85 Tryz.underlying101 (fun w => by kernel_rfl) reT HO s hs
  have HB := Lib.hid hb
  clear ho HO hb
  obtain ⟨⟨rf, rb⟩, HR⟩ : ∃ r, Hid (lkp s.data.toList reT (.nilFunc, false) = r) := ⟨_, Lib.hid rfl⟩
  rw [HR.out] at HL
  go_wp2_with (fail)
  go_ret2
  exact ⟨by rw [HR.out]; rfl, HB.out⟩

set_option maxRecDepth 100000 in
set_option maxHeartbeats 2000000 in
theorem connective_any (s : ByteArray) (hs : s.size ≤ maxLen) (w : World) : Calls Tryz.prog 43 #[.string s] w fun e w' => e = .returned (.tuple #[(lkp s.data.toList coT (.nilFunc, false)).1, .bool (lkp s.data.toList coT (.nilFunc, false)).2]) ∧ Below w.heap.size w w' := by
  have hmm := @run_makeMap Tryz.prog
  have ho := World.ownsMap_made w Tryz.prog 9 fnR
  have hb := (Below.refl w.heap.size w).alloc (Nat.le_refl _) (.map #[] 0)
  go_enter Tryz.func43, Tryz.ntmps43
  go_wp2_with (refine wpList_insert_tab _ rfl _ _ _ 101 rfl 9 85 keyLaw Tryz.underlying101 fnR w.heap.size _ _ rfl ho (by unfold maxLen; omega) _ _ _ rfl rfl (WideMaps.keyOf_string_mk Tryz.underlying9 (by unfold maxLen; decide)) _ [] rfl ?_; intro wn hon hgn; replace hb := hb.grown hgn (by have := hb.size; omega) (fun k hk => by injection hk with hk; omega); clear ho; have ho := hon; clear hon hgn)
  have HO : wn.ownsMap Tryz.prog 9 fnR w.heap.size _ (tabD coT (.map [])) := ho
  have HL := tab_look 101 85 Tryz.underlying101 (fun w => by kernel_rfl) coT HO s hs
  have HB := Lib.hid hb
  clear ho HO hb
  obtain ⟨⟨rf, rb⟩, HR⟩ : ∃ r, Hid (lkp s.data.toList coT (.nilFunc, false) = r) := ⟨_, Lib.hid rfl⟩
  rw [HR.out] at HL
  go_wp2_with (fail)
  go_ret2
  exact ⟨by rw [HR.out]; rfl, HB.out⟩

end Go.Proofs.YtoopnddlcofhoaaGreatDoor
set_option linter.unusedVariables false
namespace Go.Proofs.YtoopnddlcofhoaaGreatDoor
open Go.RowKit Go.Shelf

theorem truth_any (b : Bool) (w : World) : Calls Tryz.prog 61 #[.bool b] w fun e w' => e = .returned (.int .i64 (bt b)) ∧ w' = w := by
  cases b with
  | true =>
    go_enter Tryz.func61, Tryz.ntmps61
    go_wp2_with (fail)
    go_ret
    exact ⟨rfl, rfl⟩
  | false =>
    go_enter Tryz.func61, Tryz.ntmps61
    go_wp2_with (fail)
    go_ret
    exact ⟨rfl, rfl⟩

/-- a function that computes an operator -/
structure Opf (g k : Nat) : Prop where
  ent : ∀ args w, (callFunc g args).run Tryz.prog w = .ok (.enter g args) w
  run : ∀ (a b : Int) (w : World), (-128 ≤ a ∧ a ≤ 127) → (-128 ≤ b ∧ b ≤ 127) → Calls Tryz.prog g #[.int .i64 a, .int .i64 b] w fun e w' => e = .returned (.tuple #[.int .i64 (rawP k a b).1, .int .i64 (rawP k a b).2]) ∧ w' = w

theorem opf0 : Opf 55 0 := ⟨enters_of Tryz.func55 (by kernel_rfl) rfl, fun a b w ha hb => by
  have h1 : IntKind.i64.wrap (a + b) = a + b := by simp [IntKind.wrap, IntKind.bits, IntKind.signed]; omega
  go_enter Tryz.func55, Tryz.ntmps55
  go_wp2_with (fail)
  go_ret2
  exact ⟨rfl, rfl⟩⟩

theorem opf1 : Opf 56 1 := ⟨enters_of Tryz.func56 (by kernel_rfl) rfl, fun a b w ha hb => by
  have h1 : IntKind.i64.wrap (a - b) = a - b := by simp [IntKind.wrap, IntKind.bits, IntKind.signed]; omega
  go_enter Tryz.func56, Tryz.ntmps56
  go_wp2_with (fail)
  go_ret2
  exact ⟨rfl, rfl⟩⟩

theorem opf2 : Opf 57 2 := ⟨enters_of Tryz.func57 (by kernel_rfl) rfl, fun a b w ha hb => by
  have h0 := raw_bound 2 a b ha hb
  have h0' : -20000 ≤ a * b ∧ a * b ≤ 20000 := h0
  have h1 : IntKind.i64.wrap (a * b) = a * b := by simp [IntKind.wrap, IntKind.bits, IntKind.signed]; omega
  clear h0 h0'
  go_enter Tryz.func57, Tryz.ntmps57
  go_wp2_with (fail)
  go_ret2
  exact ⟨rfl, rfl⟩⟩

theorem opf3 : Opf 58 3 := ⟨enters_of Tryz.func58 (by kernel_rfl) rfl, fun a b w ha hb => by
  by_cases h : b = 0
  · subst h
    go_enter Tryz.func58, Tryz.ntmps58
    go_wp2_with (fail)
    go_ret2
    exact ⟨rfl, rfl⟩
  · have h1 : (b == 0) = false := by simpa using h
    have hr : rawP 3 a b = (a.tdiv b, 0) := by unfold rawP; simp only []; rw [if_neg h]
    have h0 := raw_bound 3 a b ha hb
    rw [hr] at h0 ⊢
    have h2 : IntKind.i64.wrap (a.tdiv b) = a.tdiv b := by simp only [] at h0; simp [IntKind.wrap, IntKind.bits, IntKind.signed]; omega
    clear h0 hr
    go_enter Tryz.func58, Tryz.ntmps58
    go_wp2_with (fail)
    go_ret2
    exact ⟨rfl, rfl⟩⟩

theorem opf4 : Opf 59 4 := ⟨enters_of Tryz.func59 (by kernel_rfl) rfl, fun a b w ha hb => by
  by_cases h : b = 0
  · subst h
    go_enter Tryz.func59, Tryz.ntmps59
    go_wp2_with (fail)
    go_ret2
    exact ⟨rfl, rfl⟩
  · have h1 : (b == 0) = false := by simpa using h
    have hr : rawP 4 a b = (a.tmod b, 0) := by unfold rawP; simp only []; rw [if_neg h]
    have h0 := raw_bound 4 a b ha hb
    rw [hr] at h0 ⊢
    have h2 : IntKind.i64.wrap (a.tmod b) = a.tmod b := by simp only [] at h0; simp [IntKind.wrap, IntKind.bits, IntKind.signed]; omega
    clear h0 hr
    go_enter Tryz.func59, Tryz.ntmps59
    go_wp2_with (fail)
    go_ret2
    exact ⟨rfl, rfl⟩⟩

theorem opf5 : Opf 60 5 := ⟨enters_of Tryz.func60 (by kernel_rfl) rfl, fun a b w ha hb => by
  have HT := Lib.hid (fun x => truth_any x w)
  go_enter Tryz.func60, Tryz.ntmps60
  go_wp2_with (fail)
  refine (HT.out (a == b)).mono ?_
  rintro e w1 ⟨rfl, rfl⟩
  go_wp2_with (fail)
  go_ret2
  exact ⟨rfl, rfl⟩⟩

theorem opf6 : Opf 62 6 := ⟨enters_of Tryz.func62 (by kernel_rfl) rfl, fun a b w ha hb => by
  have HT := Lib.hid (fun x => truth_any x w)
  go_enter Tryz.func62, Tryz.ntmps62
  go_wp2_with (fail)
  refine (HT.out (a != b)).mono ?_
  rintro e w1 ⟨rfl, rfl⟩
  go_wp2_with (fail)
  go_ret2
  exact ⟨rfl, rfl⟩⟩

theorem opf7 : Opf 63 7 := ⟨enters_of Tryz.func63 (by kernel_rfl) rfl, fun a b w ha hb => by
  have HT := Lib.hid (fun x => truth_any x w)
  go_enter Tryz.func63, Tryz.ntmps63
  go_wp2_with (fail)
  refine (HT.out (decide (a < b))).mono ?_
  rintro e w1 ⟨rfl, rfl⟩
  go_wp2_with (fail)
  go_ret2
  exact ⟨rfl, rfl⟩⟩

theorem opf8 : Opf 64 8 := ⟨enters_of Tryz.func64 (by kernel_rfl) rfl, fun a b w ha hb => by
  have HT := Lib.hid (fun x => truth_any x w)
  go_enter Tryz.func64, Tryz.ntmps64
  go_wp2_with (fail)
  refine (HT.out (decide (a ≤ b))).mono ?_
  rintro e w1 ⟨rfl, rfl⟩
  go_wp2_with (fail)
  go_ret2
  exact ⟨rfl, rfl⟩⟩

theorem opf9 : Opf 65 9 := ⟨enters_of Tryz.func65 (by kernel_rfl) rfl, fun a b w ha hb => by
  have HT := Lib.hid (fun x => truth_any x w)
  go_enter Tryz.func65, Tryz.ntmps65
  go_wp2_with (fail)
  refine (HT.out (decide (b < a))).mono ?_
  rintro e w1 ⟨rfl, rfl⟩
  go_wp2_with (fail)
  go_ret2
  exact ⟨rfl, rfl⟩⟩

theorem opf10 : Opf 66 10 := ⟨enters_of Tryz.func66 (by kernel_rfl) rfl, fun a b w ha hb => by
  have HT := Lib.hid (fun x => truth_any x w)
  go_enter Tryz.func66, Tryz.ntmps66
  go_wp2_with (fail)
  refine (HT.out (decide (b ≤ a))).mono ?_
  rintro e w1 ⟨rfl, rfl⟩
  go_wp2_with (fail)
  go_ret2
  exact ⟨rfl, rfl⟩⟩

theorem opf11 : Opf 67 11 := ⟨enters_of Tryz.func67 (by kernel_rfl) rfl, fun a b w ha hb => by
  go_enter Tryz.func67, Tryz.ntmps67
  go_wp2_with (fail)
  all_goals
    go_ret2
    refine ⟨?_, rfl⟩
    change _ = Ending.returned (.tuple #[.int .i64 (min a b), .int .i64 0])
    first
      | (rw [show min a b = b by omega]; rfl)
      | (rw [show min a b = a by omega]; rfl)⟩

theorem opf12 : Opf 68 12 := ⟨enters_of Tryz.func68 (by kernel_rfl) rfl, fun a b w ha hb => by
  go_enter Tryz.func68, Tryz.ntmps68
  go_wp2_with (fail)
  all_goals
    go_ret2
    refine ⟨?_, rfl⟩
    change _ = Ending.returned (.tuple #[.int .i64 (max a b), .int .i64 0])
    first
      | (rw [show max a b = b by omega]; rfl)
      | (rw [show max a b = a by omega]; rfl)⟩
end Go.Proofs.YtoopnddlcofhoaaGreatDoor
set_option linter.unusedVariables false
namespace Go.Proofs.YtoopnddlcofhoaaGreatDoor
open Go.RowKit Go.Shelf

/-- which table has the function of an operator -/
theorem op_ways (s : List UInt8) :
    (∃ g, opN s ≤ 4 ∧ Opf g (opN s) ∧ lkp s arT (.nilFunc, false) = (.func (.func g) #[] #[], true)) ∨
    (∃ g, 5 ≤ opN s ∧ opN s ≤ 10 ∧ Opf g (opN s) ∧ lkp s arT (.nilFunc, false) = (.nilFunc, false) ∧ lkp s reT (.nilFunc, false) = (.func (.func g) #[] #[], true)) ∨
    (∃ g, 11 ≤ opN s ∧ opN s ≤ 12 ∧ Opf g (opN s) ∧ lkp s arT (.nilFunc, false) = (.nilFunc, false) ∧ lkp s reT (.nilFunc, false) = (.nilFunc, false) ∧ lkp s coT (.nilFunc, false) = (.func (.func g) #[] #[], true)) ∨
    (opN s = 13 ∧ lkp s arT (.nilFunc, false) = (.nilFunc, false) ∧ lkp s reT (.nilFunc, false) = (.nilFunc, false) ∧ lkp s coT (.nilFunc, false) = (.nilFunc, false)) := by
  by_cases h0 : s = [43]
  · subst h0
    exact .inl ⟨_, by decide, opf0, rfl⟩
  by_cases h1 : s = [45]
  · subst h1
    exact .inl ⟨_, by decide, opf1, rfl⟩
  by_cases h2 : s = [42]
  · subst h2
    exact .inl ⟨_, by decide, opf2, rfl⟩
  by_cases h3 : s = [47]
  · subst h3
    exact .inl ⟨_, by decide, opf3, rfl⟩
  by_cases h4 : s = [37]
  · subst h4
    exact .inl ⟨_, by decide, opf4, rfl⟩
  by_cases h5 : s = [61, 61]
  · subst h5
    exact .inr (.inl ⟨_, by decide, by decide, opf5, rfl, rfl⟩)
  by_cases h6 : s = [33, 61]
  · subst h6
    exact .inr (.inl ⟨_, by decide, by decide, opf6, rfl, rfl⟩)
  by_cases h7 : s = [60]
  · subst h7
    exact .inr (.inl ⟨_, by decide, by decide, opf7, rfl, rfl⟩)
  by_cases h8 : s = [60, 61]
  · subst h8
    exact .inr (.inl ⟨_, by decide, by decide, opf8, rfl, rfl⟩)
  by_cases h9 : s = [62]
  · subst h9
    exact .inr (.inl ⟨_, by decide, by decide, opf9, rfl, rfl⟩)
  by_cases h10 : s = [62, 61]
  · subst h10
    exact .inr (.inl ⟨_, by decide, by decide, opf10, rfl, rfl⟩)
  by_cases h11 : s = [97, 110, 100]
  · subst h11
    exact .inr (.inr (.inl ⟨_, by decide, by decide, opf11, rfl, rfl, rfl⟩))
  by_cases h12 : s = [111, 114]
  · subst h12
    exact .inr (.inr (.inl ⟨_, by decide, by decide, opf12, rfl, rfl, rfl⟩))
  right; right; right
  refine ⟨by simp [opN, h0, h1, h2, h3, h4, h5, h6, h7, h8, h9, h10, h11, h12], by simp [lkp, arT, h0, h1, h2, h3, h4], by simp [lkp, reT, h5, h6, h7, h8, h9, h10], by simp [lkp, coT, h11, h12]⟩

/-- how Binary's three results read -/
def binV (r : Int × Int × Int) : Value := .tuple #[.int .i64 r.1, .int .i64 r.2.1, .int .i64 r.2.2]
theorem binP_out {W : Int} (h : W < 2 ∨ 8 < W) (k : Nat) (a b : Int) : binP W k a b = (0, 0, 2) := by
  unfold binP
  rw [if_pos (hf_out h)]
theorem hf_in {W : Int} (h : ¬ (W < 2 ∨ 8 < W)) : hf W ≠ 0 := by
  rcases hf_cases W with ⟨h1, _⟩ | h1
  · exact absurd h1 h
  · omega
theorem binP_none {W : Int} (h : ¬ (W < 2 ∨ 8 < W)) {k : Nat} (hk : k = 13) (a b : Int) : binP W k a b = (0, 0, 1) := by
  unfold binP
  rw [if_neg (hf_in h), if_pos hk]
theorem binP_bad {W : Int} (h : ¬ (W < 2 ∨ 8 < W)) {k : Nat} (hk : k ≠ 13) {a b : Int} (hs : (scB W (decide (11 ≤ k)) a && scB W (decide (11 ≤ k)) b) = false) : binP W k a b = (0, 0, 2) := by
  unfold binP
  rw [if_neg (hf_in h), if_neg hk, if_pos hs]
theorem binP_good {W : Int} (h : ¬ (W < 2 ∨ 8 < W)) {k : Nat} (hk : k ≠ 13) {a b : Int} (hs : (scB W (decide (11 ≤ k)) a && scB W (decide (11 ≤ k)) b) = true) : binP W k a b = (wrpP W (rawP k a b).1, (rawP k a b).2, 0) := by
  unfold binP
  rw [if_neg (hf_in h), if_neg hk, hs, if_neg (by decide)]

set_option maxRecDepth 100000 in
set_option maxHeartbeats 4000000 in
theorem binary_any (W a b : Int) (s : ByteArray) (hW : IntKind.i64.wrap W = W) (hs : s.size ≤ maxLen) (w : World) :
    Calls Tryz.prog 21 #[.int .i64 W, .string s, .int .i64 a, .int .i64 b] w fun e w' => e = .returned (binV (binP W (opN s.data.toList) a b)) ∧ Below w.heap.size w w' := by
  have HP := Lib.hid (possible_any W w)
  by_cases h : W < 2 ∨ 8 < W
  · have h0 : decide (2 ≤ W ∧ W ≤ 8) = false := by rw [decide_eq_false_iff_not]; omega
    rw [h0] at HP
    have HR := Lib.hid (binP_out h (opN s.data.toList) a b)
    clear h h0
    go_enter Tryz.func21, Tryz.ntmps21
    go_wp2_with (fail)
    refine HP.out.mono ?_
    rintro e w1 ⟨rfl, rfl⟩
    go_wp2_with (fail)
    go_ret3
    exact ⟨by rw [HR.out]; rfl, Below.refl _ _⟩
  have h0 : decide (2 ≤ W ∧ W ≤ 8) = true := by rw [decide_eq_true_iff]; omega
  rw [h0] at HP
  have HIN := Lib.hid h
  have HWW := Lib.hid hW
  clear h h0 hW
  have HA := Lib.hid (fun w => arithmetic_any s hs w)
  have HRE := Lib.hid (fun w => relation_any s hs w)
  have HC := Lib.hid (fun w => connective_any s hs w)
  clear hs
  obtain ⟨k, HK⟩ : ∃ k, Hid (opN s.data.toList = k) := ⟨_, Lib.hid rfl⟩
  have HWAY := op_ways s.data.toList
  rw [HK.out] at HWAY
  rcases HWAY with ⟨g, h1, h2, h3⟩ | ⟨g, h1, h1', h2, h3, h4⟩ | ⟨g, h1, h1', h2, h3, h4, h5⟩ | ⟨h1, h3, h4, h5⟩
  · rw [h3] at HA
    have HENT := h2.ent
    have HRUN := Lib.hid h2.run
    have hk13 : k ≠ 13 := by omega
    have HT := Lib.hid (show decide (11 ≤ k) = false by rw [decide_eq_false_iff_not]; omega)
    have HBAD := Lib.hid (fun hh => binP_bad (a := a) (b := b) HIN.out hk13 hh)
    have HGOOD := Lib.hid (fun hh => binP_good (a := a) (b := b) HIN.out hk13 hh)
    rw [HT.out] at HBAD HGOOD
    clear hk13 h2
    clear h1 h3
    obtain ⟨xa, HXA⟩ : ∃ x, Hid (scB W false a = x) := ⟨_, Lib.hid rfl⟩
    obtain ⟨xb, HXB⟩ : ∃ x, Hid (scB W false b = x) := ⟨_, Lib.hid rfl⟩
    have HSA := Lib.hid (fun w => scalar_any W a false HWW.out w)
    have HSB := Lib.hid (fun w => scalar_any W b false HWW.out w)
    rw [HXA.out] at HSA
    rw [HXB.out] at HSB
    rw [HXA.out, HXB.out] at HBAD HGOOD
    go_enter Tryz.func21, Tryz.ntmps21
    go_wp2_with (fail)
    refine HP.out.mono ?_
    rintro e w1 ⟨rfl, rfl⟩
    go_wp2_with (fail)
    refine (HA.out _).mono ?_
    rintro e w2 ⟨rfl, hb2⟩
    have HB := Lib.hid hb2
    clear hb2
    go_wp2_with (fail)
    refine (HSA.out _).mono ?_
    rintro e w5 ⟨rfl, rfl⟩
    cases xa with
    | false =>
      go_wp2_with (fail)
      go_ret3
      exact ⟨by rw [HK.out, HBAD.out rfl]; rfl, HB.out⟩
    | true =>
      go_wp2_with (fail)
      refine (HSB.out _).mono ?_
      rintro e w6 ⟨rfl, rfl⟩
      cases xb with
      | false =>
        go_wp2_with (fail)
        go_ret3
        exact ⟨by rw [HK.out, HBAD.out rfl]; rfl, HB.out⟩
      | true =>
        have HBA := Lib.hid (sc_bound HXA.out)
        have HBB := Lib.hid (sc_bound HXB.out)
        go_wp2_with (fail)
        refine (HRUN.out a b _ HBA.out HBB.out).mono ?_
        rintro e w7 ⟨rfl, rfl⟩
        obtain ⟨⟨r, f⟩, HRR⟩ : ∃ x, Hid (rawP k a b = x) := ⟨_, Lib.hid rfl⟩
        rw [HRR.out] at HGOOD ⊢
        have HW := Lib.hid (fun w => wrap_any W r HWW.out w)
        go_wp2_with (fail)
        refine (HW.out _).mono ?_
        rintro e w8 ⟨rfl, rfl⟩
        go_wp2_with (fail)
        go_ret3
        exact ⟨by rw [HK.out, HGOOD.out rfl]; rfl, HB.out⟩
  · rw [h3] at HA
    rw [h4] at HRE
    have HENT := h2.ent
    have HRUN := Lib.hid h2.run
    have hk13 : k ≠ 13 := by omega
    have HT := Lib.hid (show decide (11 ≤ k) = false by rw [decide_eq_false_iff_not]; omega)
    have HBAD := Lib.hid (fun hh => binP_bad (a := a) (b := b) HIN.out hk13 hh)
    have HGOOD := Lib.hid (fun hh => binP_good (a := a) (b := b) HIN.out hk13 hh)
    rw [HT.out] at HBAD HGOOD
    clear hk13 h2
    clear h1 h1' h3 h4
    obtain ⟨xa, HXA⟩ : ∃ x, Hid (scB W false a = x) := ⟨_, Lib.hid rfl⟩
    obtain ⟨xb, HXB⟩ : ∃ x, Hid (scB W false b = x) := ⟨_, Lib.hid rfl⟩
    have HSA := Lib.hid (fun w => scalar_any W a false HWW.out w)
    have HSB := Lib.hid (fun w => scalar_any W b false HWW.out w)
    rw [HXA.out] at HSA
    rw [HXB.out] at HSB
    rw [HXA.out, HXB.out] at HBAD HGOOD
    go_enter Tryz.func21, Tryz.ntmps21
    go_wp2_with (fail)
    refine HP.out.mono ?_
    rintro e w1 ⟨rfl, rfl⟩
    go_wp2_with (fail)
    refine (HA.out _).mono ?_
    rintro e w2 ⟨rfl, hb2⟩
    have HB := Lib.hid hb2
    clear hb2
    go_wp2_with (fail)
    refine (HRE.out _).mono ?_
    rintro e w3 ⟨rfl, hb2⟩
    have HBn := Lib.hid (HB.out.trans (hb2.mono HB.out.size))
    clear HB hb2
    have HB := HBn
    clear HBn
    go_wp2_with (fail)
    refine (HSA.out _).mono ?_
    rintro e w5 ⟨rfl, rfl⟩
    cases xa with
    | false =>
      go_wp2_with (fail)
      go_ret3
      exact ⟨by rw [HK.out, HBAD.out rfl]; rfl, HB.out⟩
    | true =>
      go_wp2_with (fail)
      refine (HSB.out _).mono ?_
      rintro e w6 ⟨rfl, rfl⟩
      cases xb with
      | false =>
        go_wp2_with (fail)
        go_ret3
        exact ⟨by rw [HK.out, HBAD.out rfl]; rfl, HB.out⟩
      | true =>
        have HBA := Lib.hid (sc_bound HXA.out)
        have HBB := Lib.hid (sc_bound HXB.out)
        go_wp2_with (fail)
        refine (HRUN.out a b _ HBA.out HBB.out).mono ?_
        rintro e w7 ⟨rfl, rfl⟩
        obtain ⟨⟨r, f⟩, HRR⟩ : ∃ x, Hid (rawP k a b = x) := ⟨_, Lib.hid rfl⟩
        rw [HRR.out] at HGOOD ⊢
        have HW := Lib.hid (fun w => wrap_any W r HWW.out w)
        go_wp2_with (fail)
        refine (HW.out _).mono ?_
        rintro e w8 ⟨rfl, rfl⟩
        go_wp2_with (fail)
        go_ret3
        exact ⟨by rw [HK.out, HGOOD.out rfl]; rfl, HB.out⟩
  · rw [h3] at HA
    rw [h4] at HRE
    rw [h5] at HC
    have HENT := h2.ent
    have HRUN := Lib.hid h2.run
    have hk13 : k ≠ 13 := by omega
    have HT := Lib.hid (show decide (11 ≤ k) = true by rw [decide_eq_true_iff]; omega)
    have HBAD := Lib.hid (fun hh => binP_bad (a := a) (b := b) HIN.out hk13 hh)
    have HGOOD := Lib.hid (fun hh => binP_good (a := a) (b := b) HIN.out hk13 hh)
    rw [HT.out] at HBAD HGOOD
    clear hk13 h2
    clear h1 h1' h3 h4 h5
    obtain ⟨xa, HXA⟩ : ∃ x, Hid (scB W true a = x) := ⟨_, Lib.hid rfl⟩
    obtain ⟨xb, HXB⟩ : ∃ x, Hid (scB W true b = x) := ⟨_, Lib.hid rfl⟩
    have HSA := Lib.hid (fun w => scalar_any W a true HWW.out w)
    have HSB := Lib.hid (fun w => scalar_any W b true HWW.out w)
    rw [HXA.out] at HSA
    rw [HXB.out] at HSB
    rw [HXA.out, HXB.out] at HBAD HGOOD
    go_enter Tryz.func21, Tryz.ntmps21
    go_wp2_with (fail)
    refine HP.out.mono ?_
    rintro e w1 ⟨rfl, rfl⟩
    go_wp2_with (fail)
    refine (HA.out _).mono ?_
    rintro e w2 ⟨rfl, hb2⟩
    have HB := Lib.hid hb2
    clear hb2
    go_wp2_with (fail)
    refine (HRE.out _).mono ?_
    rintro e w3 ⟨rfl, hb2⟩
    have HBn := Lib.hid (HB.out.trans (hb2.mono HB.out.size))
    clear HB hb2
    have HB := HBn
    clear HBn
    go_wp2_with (fail)
    refine (HC.out _).mono ?_
    rintro e w4 ⟨rfl, hb2⟩
    have HBn := Lib.hid (HB.out.trans (hb2.mono HB.out.size))
    clear HB hb2
    have HB := HBn
    clear HBn
    go_wp2_with (fail)
    refine (HSA.out _).mono ?_
    rintro e w5 ⟨rfl, rfl⟩
    cases xa with
    | false =>
      go_wp2_with (fail)
      go_ret3
      exact ⟨by rw [HK.out, HBAD.out rfl]; rfl, HB.out⟩
    | true =>
      go_wp2_with (fail)
      refine (HSB.out _).mono ?_
      rintro e w6 ⟨rfl, rfl⟩
      cases xb with
      | false =>
        go_wp2_with (fail)
        go_ret3
        exact ⟨by rw [HK.out, HBAD.out rfl]; rfl, HB.out⟩
      | true =>
        have HBA := Lib.hid (sc_bound HXA.out)
        have HBB := Lib.hid (sc_bound HXB.out)
        go_wp2_with (fail)
        refine (HRUN.out a b _ HBA.out HBB.out).mono ?_
        rintro e w7 ⟨rfl, rfl⟩
        obtain ⟨⟨r, f⟩, HRR⟩ : ∃ x, Hid (rawP k a b = x) := ⟨_, Lib.hid rfl⟩
        rw [HRR.out] at HGOOD ⊢
        have HW := Lib.hid (fun w => wrap_any W r HWW.out w)
        go_wp2_with (fail)
        refine (HW.out _).mono ?_
        rintro e w8 ⟨rfl, rfl⟩
        go_wp2_with (fail)
        go_ret3
        exact ⟨by rw [HK.out, HGOOD.out rfl]; rfl, HB.out⟩
  · rw [h3] at HA
    rw [h4] at HRE
    rw [h5] at HC
    have HNO := Lib.hid (binP_none HIN.out h1 a b)
    clear h1 h3 h4 h5
    go_enter Tryz.func21, Tryz.ntmps21
    go_wp2_with (fail)
    refine HP.out.mono ?_
    rintro e w1 ⟨rfl, rfl⟩
    go_wp2_with (fail)
    refine (HA.out _).mono ?_
    rintro e w2 ⟨rfl, hb2⟩
    have HB := Lib.hid hb2
    clear hb2
    go_wp2_with (fail)
    refine (HRE.out _).mono ?_
    rintro e w3 ⟨rfl, hb2⟩
    have HBn := Lib.hid (HB.out.trans (hb2.mono HB.out.size))
    clear HB hb2
    have HB := HBn
    clear HBn
    go_wp2_with (fail)
    refine (HC.out _).mono ?_
    rintro e w4 ⟨rfl, hb2⟩
    have HBn := Lib.hid (HB.out.trans (hb2.mono HB.out.size))
    clear HB hb2
    have HB := HBn
    clear HBn
    go_wp2_with (fail)
    go_ret3
    exact ⟨by rw [HK.out, HNO.out]; rfl, HB.out⟩
end Go.Proofs.YtoopnddlcofhoaaGreatDoor
