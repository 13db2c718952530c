/- What is proved: arithmetic, relation and connective hand back the function of an operator. -/
import Derived.Test.YtlndlipicbkhiaaDoorVaWrap
import Derived.Outline
import Derived.WalkLawsBesides
import Derived.Maps.Own
import Derived.Maps.OwnOps
import Derived.Maps.OwnSet
import Derived.Maps.Views
import Derived.Carry
import Derived.StringKeys
import Derived.Laws.EntriesVeiled
set_option linter.unusedVariables false
namespace Go.Proofs.YtlndlipicbkhiaaDoor
open Go.RowKit Go.Maps

theorem wpList_insert_tab {H : Type} {P : Program} (w : World) {ops : Array Oper} {rest : List Oper} {o : Oper} {a : Act} {Q : Exit → Act → World → Prop}
    (hg : o.guard = none) (m x v : Operand) (t : TypeId) (hop : o.op = Op.insert t m x v)
    (k e : TypeId) (K : Keyed P k) (ht : P.underlying t = some (.map k e)) (R : Value → Option (DataW H × List MemPlace)) (b n : Nat) (D : DataW H)
    (hm : a.eval m = .map (some b)) (hown : w.ownsMap P k R b n D) (hn : n < maxLen) (key val : Value) (kl : Lit) (hx : a.eval x = key) (hv : a.eval v = val) (hkey : keyOf P k key = some kl)
    (d : DataW H) (ps : List MemPlace) (hval : R val = some (d, ps))
    (hK : ∀ w', w'.ownsMap P k R b (n + 1) (D.put kl d) → w.grownBy w' (some b) → wpList P ops Q rest (a.put o.dst undef) w') :
    wpList P ops Q (o :: rest) a w := by
  refine wpList_plain hg fun K' hK' => ?_
  obtain ⟨w', hrun, r1, r2⟩ := hown.update K ht hn hkey hval
  unfold Oper.wp
  simp [execOp, hop, hm, hx, hv, hrun, Result.andThen]
  exact hK' _ _ (hK w' r1 r2)
theorem keyLaw : Keyed Tryd.prog 9 := string_keyed Tryd.underlying9

/-- how a function value reads -/
def fnR (v : Value) : Option (DataW Value × List MemPlace) := some (.held v, [])
/-- a map of functions, put in one behind the other -/
def tabD (l : List (List UInt8 × Value)) (D : DataW Value) : DataW Value := l.foldl (fun D k => D.put (.string k.1) (.held k.2)) D
/-- what a key has: the last function that was put in -/
def lkp (s : List UInt8) : List (List UInt8 × Value) → Value × Bool → Value × Bool
  | [], r => r
  | k :: ks, r => lkp s ks (if s = k.1 then (k.2, true) else r)
theorem tab_isMap (l : List (List UInt8 × Value)) : ∀ D : DataW Value, IsMap D → IsMap (tabD l D) := by
  induction l with
  | nil => intro D h; exact h
  | cons k ks ih => intro D h; exact ih _ (h.put _ _)
theorem tab_at (s : List UInt8) (l : List (List UInt8 × Value)) : ∀ (D : DataW Value) (v : Value) (b : Bool), IsMap D → D.atKey (.string s) (.held .nilFunc) = .held v → has D (.string s) = b → (tabD l D).atKey (.string s) (.held .nilFunc) = .held (lkp s l (v, b)).1 ∧ has (tabD l D) (.string s) = (lkp s l (v, b)).2 := by
  induction l with
  | nil => intro D v b hD h1 h2; exact ⟨h1, h2⟩
  | cons k ks ih =>
    intro D v b hD h1 h2
    show (tabD ks (D.put (.string k.1) (.held k.2))).atKey _ _ = _ ∧ has (tabD ks (D.put (.string k.1) (.held k.2))) _ = _
    unfold lkp
    by_cases h : s = k.1
    · subst h
      rw [if_pos rfl]
      exact ih _ _ _ (hD.put _ _) (atKey_put_same hD (by trivial) _ _) (has_put_same hD (by trivial) _)
    · rw [if_neg h]
      have e : (Lit.string s) ≠ (Lit.string k.1) := fun e => h (by cases e; rfl)
      exact ih _ _ _ (hD.put _ _) (by rw [atKey_put_other e]; exact h1) (by rw [has_put_other e]; exact h2)
/-- the look-up -/
theorem tab_look {w : World} {b n : Nat} (mt ft : TypeId) (hmt : Tryd.prog.underlying mt = some (.map 9 ft)) (hz : ∀ w, (zeroValue ft).run Tryd.prog w = .ok .nilFunc w) (l : List (List UInt8 × Value)) (h : w.ownsMap Tryd.prog 9 fnR b n (tabD l (.map []))) (s : ByteArray) (hs : s.size ≤ maxLen) :
    (Instr.lookup mt (.map (some b)) (.string s) true).run Tryd.prog w = .ok (.tuple #[(lkp s.data.toList l (.nilFunc, false)).1, .bool (lkp s.data.toList l (.nilFunc, false)).2]) w := by
  obtain ⟨v, ps, hrun, hv⟩ := h.look_ok keyLaw hmt (z := .nilFunc) (hz w) (zd := .held .nilFunc) (zp := []) rfl (WideMaps.keyOf_string_mk Tryd.underlying9 hs)
  obtain ⟨h1, h2⟩ := tab_at s.data.toList l (.map []) .nilFunc false isMap_empty rfl rfl
  simp only [fnR, Option.some.injEq, Prod.mk.injEq] at hv
  rw [h1] at hv
  simp only [DataW.held.injEq] at hv
  rw [h2] at hrun
  rw [hrun, hv.1]

def arT : List (List UInt8 × Value) := [([43], .func (.func 39) #[] #[]), ([45], .func (.func 40) #[] #[]), ([42], .func (.func 41) #[] #[]), ([47], .func (.func 42) #[] #[]), ([37], .func (.func 43) #[] #[])]
def reT : List (List UInt8 × Value) := [([61, 61], .func (.func 44) #[] #[]), ([33, 61], .func (.func 46) #[] #[]), ([60], .func (.func 47) #[] #[]), ([60, 61], .func (.func 48) #[] #[]), ([62], .func (.func 49) #[] #[]), ([62, 61], .func (.func 50) #[] #[])]
def coT : List (List UInt8 × Value) := [([97, 110, 100], .func (.func 51) #[] #[]), ([111, 114], .func (.func 52) #[] #[])]

set_option maxHeartbeats 2000000 in
set_option maxRecDepth 100000 in
set_option maxHeartbeats 2000000 in
theorem arithmetic_any (s : ByteArray) (hs : s.size ≤ maxLen) (w : World) : Calls Tryd.prog 24 #[.string s] w fun e w' => e = .returned (.tuple #[(lkp s.data.toList arT (.nilFunc, false)).1, .bool (lkp s.data.toList arT (.nilFunc, false)).2]) ∧ Below w.heap.size w w' := by
  have hmm := @run_makeMap Tryd.prog
  have ho := World.ownsMap_made w Tryd.prog 9 fnR
  have hb := (Below.refl w.heap.size w).alloc (Nat.le_refl _) (.map #[] 0)
  go_enter Tryd.func24, Tryd.ntmps24
  go_wp2_with (refine wpList_insert_tab _ rfl _ _ _ 61 rfl 9 40 keyLaw Tryd.underlying61 fnR w.heap.size _ _ rfl ho (by unfold maxLen; omega) _ _ _ rfl rfl (WideMaps.keyOf_string_mk Tryd.underlying9 (by unfold maxLen; decide)) _ [] rfl ?_; intro wn hon hgn; replace hb := hb.grown hgn (by have := hb.size; omega) (fun k hk => by injection hk with hk; omega); clear ho; have ho := hon; clear hon hgn)
  have HO : wn.ownsMap Tryd.prog 9 fnR w.heap.size _ (tabD arT (.map [])) := ho
  have HL := tab_look 61 40 Tryd.underlying61 (fun w => by kernel_rfl) arT HO s hs
  have HB := Lib.hid hb
  clear ho HO hb
  obtain ⟨⟨rf, rb⟩, HR⟩ : ∃ r, Hid (lkp s.data.toList arT (.nilFunc, false) = r) := ⟨_, Lib.hid rfl⟩
  rw [HR.out] at HL
  go_wp2_with (fail)
  go_ret2
  exact ⟨by rw [HR.out]; rfl, HB.out⟩

set_option maxRecDepth 100000 in
set_option maxHeartbeats 2000000 in
theorem relation_any (s : ByteArray) (hs : s.size ≤ maxLen) (w : World) : Calls Tryd.prog 25 #[.string s] w fun e w' => e = .returned (.tuple #[(lkp s.data.toList reT (.nilFunc, false)).1, .bool (lkp s.data.toList reT (.nilFunc, false)).2]) ∧ Below w.heap.size w w' := by
  have hmm := @run_makeMap Tryd.prog
  have ho := World.ownsMap_made w Tryd.prog 9 fnR
  have hb := (Below.refl w.heap.size w).alloc (Nat.le_refl _) (.map #[] 0)
  go_enter Tryd.func25, Tryd.ntmps25
  go_wp2_with (refine wpList_insert_tab _ rfl _ _ _ 61 rfl 9 40 keyLaw Tryd.underlying61 fnR w.heap.size _ _ rfl ho (by unfold maxLen; omega) _ _ _ rfl rfl (WideMaps.keyOf_string_mk Tryd.underlying9 (by unfold maxLen; decide)) _ [] rfl ?_; intro wn hon hgn; replace hb := hb.grown hgn (by have := hb.size; omega) (fun k hk => by injection hk with hk; omega); clear ho; have ho := hon; clear hon hgn)
  have HO : wn.ownsMap Tryd.prog 9 fnR w.heap.size _ (tabD reT (.map [])) := ho
  have HL := tab_look 61 40 Tryd.underlying61 (fun w => by kernel_rfl) reT HO s hs
  have HB := Lib.hid hb
  clear ho HO hb
  obtain ⟨⟨rf, rb⟩, HR⟩ : ∃ r, Hid (lkp s.data.toList reT (.nilFunc, false) = r) := ⟨_, Lib.hid rfl⟩
  rw [HR.out] at HL
  go_wp2_with (fail)
  go_ret2
  exact ⟨by rw [HR.out]; rfl, HB.out⟩

set_option maxRecDepth 100000 in
set_option maxHeartbeats 2000000 in
theorem connective_any (s : ByteArray) (hs : s.size ≤ maxLen) (w : World) : Calls Tryd.prog 26 #[.string s] w fun e w' => e = .returned (.tuple #[(lkp s.data.toList coT (.nilFunc, false)).1, .bool (lkp s.data.toList coT (.nilFunc, false)).2]) ∧ Below w.heap.size w w' := by
  have hmm := @run_makeMap Tryd.prog
  have ho := World.ownsMap_made w Tryd.prog 9 fnR
  have hb := (Below.refl w.heap.size w).alloc (Nat.le_refl _) (.map #[] 0)
  go_enter Tryd.func26, Tryd.ntmps26
  go_wp2_with (refine wpList_insert_tab _ rfl _ _ _ 61 rfl 9 40 keyLaw Tryd.underlying61 fnR w.heap.size _ _ rfl ho (by unfold maxLen; omega) _ _ _ rfl rfl (WideMaps.keyOf_string_mk Tryd.underlying9 (by unfold maxLen; decide)) _ [] rfl ?_; intro wn hon hgn; replace hb := hb.grown hgn (by have := hb.size; omega) (fun k hk => by injection hk with hk; omega); clear ho; have ho := hon; clear hon hgn)
  have HO : wn.ownsMap Tryd.prog 9 fnR w.heap.size _ (tabD coT (.map [])) := ho
  have HL := tab_look 61 40 Tryd.underlying61 (fun w => by kernel_rfl) coT HO s hs
  have HB := Lib.hid hb
  clear ho HO hb
  obtain ⟨⟨rf, rb⟩, HR⟩ : ∃ r, Hid (lkp s.data.toList coT (.nilFunc, false) = r) := ⟨_, Lib.hid rfl⟩
  rw [HR.out] at HL
  go_wp2_with (fail)
  go_ret2
  exact ⟨by rw [HR.out]; rfl, HB.out⟩

end Go.Proofs.YtlndlipicbkhiaaDoor
