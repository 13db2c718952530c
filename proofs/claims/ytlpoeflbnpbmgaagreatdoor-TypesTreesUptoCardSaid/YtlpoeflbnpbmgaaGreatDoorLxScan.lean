/- What is proved: the scanner's small functions return what the plain functions say. -/
import Derived.Test.YtlpoeflbnpbmgaaGreatDoorProg
import Derived.WalkKit
import Derived.OwnWalk
import Derived.Below
import Derived.Outline
import Derived.WalkLawsBesides
import Derived.IntWalk
import Derived.Lib.Hide
import Derived.LoopTactic
import Derived.Maps.Own
import Derived.Maps.OwnOps
import Derived.Maps.OwnSet
import Derived.Maps.Views
import Derived.Carry
import Derived.StringKeys
import Derived.Deep.QuietTactic
import Derived.BigQuiet
import Derived.Deep.Draws
set_option linter.unusedVariables false
namespace Go.Proofs.YtlpoeflbnpbmgaaGreatDoor.Lx
open Go.RowKit Go.Maps

/-- a store of a map's literal, as any store -/
theorem wpList_insert_own {H : Type} {P : Program} (w : World) {ops : Array Oper} {rest : List Oper} {o : Oper} {a : Act} {Q : Exit → Act → World → Prop}
    (hg : o.guard = none) (m x v : Operand) (t : TypeId) (hop : o.op = Op.insert t m x v)
    (k e : TypeId) (K : Keyed P k) (ht : P.underlying t = some (.map k e)) (R : Value → Option (DataW H × List MemPlace)) (b n : Nat) (D : DataW H)
    (hm : a.eval m = .map (some b)) (hown : w.ownsMap P k R b n D) (hn : n < maxLen) (key val : Value) (kl : Lit) (hx : a.eval x = key) (hv : a.eval v = val) (hkey : keyOf P k key = some kl)
    (d : DataW H) (ps : List MemPlace) (hval : R val = some (d, ps))
    (hK : ∀ w', w'.ownsMap P k R b (n + 1) (D.put kl d) → w.grownBy w' (some b) → wpList P ops Q rest (a.put o.dst undef) w') :
    wpList P ops Q (o :: rest) a w := by
  refine wpList_plain hg fun K' hK' => ?_
  obtain ⟨w', hrun, r1, r2⟩ := hown.update K ht hn hkey hval
  unfold Oper.wp
  simp [execOp, hop, hm, hx, hv, hrun, Result.andThen]
  exact hK' _ _ (hK w' r1 r2)

theorem plainElem_bool_inv {H : Type} {P : Program} {e : TypeId} (he : P.underlying e = some .bool) {v : Value} {z : DataW H × List MemPlace} (h : plainElem P e v = some z) : ∃ x, v = .bool x ∧ z = (.lit (.bool x), []) := by
  unfold plainElem at h
  rw [he] at h
  cases v <;> simp at h
  exact ⟨_, rfl, h.symm⟩

/-- the datum of a set of strings, put in one behind the other -/
def setD (l : List (List UInt8)) (D : DataW Unit) : DataW Unit := l.foldl (fun D k => D.put (.string k) (.lit (.bool true))) D
theorem setD_at (s : List UInt8) (z : DataW Unit) (l : List (List UInt8)) : ∀ D : DataW Unit, IsMap D → (setD l D).atKey (.string s) z = if s ∈ l then .lit (.bool true) else D.atKey (.string s) z := by
  induction l with
  | nil => intro D _; simp [setD]
  | cons k ks ih =>
    intro D hD
    have h := ih (D.put (.string k) (.lit (.bool true))) (hD.put _ _)
    show (setD ks (D.put (.string k) (.lit (.bool true)))).atKey (.string s) z = _
    rw [h]
    by_cases h1 : s ∈ ks
    · rw [if_pos h1, if_pos (List.mem_cons_of_mem _ h1)]
    · rw [if_neg h1]
      by_cases h2 : s = k
      · subst h2
        rw [if_pos (List.mem_cons_self ..), Maps.atKey_put_same hD (by trivial)]
      · rw [if_neg (by simp [h1, h2]), Maps.atKey_put_other (by simpa using h2)]

/-- the keywords -/
def kwList : List (List UInt8) := [[114, 101, 99, 111, 114, 100], [112, 114, 111, 99], [118, 97, 114], [105, 102], [101, 108, 115, 101], [119, 104, 105, 108, 101], [102, 111, 114], [116, 111], [114, 101, 116, 117, 114, 110], [97, 115, 115, 101, 114, 116], [97, 110, 100], [111, 114], [110, 111, 116], [116, 114, 117, 101], [102, 97, 108, 115, 101], [105, 110, 116], [98, 111, 111, 108], [108, 101, 110]]
def isKw (s : List UInt8) : Bool := decide (s ∈ kwList)

theorem kwLaw : Keyed Tryz.prog 9 := string_keyed Tryz.underlying9
theorem kwZero (w : World) : (zeroValue 4).run Tryz.prog w = .ok (.bool false) w := by kernel_rfl

/-- a map of the keywords in block b -/
def KwMap (w : World) (b : Nat) : Prop := ∃ n, w.ownsMap Tryz.prog 9 (plainElem (H := Unit) Tryz.prog 4) b n (setD kwList (.map []))

theorem KwMap.look {w : World} {b : Nat} (h : KwMap w b) (s : ByteArray) (hs : s.size ≤ maxLen) : (Instr.lookup 130 (.map (some b)) (.string s) false).run Tryz.prog w = .ok (.bool (isKw s.data.toList)) w := by
  obtain ⟨n, h⟩ := h
  obtain ⟨v, ps, hrun, hv⟩ := h.lookup kwLaw Tryz.underlying130 (kwZero w) (zd := .lit (.bool false)) (zp := []) (plainElem_bool Tryz.underlying4 false) (WideMaps.keyOf_string_mk Tryz.underlying9 hs)
  obtain ⟨x, rfl, hx⟩ := plainElem_bool_inv Tryz.underlying4 hv
  rw [setD_at _ _ _ _ isMap_empty] at hx
  have e : x = isKw s.data.toList := by
    unfold isKw
    by_cases hm : s.data.toList ∈ kwList
    · rw [if_pos hm] at hx
      simp at hx
      simp [hm, hx.1]
    · rw [if_neg hm] at hx
      simp [DataW.atKey] at hx
      simp [hm, hx.1]
  rw [hrun, e]

set_option maxRecDepth 100000 in
set_option maxHeartbeats 2000000 in
theorem keywords_any (w : World) : Calls Tryz.prog 99 #[] w fun e w' => e = .returned (.map (some w.heap.size)) ∧ KwMap w' w.heap.size ∧ Below w.heap.size w w' := by
  have hmm := @run_makeMap Tryz.prog
  have ho := World.ownsMap_made w Tryz.prog 9 (plainElem (H := Unit) Tryz.prog 4)
  have hb := (Below.refl w.heap.size w).alloc (Nat.le_refl _) (.map #[] 0)
  go_enter Tryz.func99, Tryz.ntmps99
  go_wp2_with (refine wpList_insert_own _ rfl _ _ _ 130 rfl 9 4 kwLaw Tryz.underlying130 (plainElem (H := Unit) Tryz.prog 4) w.heap.size _ _ rfl ho (by unfold maxLen; omega) _ _ _ rfl rfl (WideMaps.keyOf_string_mk Tryz.underlying9 (by unfold maxLen; decide)) (.lit (.bool true)) [] (plainElem_bool Tryz.underlying4 true) ?_; intro wn hon hgn; replace hb := hb.grown hgn (by have := hb.size; omega) (fun k hk => by injection hk with hk; omega); clear ho; have ho := hon; clear hon hgn)
  go_ret
  exact ⟨rfl, ⟨_, ho⟩, hb⟩

theorem KwMap.below {w w' : World} {b : Nat} (h : KwMap w b) (hb : Below w.heap.size w w') : KwMap w' b := by
  obtain ⟨n, h⟩ := h
  exact ⟨n, h.kept (row := none) ⟨hb.os, hb.tape, hb.output, hb.size, fun k hk _ => hb.block k hk⟩ (by simp)⟩
theorem KwMap.drew {w : World} {b : Nat} (h : KwMap w b) (n : Nat) : KwMap (w.drewN n) b := h
end Go.Proofs.YtlpoeflbnpbmgaaGreatDoor.Lx
set_option linter.unusedVariables false
namespace Go.Proofs.YtlpoeflbnpbmgaaGreatDoor.Lx

def white (b : UInt8) : Bool := b == 9 || b == 10 || b == 13 || b == 32
def letter (b : UInt8) : Bool := 97 ≤ b.toNat && b.toNat ≤ 122
def digit (b : UInt8) : Bool := 48 ≤ b.toNat && b.toNat ≤ 57
def inName (b : UInt8) : Bool := letter b || digit b || b == 95

/-- the first place from i on, at most f further, where p fails -/
def whl (p : Nat → Bool) : Nat → Nat → Nat
  | 0, i => i
  | f + 1, i => if p i then whl p f (i + 1) else i

theorem whl_bd (p : Nat → Bool) : ∀ f i, i ≤ whl p f i ∧ whl p f i ≤ i + f := by
  intro f
  induction f with
  | zero => intro i; simp [whl]
  | succ f ih =>
    intro i
    unfold whl
    split
    · have := ih (i + 1); omega
    · omega
theorem whl_yes (p : Nat → Bool) (n i : Nat) (hi : i < n) (h : p i = true) : whl p (n - i) i = whl p (n - (i + 1)) (i + 1) := by
  obtain ⟨f, hf⟩ : ∃ f, n - i = f + 1 := ⟨n - i - 1, by omega⟩
  rw [hf, show n - (i + 1) = f from by omega]
  simp [whl, h]
theorem whl_no (p : Nat → Bool) (f i : Nat) (h : p i = false) : whl p f i = i := by
  cases f with
  | zero => rfl
  | succ f => simp [whl, h]
theorem whl_end (p : Nat → Bool) (n i : Nat) (hi : ¬ i < n) : whl p (n - i) i = i := by
  rw [show n - i = 0 from by omega]
  rfl
theorem whl_all (p : Nat → Bool) : ∀ f i j, i ≤ j → j < whl p f i → p j = true := by
  intro f
  induction f with
  | zero => intro i j h1 h2; simp [whl] at h2; omega
  | succ f ih =>
    intro i j h1 h2
    unfold whl at h2
    split at h2
    · rename_i h
      by_cases e : j = i
      · rw [e]; exact h
      · exact ih (i + 1) j (by omega) h2
    · omega
theorem whl_stop (p : Nat → Bool) : ∀ f i, whl p f i < i + f → p (whl p f i) = false := by
  intro f
  induction f with
  | zero => intro i h; simp [whl] at h
  | succ f ih =>
    intro i h
    unfold whl at h ⊢
    split at h
    · rename_i hp
      rw [if_pos hp]
      exact ih (i + 1) (by omega)
    · rename_i hp
      rw [if_neg hp]
      simpa using hp
theorem whl_congr (p q : Nat → Bool) : ∀ f i, (∀ j, i ≤ j → j < i + f → p j = q j) → whl p f i = whl q f i := by
  intro f
  induction f with
  | zero => intro i _; rfl
  | succ f ih =>
    intro i h
    unfold whl
    rw [h i (Nat.le_refl _) (by omega), ih (i + 1) (fun j h1 h2 => h j (by omega) (by omega))]

/-- the byte at a place; 0 behind the end -/
def at_ (l : List UInt8) (i : Nat) : UInt8 := l.getD i 0

def run (l : List UInt8) (p : UInt8 → Bool) (i : Nat) : Nat := whl (fun j => p (at_ l j)) (l.length - i) i
theorem run_bd (l : List UInt8) (p : UInt8 → Bool) (i : Nat) (hi : i ≤ l.length) : i ≤ run l p i ∧ run l p i ≤ l.length := by
  have := whl_bd (fun j => p (at_ l j)) (l.length - i) i
  unfold run
  omega
theorem run_yes (l : List UInt8) (p : UInt8 → Bool) (i : Nat) (hi : i < l.length) (h : p (at_ l i) = true) : i < run l p i := by
  unfold run
  rw [whl_yes _ _ _ hi h]
  have := whl_bd (fun j => p (at_ l j)) (l.length - (i + 1)) (i + 1)
  omega

def notNl (b : UInt8) : Bool := b != 10

/-- behind white space and comments -/
def blk (l : List UInt8) : Nat → Nat → Nat
  | 0, i => i
  | f + 1, i => if run l white i = l.length ∨ at_ l (run l white i) ≠ 35 then run l white i else blk l f (run l notNl (run l white i))

theorem blk_step (l : List UInt8) (f i : Nat) : blk l (f + 1) i = if run l white i = l.length ∨ at_ l (run l white i) ≠ 35 then run l white i else blk l f (run l notNl (run l white i)) := rfl
theorem blk_bd (l : List UInt8) : ∀ f i, i ≤ l.length → i ≤ blk l f i ∧ blk l f i ≤ l.length := by
  intro f
  induction f with
  | zero => intro i h; exact ⟨Nat.le_refl _, h⟩
  | succ f ih =>
    intro i h
    have a := run_bd l white i h
    have b := run_bd l notNl (run l white i) a.2
    have c := ih _ b.2
    rw [blk_step]
    split <;> omega
/-- enough fuel: one more changes nothing -/
theorem blk_more (l : List UInt8) : ∀ f i, i ≤ l.length → l.length - i < f → blk l f i = blk l (l.length + 1) i := by
  have key : ∀ f g i, i ≤ l.length → l.length - i < f → l.length - i < g → blk l f i = blk l g i := by
    intro f
    induction f with
    | zero => intro g i h1 h2 h3; omega
    | succ f ih =>
      intro g i h1 h2 h3
      obtain ⟨g', rfl⟩ : ∃ g', g = g' + 1 := ⟨g - 1, by omega⟩
      rw [blk_step, blk_step]
      split
      · rfl
      · rename_i h
        have a := run_bd l white i h1
        have hlt : run l white i < l.length := by
          rcases Nat.lt_or_ge (run l white i) l.length with h' | h'
          · exact h'
          · exact absurd (.inl (by omega)) h
        have h35 : at_ l (run l white i) = 35 := by
          rcases Classical.em (at_ l (run l white i) = 35) with e | e
          · exact e
          · exact absurd (.inr e) h
        have b := run_yes l notNl (run l white i) hlt (by rw [h35]; rfl)
        have c := run_bd l notNl (run l white i) a.2
        exact ih g' _ c.2 (by omega) (by omega)
  intro f i h1 h2
  exact key f _ i h1 h2 (by omega)
def blank (l : List UInt8) (i : Nat) : Nat := blk l (l.length + 1) i

def symB (b : UInt8) : Bool := ([60, 62, 61, 43, 45, 42, 47, 37, 40, 41, 123, 125, 91, 93, 44, 59, 58, 46] : List UInt8).contains b
def two (l : List UInt8) (i : Nat) : Bool := at_ l (i + 1) == 61 && (at_ l i == 61 || at_ l i == 33 || at_ l i == 60 || at_ l i == 62) && decide (i + 1 < l.length)
/-- the length of the symbol at a place -/
def sym (l : List UInt8) (i : Nat) : Nat := if two l i then 2 else if symB (at_ l i) then 1 else 0
def wrongAt (l : List UInt8) (i : Nat) : Bool := !white (at_ l i) && at_ l i != 35 && !letter (at_ l i) && !digit (at_ l i) && sym l i == 0
end Go.Proofs.YtlpoeflbnpbmgaaGreatDoor.Lx
set_option linter.unusedVariables false
namespace Go.Proofs.YtlpoeflbnpbmgaaGreatDoor.Lx
open Go.RowKit

theorem u8_eq (b c : UInt8) : (b == c) = ((b.toNat : Int) == (c.toNat : Int)) := by
  rw [Bool.eq_iff_iff]
  simp only [beq_iff_eq]
  constructor
  · rintro rfl
    rfl
  · intro h
    exact UInt8.toNat_inj.1 (by omega)

theorem white_eq (b : UInt8) : white b = ((b.toNat : Int) == 9 || (b.toNat : Int) == 10 || (b.toNat : Int) == 13 || (b.toNat : Int) == 32) := by
  unfold white
  rw [u8_eq, u8_eq, u8_eq, u8_eq]
  rfl
theorem letter_eq (b : UInt8) : letter b = (decide ((97 : Int) ≤ (b.toNat : Int)) && decide ((b.toNat : Int) ≤ 122)) := by
  unfold letter
  rw [Bool.eq_iff_iff]
  simp only [Bool.and_eq_true, decide_eq_true_eq]
  omega
theorem digit_eq (b : UInt8) : digit b = (decide ((48 : Int) ≤ (b.toNat : Int)) && decide ((b.toNat : Int) ≤ 57)) := by
  unfold digit
  rw [Bool.eq_iff_iff]
  simp only [Bool.and_eq_true, decide_eq_true_eq]
  omega

theorem white_any (b : UInt8) (w : World) : Calls Tryz.prog 109 #[.int .u8 (b.toNat : Int)] w fun e w' => e = .returned (.bool (white b)) ∧ w = w' := by
  have HV := Lib.hid (white_eq b)
  go_enter Tryz.func109, Tryz.ntmps109
  go_wp2
  all_goals
    go_ret
    refine ⟨congrArg (fun x => Ending.returned (Value.bool x)) ?_, rfl⟩
    rw [HV.out]
    all_goals first | rfl | (simp [*]; done)

theorem letter_any (b : UInt8) (w : World) : Calls Tryz.prog 111 #[.int .u8 (b.toNat : Int)] w fun e w' => e = .returned (.bool (letter b)) ∧ w = w' := by
  have HV := Lib.hid (letter_eq b)
  go_enter Tryz.func111, Tryz.ntmps111
  go_wp2
  all_goals
    go_ret
    refine ⟨congrArg (fun x => Ending.returned (Value.bool x)) ?_, rfl⟩
    rw [HV.out]
    all_goals first | rfl | (simp [*]; done) | (simp; omega)

theorem digit_any (b : UInt8) (w : World) : Calls Tryz.prog 43 #[.int .u8 (b.toNat : Int)] w fun e w' => e = .returned (.bool (digit b)) ∧ w = w' := by
  have HV := Lib.hid (digit_eq b)
  go_enter Tryz.func43, Tryz.ntmps43
  go_wp2
  all_goals
    go_ret
    refine ⟨congrArg (fun x => Ending.returned (Value.bool x)) ?_, rfl⟩
    rw [HV.out]
    all_goals first | rfl | (simp [*]; done) | (simp; omega)

theorem inName_any (b : UInt8) (w : World) : Calls Tryz.prog 113 #[.int .u8 (b.toNat : Int)] w fun e w' => e = .returned (.bool (inName b)) ∧ w = w' := by
  have hd : inName b = (letter b || digit b || ((b.toNat : Int) == 95)) := by
    unfold inName
    rw [u8_eq b 95]
    rfl
  have HV := Lib.hid hd
  have h1 := Lib.hid (letter_any b w)
  have h2 := Lib.hid (digit_any b w)
  clear hd
  go_enter Tryz.func113, Tryz.ntmps113
  cases hl : letter b with
  | true =>
    rw [hl] at h1
    go_wp2_with (fail)
    refine h1.out.mono ?_
    rintro e w' ⟨rfl, rfl⟩
    go_wp2_with (fail)
    go_ret
    exact ⟨congrArg (fun x => Ending.returned (Value.bool x)) (by rw [HV.out, hl]; rfl), rfl⟩
  | false =>
    rw [hl] at h1
    cases hd : digit b with
    | true =>
      rw [hd] at h2
      go_wp2_with (fail)
      refine h1.out.mono ?_
      rintro e w' ⟨rfl, rfl⟩
      go_wp2_with (fail)
      refine h2.out.mono ?_
      rintro e w' ⟨rfl, rfl⟩
      go_wp2_with (fail)
      go_ret
      exact ⟨congrArg (fun x => Ending.returned (Value.bool x)) (by rw [HV.out, hl, hd]; rfl), rfl⟩
    | false =>
      rw [hd] at h2
      go_wp2_with (fail)
      refine h1.out.mono ?_
      rintro e w' ⟨rfl, rfl⟩
      go_wp2_with (fail)
      refine h2.out.mono ?_
      rintro e w' ⟨rfl, rfl⟩
      go_wp2_with (fail)
      go_ret
      exact ⟨congrArg (fun x => Ending.returned (Value.bool x)) (by rw [HV.out, hl, hd]; rfl), rfl⟩

set_option maxHeartbeats 400000 in
/-- 'while' with a closure that has captured one place -/
theorem while_cap (K : Nat) (cap : Value) (p : Nat → Bool) (s : ByteArray) (g i : Nat) (w : World) (hs : s.size ≤ 1000000) (hi : i ≤ s.size) (hg : w.cell? ⟨g, 0, none⟩ = some (.string s))
    (eK : ∀ args w, (callFunc K args).run Tryz.prog w = .ok (.enter K args) w)
    (hK : ∀ j : Nat, j < s.size → Calls Tryz.prog K #[.int .i64 (j : Int), cap] w fun e w' => e = .returned (.bool (p j)) ∧ w = w') :
    Calls Tryz.prog 107 #[.pointer (some ⟨g, 0, none⟩), .int .i64 (i : Int), .func (.func K) #[] #[cap]] w fun e w' => e = .returned (.int .i64 (whl p (s.size - i) i : Int)) ∧ w = w' := by
  have HK := Lib.hid hK
  clear hK
  go_enter Tryz.func107, Tryz.ntmps107
  go_wp2_with (fail)
  go_loop [1] (fun x => ∃ k : Nat, k ≤ s.size ∧ x = .int .i64 (k : Int) ∧ Hid (whl p (s.size - i) i = whl p (s.size - k) k)) (fun x => s.size - (intOf x).toNat)
  case atStart => exact ⟨i, hi, rfl, rfl⟩
  case round =>
    obtain ⟨k, hk, rfl, hw⟩ := hrel
    by_cases hlt : k < s.size
    · have hlt' : (k : Int) < (s.size : Int) := by omega
      have hc := Lib.hid (HK.out k hlt)
      cases hp : p k with
      | true =>
        have HN := Lib.hid (hw.out.trans (whl_yes p s.size k hlt hp))
        rw [hp] at hc
        clear hp
        go_wp2_with (fail)
        refine hc.out.mono ?_
        rintro e w' ⟨rfl, rfl⟩
        go_wp2_with (fail)
        exact ⟨⟨k + 1, by omega, by go_num, HN⟩, by simp [intOf]; omega⟩
      | false =>
        have HN := Lib.hid (hw.out.trans (whl_no p (s.size - k) k hp))
        rw [hp] at hc
        clear hp
        go_wp2_with (fail)
        refine hc.out.mono ?_
        rintro e w' ⟨rfl, rfl⟩
        go_wp2_with (fail)
        go_ret
        exact ⟨by rw [HN.out]; rfl, rfl⟩
    · have hlt' : (s.size : Int) ≤ (k : Int) := by omega
      have HN := Lib.hid (hw.out.trans (whl_end p s.size k hlt))
      go_wp2_with (fail)
      go_ret
      exact ⟨by rw [HN.out]; rfl, rfl⟩
end Go.Proofs.YtlpoeflbnpbmgaaGreatDoor.Lx
