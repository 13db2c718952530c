/- What is proved: keywords makes a map that answers true at the eighteen keywords and false at every other string. -/
import Derived.Test.YtnpcfmoiiecadaaDoorProg
import Derived.WalkKit
import Derived.OwnWalk
import Derived.Below
import Derived.Outline
import Derived.WalkLawsBesides
import Derived.IntWalk
import Derived.Lib.Hide
import Derived.LoopTactic
import Derived.Maps.Own
import Derived.Maps.OwnOps
import Derived.Maps.OwnSet
import Derived.Maps.Views
import Derived.Carry
import Derived.StringKeys
set_option linter.unusedVariables false
namespace Go.Proofs.YtnpcfmoiiecadaaDoor.Lx
open Go.RowKit Go.Maps

/-- a store of a map's literal, as any store -/
theorem wpList_insert_own {H : Type} {P : Program} (w : World) {ops : Array Oper} {rest : List Oper} {o : Oper} {a : Act} {Q : Exit → Act → World → Prop}
    (hg : o.guard = none) (m x v : Operand) (t : TypeId) (hop : o.op = Op.insert t m x v)
    (k e : TypeId) (K : Keyed P k) (ht : P.underlying t = some (.map k e)) (R : Value → Option (DataW H × List MemPlace)) (b n : Nat) (D : DataW H)
    (hm : a.eval m = .map (some b)) (hown : w.ownsMap P k R b n D) (hn : n < maxLen) (key val : Value) (kl : Lit) (hx : a.eval x = key) (hv : a.eval v = val) (hkey : keyOf P k key = some kl)
    (d : DataW H) (ps : List MemPlace) (hval : R val = some (d, ps))
    (hK : ∀ w', w'.ownsMap P k R b (n + 1) (D.put kl d) → w.grownBy w' (some b) → wpList P ops Q rest (a.put o.dst undef) w') :
    wpList P ops Q (o :: rest) a w := by
  refine wpList_plain hg fun K' hK' => ?_
  obtain ⟨w', hrun, r1, r2⟩ := hown.update K ht hn hkey hval
  unfold Oper.wp
  simp [execOp, hop, hm, hx, hv, hrun, Result.andThen]
  exact hK' _ _ (hK w' r1 r2)

theorem plainElem_bool_inv {H : Type} {P : Program} {e : TypeId} (he : P.underlying e = some .bool) {v : Value} {z : DataW H × List MemPlace} (h : plainElem P e v = some z) : ∃ x, v = .bool x ∧ z = (.lit (.bool x), []) := by
  unfold plainElem at h
  rw [he] at h
  cases v <;> simp at h
  exact ⟨_, rfl, h.symm⟩

/-- the datum of a set of strings, put in one behind the other -/
def setD (l : List (List UInt8)) (D : DataW Unit) : DataW Unit := l.foldl (fun D k => D.put (.string k) (.lit (.bool true))) D
theorem setD_at (s : List UInt8) (z : DataW Unit) (l : List (List UInt8)) : ∀ D : DataW Unit, IsMap D → (setD l D).atKey (.string s) z = if s ∈ l then .lit (.bool true) else D.atKey (.string s) z := by
  induction l with
  | nil => intro D _; simp [setD]
  | cons k ks ih =>
    intro D hD
    have h := ih (D.put (.string k) (.lit (.bool true))) (hD.put _ _)
    show (setD ks (D.put (.string k) (.lit (.bool true)))).atKey (.string s) z = _
    rw [h]
    by_cases h1 : s ∈ ks
    · rw [if_pos h1, if_pos (List.mem_cons_of_mem _ h1)]
    · rw [if_neg h1]
      by_cases h2 : s = k
      · subst h2
        rw [if_pos (List.mem_cons_self ..), Maps.atKey_put_same hD (by trivial)]
      · rw [if_neg (by simp [h1, h2]), Maps.atKey_put_other (by simpa using h2)]

/-- the keywords -/
def kwList : List (List UInt8) := [[114, 101, 99, 111, 114, 100], [112, 114, 111, 99], [118, 97, 114], [105, 102], [101, 108, 115, 101], [119, 104, 105, 108, 101], [102, 111, 114], [116, 111], [114, 101, 116, 117, 114, 110], [97, 115, 115, 101, 114, 116], [97, 110, 100], [111, 114], [110, 111, 116], [116, 114, 117, 101], [102, 97, 108, 115, 101], [105, 110, 116], [98, 111, 111, 108], [108, 101, 110]]
def isKw (s : List UInt8) : Bool := decide (s ∈ kwList)

theorem kwLaw : Keyed Tryd.prog 9 := string_keyed Tryd.underlying9
theorem kwZero (w : World) : (zeroValue 4).run Tryd.prog w = .ok (.bool false) w := by kernel_rfl

/-- a map of the keywords in block b -/
def KwMap (w : World) (b : Nat) : Prop := ∃ n, w.ownsMap Tryd.prog 9 (plainElem (H := Unit) Tryd.prog 4) b n (setD kwList (.map []))

theorem KwMap.below {w w' : World} {b : Nat} (h : KwMap w b) (hb : Below w.heap.size w w') : KwMap w' b := by
  obtain ⟨n, h⟩ := h
  exact ⟨n, h.kept (row := none) ⟨hb.os, hb.tape, hb.output, hb.size, fun k hk _ => hb.block k hk⟩ (by simp)⟩
theorem KwMap.drew {w : World} {b : Nat} (h : KwMap w b) (n : Nat) : KwMap (w.drewN n) b := h
end Go.Proofs.YtnpcfmoiiecadaaDoor.Lx
