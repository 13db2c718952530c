/- What is proved: sizes makes a map of functions; each function's result is the number of scalars. -/
import Derived.Test.YtlpoeflbnpbmgaaGreatDoorTyParts
import Derived.Maps.Own
import Derived.Maps.OwnOps
import Derived.Maps.OwnSet
import Derived.Maps.Views
import Derived.Carry
import Derived.Laws.EntriesVeiled
set_option linter.unusedVariables false
namespace Go.Proofs.YtlpoeflbnpbmgaaGreatDoor
open Go.RowKit Go.Maps

def ty_I64 (a : Int) : Prop := (Lit.int .i64 a).wf = true
/-- how a function value reads -/
def ty_fnR (v : Value) : Option (DataW Value × List MemPlace) := some (.held v, [])
def szF1 : Value := .func (.func 38) #[] #[]
def szF3 : Value := .func (.func 39) #[] #[]
def szF4 (B : Nat) : Value := .func (.func 40) #[] #[.pointer (some ⟨B, 0, none⟩)]
/-- what the map holds -/
def szD (B : Nat) : DataW Value := ((((DataW.map []).put (.int .i64 1) (.held szF1)).put (.int .i64 2) (.held szF1)).put (.int .i64 3) (.held szF3)).put (.int .i64 4) (.held (szF4 B))
def SzMap (w : World) (b B : Nat) : Prop := w.ownsMap Tryz.prog 3 ty_fnR b 4 (szD B)
theorem szLaw : Keyed Tryz.prog 3 := int_keyed Tryz.underlying3
theorem SzMap.below {w w' : World} {b B : Nat} (h : SzMap w b B) (hb : Below w.heap.size w w') : SzMap w' b B :=
  World.ownsMap.kept (row := none) h ⟨hb.os, hb.tape, hb.output, hb.size, fun k hk _ => hb.block k hk⟩ (by simp)
theorem SzMap.look {w : World} {b B : Nat} (h : SzMap w b B) (k : Int) (hk : ty_I64 k) (f : Value) (hf : (szD B).atKey (.int .i64 k) (.held .nilFunc) = .held f) :
    (Instr.lookup 60 (.map (some b)) (.int .i64 k) false).run Tryz.prog w = .ok f w := by
  obtain ⟨v, ps, hrun, hv⟩ := World.ownsMap.lookup h szLaw Tryz.underlying60 (z := .nilFunc) (by kernel_rfl) (zd := .held .nilFunc) (zp := []) rfl (keyOf_int_mk Tryz.underlying3 hk)
  rw [hf] at hv
  simp only [ty_fnR, Option.some.injEq, Prod.mk.injEq, DataW.held.injEq] at hv
  rw [hv.1] at hrun
  exact hrun
theorem szD1 (B : Nat) : (szD B).atKey (.int .i64 1) (.held .nilFunc) = .held szF1 := rfl
theorem szD2 (B : Nat) : (szD B).atKey (.int .i64 2) (.held .nilFunc) = .held szF1 := rfl
theorem szD3 (B : Nat) : (szD B).atKey (.int .i64 3) (.held .nilFunc) = .held szF3 := rfl
theorem szD4 (B : Nat) : (szD B).atKey (.int .i64 4) (.held .nilFunc) = .held (szF4 B) := rfl

/-- the records in a variable -/
def RBox (w : World) (B : Nat) (A : Option Addr) (n c : Nat) : Prop := w.heap[B]? = some (.cells #[.slice A n c] 25 (0, 0))

set_option maxHeartbeats 2000000 in
theorem sizes_any (A : Option Addr) (n c : Nat) (w : World) :
    Calls Tryz.prog 26 #[.slice A n c] w fun e w' => e = .returned (.map (some (w.heap.size + 1))) ∧ SzMap w' (w.heap.size + 1) w.heap.size ∧ RBox w' w.heap.size A n c ∧ Below w.heap.size w w' := by
  have hmm := @run_makeMap Tryz.prog
  have hb0 := (Below.refl w.heap.size w).alloc (Nat.le_refl _) (.cells #[.slice A n c] 25)
  have hn0 := heap_alloc_new w (.cells #[.slice A n c] 25)
  have hz0 := World.size_alloc w (.cells #[.slice A n c] 25)
  have hown := World.ownsMap_made (w.alloc (.cells #[.slice A n c] 25)) Tryz.prog 3 ty_fnR
  have hb1 := hb0.alloc (by omega) (.map #[] 0)
  have hn1 := (heap_alloc_old (w.alloc (.cells #[.slice A n c] 25)) (.map #[] 0) (by omega)).trans hn0
  rw [hz0] at hown
  obtain ⟨w2, hr2, ho2, hg2⟩ := hown.update szLaw Tryz.underlying60 (by unfold maxLen; omega) (keyOf_int_mk Tryz.underlying3 (a := 1) (by decide)) (val := szF1) (d := .held szF1) (ps := []) rfl
  obtain ⟨w3, hr3, ho3, hg3⟩ := ho2.update szLaw Tryz.underlying60 (by unfold maxLen; omega) (keyOf_int_mk Tryz.underlying3 (a := 2) (by decide)) (val := szF1) (d := .held szF1) (ps := []) rfl
  obtain ⟨w4, hr4, ho4, hg4⟩ := ho3.update szLaw Tryz.underlying60 (by unfold maxLen; omega) (keyOf_int_mk Tryz.underlying3 (a := 3) (by decide)) (val := szF3) (d := .held szF3) (ps := []) rfl
  obtain ⟨w5, hr5, ho5, hg5⟩ := ho4.update szLaw Tryz.underlying60 (by unfold maxLen; omega) (keyOf_int_mk Tryz.underlying3 (a := 4) (by decide)) (val := szF4 w.heap.size) (d := .held (szF4 w.heap.size)) (ps := []) rfl
  have hge : ∀ k, some (w.heap.size + 1) = some k → w.heap.size ≤ k := fun k e => by injection e with e; omega
  have hb2 := hb1.grown hg2 hb1.size hge
  have hb3 := hb2.grown hg3 hb2.size hge
  have hb4 := hb3.grown hg4 hb3.size hge
  have hb5 := hb4.grown hg5 hb4.size hge
  have hlt1 := (Array.getElem?_eq_some_iff.1 hn1).1
  have q2 := (hg2.block _ hlt1 (by simp)).trans hn1
  have q3 := (hg3.block _ (Array.getElem?_eq_some_iff.1 q2).1 (by simp)).trans q2
  have q4 := (hg4.block _ (Array.getElem?_eq_some_iff.1 q3).1 (by simp)).trans q3
  have q5 := (hg5.block _ (Array.getElem?_eq_some_iff.1 q4).1 (by simp)).trans q4
  have HO := Lib.hid ho5
  have HQ := Lib.hid q5
  have HB := Lib.hid hb5
  clear ho5 q5 hb5 hge hb4 hb3 hb2 hb1 hb0 hn0 hn1 hlt1 q2 q3 q4 hg2 hg3 hg4 hg5 ho2 ho3 ho4 hown hz0
  unfold szF1 at hr2 hr3
  unfold szF3 at hr4
  unfold szF4 at hr5
  go_enter Tryz.func26, Tryz.ntmps26
  go_wp2_with (fail)
  go_ret
  exact ⟨rfl, HO.out, HQ.out, HB.out⟩
end Go.Proofs.YtlpoeflbnpbmgaaGreatDoor
