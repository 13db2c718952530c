/- What is proved: the functions of the map; Size. -/
import Derived.Test.YtlpoeflbnpbmgaaGreatDoorTySizes
set_option linter.unusedVariables false
namespace Go.Proofs.YtlpoeflbnpbmgaaGreatDoor
open Go.RowKit Go.Maps

theorem one_any (t : TyV) (w : World) : Calls Tryz.prog 38 #[.agg #[.int .i64 t.kind, .int .i64 t.len, .string t.nm]] w fun e w' => e = .returned (.int .i64 1) ∧ Below w.heap.size w w' := by
  go_enter Tryz.func38, Tryz.ntmps38
  go_wp2_with (fail)
  go_ret
  exact ⟨rfl, (Below.refl _ _).alloc (Nat.le_refl _) _⟩
theorem lenOf_any (t : TyV) (w : World) : Calls Tryz.prog 39 #[.agg #[.int .i64 t.kind, .int .i64 t.len, .string t.nm]] w fun e w' => e = .returned (.int .i64 t.len) ∧ Below w.heap.size w w' := by
  go_enter Tryz.func39, Tryz.ntmps39
  go_wp2_with (fail)
  go_ret
  exact ⟨rfl, (Below.refl _ _).alloc (Nat.le_refl _) _⟩
set_option maxHeartbeats 1000000 in
theorem count_any (t : TyV) (A : Option Addr) (c B : Nat) (l : List RcV) (r : RcV) (w : World) (hB : RBox w B A l.length c) (hf : fndR l t.nm = some r) (hr : RRow w.heap.size w A l) (hl : l.length ≤ 1000000000) :
    Calls Tryz.prog 40 #[.agg #[.int .i64 t.kind, .int .i64 t.len, .string t.nm], .pointer (some ⟨B, 0, none⟩)] w fun e w' => e = .returned (.int .i64 (r.flds.length : Int)) ∧ Below w.heap.size w w' := by
  have HR := Lib.hid hr
  have HF := Lib.hid hf
  have hlt := (Array.getElem?_eq_some_iff.1 hB).1
  have c0 : (w.alloc (.cells #[.int .i64 t.kind, .int .i64 t.len, .string t.nm] 31)).cell? ⟨B, 0, none⟩ = some (.slice A l.length c) := (((Below.refl w.heap.size w).alloc (Nat.le_refl _) _).cell (p := ⟨B, 0, none⟩) hlt).trans (Lib.cell_of_heap hB 0)
  clear hr hf hB
  go_enter Tryz.func40, Tryz.ntmps40
  go_wp2_with (fail)
  clear c0
  obtain ⟨hb0, hc0, hs0⟩ := box_ty w t
  generalize (w.alloc (.cells #[.int .i64 t.kind, .int .i64 t.len, .string t.nm] 31)) = w0 at *
  have HB0 := Lib.hid hb0
  have HS0 := Lib.hid hs0
  clear hb0 hc0 hs0
  refine (find_yes A c l t.nm r w0 HF.out (HR.out.later HB0.out) hl).mono ?_
  rintro e w1 ⟨rfl, hb1⟩
  have HB1 := Lib.hid (HB0.out.trans (hb1.mono (by have := HS0.out; omega)))
  clear hb1
  go_wp2_with (fail)
  go_ret
  exact ⟨rfl, HB1.out⟩

/-- the number of a type's scalars -/
def szT (t : TyV) (l : List RcV) : Nat := if validB t l then (partsT t l).length else 0
/-- what a kind's function is -/
def SzFun (w : World) (t : TyV) (l : List RcV) (b B : Nat) (A : Option Addr) (c : Nat) : Prop :=
  ((t.kind = 1 ∨ t.kind = 2) ∧ szT t l = 1) ∨ (t.kind = 3 ∧ (szT t l : Int) = t.len) ∨ (t.kind = 4 ∧ ∃ r, fndR l t.nm = some r ∧ szT t l = r.flds.length)
theorem szT_cases {t : TyV} {l : List RcV} (hv : validB t l = true) :
    ((t.kind = 1 ∨ t.kind = 2) ∧ szT t l = 1) ∨ (t.kind = 3 ∧ (szT t l : Int) = t.len) ∨ (t.kind = 4 ∧ ∃ r, fndR l t.nm = some r ∧ szT t l = r.flds.length) := by
  unfold szT
  rw [if_pos hv]
  by_cases k12 : t.kind = 1 ∨ t.kind = 2
  · refine .inl ⟨k12, ?_⟩
    unfold partsT
    rw [if_neg (by omega), if_neg (by omega)]; rfl
  · by_cases k3 : t.kind = 3
    · refine .inr (.inl ⟨k3, ?_⟩)
      have hb : 1 ≤ t.len ∧ t.len ≤ 8 := by
        unfold validB at hv
        rw [if_neg (by omega), if_pos k3] at hv
        simp only [Bool.and_eq_true, decide_eq_true_eq] at hv
        exact hv.1
      unfold partsT
      rw [if_pos k3]; simp; omega
    · by_cases k4 : t.kind = 4
      · obtain ⟨r, hf⟩ := kind4 k4 hv
        refine .inr (.inr ⟨k4, r, hf, ?_⟩)
        unfold partsT
        rw [if_neg k3, if_pos k4, hf]; simp
      · unfold validB at hv
        rw [if_neg k12, if_neg k3, if_neg k4] at hv
        cases hv
theorem szT_len {t : TyV} {l : List RcV} (hv : validB t l = true) (h20 : ∀ r ∈ l, r.flds.length ≤ 20) : szT t l ≤ 20 := by
  unfold szT
  rw [if_pos hv]
  exact parts_len t l hv h20

/-- a map of sizes, made for some records -/
structure Sz (w : World) (b B : Nat) (A : Option Addr) (n c : Nat) : Prop where
  map : SzMap w b B
  box : RBox w B A n c
theorem Sz.below {w w' : World} {b B n c : Nat} {A : Option Addr} (h : Sz w b B A n c) (hb : Below w.heap.size w w') : Sz w' b B A n c :=
  ⟨h.map.below hb, (hb.block _ (Array.getElem?_eq_some_iff.1 h.box).1).trans h.box⟩
theorem sizes_f (A : Option Addr) (n c : Nat) (w : World) :
    Calls Tryz.prog 26 #[.slice A n c] w fun e w' => ∃ b B, e = .returned (.map (some b)) ∧ Sz w' b B A n c ∧ Below w.heap.size w w' := by
  refine (sizes_any A n c w).mono ?_
  rintro e w' ⟨rfl, h1, h2, h3⟩
  exact ⟨_, _, rfl, ⟨h1, h2⟩, h3⟩
theorem Sz.look1 {w : World} {b B n c : Nat} {A : Option Addr} (h : Sz w b B A n c) {k : Int} (hk : k = 1 ∨ k = 2) :
    (Instr.lookup 60 (.map (some b)) (.int .i64 k) false).run Tryz.prog w = .ok (.func (.func 38) #[] #[]) w := by
  rcases hk with rfl | rfl
  · exact h.map.look 1 rfl _ (szD1 B)
  · exact h.map.look 2 rfl _ (szD2 B)
theorem Sz.look3 {w : World} {b B n c : Nat} {A : Option Addr} (h : Sz w b B A n c) {k : Int} (hk : k = 3) :
    (Instr.lookup 60 (.map (some b)) (.int .i64 k) false).run Tryz.prog w = .ok (.func (.func 39) #[] #[]) w := by
  subst hk; exact h.map.look 3 rfl _ (szD3 B)
theorem Sz.look4 {w : World} {b B n c : Nat} {A : Option Addr} (h : Sz w b B A n c) {k : Int} (hk : k = 4) :
    (Instr.lookup 60 (.map (some b)) (.int .i64 k) false).run Tryz.prog w = .ok (.func (.func 40) #[] #[.pointer (some ⟨B, 0, none⟩)]) w := by
  subst hk; exact h.map.look 4 rfl _ (szD4 B)

end Go.Proofs.YtlpoeflbnpbmgaaGreatDoor
