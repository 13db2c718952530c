/- What is proved: the law TypesSame, over the example's contract. -/
import Derived.Test.YtcikkapekeghaaaDoorTyFewW
import Derived.Test.YtcikkapekeghaaaDoorTyScal
import Derived.Deep.Cut
import Derived.Deep.DeepCutAuto
set_option linter.unusedVariables false
namespace Go.Proofs.YtcikkapekeghaaaDoor
open Go.RowKit

/-- the example's contract -/
def Awakes : Prop := ∀ w : World, Calls Tryd.prog 7 #[] w fun e w' => e = .returned (.bool true) ∧ Below w.heap.size w w'
/-- the law's answer -/
def Yes (w : World) (e : Ending) (w' : World) : Prop := e = .returned (.bool true) ∧ Below w.heap.size w w'

theorem scal_one (A : Option Addr) (c : Nat) (l : List RcV) (q : Nat) (t : TyV) (ps : List TyV) (n : Nat) (W : World) (hv : validB t l = true) (hps : partsT t l = ps) (hn : ps.length = n) (hr : RRow W.heap.size W A l) (hl : l.length ≤ 1000000000) (h20 : ∀ r ∈ l, r.flds.length ≤ 20) (ht : TRow W.heap.size W (some ⟨q, 0, none⟩) [t]) :
    Calls Tryd.prog 15 #[.slice A l.length c, .slice (some ⟨q, 0, none⟩) 1 1] W fun e w' => ∃ A' c', e = .returned (.slice A' n c') ∧ TRow w'.heap.size w' A' ps ∧ Below W.heap.size W w' := by
  refine (scalars_any A (some ⟨q, 0, none⟩) c 1 l [t] W hr ht hl h20 (show (1 : Nat) ≤ 1000 by decide)).mono ?_
  rintro e w' ⟨v, rfl, ho, hb⟩
  rw [show scalT [t] l = ps by unfold scalT; simp [hv, hps]] at ho
  obtain ⟨A', c', rfl, ht'⟩ := types_own ho
  exact ⟨A', c', by rw [hn], ht', hb⟩
theorem equal_n (A B : Option Addr) (c d n : Nat) (ps : List TyV) (W : World) (hn : ps.length = n) (h1 : TRow W.heap.size W A ps) (h2 : TRow W.heap.size W B ps) (hl : n ≤ 1000000000) :
    Calls Tryd.prog 14 #[.slice A n c, .slice B n d] W fun e w' => e = .returned (.bool true) ∧ Below W.heap.size W w' := by
  subst hn
  exact equal_any A B c d ps W h1 h2 hl
theorem row1 (t : TyV) (W : World) (n : Nat) (hn : W.heap.size = n) : TRow (W.alloc (.cells #[.int .i64 t.kind, .int .i64 t.len, .string t.nm] 27)).heap.size (W.alloc (.cells #[.int .i64 t.kind, .int .i64 t.len, .string t.nm] 27)) (some ⟨n, 0, none⟩) [t] := fun _ => by
  subst hn
  have h := heap_alloc_new W (.cells #[.int .i64 t.kind, .int .i64 t.len, .string t.nm] 27)
  refine ⟨W.heap.size, 0, rfl, by simp, fun i hi => ?_⟩
  match i, hi with
  | 0, _ => exact ⟨Lib.cell_of_heap h 0, Lib.cell_of_heap h 1, Lib.cell_of_heap h 2⟩
theorem TRow.al {W : World} {A : Option Addr} {l : List TyV} (h : TRow W.heap.size W A l) (o : Obj) : TRow (W.alloc o).heap.size (W.alloc o) A l := h.later ((Below.refl _ _).alloc (Nat.le_refl _) _)
theorem TRow.dr {W : World} {A : Option Addr} {l : List TyV} (h : TRow W.heap.size W A l) : TRow W.drew.heap.size W.drew A l := h.later (Below.refl _ _).drew

/-- what is known: the two boxes, the records -/
structure SL (w : World) (a b : TyV) (A B : Option Addr) (ra rb : List RcV) (W : World) : Prop where
  two : TwoT W w.heap.size a b
  size : w.heap.size + 2 ≤ W.heap.size
  ha : RRow W.heap.size W A ra
  hb : RRow W.heap.size W B rb
  below : Below w.heap.size w W
theorem SL.later {w W W' : World} {a b : TyV} {A B : Option Addr} {ra rb : List RcV} (h : SL w a b A B ra rb W) (hb : Below W.heap.size W W') : SL w a b A B ra rb W' :=
  ⟨h.two.below hb (by have := h.size; omega), Nat.le_trans h.size hb.size, h.ha.later hb, h.hb.later hb, h.below.trans (hb.mono h.below.size)⟩
theorem SL.alloc {w W : World} {a b : TyV} {A B : Option Addr} {ra rb : List RcV} (h : SL w a b A B ra rb W) (o : Obj) : SL w a b A B ra rb (W.alloc o) := h.later ((Below.refl _ _).alloc (Nat.le_refl _) _)
theorem SL.drew {w W : World} {a b : TyV} {A B : Option Addr} {ra rb : List RcV} (h : SL w a b A B ra rb W) : SL w a b A B ra rb W.drew := h.later (Below.refl _ _).drew

set_option maxRecDepth 100000 in
set_option maxHeartbeats 4000000 in
/-- records that are not few -/
theorem same_many (HAW : Awakes) (a b : TyV) (A B : Option Addr) (c d : Nat) (ra rb : List RcV) (w : World) (hla : ra.length ≤ 9223372036854775807) (hlb : rb.length ≤ 9223372036854775807) (hra : RRowW w.heap.size w A ra) (hrb : RRowW w.heap.size w B rb) (hf : fewB ra = false ∨ fewB ra = true ∧ fewB rb = false) :
    Calls Tryd.prog 5 #[.slice A ra.length c, .slice B rb.length d, .agg #[.int .i64 a.kind, .int .i64 a.len, .string a.nm], .agg #[.int .i64 b.kind, .int .i64 b.len, .string b.nm]] w (Yes w) := by
  have HRA := Lib.hid hra
  have HRB := Lib.hid hrb
  clear hra hrb
  rcases hf with h1 | ⟨h1, h2⟩
  · have HF1 := Lib.hid h1
    clear h1
    go_enter Tryd.func5, Tryd.ntmps5
    go_wp2_with (fail)
    obtain ⟨hb0, _, hs0⟩ := box_twoT w a b
    generalize ((w.alloc (.cells #[.int .i64 a.kind, .int .i64 a.len, .string a.nm] 27)).alloc (.cells #[.int .i64 b.kind, .int .i64 b.len, .string b.nm] 27)) = w0 at *
    have HB0 := Lib.hid hb0
    clear hb0 hs0
    refine (fewW_f A c ra w0 false HF1.out hla (HRA.out.later HB0.out)).mono ?_
    rintro e w1 ⟨rfl, rfl⟩
    go_wp2_with (fail)
    refine (HAW w0).mono ?_
    rintro e w2 ⟨rfl, hb2⟩
    have HB2 := Lib.hid (HB0.out.trans (hb2.mono HB0.out.size))
    clear hb2
    go_wp2_with (fail)
    go_ret
    exact ⟨rfl, HB2.out⟩
  · have HF1 := Lib.hid h1
    have HF2 := Lib.hid h2
    clear h1 h2
    go_enter Tryd.func5, Tryd.ntmps5
    go_wp2_with (fail)
    obtain ⟨hb0, _, hs0⟩ := box_twoT w a b
    generalize ((w.alloc (.cells #[.int .i64 a.kind, .int .i64 a.len, .string a.nm] 27)).alloc (.cells #[.int .i64 b.kind, .int .i64 b.len, .string b.nm] 27)) = w0 at *
    have HB0 := Lib.hid hb0
    clear hb0 hs0
    refine (fewW_f A c ra w0 true HF1.out hla (HRA.out.later HB0.out)).mono ?_
    rintro e w1 ⟨rfl, rfl⟩
    go_wp2_with (fail)
    refine (fewW_f B d rb w0 false HF2.out hlb (HRB.out.later HB0.out)).mono ?_
    rintro e w1 ⟨rfl, rfl⟩
    go_wp2_with (fail)
    refine (HAW w0).mono ?_
    rintro e w2 ⟨rfl, hb2⟩
    have HB2 := Lib.hid (HB0.out.trans (hb2.mono HB0.out.size))
    clear hb2
    go_wp2_with (fail)
    go_ret
    exact ⟨rfl, HB2.out⟩

set_option maxRecDepth 100000 in
set_option maxHeartbeats 8000000 in
/-- few records -/
theorem same_few (HAW : Awakes) (a b : TyV) (A B : Option Addr) (c d : Nat) (ra rb : List RcV) (w : World) (hra : RRow w.heap.size w A ra) (hrb : RRow w.heap.size w B rb) (h1 : fewB ra = true) (h2 : fewB rb = true) (hwa : RRowW w.heap.size w A ra) (hwb : RRowW w.heap.size w B rb) :
    Calls Tryd.prog 5 #[.slice A ra.length c, .slice B rb.length d, .agg #[.int .i64 a.kind, .int .i64 a.len, .string a.nm], .agg #[.int .i64 b.kind, .int .i64 b.len, .string b.nm]] w (Yes w) := by
  have hla := few_len h1
  have hlb := few_len h2
  have HRA := Lib.hid hra
  have HRB := Lib.hid hrb
  have HWA := Lib.hid hwa
  have HWB := Lib.hid hwb
  have HF1 := Lib.hid h1
  have HF2 := Lib.hid h2
  have HAWH := Lib.hid HAW
  have hla9 : ra.length ≤ 1000000000 := by omega
  have hlb9 : rb.length ≤ 1000000000 := by omega
  clear hra hrb hwa hwb h1 h2 HAW
  go_enter Tryd.func5, Tryd.ntmps5
  go_wp2_with (fail)
  obtain ⟨hb0, hc0, hs0⟩ := box_twoT w a b
  generalize ((w.alloc (.cells #[.int .i64 a.kind, .int .i64 a.len, .string a.nm] 27)).alloc (.cells #[.int .i64 b.kind, .int .i64 b.len, .string b.nm] 27)) = w0 at *
  have HB0 := Lib.hid hb0
  have HS0 := Lib.hid (show SL w a b A B ra rb w0 from ⟨hc0, by omega, HRA.out.later hb0, HRB.out.later hb0, hb0⟩)
  clear hb0 hc0 hs0
  refine (fewW_f A c ra w0 true HF1.out (by omega) (HWA.out.later HB0.out)).mono ?_
  rintro e w1 ⟨rfl, rfl⟩
  go_wp2_with (fail)
  refine (fewW_f B d rb w0 true HF2.out (by omega) (HWB.out.later HB0.out)).mono ?_
  rintro e w1 ⟨rfl, rfl⟩
  obtain ⟨a0, a1, a2, b0, b1, b2⟩ := HS0.out.two.now
  go_wp2_with (fail)
  refine (same_any a b A B c d ra rb w0 HS0.out.ha HS0.out.hb hla9 hlb9).mono ?_
  rintro e w1 ⟨v, rfl, hv, hb1⟩
  have HV := Lib.hid hv
  have HVS := Lib.hid (show v = true ↔ SameP b rb a ra from ⟨fun h => (hv.1 h).symm, fun h => hv.2 h.symm⟩)
  have HS1 := Lib.hid (HS0.out.later hb1)
  clear hv hb1 a0 a1 a2 b0 b1 b2
  have hvv : (v != v) = false := by simp
  go_upto_region 4 with fail
  go_cut [41] (fun s41 wx => s41 = .bool false ∧ Hid (SL w a b A B ra rb wx))
  case first =>
    obtain ⟨va, hva⟩ : ∃ va, Hid (validB a ra = va) := ⟨_, Lib.hid rfl⟩
    have HVA := Lib.hid (show va = true ↔ SameP a ra a ra from by rw [← hva.out]; exact SameP.self.symm)
    have hvav : (va != va) = false := by simp
    obtain ⟨a0, a1, a2, b0, b1, b2⟩ := HS1.out.two.now
    go_region_held3 (fun w' => w'.cell? ⟨w.heap.size, 0, none⟩ = some (.int .i64 a.kind) ∧ w'.cell? ⟨w.heap.size, 1, none⟩ = some (.int .i64 a.len) ∧ w'.cell? ⟨w.heap.size, 2, none⟩ = some (.string a.nm) ∧ w'.cell? ⟨w.heap.size + 1, 0, none⟩ = some (.int .i64 b.kind) ∧ w'.cell? ⟨w.heap.size + 1, 1, none⟩ = some (.int .i64 b.len) ∧ w'.cell? ⟨w.heap.size + 1, 2, none⟩ = some (.string b.nm)) (first | (with_reducible exact HK.out) | go_keep)
      ((first
        | (go_at_call 18; (with_reducible refine (same_f b a B A d c rb ra w1.drew v HVS.out HS1.out.drew.hb HS1.out.drew.ha hlb9 hla9).mono ?_); rintro e w2 ⟨rfl, hb2⟩; have HS2 := Lib.hid (HS1.out.drew.later hb2); have HK := Lib.hid HS2.out.two.now; clear hb2)
        | (go_at_call 18; (with_reducible refine (same_f a a A A c c ra ra w2 va HVA.out HS2.out.ha HS2.out.ha hla9 hla9).mono ?_); rintro e w3 ⟨rfl, hb3⟩; have HS3 := Lib.hid (HS2.out.later hb3); have HK := Lib.hid HS3.out.two.now; clear hb3)
        | (go_at_call 8; (with_reducible refine (valid_f a A c ra w3 va hva.out HS3.out.ha hla9).mono ?_); rintro e w4 ⟨rfl, hb4⟩; have HS5 := Lib.hid (HS3.out.later hb4); have HK := Lib.hid HS5.out.two.now; clear hb4)
        | (go_at_call 8; (with_reducible refine (valid_f a A c ra w2 va hva.out HS2.out.ha hla9).mono ?_); rintro e w3 ⟨rfl, hb4⟩; have HS4 := Lib.hid (HS2.out.later hb4); have HK := Lib.hid HS4.out.two.now; clear hb4)
        | (go_at_call 18; (with_reducible refine (same_f a a A A c c ra ra w3 va HVA.out HS4.out.ha HS4.out.ha hla9 hla9).mono ?_); rintro e w4 ⟨rfl, hb3⟩; have HS5 := Lib.hid (HS4.out.later hb3); have HK := Lib.hid HS5.out.two.now; clear hb3)))
    all_goals
      go_wp2_with (fail)
      go_meet
      exact ⟨rfl, HS5⟩
  case rest =>
    obtain ⟨rfl, HS5⟩ := hcut
    clear hvv
    cases v with
    | false =>
      go_wp2_with (fail)
      refine wp_region_noPanic ?_
      refine wp_region_held (S := fun _ => True) (by kernel_rfl) ?_
      refine wpAnyH_take (i := 0) (oi := { dst := some 42, op := Op.move (Operand.tmp 9), type := 4, pos := "law.go:113", after := #[], guard := none }) (v := .bool false) rfl (by kernel_rfl) (by kernel_rfl) (by kernel_rfl) (fun _ _ _ h => h) (Or.inl ⟨by rfl, ?_⟩) trivial ?_
      · (intro w hSw; go_simp)
      simp only [Act.put, List.setIfInBounds_toArray, List.set_cons_zero, List.set_cons_succ]
      refine wpAnyH_take (i := 1) (oi := { dst := some 43, op := Op.unOp UnOp.not 4 (Operand.tmp 42), type := 4, pos := "law.go:113", after := #[{ on := 0, ground := Ground.data }], guard := none }) (v := .bool true) rfl (by kernel_rfl) (by kernel_rfl) (by kernel_rfl) (fun _ _ _ h => h) (Or.inl ⟨by rfl, ?_⟩) trivial ?_
      · (intro w hSw; go_simp)
      simp only [Act.put, List.setIfInBounds_toArray, List.set_cons_zero, List.set_cons_succ]
      refine wpAnyH_take (i := 2) (oi := { dst := some 44, op := Op.move (Operand.tmp 43), type := 4, pos := "law.go:113", after := #[{ on := 1, ground := Ground.data }], guard := none }) (v := .bool true) rfl (by kernel_rfl) (by kernel_rfl) (by kernel_rfl) (fun _ _ _ h => h) (Or.inl ⟨by rfl, ?_⟩) trivial ?_
      · (intro w hSw; go_simp)
      simp only [Act.put, List.setIfInBounds_toArray, List.set_cons_zero, List.set_cons_succ]
      refine wpAnyH_take (i := 3) (oi := { dst := some 45, op := Op.move (Operand.tmp 0), type := 22, pos := "law.go:113", after := #[{ on := 2, ground := Ground.guard }], guard := some (2, false) }) (v := undef) rfl (by kernel_rfl) (by kernel_rfl) (by kernel_rfl) (fun _ _ _ h => h) (Or.inr ⟨by rfl, rfl⟩) trivial ?_
      simp only [Act.put, List.setIfInBounds_toArray, List.set_cons_zero, List.set_cons_succ]
      refine wpAnyH_take (i := 4) (oi := { dst := some 46, op := Op.load 27 (Operand.tmp 6), type := 27, pos := "law.go:113", after := #[{ on := 2, ground := Ground.guard }], guard := some (2, false) }) (v := undef) rfl (by kernel_rfl) (by kernel_rfl) (by kernel_rfl) (fun _ _ _ h => h) (Or.inr ⟨by rfl, rfl⟩) trivial ?_
      simp only [Act.put, List.setIfInBounds_toArray, List.set_cons_zero, List.set_cons_succ]
      refine wpAnyH_take (i := 5) (oi := { dst := some 47, op := Op.buildSlice 23 1 #[(0, Operand.tmp 46)], type := 23, pos := "law.go:113", after := #[{ on := 4, ground := Ground.data }, { on := 2, ground := Ground.guard }], guard := some (2, false) }) (v := undef) rfl (by kernel_rfl) (by kernel_rfl) (by kernel_rfl) (fun _ _ _ h => h) (Or.inr ⟨by rfl, rfl⟩) trivial ?_
      simp only [Act.put, List.setIfInBounds_toArray, List.set_cons_zero, List.set_cons_succ]
      refine wpAnyH_take (i := 6) (oi := { dst := some 48, op := Op.call { callee := Callee.value (Operand.func 15), args := #[Operand.tmp 45, Operand.tmp 47], argTypes := #[22, 23] }, type := 23, pos := "law.go:113", after := #[{ on := 3, ground := Ground.data }, { on := 5, ground := Ground.data }, { on := 2, ground := Ground.chain }, { on := 2, ground := Ground.guard }], guard := some (2, false) }) (v := undef) rfl (by kernel_rfl) (by kernel_rfl) (by kernel_rfl) (fun _ _ _ h => h) (Or.inr ⟨by rfl, rfl⟩) trivial ?_
      simp only [Act.put, List.setIfInBounds_toArray, List.set_cons_zero, List.set_cons_succ]
      refine wpAnyH_take (i := 7) (oi := { dst := some 49, op := Op.move (Operand.tmp 1), type := 22, pos := "law.go:113", after := #[{ on := 2, ground := Ground.guard }], guard := some (2, false) }) (v := undef) rfl (by kernel_rfl) (by kernel_rfl) (by kernel_rfl) (fun _ _ _ h => h) (Or.inr ⟨by rfl, rfl⟩) trivial ?_
      simp only [Act.put, List.setIfInBounds_toArray, List.set_cons_zero, List.set_cons_succ]
      refine wpAnyH_take (i := 8) (oi := { dst := some 50, op := Op.load 27 (Operand.tmp 7), type := 27, pos := "law.go:113", after := #[{ on := 2, ground := Ground.guard }], guard := some (2, false) }) (v := undef) rfl (by kernel_rfl) (by kernel_rfl) (by kernel_rfl) (fun _ _ _ h => h) (Or.inr ⟨by rfl, rfl⟩) trivial ?_
      simp only [Act.put, List.setIfInBounds_toArray, List.set_cons_zero, List.set_cons_succ]
      refine wpAnyH_take (i := 9) (oi := { dst := some 51, op := Op.buildSlice 23 1 #[(0, Operand.tmp 50)], type := 23, pos := "law.go:113", after := #[{ on := 8, ground := Ground.data }, { on := 2, ground := Ground.guard }], guard := some (2, false) }) (v := undef) rfl (by kernel_rfl) (by kernel_rfl) (by kernel_rfl) (fun _ _ _ h => h) (Or.inr ⟨by rfl, rfl⟩) trivial ?_
      simp only [Act.put, List.setIfInBounds_toArray, List.set_cons_zero, List.set_cons_succ]
      refine wpAnyH_take (i := 10) (oi := { dst := some 52, op := Op.call { callee := Callee.value (Operand.func 15), args := #[Operand.tmp 49, Operand.tmp 51], argTypes := #[22, 23] }, type := 23, pos := "law.go:113", after := #[{ on := 7, ground := Ground.data }, { on := 9, ground := Ground.data }, { on := 6, ground := Ground.chain }, { on := 2, ground := Ground.guard }], guard := some (2, false) }) (v := undef) rfl (by kernel_rfl) (by kernel_rfl) (by kernel_rfl) (fun _ _ _ h => h) (Or.inr ⟨by rfl, rfl⟩) trivial ?_
      simp only [Act.put, List.setIfInBounds_toArray, List.set_cons_zero, List.set_cons_succ]
      refine wpAnyH_take (i := 11) (oi := { dst := some 53, op := Op.call { callee := Callee.value (Operand.func 14), args := #[Operand.tmp 48, Operand.tmp 52], argTypes := #[23, 23] }, type := 4, pos := "law.go:113", after := #[{ on := 6, ground := Ground.data }, { on := 10, ground := Ground.data }, { on := 10, ground := Ground.chain }, { on := 2, ground := Ground.guard }], guard := some (2, false) }) (v := undef) rfl (by kernel_rfl) (by kernel_rfl) (by kernel_rfl) (fun _ _ _ h => h) (Or.inr ⟨by rfl, rfl⟩) trivial ?_
      simp only [Act.put, List.setIfInBounds_toArray, List.set_cons_zero, List.set_cons_succ]
      refine wpAnyH_take (i := 12) (oi := { dst := some 54, op := Op.pick (Operand.tmp 44) (Operand.const (Value.bool true)) (Operand.tmp 53), type := 4, pos := "law.go:113", after := #[{ on := 2, ground := Ground.data }, { on := 11, ground := Ground.data }], guard := none }) (v := .bool true) rfl (by kernel_rfl) (by kernel_rfl) (by kernel_rfl) (fun _ _ _ h => h) (Or.inl ⟨by rfl, ?_⟩) trivial ?_
      · (intro w hSw; go_simp)
      simp only [Act.put, List.setIfInBounds_toArray, List.set_cons_zero, List.set_cons_succ]
      refine wpAnyH_take (i := 13) (oi := { dst := some 55, op := Op.move (Operand.tmp 54), type := 4, pos := "law.go:113", after := #[{ on := 12, ground := Ground.data }, { on := 11, ground := Ground.chain }], guard := none }) (v := .bool true) rfl (by kernel_rfl) (by kernel_rfl) (by kernel_rfl) (fun _ _ _ h => h) (Or.inl ⟨by rfl, ?_⟩) trivial ?_
      · (intro w hSw; go_simp)
      simp only [Act.put, List.setIfInBounds_toArray, List.set_cons_zero, List.set_cons_succ]
      refine wpAnyH_ready (rs := [14]) (by kernel_rfl) (by simp) (AllReadyH.cons (o := { dst := some 56, op := Op.call { callee := Callee.value (Operand.func 7), args := #[], argTypes := #[] }, type := 4, pos := "law.go:113", after := #[{ on := 13, ground := Ground.chain }, { on := 13, ground := Ground.guard }], guard := some (13, true) }) rfl (fun K hK => ?_) AllReadyH.nil)
      go_simp
      refine (HAWH.out _).mono ?_
      rintro e w9 ⟨rfl, hb9⟩
      have HB9 := Lib.hid (HS5.out.below.drew.trans (hb9.mono HS5.out.below.size))
      clear hb9
      go_wp2_with (fail)
      refine hK.out _ _ trivial (fun _ => ?_)
      clear hK K
      refine wpAnyH_take (i := 15) (oi := { dst := some 57, op := Op.pick (Operand.tmp 55) (Operand.tmp 56) (Operand.const (Value.bool false)), type := 4, pos := "law.go:113", after := #[{ on := 13, ground := Ground.data }, { on := 14, ground := Ground.data }], guard := none }) (v := .bool true) rfl (by kernel_rfl) (by kernel_rfl) (by kernel_rfl) (fun _ _ _ h => h) (Or.inl ⟨by rfl, ?_⟩) trivial ?_
      · (intro w hSw; go_simp)
      simp only [Act.put, List.setIfInBounds_toArray, List.set_cons_zero, List.set_cons_succ]
      refine wpAnyH_take (i := 16) (oi := { dst := some 8, op := Op.assign (Operand.tmp 57), type := 4, pos := "law.go:113", after := #[{ on := 15, ground := Ground.data }, { on := 14, ground := Ground.chain }, { on := 0, ground := Ground.phase }, { on := 1, ground := Ground.phase }, { on := 2, ground := Ground.phase }, { on := 3, ground := Ground.phase }, { on := 4, ground := Ground.phase }, { on := 5, ground := Ground.phase }, { on := 6, ground := Ground.phase }, { on := 7, ground := Ground.phase }, { on := 8, ground := Ground.phase }, { on := 9, ground := Ground.phase }, { on := 10, ground := Ground.phase }, { on := 11, ground := Ground.phase }, { on := 12, ground := Ground.phase }, { on := 13, ground := Ground.phase }, { on := 14, ground := Ground.phase }, { on := 15, ground := Ground.phase }], guard := none }) (v := .bool true) rfl (by kernel_rfl) (by kernel_rfl) (by kernel_rfl) (fun _ _ _ h => h) (Or.inl ⟨by rfl, ?_⟩) trivial ?_
      · (intro w hSw; go_simp)
      simp only [Act.put, List.setIfInBounds_toArray, List.set_cons_zero, List.set_cons_succ]
      refine wpAnyH_done (by kernel_rfl) ?_ _
      refine NoPanic.normal ?_
      go_wp2_with (fail)
      go_ret
      exact ⟨rfl, HB9.out⟩
    | true =>
      obtain ⟨he, hv1, hv2, hk4⟩ := HV.out.1 rfl
      have HPP := Lib.hid (SameP.parts (HV.out.1 rfl))
      subst he
      obtain ⟨ps, HPS⟩ : ∃ ps, Hid (partsT a ra = ps) := ⟨_, Lib.hid rfl⟩
      have HPT := Lib.hid (show partsT a rb = ps by rw [← HPP.out]; exact HPS.out)
      obtain ⟨n, HN⟩ : ∃ n, Hid (ps.length = n) := ⟨_, Lib.hid rfl⟩
      have HVA := Lib.hid hv1
      have HVB := Lib.hid hv2
      have H20A := Lib.hid (fun (r : RcV) (hr : r ∈ ra) => few_fields HF1.out hr)
      have H20B := Lib.hid (fun (r : RcV) (hr : r ∈ rb) => few_fields HF2.out hr)
      have hnle : n ≤ 1000000000 := by
        have h := parts_len a ra HVA.out H20A.out
        rw [HPS.out, HN.out] at h
        omega
      clear hv1 hv2 hk4
      go_wp2_with (fail)
      have HD1 := Lib.hid (HS5.out.alloc (.cells #[.int .i64 a.kind, .int .i64 a.len, .string a.nm] 27)).drew
      have HD2 := Lib.hid ((HS5.out.alloc (.cells #[.int .i64 a.kind, .int .i64 a.len, .string a.nm] 27)).alloc (.cells #[.int .i64 a.kind, .int .i64 a.len, .string a.nm] 27)).drew
      have HT1 := Lib.hid ((row1 a wc wc.heap.size rfl).dr)
      have HT20 := Lib.hid (((row1 a wc wc.heap.size rfl).al (.cells #[.int .i64 a.kind, .int .i64 a.len, .string a.nm] 27)).dr)
      have HT21 := Lib.hid ((row1 a (wc.alloc (.cells #[.int .i64 a.kind, .int .i64 a.len, .string a.nm] 27)) (wc.heap.size + 1) (by simp)).dr)
      have HKa := Lib.hid (HS5.out.alloc (.cells #[.int .i64 a.kind, .int .i64 a.len, .string a.nm] 27)).two.now
      have HKb := Lib.hid ((HS5.out.alloc (.cells #[.int .i64 a.kind, .int .i64 a.len, .string a.nm] 27)).alloc (.cells #[.int .i64 a.kind, .int .i64 a.len, .string a.nm] 27)).two.now
      obtain ⟨a0, a1, a2, b0, b1, b2⟩ := HS5.out.two.now
      go_region_held3 (fun w' => w'.cell? ⟨w.heap.size, 0, none⟩ = some (.int .i64 a.kind) ∧ w'.cell? ⟨w.heap.size, 1, none⟩ = some (.int .i64 a.len) ∧ w'.cell? ⟨w.heap.size, 2, none⟩ = some (.string a.nm) ∧ w'.cell? ⟨w.heap.size + 1, 0, none⟩ = some (.int .i64 a.kind) ∧ w'.cell? ⟨w.heap.size + 1, 1, none⟩ = some (.int .i64 a.len) ∧ w'.cell? ⟨w.heap.size + 1, 2, none⟩ = some (.string a.nm)) (first | (with_reducible exact HK.out) | (with_reducible exact HKc.out) | (with_reducible exact HKa.out) | (with_reducible exact HKb.out) | go_keep)
        ((first
          | (go_at_call 15; (with_reducible refine (scal_one A c ra _ a ps n (wc.alloc (.cells #[.int .i64 a.kind, .int .i64 a.len, .string a.nm] 27)).drew HVA.out HPS.out HN.out HD1.out.ha hla9 H20A.out HT1.out).mono ?_); rintro e w6 ⟨A1, c1, rfl, ht, hb⟩; have HS6 := Lib.hid (HD1.out.later hb); have HR1x := Lib.hid ht; have HK := Lib.hid HS6.out.two.now; have HKc := Lib.hid (HS6.out.alloc (.cells #[.int .i64 a.kind, .int .i64 a.len, .string a.nm] 27)).two.now; clear ht hb)
          | (go_at_call 15; (with_reducible refine (scal_one B d rb _ a ps n (w6.alloc (.cells #[.int .i64 a.kind, .int .i64 a.len, .string a.nm] 27)) HVB.out HPT.out HN.out (HS6.out.alloc (.cells #[.int .i64 a.kind, .int .i64 a.len, .string a.nm] 27)).hb hlb9 H20B.out (row1 a w6 w6.heap.size rfl)).mono ?_); rintro e w7 ⟨A2, c2, rfl, ht, hb⟩; have HS7 := Lib.hid ((HS6.out.alloc (.cells #[.int .i64 a.kind, .int .i64 a.len, .string a.nm] 27)).later hb); have HE2 := Lib.hid ht; have HE1 := Lib.hid ((HR1x.out.al (.cells #[.int .i64 a.kind, .int .i64 a.len, .string a.nm] 27)).later hb); have HK := Lib.hid HS7.out.two.now; have HKc := Lib.hid (HS7.out.alloc (.cells #[.int .i64 a.kind, .int .i64 a.len, .string a.nm] 27)).two.now; clear ht hb)
          | (go_at_call 15; (with_reducible refine (scal_one A c ra _ a ps n ((wc.alloc (.cells #[.int .i64 a.kind, .int .i64 a.len, .string a.nm] 27)).alloc (.cells #[.int .i64 a.kind, .int .i64 a.len, .string a.nm] 27)).drew HVA.out HPS.out HN.out HD2.out.ha hla9 H20A.out HT20.out).mono ?_); rintro e w6 ⟨A1, c1, rfl, ht, hb⟩; have HS6 := Lib.hid (HD2.out.later hb); have HR1y := Lib.hid ht; have HX0 := Lib.hid (HT20.out.later hb); have HX1 := Lib.hid (HT21.out.later hb); have HK := Lib.hid HS6.out.two.now; have HKc := Lib.hid (HS6.out.alloc (.cells #[.int .i64 a.kind, .int .i64 a.len, .string a.nm] 27)).two.now; clear ht hb)
          | (go_at_call 15; (with_reducible refine (scal_one A c ra _ a ps n ((wc.alloc (.cells #[.int .i64 a.kind, .int .i64 a.len, .string a.nm] 27)).alloc (.cells #[.int .i64 a.kind, .int .i64 a.len, .string a.nm] 27)).drew HVA.out HPS.out HN.out HD2.out.ha hla9 H20A.out HT21.out).mono ?_); rintro e w6 ⟨A1, c1, rfl, ht, hb⟩; have HS6 := Lib.hid (HD2.out.later hb); have HR1y := Lib.hid ht; have HX0 := Lib.hid (HT20.out.later hb); have HX1 := Lib.hid (HT21.out.later hb); have HK := Lib.hid HS6.out.two.now; have HKc := Lib.hid (HS6.out.alloc (.cells #[.int .i64 a.kind, .int .i64 a.len, .string a.nm] 27)).two.now; clear ht hb)
          | (go_at_call 15; (with_reducible refine (scal_one B d rb _ a ps n w6 HVB.out HPT.out HN.out HS6.out.hb hlb9 H20B.out HX0.out).mono ?_); rintro e w7 ⟨A2, c2, rfl, ht, hb⟩; have HS7 := Lib.hid (HS6.out.later hb); have HE2 := Lib.hid ht; have HE1 := Lib.hid (HR1y.out.later hb); have HK := Lib.hid HS7.out.two.now; have HKc := Lib.hid (HS7.out.alloc (.cells #[.int .i64 a.kind, .int .i64 a.len, .string a.nm] 27)).two.now; clear ht hb)
          | (go_at_call 15; (with_reducible refine (scal_one B d rb _ a ps n w6 HVB.out HPT.out HN.out HS6.out.hb hlb9 H20B.out HX1.out).mono ?_); rintro e w7 ⟨A2, c2, rfl, ht, hb⟩; have HS7 := Lib.hid (HS6.out.later hb); have HE2 := Lib.hid ht; have HE1 := Lib.hid (HR1y.out.later hb); have HK := Lib.hid HS7.out.two.now; have HKc := Lib.hid (HS7.out.alloc (.cells #[.int .i64 a.kind, .int .i64 a.len, .string a.nm] 27)).two.now; clear ht hb)
          | (go_at_call 15; (with_reducible refine (scal_one B d rb _ a ps n (wc.alloc (.cells #[.int .i64 a.kind, .int .i64 a.len, .string a.nm] 27)).drew HVB.out HPT.out HN.out HD1.out.hb hlb9 H20B.out HT1.out).mono ?_); rintro e w6 ⟨A2, c2, rfl, ht, hb⟩; have HS6 := Lib.hid (HD1.out.later hb); have HR2x := Lib.hid ht; have HK := Lib.hid HS6.out.two.now; have HKc := Lib.hid (HS6.out.alloc (.cells #[.int .i64 a.kind, .int .i64 a.len, .string a.nm] 27)).two.now; clear ht hb)
          | (go_at_call 15; (with_reducible refine (scal_one A c ra _ a ps n (w6.alloc (.cells #[.int .i64 a.kind, .int .i64 a.len, .string a.nm] 27)) HVA.out HPS.out HN.out (HS6.out.alloc (.cells #[.int .i64 a.kind, .int .i64 a.len, .string a.nm] 27)).ha hla9 H20A.out (row1 a w6 w6.heap.size rfl)).mono ?_); rintro e w7 ⟨A1, c1, rfl, ht, hb⟩; have HS7 := Lib.hid ((HS6.out.alloc (.cells #[.int .i64 a.kind, .int .i64 a.len, .string a.nm] 27)).later hb); have HE1 := Lib.hid ht; have HE2 := Lib.hid ((HR2x.out.al (.cells #[.int .i64 a.kind, .int .i64 a.len, .string a.nm] 27)).later hb); have HK := Lib.hid HS7.out.two.now; have HKc := Lib.hid (HS7.out.alloc (.cells #[.int .i64 a.kind, .int .i64 a.len, .string a.nm] 27)).two.now; clear ht hb)
          | (go_at_call 15; (with_reducible refine (scal_one B d rb _ a ps n ((wc.alloc (.cells #[.int .i64 a.kind, .int .i64 a.len, .string a.nm] 27)).alloc (.cells #[.int .i64 a.kind, .int .i64 a.len, .string a.nm] 27)).drew HVB.out HPT.out HN.out HD2.out.hb hlb9 H20B.out HT20.out).mono ?_); rintro e w6 ⟨A2, c2, rfl, ht, hb⟩; have HS6 := Lib.hid (HD2.out.later hb); have HR2y := Lib.hid ht; have HX0 := Lib.hid (HT20.out.later hb); have HX1 := Lib.hid (HT21.out.later hb); have HK := Lib.hid HS6.out.two.now; have HKc := Lib.hid (HS6.out.alloc (.cells #[.int .i64 a.kind, .int .i64 a.len, .string a.nm] 27)).two.now; clear ht hb)
          | (go_at_call 15; (with_reducible refine (scal_one B d rb _ a ps n ((wc.alloc (.cells #[.int .i64 a.kind, .int .i64 a.len, .string a.nm] 27)).alloc (.cells #[.int .i64 a.kind, .int .i64 a.len, .string a.nm] 27)).drew HVB.out HPT.out HN.out HD2.out.hb hlb9 H20B.out HT21.out).mono ?_); rintro e w6 ⟨A2, c2, rfl, ht, hb⟩; have HS6 := Lib.hid (HD2.out.later hb); have HR2y := Lib.hid ht; have HX0 := Lib.hid (HT20.out.later hb); have HX1 := Lib.hid (HT21.out.later hb); have HK := Lib.hid HS6.out.two.now; have HKc := Lib.hid (HS6.out.alloc (.cells #[.int .i64 a.kind, .int .i64 a.len, .string a.nm] 27)).two.now; clear ht hb)
          | (go_at_call 15; (with_reducible refine (scal_one A c ra _ a ps n w6 HVA.out HPS.out HN.out HS6.out.ha hla9 H20A.out HX0.out).mono ?_); rintro e w7 ⟨A1, c1, rfl, ht, hb⟩; have HS7 := Lib.hid (HS6.out.later hb); have HE1 := Lib.hid ht; have HE2 := Lib.hid (HR2y.out.later hb); have HK := Lib.hid HS7.out.two.now; have HKc := Lib.hid (HS7.out.alloc (.cells #[.int .i64 a.kind, .int .i64 a.len, .string a.nm] 27)).two.now; clear ht hb)
          | (go_at_call 15; (with_reducible refine (scal_one A c ra _ a ps n w6 HVA.out HPS.out HN.out HS6.out.ha hla9 H20A.out HX1.out).mono ?_); rintro e w7 ⟨A1, c1, rfl, ht, hb⟩; have HS7 := Lib.hid (HS6.out.later hb); have HE1 := Lib.hid ht; have HE2 := Lib.hid (HR2y.out.later hb); have HK := Lib.hid HS7.out.two.now; have HKc := Lib.hid (HS7.out.alloc (.cells #[.int .i64 a.kind, .int .i64 a.len, .string a.nm] 27)).two.now; clear ht hb)
          | (go_at_call 14; (with_reducible refine (equal_n A1 A2 c1 c2 n ps w7 HN.out HE1.out HE2.out hnle).mono ?_); rintro e w8 ⟨rfl, hb⟩; have HS8 := Lib.hid (HS7.out.later hb); have HK := Lib.hid HS8.out.two.now; clear hb)
          | (go_at_call 7; refine (HAWH.out w8).mono ?_; rintro e w9 ⟨rfl, hb⟩; have HS9 := Lib.hid (HS8.out.later hb); have HK := Lib.hid HS9.out.two.now; clear hb)))
      all_goals
        go_wp2_with (fail)
        go_ret
        exact ⟨rfl, HS9.out.below⟩

theorem typesSame_any (HAW : Awakes) (a b : TyV) (A B : Option Addr) (c d : Nat) (ra rb : List RcV) (w : World) (hla : ra.length ≤ 9223372036854775807) (hlb : rb.length ≤ 9223372036854775807) (hra : RRowW w.heap.size w A ra) (hrb : RRowW w.heap.size w B rb) :
    Calls Tryd.prog 5 #[.slice A ra.length c, .slice B rb.length d, .agg #[.int .i64 a.kind, .int .i64 a.len, .string a.nm], .agg #[.int .i64 b.kind, .int .i64 b.len, .string b.nm]] w fun e w' => e = .returned (.bool true) ∧ Below w.heap.size w w' := by
  cases h1 : fewB ra with
  | false => exact (same_many HAW a b A B c d ra rb w hla hlb hra hrb (.inl h1)).mono fun _ _ h => h
  | true =>
    cases h2 : fewB rb with
    | false => exact (same_many HAW a b A B c d ra rb w hla hlb hra hrb (.inr ⟨h1, h2⟩)).mono fun _ _ h => h
    | true => exact (same_few HAW a b A B c d ra rb w (hra.few h1) (hrb.few h2) h1 h2 hra hrb).mono fun _ _ h => h
end Go.Proofs.YtcikkapekeghaaaDoor
