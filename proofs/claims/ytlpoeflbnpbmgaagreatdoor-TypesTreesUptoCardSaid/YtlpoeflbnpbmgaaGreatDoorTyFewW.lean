/- What is proved: Few of records whose fields may be many. -/
import Derived.Test.YtlpoeflbnpbmgaaGreatDoorTyScalar
set_option linter.unusedVariables false
namespace Go.Proofs.YtlpoeflbnpbmgaaGreatDoor
open Go.RowKit

/-- the kind of a field's type -/
def fkd (f : FldV) : Int := if tyB f.ty (bsc 2) then 2 else 1
theorem fty_eq (f : FldV) : fty f = bsc (fkd f) := by unfold fty fkd; cases tyB f.ty (bsc 2) <;> rfl
theorem fieldType_k (f : FldV) (w : World) (k : Int) (hk : fkd f = k) : Calls Tryz.prog 27 #[.agg #[.string f.name, .int .i64 f.ty.kind, .int .i64 f.ty.len, .string f.ty.nm]] w fun e w' => e = .returned (.agg #[.int .i64 k, .int .i64 0, .string ⟨#[]⟩]) ∧ Below w.heap.size w w' := by
  have h := fieldType_any f w
  rw [fty_eq, hk] at h
  exact h
/-- two fields are the same -/
def fldB (f g : FldV) : Bool := f.name.toList == g.name.toList && fkd f == fkd g

/-- what lies in two boxes -/
def Two (w : World) (b : Nat) (f g : FldV) : Prop := FCells w b 0 f ∧ FCells w (b + 1) 0 g
theorem Two.below {B b : Nat} {w w' : World} {f g : FldV} (h : Two w b f g) (hb : Below B w w') (hlt : b + 1 < B) : Two w' b f g := ⟨h.1.below hb (by omega), h.2.below hb hlt⟩
theorem Two.now {w : World} {b : Nat} {f g : FldV} (h : Two w b f g) : w.cell? ⟨b, 0, none⟩ = some (.string f.name) ∧ w.cell? ⟨b, 1, none⟩ = some (.int .i64 f.ty.kind) ∧ w.cell? ⟨b, 2, none⟩ = some (.int .i64 f.ty.len) ∧ w.cell? ⟨b, 3, none⟩ = some (.string f.ty.nm) ∧
    w.cell? ⟨b + 1, 0, none⟩ = some (.string g.name) ∧ w.cell? ⟨b + 1, 1, none⟩ = some (.int .i64 g.ty.kind) ∧ w.cell? ⟨b + 1, 2, none⟩ = some (.int .i64 g.ty.len) ∧ w.cell? ⟨b + 1, 3, none⟩ = some (.string g.ty.nm) :=
  ⟨h.1.1, h.1.2.1, h.1.2.2.1, h.1.2.2.2, h.2.1, h.2.2.1, h.2.2.2.1, h.2.2.2.2⟩
theorem box_two (w : World) (f g : FldV) : Below w.heap.size w ((w.alloc (.cells #[.string f.name, .int .i64 f.ty.kind, .int .i64 f.ty.len, .string f.ty.nm] 58)).alloc (.cells #[.string g.name, .int .i64 g.ty.kind, .int .i64 g.ty.len, .string g.ty.nm] 58)) ∧ Two ((w.alloc (.cells #[.string f.name, .int .i64 f.ty.kind, .int .i64 f.ty.len, .string f.ty.nm] 58)).alloc (.cells #[.string g.name, .int .i64 g.ty.kind, .int .i64 g.ty.len, .string g.ty.nm] 58)) w.heap.size f g ∧ ((w.alloc (.cells #[.string f.name, .int .i64 f.ty.kind, .int .i64 f.ty.len, .string f.ty.nm] 58)).alloc (.cells #[.string g.name, .int .i64 g.ty.kind, .int .i64 g.ty.len, .string g.ty.nm] 58)).heap.size = w.heap.size + 2 := by
  refine ⟨((Below.refl _ _).alloc (Nat.le_refl _) _).alloc (by simp) _, ⟨FCells.of_box.below ((Below.refl _ _).alloc (Nat.le_refl _) _) (by simp), ?_⟩, by simp⟩
  have h := FCells.of_box (w := w.alloc (.cells #[.string f.name, .int .i64 f.ty.kind, .int .i64 f.ty.len, .string f.ty.nm] 58)) (x := g)
  rwa [World.size_alloc] at h

end Go.Proofs.YtlpoeflbnpbmgaaGreatDoor
set_option linter.unusedVariables false
namespace Go.Proofs.YtlpoeflbnpbmgaaGreatDoor
open Go.RowKit

/-- few records, each with few fields -/
def fewB (l : List RcV) : Bool := l.all (fun r => decide (r.flds.length ≤ 20)) && decide (l.length ≤ 20)
theorem few_len {l : List RcV} (h : fewB l = true) : l.length ≤ 20 := by
  unfold fewB at h
  simp at h
  exact h.2
theorem few_fields {l : List RcV} (h : fewB l = true) {r : RcV} (hr : r ∈ l) : r.flds.length ≤ 20 := by
  unfold fewB at h
  simp at h
  exact h.1 r hr

set_option maxHeartbeats 1000000 in
theorem few_any (A : Option Addr) (c : Nat) (l : List RcV) (w : World) (hl : l.length ≤ 9223372036854775807) (hr : RRow w.heap.size w A l) :
    Calls Tryz.prog 5 #[.slice A l.length c] w fun e w' => e = .returned (.bool (fewB l)) ∧ w = w' := by
  have HR := Lib.hid hr
  clear hr
  go_enter Tryz.func5, Tryz.ntmps5
  go_wp2_with (fail)
  go_loop [3] (fun i => ∃ k : Nat, k ≤ l.length ∧ i = .int .i64 (k : Int) ∧ Hid ((l.take k).all (fun r => decide (r.flds.length ≤ 20)) = true)) (fun i => l.length - (intOf i).toNat)
  case atStart => exact ⟨0, Nat.zero_le _, rfl, rfl⟩
  case round =>
    obtain ⟨k, hk, rfl, hal⟩ := hrel
    by_cases hlt : k < l.length
    · obtain ⟨b, off, rfl, hb, hr⟩ := HR.out (by omega)
      obtain ⟨c1, c2, _, hfl⟩ := hr k hlt
      clear hr
      obtain ⟨x, HX⟩ : ∃ x, Hid (l[k] = x) := ⟨_, Lib.hid rfl⟩
      rw [HX.out] at c1 c2 hfl
      have HT := Lib.hid (show (l.take (k + 1)).all (fun r => decide (r.flds.length ≤ 20)) = ((l.take k).all (fun r => decide (r.flds.length ≤ 20)) && decide (x.flds.length ≤ 20)) by
        rw [List.take_succ_eq_append_getElem hlt, List.all_append, HX.out]; simp)
      by_cases g : x.flds.length ≤ 20
      · have HN := Lib.hid (show (l.take (k + 1)).all (fun r => decide (r.flds.length ≤ 20)) = true by rw [HT.out, hal.out]; simpa using g)
        have g' : decide ((20 : Int) < (x.flds.length : Int)) = false := by simp; omega
        go_wp2_with (fail)
        exact ⟨⟨k + 1, by omega, by go_num, HN⟩, by simp [intOf]; omega⟩
      · have HN := Lib.hid (show fewB l = false by
          unfold fewB
          have : l.all (fun r => decide (r.flds.length ≤ 20)) = false := by
            rw [List.all_eq_false]
            exact ⟨l[k], List.getElem_mem hlt, by rw [HX.out]; simpa using g⟩
          rw [this]; rfl)
        have g' : decide ((20 : Int) < (x.flds.length : Int)) = true := by simp; omega
        go_wp2_with (fail)
        go_ret
        exact ⟨ret_bool HN.out.symm, rfl⟩
    · have HN := Lib.hid (show fewB l = decide (l.length ≤ 20) by
        have h := hal.out
        rw [List.take_of_length_le (by omega)] at h
        unfold fewB
        rw [h]; rfl)
      by_cases g : l.length ≤ 20
      · go_wp2_with (fail)
        go_ret
        exact ⟨ret_bool (HN.out.trans (by simp; omega)).symm, rfl⟩
      · go_wp2_with (fail)
        go_ret
        exact ⟨ret_bool (HN.out.trans (by simp; omega)).symm, rfl⟩
theorem few_f (A : Option Addr) (c : Nat) (l : List RcV) (w : World) (v : Bool) (hv : fewB l = v) (hl : l.length ≤ 9223372036854775807) (hr : RRow w.heap.size w A l) :
    Calls Tryz.prog 5 #[.slice A l.length c] w fun e w' => e = .returned (.bool v) ∧ w = w' := by
  rw [← hv]
  exact few_any A c l w hl hr

set_option maxHeartbeats 2000000 in
/-- two slices of equal types -/
theorem equal_any (A B : Option Addr) (c d : Nat) (l : List TyV) (w : World) (ha : TRow w.heap.size w A l) (hb : TRow w.heap.size w B l) (hl : l.length ≤ 1000000000) :
    Calls Tryz.prog 16 #[.slice A l.length c, .slice B l.length d] w fun e w' => e = .returned (.bool true) ∧ Below w.heap.size w w' := by
  have H1 := Lib.hid ha
  have H2 := Lib.hid hb
  clear ha hb
  go_enter Tryz.func16, Tryz.ntmps16
  go_wp2_with (fail)
  go_loopw [5] (fun i wr => ∃ k n : Nat, k ≤ l.length ∧ i = .int .i64 (k : Int) ∧ wr = w.drewN n) (fun i _ => l.length - (intOf i).toNat)
  case atStart => exact ⟨0, 0, Nat.zero_le _, rfl, rfl⟩
  case round =>
    obtain ⟨k, n, hk, rfl, rfl⟩ := hrel
    by_cases hlt : k < l.length
    · obtain ⟨b1, o1, rfl, _, hc1⟩ := H1.out (by omega)
      obtain ⟨b2, o2, rfl, _, hc2⟩ := H2.out (by omega)
      obtain ⟨c0, c1, c2⟩ := hc1 k hlt
      obtain ⟨d0, d1, d2⟩ := hc2 k hlt
      clear hc1 hc2
      generalize l[k] = x at *
      have i0 : (0 : Int) ≤ (k : Int) := by omega
      have i1 : (k : Int) < (l.length : Int) := by omega
      go_wp2_with (fail)
      go_quiet (fail)
      go_wp2_with (fail)
      exact ⟨⟨k + 1, n + nq, by omega, by go_num, rfl⟩, by simp [intOf]; omega⟩
    · go_wp2_with (fail)
      go_ret
      exact ⟨rfl, drewN_below _ _⟩
end Go.Proofs.YtlpoeflbnpbmgaaGreatDoor
set_option linter.unusedVariables false
namespace Go.Proofs.YtlpoeflbnpbmgaaGreatDoor
open Go.RowKit

/-- a slice of records, whatever their number -/
def RRowW (n₀ : Nat) (w : World) (A : Option Addr) (l : List RcV) : Prop :=
  0 < l.length → ∃ b off, A = some ⟨b, off, none⟩ ∧ b < n₀ ∧ ∀ (i : Nat) (h : i < l.length),
    w.cell? ⟨b, off + i * 2, none⟩ = some (.string l[i].name) ∧ w.cell? ⟨b, off + i * 2 + 1, none⟩ = some (.slice l[i].A l[i].flds.length l[i].c) ∧ FRow n₀ w l[i].A l[i].flds ∧ l[i].flds.length ≤ 9223372036854775807

theorem RRowW.below {n₀ : Nat} {w w' : World} {A : Option Addr} {l : List RcV} (h : RRowW n₀ w A l) (hb : Below n₀ w w') : RRowW n₀ w' A l := fun h0 => by
  obtain ⟨b, off, e, hlt, hc⟩ := h h0
  exact ⟨b, off, e, hlt, fun i hi => ⟨(hb.cell (p := ⟨b, off + i * 2, none⟩) hlt).trans (hc i hi).1, (hb.cell (p := ⟨b, off + i * 2 + 1, none⟩) hlt).trans (hc i hi).2.1, (hc i hi).2.2.1.below hb, (hc i hi).2.2.2⟩⟩
theorem RRowW.mono {n₀ n₁ : Nat} {w : World} {A : Option Addr} {l : List RcV} (h : RRowW n₀ w A l) (hn : n₀ ≤ n₁) : RRowW n₁ w A l := fun h0 => by
  obtain ⟨b, off, e, hlt, hc⟩ := h h0
  exact ⟨b, off, e, Nat.lt_of_lt_of_le hlt hn, fun i hi => ⟨(hc i hi).1, (hc i hi).2.1, (hc i hi).2.2.1.mono hn, (hc i hi).2.2.2⟩⟩
theorem RRowW.later {w w' : World} {A : Option Addr} {l : List RcV} (h : RRowW w.heap.size w A l) (hb : Below w.heap.size w w') : RRowW w'.heap.size w' A l := (h.below hb).mono hb.size
theorem RRowW.few {n₀ : Nat} {w : World} {A : Option Addr} {l : List RcV} (h : RRowW n₀ w A l) (hf : fewB l = true) : RRow n₀ w A l := fun h0 => by
  obtain ⟨b, off, e, hlt, hc⟩ := h h0
  exact ⟨b, off, e, hlt, fun i hi => ⟨(hc i hi).1, (hc i hi).2.1, (hc i hi).2.2.1, by have := few_fields hf (List.getElem_mem hi); omega⟩⟩

set_option maxHeartbeats 1000000 in
theorem fewW_any (A : Option Addr) (c : Nat) (l : List RcV) (w : World) (hl : l.length ≤ 9223372036854775807) (hr : RRowW w.heap.size w A l) :
    Calls Tryz.prog 5 #[.slice A l.length c] w fun e w' => e = .returned (.bool (fewB l)) ∧ w = w' := by
  have HR := Lib.hid hr
  clear hr
  go_enter Tryz.func5, Tryz.ntmps5
  go_wp2_with (fail)
  go_loop [3] (fun i => ∃ k : Nat, k ≤ l.length ∧ i = .int .i64 (k : Int) ∧ Hid ((l.take k).all (fun r => decide (r.flds.length ≤ 20)) = true)) (fun i => l.length - (intOf i).toNat)
  case atStart => exact ⟨0, Nat.zero_le _, rfl, rfl⟩
  case round =>
    obtain ⟨k, hk, rfl, hal⟩ := hrel
    by_cases hlt : k < l.length
    · obtain ⟨b, off, rfl, hb, hr⟩ := HR.out (by omega)
      obtain ⟨c1, c2, _, hfl⟩ := hr k hlt
      clear hr
      obtain ⟨x, HX⟩ : ∃ x, Hid (l[k] = x) := ⟨_, Lib.hid rfl⟩
      rw [HX.out] at c1 c2 hfl
      have HT := Lib.hid (show (l.take (k + 1)).all (fun r => decide (r.flds.length ≤ 20)) = ((l.take k).all (fun r => decide (r.flds.length ≤ 20)) && decide (x.flds.length ≤ 20)) by
        rw [List.take_succ_eq_append_getElem hlt, List.all_append, HX.out]; simp)
      by_cases g : x.flds.length ≤ 20
      · have HN := Lib.hid (show (l.take (k + 1)).all (fun r => decide (r.flds.length ≤ 20)) = true by rw [HT.out, hal.out]; simpa using g)
        have g' : decide ((20 : Int) < (x.flds.length : Int)) = false := by simp; omega
        go_wp2_with (fail)
        exact ⟨⟨k + 1, by omega, by go_num, HN⟩, by simp [intOf]; omega⟩
      · have HN := Lib.hid (show fewB l = false by
          unfold fewB
          have : l.all (fun r => decide (r.flds.length ≤ 20)) = false := by
            rw [List.all_eq_false]
            exact ⟨l[k], List.getElem_mem hlt, by rw [HX.out]; simpa using g⟩
          rw [this]; rfl)
        have g' : decide ((20 : Int) < (x.flds.length : Int)) = true := by simp; omega
        go_wp2_with (fail)
        go_ret
        exact ⟨ret_bool HN.out.symm, rfl⟩
    · have HN := Lib.hid (show fewB l = decide (l.length ≤ 20) by
        have h := hal.out
        rw [List.take_of_length_le (by omega)] at h
        unfold fewB
        rw [h]; rfl)
      by_cases g : l.length ≤ 20
      · go_wp2_with (fail)
        go_ret
        exact ⟨ret_bool (HN.out.trans (by simp; omega)).symm, rfl⟩
      · go_wp2_with (fail)
        go_ret
        exact ⟨ret_bool (HN.out.trans (by simp; omega)).symm, rfl⟩
theorem fewW_f (A : Option Addr) (c : Nat) (l : List RcV) (w : World) (v : Bool) (hv : fewB l = v) (hl : l.length ≤ 9223372036854775807) (hr : RRowW w.heap.size w A l) :
    Calls Tryz.prog 5 #[.slice A l.length c] w fun e w' => e = .returned (.bool v) ∧ w = w' := by
  rw [← hv]
  exact fewW_any A c l w hl hr

end Go.Proofs.YtlpoeflbnpbmgaaGreatDoor
