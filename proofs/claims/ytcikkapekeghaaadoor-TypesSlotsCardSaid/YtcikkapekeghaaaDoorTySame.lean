/- What is proved: Same, and what it calls. -/
import Derived.Test.YtcikkapekeghaaaDoorTyValid
set_option linter.unusedVariables false
namespace Go.Proofs.YtcikkapekeghaaaDoor
open Go.RowKit

/-- the kind of a field's type -/
def fkd (f : FldV) : Int := if tyB f.ty (bsc 2) then 2 else 1
theorem fty_eq (f : FldV) : fty f = bsc (fkd f) := by unfold fty fkd; cases tyB f.ty (bsc 2) <;> rfl
theorem fieldType_k (f : FldV) (w : World) (k : Int) (hk : fkd f = k) : Calls Tryd.prog 30 #[.agg #[.string f.name, .int .i64 f.ty.kind, .int .i64 f.ty.len, .string f.ty.nm]] w fun e w' => e = .returned (.agg #[.int .i64 k, .int .i64 0, .string ⟨#[]⟩]) ∧ Below w.heap.size w w' := by
  have h := fieldType_any f w
  rw [fty_eq, hk] at h
  exact h
/-- two fields are the same -/
def fldB (f g : FldV) : Bool := f.name.toList == g.name.toList && fkd f == fkd g

/-- what lies in two boxes -/
def Two (w : World) (b : Nat) (f g : FldV) : Prop := FCells w b 0 f ∧ FCells w (b + 1) 0 g
theorem Two.below {B b : Nat} {w w' : World} {f g : FldV} (h : Two w b f g) (hb : Below B w w') (hlt : b + 1 < B) : Two w' b f g := ⟨h.1.below hb (by omega), h.2.below hb hlt⟩
theorem Two.now {w : World} {b : Nat} {f g : FldV} (h : Two w b f g) : w.cell? ⟨b, 0, none⟩ = some (.string f.name) ∧ w.cell? ⟨b, 1, none⟩ = some (.int .i64 f.ty.kind) ∧ w.cell? ⟨b, 2, none⟩ = some (.int .i64 f.ty.len) ∧ w.cell? ⟨b, 3, none⟩ = some (.string f.ty.nm) ∧
    w.cell? ⟨b + 1, 0, none⟩ = some (.string g.name) ∧ w.cell? ⟨b + 1, 1, none⟩ = some (.int .i64 g.ty.kind) ∧ w.cell? ⟨b + 1, 2, none⟩ = some (.int .i64 g.ty.len) ∧ w.cell? ⟨b + 1, 3, none⟩ = some (.string g.ty.nm) :=
  ⟨h.1.1, h.1.2.1, h.1.2.2.1, h.1.2.2.2, h.2.1, h.2.2.1, h.2.2.2.1, h.2.2.2.2⟩
theorem box_two (w : World) (f g : FldV) : Below w.heap.size w ((w.alloc (.cells #[.string f.name, .int .i64 f.ty.kind, .int .i64 f.ty.len, .string f.ty.nm] 59)).alloc (.cells #[.string g.name, .int .i64 g.ty.kind, .int .i64 g.ty.len, .string g.ty.nm] 59)) ∧ Two ((w.alloc (.cells #[.string f.name, .int .i64 f.ty.kind, .int .i64 f.ty.len, .string f.ty.nm] 59)).alloc (.cells #[.string g.name, .int .i64 g.ty.kind, .int .i64 g.ty.len, .string g.ty.nm] 59)) w.heap.size f g ∧ ((w.alloc (.cells #[.string f.name, .int .i64 f.ty.kind, .int .i64 f.ty.len, .string f.ty.nm] 59)).alloc (.cells #[.string g.name, .int .i64 g.ty.kind, .int .i64 g.ty.len, .string g.ty.nm] 59)).heap.size = w.heap.size + 2 := by
  refine ⟨((Below.refl _ _).alloc (Nat.le_refl _) _).alloc (by simp) _, ⟨FCells.of_box.below ((Below.refl _ _).alloc (Nat.le_refl _) _) (by simp), ?_⟩, by simp⟩
  have h := FCells.of_box (w := w.alloc (.cells #[.string f.name, .int .i64 f.ty.kind, .int .i64 f.ty.len, .string f.ty.nm] 59)) (x := g)
  rwa [World.size_alloc] at h

set_option maxHeartbeats 2000000 in
theorem sameField_any (f g : FldV) (w : World) :
    Calls Tryd.prog 29 #[.agg #[.string f.name, .int .i64 f.ty.kind, .int .i64 f.ty.len, .string f.ty.nm], .agg #[.string g.name, .int .i64 g.ty.kind, .int .i64 g.ty.len, .string g.ty.nm]] w fun e w' => e = .returned (.bool (fldB f g)) ∧ Below w.heap.size w w' := by
  have h2 : (f.name.toList == g.name.toList) = false ∨ (f.name.toList == g.name.toList) = true := by cases (f.name.toList == g.name.toList) <;> simp
  rcases h2 with h2 | h2
  · go_enter Tryd.func29, Tryd.ntmps29
    go_wp2_with (fail)
    obtain ⟨hb0, hc0, hs0⟩ := box_two w f g
    generalize ((w.alloc (.cells #[.string f.name, .int .i64 f.ty.kind, .int .i64 f.ty.len, .string f.ty.nm] 59)).alloc (.cells #[.string g.name, .int .i64 g.ty.kind, .int .i64 g.ty.len, .string g.ty.nm] 59)) = w0 at *
    obtain ⟨c0, c1, c2, c3, d0, d1, d2, d3⟩ := hc0.now
    have HB0 := Lib.hid hb0
    clear hb0 hc0 hs0 c1 c2 c3 d1 d2 d3
    go_quiet (fail)
    go_wp2_with (fail)
    go_ret
    exact ⟨ret_bool (by unfold fldB; rw [h2]; rfl), HB0.out.trans ((drewN_below _ _).mono HB0.out.size)⟩
  · obtain ⟨kf, hkf⟩ : ∃ k, Hid (fkd f = k) := ⟨_, Lib.hid rfl⟩
    obtain ⟨kg, hkg⟩ : ∃ k, Hid (fkd g = k) := ⟨_, Lib.hid rfl⟩
    have hfg : (kf == kg) = false ∨ (kf == kg) = true := by cases (kf == kg) <;> simp
    rcases hfg with hfg | hfg
    all_goals
      go_enter Tryd.func29, Tryd.ntmps29
      go_wp2_with (fail)
      obtain ⟨hb0, hc0, hs0⟩ := box_two w f g
      generalize ((w.alloc (.cells #[.string f.name, .int .i64 f.ty.kind, .int .i64 f.ty.len, .string f.ty.nm] 59)).alloc (.cells #[.string g.name, .int .i64 g.ty.kind, .int .i64 g.ty.len, .string g.ty.nm] 59)) = w0 at *
      obtain ⟨c0, c1, c2, c3, d0, d1, d2, d3⟩ := hc0.now
      have HB0 := Lib.hid hb0
      have HC0 := Lib.hid hc0
      have HS0 := Lib.hid hs0
      have HP := Lib.hid (show Below w.heap.size w w0.drew ∧ Two w0.drew w.heap.size f g ∧ w.heap.size + 2 ≤ w0.drew.heap.size from ⟨hb0.drew, hc0, by show _ ≤ w0.heap.size; omega⟩)
      clear hb0 hc0 hs0
      go_region_held3 (fun w' => w'.cell? ⟨w.heap.size, 0, none⟩ = some (.string f.name) ∧ w'.cell? ⟨w.heap.size, 1, none⟩ = some (.int .i64 f.ty.kind) ∧ w'.cell? ⟨w.heap.size, 2, none⟩ = some (.int .i64 f.ty.len) ∧ w'.cell? ⟨w.heap.size, 3, none⟩ = some (.string f.ty.nm) ∧
        w'.cell? ⟨w.heap.size + 1, 0, none⟩ = some (.string g.name) ∧ w'.cell? ⟨w.heap.size + 1, 1, none⟩ = some (.int .i64 g.ty.kind) ∧ w'.cell? ⟨w.heap.size + 1, 2, none⟩ = some (.int .i64 g.ty.len) ∧ w'.cell? ⟨w.heap.size + 1, 3, none⟩ = some (.string g.ty.nm)) (first | (with_reducible exact HK.out) | go_keep)
        ((first
          | (go_at_call 30; (with_reducible refine (fieldType_k f _ kf hkf.out).mono ?_); rintro e w1 ⟨rfl, hb⟩; have HP := Lib.hid (show Below w.heap.size w w1 ∧ Two w1 w.heap.size f g ∧ w.heap.size + 2 ≤ w1.heap.size from ⟨HP.out.1.trans (hb.mono (by have := HP.out.2.2; omega)), HP.out.2.1.below hb HP.out.2.2, Nat.le_trans HP.out.2.2 hb.size⟩); have HK := Lib.hid HP.out.2.1.now; clear hb)
          | (go_at_call 30; (with_reducible refine (fieldType_k g _ kg hkg.out).mono ?_); rintro e w1 ⟨rfl, hb⟩; have HP := Lib.hid (show Below w.heap.size w w1 ∧ Two w1 w.heap.size f g ∧ w.heap.size + 2 ≤ w1.heap.size from ⟨HP.out.1.trans (hb.mono (by have := HP.out.2.2; omega)), HP.out.2.1.below hb HP.out.2.2, Nat.le_trans HP.out.2.2 hb.size⟩); have HK := Lib.hid HP.out.2.1.now; clear hb)))
      all_goals
        go_wp2_with (fail)
        go_ret
        exact ⟨ret_bool (by unfold fldB; rw [h2, hkf.out, hkg.out, hfg]; rfl), HP.out.1⟩
end Go.Proofs.YtcikkapekeghaaaDoor
