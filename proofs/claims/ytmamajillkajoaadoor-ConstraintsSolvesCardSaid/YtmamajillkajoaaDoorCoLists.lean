/- What is proved: slices of slices of integers, compared by the reference. -/
import Derived.Test.YtmamajillkajoaaDoorCoEq
set_option linter.unusedVariables false
namespace Go.Proofs.YtmamajillkajoaaDoor
open Go.RowKit Go.Shelf

theorem co_drewN {B : Nat} {a w : World} (h : Below B a w) (n : Nat) : Below B a (w.drewN n) := h.trans ⟨rfl, rfl, rfl, Nat.le_refl _, fun _ _ => rfl⟩
theorem co_irow {w w' : World} {A : Option Addr} {l : List Nat} (h : IRow w.heap.size w A l) (hb : Below w.heap.size w w') : IRow w'.heap.size w' A l := fun h0 => by
  obtain ⟨b, off, h1, h2, h3⟩ := h h0
  exact ⟨b, off, h1, Nat.lt_of_lt_of_le h2 hb.size, fun i hi => (hb.cell (p := ⟨b, off + i, none⟩) h2).trans (h3 i hi)⟩
/-- a slice of slices of integers -/
def LRow (w : World) (A : Option Addr) (L : List (List Nat)) : Prop :=
  0 < L.length → ∃ b off, A = some ⟨b, off, none⟩ ∧ b < w.heap.size ∧ ∀ (i : Nat) (h : i < L.length), ∃ X c, w.cell? ⟨b, off + i, none⟩ = some (.slice X L[i].length c) ∧ IRow w.heap.size w X L[i] ∧ L[i].length ≤ c
set_option maxRecDepth 100000 in
set_option maxHeartbeats 2000000 in
theorem listsEq_any (A B : Option Addr) (c d : Nat) (L : List (List Nat)) (w : World) (ha : LRow w A L) (hb : LRow w B L) (hl : L.length ≤ 1000000000) (hle : ∀ x ∈ L, x.length ≤ 1000000000) :
    Calls Tryd.prog 9 #[.slice A L.length c, .slice B L.length d] w fun e w' => e = .returned (.bool true) ∧ Below w.heap.size w w' := by
  have H1 := Lib.hid ha
  have H2 := Lib.hid hb
  have HLE := Lib.hid hle
  clear ha hb hle
  go_enter Tryd.func9, Tryd.ntmps9
  have hne : ((L.length : Int) != (L.length : Int)) = false := by simp
  go_wp2_with (fail)
  go_loopw [5] (fun i wr => ∃ k : Nat, k ≤ L.length ∧ i = .int .i64 (k : Int) ∧ Hid (Below w.heap.size w wr)) (fun i _ => L.length - (intOf i).toNat)
  case atStart => exact ⟨0, Nat.zero_le _, rfl, Lib.hid (Below.refl _ _)⟩
  case round =>
    obtain ⟨k, hk, rfl, hbr⟩ := hrel
    by_cases hlt : k < L.length
    · obtain ⟨b1, o1, rfl, hz1, hc1⟩ := H1.out (by omega)
      obtain ⟨b2, o2, rfl, hz2, hc2⟩ := H2.out (by omega)
      obtain ⟨X1, d1, p1, i1, _⟩ := hc1 k hlt
      obtain ⟨X2, d2, p2, i2, _⟩ := hc2 k hlt
      have p1' := (hbr.out.cell (p := ⟨b1, o1 + k, none⟩) hz1).trans p1
      have p2' := (hbr.out.cell (p := ⟨b2, o2 + k, none⟩) hz2).trans p2
      have hll := HLE.out _ (List.getElem_mem hlt)
      have HIX := Lib.hid (fun W (h : Below w.heap.size w W) => natsEq_any X1 X2 d1 d2 L[k] L[k] W (co_irow i1 h) (co_irow i2 h) hll hll)
      have HB1 := Lib.hid hbr.out.drew
      have HS1 := Lib.hid (show wr.cell? ⟨b1, o1 + k, none⟩ = some (.slice X1 L[k].length d1) ∧ wr.cell? ⟨b2, o2 + k, none⟩ = some (.slice X2 L[k].length d2) from ⟨p1', p2'⟩)
      clear hc1 hc2 p1 p2 i1 i2 p1' p2'
      go_wp2_with (fail)
      go_region_held3 (fun w' => w'.cell? ⟨b1, o1 + k, none⟩ = some (.slice X1 L[k].length d1) ∧ w'.cell? ⟨b2, o2 + k, none⟩ = some (.slice X2 L[k].length d2)) (first | exact HS1.out | exact HS2.out | go_keep) ((first | (go_at_call 26; refine (HIX.out wr.drew HB1.out).mono ?_; rintro e w3 ⟨rfl, nq, rfl⟩; have HB3 := Lib.hid (co_drewN HB1.out nq); have HS2 := Lib.hid (show (wr.drew.drewN nq).cell? ⟨b1, o1 + k, none⟩ = some (.slice X1 L[k].length d1) ∧ (wr.drew.drewN nq).cell? ⟨b2, o2 + k, none⟩ = some (.slice X2 L[k].length d2) from HS1.out))))
      all_goals
        go_wp2_with (fail)
        exact ⟨⟨k + 1, by omega, by go_num, Lib.hid (co_drewN hbr.out _)⟩, by simp [intOf]; omega⟩
    · go_wp2_with (fail)
      go_ret
      exact ⟨rfl, hbr.out⟩
end Go.Proofs.YtmamajillkajoaaDoor
