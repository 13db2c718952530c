/- What is proved: what a step of a builder adds at most; lists of steps. -/
import Derived.Test.YtbcabnbgkicfdaaGaDo
set_option linter.unusedVariables false
namespace Go.Proofs.Ytbcabnbgkicfdaa
open Go.RowKit Go.Maps

theorem op_of {e : Int} {ok : Bool} (h : opE e ok = 0) : e = 0 ∧ ok = true := by
  unfold opE at h
  split at h
  · rename_i h0
    refine ⟨h0, ?_⟩
    cases ok with
    | true => rfl
    | false => simp at h
  · rename_i h0; exact absurd h h0
theorem l2_of {I : Int} {gs : List Gt} {o : Op4} (h : l2B I gs o = true) : isLit I gs o.a ∧ isLit I gs o.b := by
  unfold l2B at h
  rw [Bool.and_eq_true] at h
  exact ⟨litB_iff.1 h.1, litB_iff.1 h.2⟩
theorem l3_of {I : Int} {gs : List Gt} {o : Op4} (h : l3B I gs o = true) : isLit I gs o.a ∧ isLit I gs o.b ∧ isLit I gs o.c := by
  unfold l3B at h
  rw [Bool.and_eq_true, Bool.and_eq_true] at h
  exact ⟨litB_iff.1 h.1.1, litB_iff.1 h.1.2, litB_iff.1 h.2⟩
theorem st_len (I : Int) {gs : List Gt} (h : CkOk I gs) (e : Int) (o : Op4) : (stL I gs e o).length ≤ gs.length + 3 := by
  obtain ⟨s0, s1, s2, s3, s4⟩ := st_k I gs e o
  have hop : ∀ (ok : Bool) (L : List Gt), (ok = true → L.length ≤ gs.length + 3) → (opL e ok gs L).length ≤ gs.length + 3 := fun ok L hL => by
    unfold opL
    split
    · rename_i hc; exact hL hc.2
    · omega
  by_cases k0 : o.k = 0
  · rw [(s0 k0).2.1]; omega
  by_cases k1 : o.k = 1
  · rw [(s1 k1).2.1]; exact hop _ _ fun hok => ((and_ok h (l2_of hok).1 (l2_of hok).2).mono (by omega)).len
  by_cases k2 : o.k = 2
  · rw [(s2 k2).2.1]; exact hop _ _ fun hok => ((or_ok h (l2_of hok).1 (l2_of hok).2).mono (by omega)).len
  by_cases k3 : o.k = 3
  · rw [(s3 k3).2.1]; exact hop _ _ fun hok => (mux_ok h (l2_of hok).1 (l2_of hok).2.not (l2_of hok).2).len
  rw [(s4 k0 k1 k2 k3).2.1]
  exact hop _ _ fun hok => (mux_ok h (l3_of hok).1 (l3_of hok).2.1 (l3_of hok).2.2).len
/-- a slice of steps -/
def ORow (w : World) (A : Option Addr) (l : List Op4) : Prop :=
  0 < l.length → ∃ b off, A = some ⟨b, off, none⟩ ∧ b < w.heap.size ∧ ∀ (i : Nat) (h : i < l.length), w.cell? ⟨b, off + i * 4, none⟩ = some (.int .i64 l[i].k) ∧ w.cell? ⟨b, off + i * 4 + 1, none⟩ = some (.int .i64 l[i].a) ∧ w.cell? ⟨b, off + i * 4 + 2, none⟩ = some (.int .i64 l[i].b) ∧ w.cell? ⟨b, off + i * 4 + 3, none⟩ = some (.int .i64 l[i].c)
theorem ORow.later {w w' : World} {A : Option Addr} {l : List Op4} (h : ORow w A l) (hb : Below w.heap.size w w') : ORow w' A l := fun h0 => by
  obtain ⟨b, off, hA, hlt, hc⟩ := h h0
  refine ⟨b, off, hA, Nat.lt_of_lt_of_le hlt hb.size, fun i hi => ?_⟩
  obtain ⟨c0, c1, c2, c3⟩ := hc i hi
  exact ⟨(hb.cell (p := ⟨b, _, none⟩) hlt).trans c0, (hb.cell (p := ⟨b, _, none⟩) hlt).trans c1, (hb.cell (p := ⟨b, _, none⟩) hlt).trans c2, (hb.cell (p := ⟨b, _, none⟩) hlt).trans c3⟩
end Go.Proofs.Ytbcabnbgkicfdaa
