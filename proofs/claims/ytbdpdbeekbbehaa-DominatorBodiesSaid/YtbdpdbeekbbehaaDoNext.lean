/- What is proved: the functions that give the edges from a point and to a point. -/
import Derived.Test.YtbdpdbeekbbehaaDoRows
import Derived.Test.YtbdpdbeekbbehaaDoSrch
set_option linter.unusedVariables false
namespace Go.Proofs.Ytbdpdbeekbbehaa
open Go.RowKit Go.Shelf

theorem next_eK : ∀ args w, (callFunc 65 args).run Try.prog w = .ok (.enter 65 args) w := enters_of Try.func65 (by kernel_rfl) rfl
theorem back_eK : ∀ args w, (callFunc 66 args).run Try.prog w = .ok (.enter 66 args) w := enters_of Try.func66 (by kernel_rfl) rfl
/-- a flow that is small and valid -/
structure FlOk (l : List PtV) : Prop where
  ok : validP l = true
  n : l.length ≤ 30
  few : ∀ p ∈ l, p.nx.length ≤ 1000
theorem FlOk.edg {l : List PtV} (h : FlOk l) (v : Nat) : (edg l v).length ≤ 1000 := by
  unfold Go.Proofs.Ytbdpdbeekbbehaa.edg
  by_cases hv : v < l.length
  · rw [List.getElem?_eq_getElem hv]
    simpa using h.few _ (List.getElem_mem hv)
  · rw [List.getElem?_eq_none (by omega)]
    simp
theorem FlOk.two {l : List PtV} (h : FlOk l) : 2 ≤ l.length := by
  have := h.ok
  unfold validP at this
  simp only [Bool.and_eq_true, decide_eq_true_eq] at this
  exact this.1.1.1
theorem FlOk.gr {l : List PtV} (h : FlOk l) : Gr (Go.Proofs.Ytbdpdbeekbbehaa.edg l) l.length :=
  ⟨by have := h.n; omega, fun p hp x hx => ((edg_zl h.ok hp).2 x hx).2, fun p _ => by have := h.edg p; omega⟩
theorem FlOk.bgr {l : List PtV} (h : FlOk l) : Gr (bk (Go.Proofs.Ytbdpdbeekbbehaa.edg l) l.length) l.length :=
  ⟨by have := h.n; omega, fun p hp x hx => (bk_mem.1 hx).1, fun p _ => by
    have h1 := bk_len h.edg p l.length
    have h2 := h.n
    have h3 : l.length * 1000 ≤ 30 * 1000 := Nat.mul_le_mul_right _ h2
    omega⟩
theorem FlOk.bmem {l : List PtV} (h : FlOk l) (q x : Nat) : q ∈ bk (Go.Proofs.Ytbdpdbeekbbehaa.edg l) l.length x ↔ x ∈ Go.Proofs.Ytbdpdbeekbbehaa.edg l q := by
  rw [bk_mem]
  refine ⟨fun h => h.2, fun h1 => ⟨?_, h1⟩⟩
  by_cases hq : q < l.length
  · exact hq
  · rw [edg_out (by omega)] at h1
    simp at h1

/-- a flow in a variable -/
def FBx (w : World) (b : Nat) (A : Option Addr) (c : Nat) (l : List PtV) : Prop := Bx w b 24 (.slice A l.length c)
theorem next_ok {w : World} {b : Nat} {A : Option Addr} {c : Nat} {l : List PtV} (hl : FlOk l) (hb : FBx w b A c l) (hp : PRow w.heap.size w A l) : NxOk (edg l) l.length 65 #[.pointer (some ⟨b, 0, none⟩)] w := by
  intro W p hB hpn
  obtain ⟨h1, h2⟩ := edg_zl hl.ok hpn
  obtain ⟨pb, off, rfl, hlt, _, _, e3, hz, hc⟩ := hp.at hpn
  have c0 := (hb.later hB).cell
  have c1 := (hB.cell (p := ⟨pb, off + p * 3 + 2, none⟩) hlt).trans e3
  rw [h1] at hz hc c1
  rw [zl_len] at c1 hc
  have HZ := Lib.hid hz
  have hn := hl.n
  generalize l[p].A = A2 at *
  generalize l[p].c = c2 at *
  generalize Go.Proofs.Ytbdpdbeekbbehaa.edg l p = E at *
  clear h1 h2 hb hp hB hz e3 hl
  go_enter Try.func65, Try.ntmps65
  go_wp2_with (fail)
  go_ret
  exact ⟨A2, c2, rfl, .of HZ.out, hc, 0, rfl⟩
theorem back_ok {w : World} {b hb n B : Nat} {R : Nat → Value} {L : Nat → List Nat} (hh : HdR w hb n B R L) (hx : Bx w b 39 (.slice (some ⟨hb, 0, none⟩) n n)) (hn : n ≤ 1000000) : NxOk L n 66 #[.pointer (some ⟨b, 0, none⟩)] w := by
  intro W p hB hpn
  obtain ⟨A2, c2, h1, h2, h3⟩ := hh.nrow hpn
  have c0 := (hx.later hB).cell
  have c1 := (hh.later hB).cell hpn
  rw [h1] at c1
  have HZ := Lib.hid h3
  generalize L p = E at *
  clear h1 h3 hh hx hB
  go_enter Try.func66, Try.ntmps66
  go_wp2_with (fail)
  go_ret
  exact ⟨A2, c2, rfl, HZ.out, h2, 0, rfl⟩
end Go.Proofs.Ytbdpdbeekbbehaa
