/- What is proved: the pieces of the chapter's examples. -/
import Derived.Test.YtnpcfmoiiecadaaDoorTyMember
import Derived.Test.YtnpcfmoiiecadaaDoorTyLay
import Derived.Test.YtnpcfmoiiecadaaDoorTyFew
set_option linter.unusedVariables false
namespace Go.Proofs.YtnpcfmoiiecadaaDoor
open Go.RowKit

def exA : TyV := ⟨3, 2, ⟨#[]⟩⟩
def exP : TyV := ⟨4, 0, ⟨#[112, 111, 105, 110, 116]⟩⟩
def exS : List TyV := [bsc 1, bsc 1, bsc 1, bsc 2]
def exV : List VarV := [⟨⟨#[120]⟩, bsc 2, 0, 0, false, false⟩, ⟨⟨#[97]⟩, exA, 0, 0, false, false⟩, ⟨⟨#[112]⟩, exP, 0, 0, false, false⟩]
theorem ex_valid (b : Nat) : [exA, exP].all (fun t => validB t (ptR b)) = true := by kernel_rfl
theorem ex_scal (b : Nat) : scalT [exA, exP] (ptR b) = exS := by kernel_rfl
theorem ex_tot (b : Nat) : totK (ptR b) exV 3 = 5 := by kernel_rfl
theorem ex_vv (b : Nat) : exV.all (fun v => validB v.ty (ptR b)) = true := by kernel_rfl
theorem ex_s0 (b : Nat) : (layK (ptR b) exV 3).map (·.slot) = [0, 1, 3] := by kernel_rfl
theorem ex_20 (b : Nat) : ∀ r ∈ ptR b, r.flds.length ≤ 20 := by
  intro r hr
  simp only [ptR, List.mem_singleton] at hr
  subst hr
  exact (show (2 : Nat) ≤ 20 by decide)
theorem ex_len (b : Nat) : (ptR b).length ≤ 1000000000 := show (1 : Nat) ≤ 1000000000 by decide

/-- the scalars of the example -/
theorem scal_ex (g q b : Nat) (W : World) (hr : RRow W.heap.size W (some ⟨g, 0, none⟩) (ptR b)) (ht : TRow W.heap.size W (some ⟨q, 0, none⟩) [exA, exP]) :
    Calls Tryd.prog 21 #[.slice (some ⟨g, 0, none⟩) 1 1, .slice (some ⟨q, 0, none⟩) 2 2] W fun e w' => ∃ A c, e = .returned (.slice A 4 c) ∧ TRow w'.heap.size w' A exS ∧ Below W.heap.size W w' := by
  refine (scalars_any (some ⟨g, 0, none⟩) (some ⟨q, 0, none⟩) 1 2 (ptR b) [exA, exP] W hr ht (ex_len b) (ex_20 b) (by decide)).mono ?_
  rintro e w' ⟨v, rfl, ho, hb⟩
  rw [ex_scal] at ho
  obtain ⟨A, c, rfl, ht⟩ := types_own ho
  exact ⟨A, c, rfl, ht, hb⟩
theorem equal_ex (A B : Option Addr) (c d : Nat) (W : World) (h1 : TRow W.heap.size W A exS) (h2 : TRow W.heap.size W B exS) :
    Calls Tryd.prog 20 #[.slice A 4 c, .slice B 4 d] W fun e w' => e = .returned (.bool true) ∧ Below W.heap.size W w' :=
  equal_any A B c d exS W h1 h2 (by decide)
theorem member_ex (g b : Nat) (W : World) (hr : RRow W.heap.size W (some ⟨g, 0, none⟩) (ptR b)) :
    Calls Tryd.prog 19 #[.slice (some ⟨g, 0, none⟩) 1 1, .string ⟨#[112, 98]⟩] W fun e w' => e = .returned (.tuple #[.string ⟨#[112, 111, 105, 110, 116]⟩, .int .i64 1, .agg #[.int .i64 2, .int .i64 0, .string ⟨#[]⟩], .bool true]) ∧ Below W.heap.size W w' := by
  refine (member_first (some ⟨g, 0, none⟩) 1 (ptR b) ⟨#[112, 98]⟩ 1 W ⟨⟨#[112, 111, 105, 110, 116]⟩, some ⟨b, 0, none⟩, 2, ptF⟩ ⟨⟨#[112, 98]⟩, bsc 2⟩ (show (0 : Nat) < 1 by decide) rfl (show (1 : Nat) < 2 by decide) rfl (by kernel_rfl) (fun i hi => ?_) hr (ex_len b)).mono ?_
  · obtain rfl : i = 0 := by omega
    kernel_rfl
  · rintro e w' ⟨rfl, hb⟩
    exact ⟨by rw [show fkd ⟨⟨#[112, 98]⟩, bsc 2⟩ = 2 by kernel_rfl]; rfl, hb⟩
/-- the layout of the example: the slots -/
def Slots (W : World) (g : Nat) : Prop := W.cell? ⟨g, 4, none⟩ = some (.int .i64 0) ∧ W.cell? ⟨g, 12, none⟩ = some (.int .i64 1) ∧ W.cell? ⟨g, 20, none⟩ = some (.int .i64 3)
theorem layout_ex (g q b : Nat) (W : World) (hr : RRow W.heap.size W (some ⟨g, 0, none⟩) (ptR b)) (hv : VRow W.heap.size W (some ⟨q, 0, none⟩) exV) :
    Calls Tryd.prog 17 #[.slice (some ⟨g, 0, none⟩) 1 1, .slice (some ⟨q, 0, none⟩) 3 3] W fun e w' => ∃ k c, e = .returned (.tuple #[.slice (some ⟨k, 0, none⟩) 3 c, .int .i64 5]) ∧ Slots w' k ∧ k < w'.heap.size ∧ Below W.heap.size W w' := by
  refine (layout_any (some ⟨g, 0, none⟩) (some ⟨q, 0, none⟩) 1 3 (ptR b) exV W hr hv (ex_len b) (ex_20 b) (by decide)).mono ?_
  rintro e w' ⟨v, n, rfl, hb, ⟨_, rfl, ho⟩ | ⟨⟨j, hj, hbad⟩, _⟩⟩
  · have hlen : exV.length = 3 := rfl
    rw [hlen] at ho ⊢
    rw [ex_tot]
    obtain ⟨k, cap, hv2, _, hlt⟩ := ho.form (by decide)
    subst hv2
    have hc := ho.cells (g := k) rfl
    have hl := layK_len (ptR b) exV 3 (by decide)
    have hs := ex_s0 b
    match hq : layK (ptR b) exV 3, hl with
    | [v0, v1, v2], _ =>
      rw [hq] at hc hs
      simp only [List.map_cons, List.map_nil, List.cons.injEq, and_true] at hs
      obtain ⟨s0, s1, s2⟩ := hs
      refine ⟨k, cap, rfl, ?_, hlt, hb⟩
      have a0 := hc 4 _ rfl
      have a1 := hc 12 _ rfl
      have a2 := hc 20 _ rfl
      rw [ty_addr_add] at a0 a1 a2
      rw [s0] at a0
      rw [s1] at a1
      rw [s2] at a2
      exact ⟨a0, a1, a2⟩
  · exfalso
    have h := ex_vv b
    rw [List.all_eq_true] at h
    have := h _ (List.getElem_mem hj)
    rw [hbad] at this
    cases this
end Go.Proofs.YtnpcfmoiiecadaaDoor
