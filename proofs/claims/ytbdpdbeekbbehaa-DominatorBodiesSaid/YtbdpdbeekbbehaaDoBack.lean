/- What is proved: slices.Backward of a slice of numbers gives them from the last one on. -/
import Derived.Test.YtbdpdbeekbbehaaDoGives
import Derived.Test.YtbdpdbeekbbehaaDoBase
import Derived.Shelf.RegionOpen
import Derived.OwnWalkIn
import Derived.TacticsInMore
set_option linter.unusedVariables false
namespace Go.Proofs.Ytbdpdbeekbbehaa
open Go.RowKit Go.Shelf
attribute [local go_sem] Oper.semAt_some

/-- numbers with their places, from the last one on -/
def bkL (l : List Nat) : List (Nat × Nat) := ((List.range l.length).map fun i => (i, l.getD i 0)).reverse
theorem bkL_len (l : List Nat) : (bkL l).length = l.length := by simp [bkL]
theorem bkL_get (l : List Nat) {k : Nat} (h : k < l.length) : (bkL l)[l.length - (k + 1)]? = some (k, l[k]) := by
  unfold bkL
  rw [List.getElem?_reverse (by simp; omega)]
  simp only [List.length_map, List.length_range]
  have e1 : l.length - 1 - (l.length - (k + 1)) = k := by omega
  rw [e1]
  simp [h]
theorem bkL_at (l : List Nat) {k : Nat} (h : k < l.length) : bkL l = (bkL l).take (l.length - (k + 1)) ++ (k, l[k]) :: (bkL l).drop (l.length - k) := by
  have h1 : l.length - (k + 1) < (bkL l).length := by rw [bkL_len]; omega
  have e := bkL_get l h
  rw [List.getElem?_eq_getElem h1] at e
  conv => lhs; rw [← List.take_append_drop (l.length - (k + 1)) (bkL l)]
  rw [List.drop_eq_getElem_cons h1, Option.some.inj e]
  congr 3
  omega
theorem bkL_take (l : List Nat) {k : Nat} (h : k < l.length) : (bkL l).take (l.length - k) = (bkL l).take (l.length - (k + 1)) ++ [(k, l[k])] := by
  have h1 : l.length - (k + 1) < (bkL l).length := by rw [bkL_len]; omega
  have h2 : l.length - k = l.length - (k + 1) + 1 := by omega
  rw [h2, List.take_succ_eq_append_getElem h1]
  congr 1
  have e := bkL_get l h
  rw [List.getElem?_eq_getElem h1] at e
  rw [Option.some.inj e]

theorem backward_call (A : Option Addr) (n c : Nat) (w : World) : Calls Try.prog 68 #[.slice A n c] w fun e w' => e = .returned (.func (.func 76) #[] #[.pointer (some ⟨w.heap.size, 0, none⟩)]) ∧ w' = w.alloc (.cells #[.slice A n c] 29) := by
  go_enter Try.func68, Try.ntmps68
  go_wp2_with (fail)
  go_ret
  exact ⟨rfl, rfl⟩

set_option maxRecDepth 100000 in
set_option maxHeartbeats 2000000 in
theorem back1_in (F : Fence) (hd : F.depth = none) (n : Nat) (h1 : F.fn 76) (hro : F.round = none) (Bs fb c : Nat) (Z : Nat → Prop) (l : List Nat) (w : World) (hZ : ∀ b, Z b → b < w.heap.size) (hB : Z Bs) (hf : l.length = 0 ∨ Z fb) (hl : l.length ≤ 1000000)
    (hb : Bx w Bs 29 (.slice (some ⟨fb, 0, none⟩) l.length c)) (hr : ∀ (i : Nat) (h : i < l.length), w.cell? ⟨fb, i, none⟩ = some (.int .i64 ((l[i] : Nat) : Int))) :
    Gives F n Try.prog 76 #[.pointer (some ⟨Bs, 0, none⟩)] (fun x : Nat × Nat => #[.int .i64 (x.1 : Int), .int .i64 (x.2 : Int)]) Z (bkL l) w := fun y J Jx W hW hJ hJx hY h0 => by
  have hdd : ∀ k : Nat, (F.depth.isSome = true → 1 ≤ k) := fun k h => by rw [hd] at h; cases h
  have hWZ : BelowZ Z w W := .of hW hZ
  have HWZ := Lib.hid hWZ
  have HB := Lib.hid (show ∀ W', BelowZ Z W W' → Bx W' Bs 29 (.slice (some ⟨fb, 0, none⟩) l.length c) from fun W' h => ((h.block Bs hB).trans (hWZ.block Bs hB)).trans hb)
  have HR := Lib.hid (show ∀ W', BelowZ Z W W' → ∀ (i : Nat) (h : i < l.length), W'.cell? ⟨fb, i, none⟩ = some (.int .i64 ((l[i] : Nat) : Int)) from fun W' h i hi => (World.cell?_of_block (a := ⟨fb, i, none⟩) ((h.block fb (hf.resolve_left (by omega))).trans (hWZ.block fb (hf.resolve_left (by omega))))).trans (hr i hi))
  have HY := Lib.hid hY
  have HJ0 := Lib.hid h0
  clear hY h0 hb hr hJ hJx hWZ hZ
  have c0 := (HB.out W (BelowZ.refl _ _)).cell
  refine callsIn_of_wp Try.func76 rfl h1 ?_ hro
  simp only [Try.ntmps76, List.size_toArray, List.length_cons, List.length_nil, Nat.reduceAdd, Nat.reduceSub, Array.replicate_succ, Array.replicate_zero, List.push_toArray, List.append_toArray, List.nil_append, List.cons_append]
  gi_wp2_with (fail)
  clear c0
  gi_loopw [3] (fun i wr => ∃ (m M : Nat), m ≤ l.length ∧ i = .int .i64 ((m : Int) - 1) ∧ Hid (J ((bkL l).take (l.length - m), M) wr) ∧ Hid (M ≤ wr.heap.size) ∧ Hid (BelowZ Z W wr)) (fun i _ => (intOf i + 1).toNat)
  case atStart => exact ⟨l.length, W.heap.size, Nat.le_refl _, rfl, Lib.hid (by rw [Nat.sub_self, List.take_zero]; exact HJ0.out), Lib.hid (Nat.le_refl _), Lib.hid (BelowZ.refl _ _)⟩
  case round =>
    obtain ⟨m, M, hm, rfl, hj, hM, hbz⟩ := hrel
    cases m with
    | zero =>
      have HE := Lib.hid (show J (bkL l, M) wr by have h := hj.out; rw [Nat.sub_zero, List.take_of_length_le (by rw [bkL_len]; exact Nat.le_refl _)] at h; exact h)
      gi_wp2_with (fail)
      go_end0
      exact ⟨⟨_, rfl⟩, .inl ⟨M, HE.out⟩⟩
    | succ k =>
      have hkl : k < l.length := by omega
      have c0 := (HB.out wr hbz.out).cell
      have r0 := HR.out wr hbz.out k hkl
      have HTK := Lib.hid (bkL_take l hkl)
      obtain ⟨fn, tmps, assign, body, hy, hR⟩ := HY.out _ _ _ M wr (bkL_at l hkl) hj.out hM.out
      obtain ⟨x, HX⟩ : ∃ x, Hid (l[k] = x) := ⟨_, Lib.hid rfl⟩
      have HRD := Lib.hid hR
      dsimp only at hy
      rw [HX.out] at hy r0
      have e1 : (((k + 1 : Nat) : Int) - 1) = (k : Int) := by omega
      rw [e1]
      clear hR e1
      gi_wp2_with (fail)
      refine HRD.out.mono ?_
      rintro e W2 (⟨rfl, hj2, hb2, hs2⟩ | ⟨rfl, hx⟩)
      · have HJ2 := Lib.hid hj2
        have HB2 := Lib.hid (hbz.out.trans hb2)
        rw [← HTK.out] at HJ2
        have HME := Lib.hid (show ((k : Int) - 1 + 1).toNat < (((k + 1 : Nat) : Int) - 1 + 1).toNat by omega)
        clear hj2 hb2 hs2 hy HRD
        gi_wp2_with (fail)
        exact ⟨⟨k, W2.heap.size, by omega, rfl, HJ2, Lib.hid (Nat.le_refl _), HB2⟩, by have := HME.out; simp [intOf] at this ⊢⟩
      · have HX2 := Lib.hid hx
        clear hx hy HRD
        rw [← HTK.out] at HX2
        gi_wp2_with (fail)
        exact bodyPost_ret (v := .tuple #[]) (by simp [results, Try.results76, go_sem]) rfl ⟨⟨_, rfl⟩, .inr ⟨_, List.take_prefix _ _, HX2.out⟩⟩
end Go.Proofs.Ytbdpdbeekbbehaa
