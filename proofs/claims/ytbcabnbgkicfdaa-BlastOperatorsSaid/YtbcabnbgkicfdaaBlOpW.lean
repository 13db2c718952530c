/- What is proved: the law BlastOperators, for any width, two numbers and a condition. -/
import Derived.Test.YtbcabnbgkicfdaaBlOpP
set_option linter.unusedVariables false
set_option linter.unusedSimpArgs false
namespace Go.Proofs.Ytbcabnbgkicfdaa
open Go.RowKit Go.Maps

/-- the words of the law's inputs in memory -/
structure OpW (w : World) (wb wo : Nat) (X0 : Option Addr) (c0 : Nat) (X1 : Option Addr) (c1 : Nat) (cb co c2 m : Nat) (x y : List Int) (cl : Int) : Prop where
  p0 : w.cell? ⟨wb, wo, none⟩ = some (.slice X0 m c0)
  p1 : w.cell? ⟨wb, wo + 1, none⟩ = some (.slice X1 m c1)
  p2 : w.cell? ⟨wb, wo + 2, none⟩ = some (.slice (some ⟨cb, co, none⟩) 1 c2)
  p3 : w.cell? ⟨cb, co, none⟩ = some (.int .i64 cl)
  r0 : WRow w.heap.size w X0 x
  r1 : WRow w.heap.size w X1 y
  b0 : wb < w.heap.size
  b1 : cb < w.heap.size
section
variable {w w' : World} {wb wo : Nat} {X0 : Option Addr} {c0 : Nat} {X1 : Option Addr} {c1 : Nat} {cb co c2 m : Nat} {x y : List Int} {cl : Int}
theorem OpW.later (h : OpW w wb wo X0 c0 X1 c1 cb co c2 m x y cl) (hb : Below w.heap.size w w') : OpW w' wb wo X0 c0 X1 c1 cb co c2 m x y cl :=
  ⟨(hb.cell (p := ⟨wb, wo, none⟩) h.b0).trans h.p0, (hb.cell (p := ⟨wb, wo + 1, none⟩) h.b0).trans h.p1, (hb.cell (p := ⟨wb, wo + 2, none⟩) h.b0).trans h.p2, (hb.cell (p := ⟨cb, co, none⟩) h.b1).trans h.p3, (h.r0.later hb).here, (h.r1.later hb).here, by have := h.b0; have := hb.size; omega, by have := h.b1; have := hb.size; omega⟩
theorem OpW.cells (h : OpW w wb wo X0 c0 X1 c1 cb co c2 m x y cl) : w.cell? ⟨wb, wo, none⟩ = some (.slice X0 m c0) ∧ w.cell? ⟨wb, wo + 1, none⟩ = some (.slice X1 m c1) ∧ w.cell? ⟨wb, wo + 2, none⟩ = some (.slice (some ⟨cb, co, none⟩) 1 c2) ∧ w.cell? ⟨cb, co, none⟩ = some (.int .i64 cl) := ⟨h.p0, h.p1, h.p2, h.p3⟩
end
theorem OpW.of {w : World} {A : Option Addr} {xs ys : List Int} {cl : Int} {m : Nat} (h : LsRow w A [xs, ys, [cl]]) (hx : xs.length = m) (hy : ys.length = m) : ∃ wb wo X0 c0 X1 c1 cb co c2, A = some ⟨wb, wo, none⟩ ∧ OpW w wb wo X0 c0 X1 c1 cb co c2 m xs ys cl ∧ m ≤ c0 := by
  obtain ⟨wb, wo, hA, hwb, h3⟩ := h (by simp)
  obtain ⟨X0, c0, q0, e0, r0⟩ := h3 0 (by simp)
  obtain ⟨X1, c1, q1, _, r1⟩ := h3 1 (by simp)
  obtain ⟨X2, c2, q2, _, r2⟩ := h3 2 (by simp)
  simp only [List.getElem_cons_zero, List.getElem_cons_succ, List.length_cons, List.length_nil, Nat.zero_add, Nat.add_zero, hx, hy] at q0 q1 q2 r0 r1 r2 e0
  obtain ⟨cb, co, cs, hX2, hcb, hh2, hcs⟩ := r2 (by simp)
  have q3 : w.cell? ⟨cb, co, none⟩ = some (.int .i64 cl) := (Lib.cell_of_heap hh2 co).trans (hcs 0 (by simp))
  subst hX2
  exact ⟨wb, wo, X0, c0, X1, c1, cb, co, c2, hA, ⟨q0, q1, q2, q3, r0, r1, hwb, hcb⟩, e0⟩
/-- a word in a circuit: where it lies and what holds of it -/
structure ZP (w : World) (gs : List Gt) (I : Int) (m : Nat) (A : Option Addr) (z : List Int) (φ : List Int → (Int → Bool) → (Int → Prop) → Prop) : Prop where
  row : WRow w.heap.size w A z
  len : z.length = m
  lts : Lts I gs z
  hol : Hol I gs (φ z)
theorem ZP.stp {w w1 : World} {gs gs1 : List Gt} {I : Int} {m : Nat} {A : Option Addr} {z : List Int} {φ : List Int → (Int → Bool) → (Int → Prop) → Prop} {n₀ bb mb n : Nat} {rv rv1 : Value} (h : ZP w gs I m A z φ) (ht : Bld w n₀ bb mb rv I gs 0) (hs : Stp n₀ bb mb rv I gs n w w1 rv1 gs1) : ZP w1 gs1 I m A z φ :=
  ⟨(h.row.stp ht hs).here, h.len, h.lts.more hs.grow, h.hol.more hs.pre⟩
theorem ZP.later {w w1 : World} {gs : List Gt} {I : Int} {m : Nat} {A : Option Addr} {z : List Int} {φ : List Int → (Int → Bool) → (Int → Prop) → Prop} (h : ZP w gs I m A z φ) (hb : Below w.heap.size w w1) : ZP w1 gs I m A z φ := ⟨(h.row.later hb).here, h.len, h.lts, h.hol⟩
def ZW (w : World) (gs : List Gt) (I : Int) (m : Nat) (inp : List Bool) (A : Option Addr) (z : List Int) (wt : Int) : Prop :=
  WRow w.heap.size w A z ∧ z.length = m ∧ Lts I gs z ∧ valN 0 (z.map (litV (nv inp gs))) = wt
theorem ZP.zw {w : World} {gs : List Gt} {I : Int} {m : Nat} {A : Option Addr} {z : List Int} {φ : List Int → (Int → Bool) → (Int → Prop) → Prop} {inp : List Bool} {wt : Int} (h : ZP w gs I m A z φ) (hI : (inp.length : Int) = I) (hv : φ z (litV (nv inp gs)) (Dep I gs fun _ => True) → valN 0 (z.map (litV (nv inp gs))) = wt) : ZW w gs I m inp A z wt :=
  ⟨h.row, h.len, h.lts, hv (h.hol gs inp (fun _ => True) (List.prefix_refl _) hI)⟩
theorem mul_small {a b : Int} (ha : -128 ≤ a ∧ a ≤ 127) (hb : -128 ≤ b ∧ b ≤ 127) : -16384 ≤ a * b ∧ a * b ≤ 16384 := by
  have h := Nat.mul_le_mul (show a.natAbs ≤ 128 by omega) (show b.natAbs ≤ 128 by omega)
  rw [← Int.natAbs_mul] at h
  omega
/-- what is known of the law's words before it runs -/
structure OpK (m : Nat) (a b : Int) (c : Bool) (I : Int) (xs ys : List Int) (cl : Int) (inp : List Bool) : Prop where
  hm : 2 ≤ m ∧ m ≤ 8
  il : (inp.length : Int) = I
  iI : I = ((m + m + 1 : Nat) : Int)
  lx : xs.length = m
  ly : ys.length = m
  tx : Lts I [] xs
  ty : Lts I [] ys
  tc : isLit I [] cl
  vx : ∀ G, Inp m (litV (nv inp G)) xs a
  vy : ∀ G, Inp m (litV (nv inp G)) ys b
  vc : ∀ G, litV (nv inp G) cl = c
theorem OpK.of {m : Nat} (hm : 2 ≤ m ∧ m ≤ 8) {a b : Int} (ha : wrpP (m : Int) a = a) (hb : wrpP (m : Int) b = b) {c : Bool} {ch : Int} (hc : (bitP ch 0 == 1) = c) : ∃ cl, wordL (m + m) 1 = [cl] ∧ OpK m a b c ((m + m + 1 : Nat) : Int) (wordL 0 m) (wordL m m) cl (inpL m a b ch) :=
  ⟨2 * (((m + m + 0 : Nat) : Int) + 1), rfl, hm, by rw [inpL_len], rfl, wordL_len _ _, wordL_len _ _, word_lts (by omega), word_lts (by omega), (word_lts (b := m + m) (k := 1) (by omega)) _ (by simp [wordL]), fun G => Inp.of (wordL_len _ _) (inp_x m a b ch G) ha, fun G => Inp.of (wordL_len _ _) (inp_y m a b ch G) hb, fun G => by
    have := inp_c m a b ch G
    simp only [wordL, bitL, List.range_succ, List.range_zero, List.nil_append, List.map_cons, List.map_nil, hc] at this
    injection this⟩
end Go.Proofs.Ytbcabnbgkicfdaa
