/- What is proved: the lists between two lists are counted by their ranks: plain arithmetic. -/
import Derived.Test.YtlndlipicbkhiaaDoorVaNextP
set_option linter.unusedVariables false
namespace Go.Proofs.YtlndlipicbkhiaaDoor
open Go.RowKit

/-- how many lists there are -/
def cntP : List Int → List Int → Int
  | a :: lo, h :: hi => (h - a + 1) * cntP lo hi
  | _, _ => 1
/-- the rank of a list -/
def rkP : List Int → List Int → List Int → Int
  | a :: lo, h :: hi, x :: l => (x - a) * cntP lo hi + rkP lo hi l
  | _, _, _ => 0
/-- all elements are in their ranges -/
def rgP : List Int → List Int → List Int → Prop
  | [], [], [] => True
  | a :: lo, h :: hi, x :: l => (a ≤ x ∧ x ≤ h) ∧ rgP lo hi l
  | _, _, _ => False
theorem rg_len : ∀ lo hi l : List Int, rgP lo hi l → lo.length = l.length ∧ hi.length = l.length
  | [], [], [], _ => ⟨rfl, rfl⟩
  | a :: lo, h :: hi, x :: l, hr => by
    have := rg_len lo hi l hr.2
    simp only [List.length_cons]
    omega
  | [], _ :: _, _, h => h.elim
  | [], [], _ :: _, h => h.elim
  | _ :: _, [], _, h => h.elim
  | _ :: _, _ :: _, [], h => h.elim
theorem rg_in : ∀ lo hi l : List Int, rgP lo hi l → inR lo hi l l.length
  | [], [], [], _ => fun i h => absurd h (by simp)
  | a :: lo, h :: hi, x :: l, hr => fun i hi' => by
    cases i with
    | zero => simpa using hr.1
    | succ i =>
      have := rg_in lo hi l hr.2 i (by simpa using hi')
      simpa using this
  | [], _ :: _, _, h => h.elim
  | [], [], _ :: _, h => h.elim
  | _ :: _, [], _, h => h.elim
  | _ :: _, _ :: _, [], h => h.elim
theorem rg_of : ∀ lo hi l : List Int, lo.length = l.length → hi.length = l.length → inR lo hi l l.length → rgP lo hi l
  | [], [], [], _, _, _ => trivial
  | a :: lo, h :: hi, x :: l, h1, h2, hr => by
    refine ⟨by simpa using hr 0 (by simp), rg_of lo hi l (by simpa using h1) (by simpa using h2) (fun i hi' => ?_)⟩
    have := hr (i + 1) (by simpa using hi')
    simpa using this
  | [], _ :: _, [], _, h2, _ => by simp at h2
  | [], _, _ :: _, h1, _, _ => by simp at h1
  | _ :: _, _, [], h1, _, _ => by simp at h1
  | _ :: _, [], _ :: _, _, h2, _ => by simp at h2
theorem cnt_pos : ∀ lo hi l : List Int, rgP lo hi l → 1 ≤ cntP lo hi
  | [], [], [], _ => by simp [cntP]
  | a :: lo, h :: hi, x :: l, hr => by
    have := cnt_pos lo hi l hr.2
    have h1 := hr.1
    unfold cntP
    have : 1 * 1 ≤ (h - a + 1) * cntP lo hi := Int.mul_le_mul (by omega) this (by omega) (by omega)
    omega
  | [], _ :: _, _, h => h.elim
  | [], [], _ :: _, h => h.elim
  | _ :: _, [], _, h => h.elim
  | _ :: _, _ :: _, [], h => h.elim
theorem rk_range : ∀ lo hi l : List Int, rgP lo hi l → 0 ≤ rkP lo hi l ∧ rkP lo hi l ≤ cntP lo hi - 1
  | [], [], [], _ => by simp [cntP, rkP]
  | a :: lo, h :: hi, x :: l, hr => by
    have h2 := rk_range lo hi l hr.2
    have h3 := cnt_pos lo hi l hr.2
    have h1 := hr.1
    unfold cntP rkP
    have e1 : 0 ≤ (x - a) * cntP lo hi := Int.mul_nonneg (by omega) (by omega)
    have e2 : (x - a) * cntP lo hi ≤ (h - a) * cntP lo hi := Int.mul_le_mul_of_nonneg_right (by omega) (by omega)
    have e3 : (h - a + 1) * cntP lo hi = (h - a) * cntP lo hi + cntP lo hi := by rw [Int.add_mul, Int.one_mul]
    omega
  | [], _ :: _, _, h => h.elim
  | [], [], _ :: _, h => h.elim
  | _ :: _, [], _, h => h.elim
  | _ :: _, _ :: _, [], h => h.elim
theorem gw_cons (h : Int) (hi : List Int) (x : Int) (l : List Int) : ∀ n : Nat, gw (h :: hi) (x :: l) (n + 1) = if 0 ≤ gw hi l n then gw hi l n + 1 else if x < h then 0 else -1 := by
  intro n
  induction n with
  | zero =>
    simp [gw]
  | succ n ih =>
    rw [gw, ih]
    simp only [List.getD_cons_succ]
    conv => rhs; rw [gw]
    by_cases c : l.getD n 0 < hi.getD n 0
    · rw [if_pos c, if_pos c, if_pos (by omega)]
      omega
    · rw [if_neg c, if_neg c]
theorem rk_low : ∀ lo hi : List Int, rkP lo hi lo = 0
  | [], _ => by simp [rkP]
  | _ :: _, [] => by simp [rkP]
  | a :: lo, h :: hi => by
    unfold rkP
    rw [rk_low lo hi]
    simp
theorem rg_low : ∀ lo hi l : List Int, rgP lo hi l → rgP lo hi lo
  | [], [], [], _ => trivial
  | a :: lo, h :: hi, x :: l, hr => ⟨⟨by omega, by have := hr.1; omega⟩, rg_low lo hi l hr.2⟩
  | [], _ :: _, _, h => h.elim
  | [], [], _ :: _, h => h.elim
  | _ :: _, [], _, h => h.elim
  | _ :: _, _ :: _, [], h => h.elim
theorem bump_succ (a x : Int) (lo l : List Int) (g : Nat) : bump (a :: lo) (x :: l) (g + 1) = x :: bump lo l g := by
  simp [bump]
theorem bump_zero (a x : Int) (lo l : List Int) : bump (a :: lo) (x :: l) 0 = (x + 1) :: lo := by
  simp [bump]
/-- one step goes one rank on; the last list has the last rank -/
theorem rk_step : ∀ lo hi l : List Int, rgP lo hi l → (gw hi l l.length = -1 → rkP lo hi l = cntP lo hi - 1) ∧ (∀ g : Nat, gw hi l l.length = g → rkP lo hi (bump lo l g) = rkP lo hi l + 1 ∧ rgP lo hi (bump lo l g))
  | [], [], [], _ => ⟨fun _ => by simp [rkP, cntP], fun g h => by simp [gw] at h⟩
  | a :: lo, h :: hi, x :: l, hr => by
    obtain ⟨i1, i2⟩ := rk_step lo hi l hr.2
    have hr1 := hr.1
    have hrg := gw_range hi l l.length
    have e3 : (h - a + 1) * cntP lo hi = (h - a) * cntP lo hi + cntP lo hi := by rw [Int.add_mul, Int.one_mul]
    rw [List.length_cons, gw_cons]
    by_cases c : 0 ≤ gw hi l l.length
    · rw [if_pos c]
      refine ⟨fun e => by omega, fun g e => ?_⟩
      obtain ⟨j, rfl⟩ : ∃ j, g = j + 1 := ⟨g - 1, by omega⟩
      obtain ⟨k1, k2⟩ := i2 j (by omega)
      rw [bump_succ]
      refine ⟨?_, hr.1, k2⟩
      unfold rkP
      rw [k1]
      omega
    · rw [if_neg c]
      have t1 := i1 (by omega)
      by_cases c2 : x < h
      · rw [if_pos c2]
        refine ⟨fun e => by omega, fun g e => ?_⟩
        obtain rfl : g = 0 := by omega
        rw [bump_zero]
        refine ⟨?_, ⟨by omega, by omega⟩, rg_low lo hi l hr.2⟩
        unfold rkP
        rw [rk_low, t1, show x + 1 - a = (x - a) + 1 by omega, Int.add_mul, Int.one_mul]
        omega
      · rw [if_neg c2]
        refine ⟨fun _ => ?_, fun g e => by omega⟩
        obtain rfl : x = h := by omega
        show (x - a) * cntP lo hi + rkP lo hi l = (x - a + 1) * cntP lo hi - 1
        rw [t1, e3]
        omega
  | [], _ :: _, _, h => h.elim
  | [], [], _ :: _, h => h.elim
  | _ :: _, [], _, h => h.elim
  | _ :: _, _ :: _, [], h => h.elim
/-- the product of the first k sizes -/
def pcP (lo hi : List Int) : Nat → Int
  | 0 => 1
  | k + 1 => pcP lo hi k * (hi.getD k 0 - lo.getD k 0 + 1)
theorem pc_cons (a h : Int) (lo hi : List Int) : ∀ k, pcP (a :: lo) (h :: hi) (k + 1) = (h - a + 1) * pcP lo hi k := by
  intro k
  induction k with
  | zero => simp [pcP]
  | succ k ih =>
    rw [pcP, ih]
    simp only [List.getD_cons_succ]
    rw [Int.mul_assoc]
    rfl
theorem pc_all : ∀ lo hi : List Int, lo.length = hi.length → pcP lo hi lo.length = cntP lo hi
  | [], [], _ => rfl
  | a :: lo, h :: hi, e => by
    rw [List.length_cons, pc_cons, pc_all lo hi (by simpa using e)]
    rfl
  | [], _ :: _, e => by simp at e
  | _ :: _, [], e => by simp at e
end Go.Proofs.YtlndlipicbkhiaaDoor
