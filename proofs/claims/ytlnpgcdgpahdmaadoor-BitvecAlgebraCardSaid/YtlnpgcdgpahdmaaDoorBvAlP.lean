/- What is proved: the table that the law BitvecAlgebra makes, and the laws of the operators, as plain mathematics. -/
import Derived.Test.YtlnpgcdgpahdmaaDoorBvDen
set_option linter.unusedVariables false
namespace Go.Proofs.YtlnpgcdgpahdmaaDoor
open Go.RowKit

def algL : List Tm := [⟨0, 0, 0, 0, 0⟩, ⟨0, 1, 0, 0, 0⟩, ⟨0, 2, 0, 0, 0⟩, ⟨1, 3, 0, 0, 0⟩, ⟨1, 4, 0, 0, 0⟩, ⟨5, 0, 0, 1, 0⟩, ⟨6, 0, 5, 1, 0⟩, ⟨5, 0, 1, 2, 0⟩, ⟨7, 0, 0, 7, 0⟩, ⟨7, 0, 0, 1, 0⟩, ⟨7, 0, 0, 2, 0⟩, ⟨5, 0, 9, 10, 0⟩, ⟨6, 0, 0, 1, 0⟩, ⟨4, 0, 12, 0, 0⟩, ⟨6, 0, 1, 0, 0⟩, ⟨5, 0, 0, 7, 0⟩, ⟨5, 0, 5, 2, 0⟩, ⟨17, 0, 0, 1, 0⟩, ⟨11, 0, 17, 0, 0⟩, ⟨17, 0, 1, 0, 0⟩, ⟨16, 0, 0, 1, 0⟩, ⟨13, 0, 19, 20, 0⟩, ⟨12, 0, 3, 4, 0⟩, ⟨11, 0, 22, 0, 0⟩, ⟨11, 0, 3, 0, 0⟩, ⟨11, 0, 4, 0, 0⟩, ⟨13, 0, 24, 25, 0⟩, ⟨15, 0, 3, 4, 25⟩, ⟨14, 0, 3, 4, 0⟩, ⟨10, 0, 20, 0, 1⟩, ⟨10, 0, 3, 0, 1⟩, ⟨17, 0, 30, 2, 0⟩, ⟨17, 0, 0, 2, 0⟩, ⟨17, 0, 1, 2, 0⟩, ⟨15, 0, 3, 32, 33⟩]
theorem alg_mk5_5_0_1 (W : Int) : mkL W (algL.take 5) ⟨5, 0, 0, 1, 0⟩ = algL.take 6 ∧ mkN W (algL.take 5) ⟨5, 0, 0, 1, 0⟩ = 5 ∧ mkE W (algL.take 5) ⟨5, 0, 0, 1, 0⟩ = 0 := ⟨by kernel_rfl, by kernel_rfl, by kernel_rfl⟩
theorem alg_mk6_6_5_1 (W : Int) : mkL W (algL.take 6) ⟨6, 0, 5, 1, 0⟩ = algL.take 7 ∧ mkN W (algL.take 6) ⟨6, 0, 5, 1, 0⟩ = 6 ∧ mkE W (algL.take 6) ⟨6, 0, 5, 1, 0⟩ = 0 := ⟨by kernel_rfl, by kernel_rfl, by kernel_rfl⟩
theorem alg_mk7_5_1_2 (W : Int) : mkL W (algL.take 7) ⟨5, 0, 1, 2, 0⟩ = algL.take 8 ∧ mkN W (algL.take 7) ⟨5, 0, 1, 2, 0⟩ = 7 ∧ mkE W (algL.take 7) ⟨5, 0, 1, 2, 0⟩ = 0 := ⟨by kernel_rfl, by kernel_rfl, by kernel_rfl⟩
theorem alg_mk8_7_0_7 (W : Int) : mkL W (algL.take 8) ⟨7, 0, 0, 7, 0⟩ = algL.take 9 ∧ mkN W (algL.take 8) ⟨7, 0, 0, 7, 0⟩ = 8 ∧ mkE W (algL.take 8) ⟨7, 0, 0, 7, 0⟩ = 0 := ⟨by kernel_rfl, by kernel_rfl, by kernel_rfl⟩
theorem alg_mk9_7_0_1 (W : Int) : mkL W (algL.take 9) ⟨7, 0, 0, 1, 0⟩ = algL.take 10 ∧ mkN W (algL.take 9) ⟨7, 0, 0, 1, 0⟩ = 9 ∧ mkE W (algL.take 9) ⟨7, 0, 0, 1, 0⟩ = 0 := ⟨by kernel_rfl, by kernel_rfl, by kernel_rfl⟩
theorem alg_mk10_7_0_2 (W : Int) : mkL W (algL.take 10) ⟨7, 0, 0, 2, 0⟩ = algL.take 11 ∧ mkN W (algL.take 10) ⟨7, 0, 0, 2, 0⟩ = 10 ∧ mkE W (algL.take 10) ⟨7, 0, 0, 2, 0⟩ = 0 := ⟨by kernel_rfl, by kernel_rfl, by kernel_rfl⟩
theorem alg_mk11_5_9_10 (W : Int) : mkL W (algL.take 11) ⟨5, 0, 9, 10, 0⟩ = algL.take 12 ∧ mkN W (algL.take 11) ⟨5, 0, 9, 10, 0⟩ = 11 ∧ mkE W (algL.take 11) ⟨5, 0, 9, 10, 0⟩ = 0 := ⟨by kernel_rfl, by kernel_rfl, by kernel_rfl⟩
theorem alg_mk12_6_0_1 (W : Int) : mkL W (algL.take 12) ⟨6, 0, 0, 1, 0⟩ = algL.take 13 ∧ mkN W (algL.take 12) ⟨6, 0, 0, 1, 0⟩ = 12 ∧ mkE W (algL.take 12) ⟨6, 0, 0, 1, 0⟩ = 0 := ⟨by kernel_rfl, by kernel_rfl, by kernel_rfl⟩
theorem alg_mk13_4_12 (W : Int) : mkL W (algL.take 13) ⟨4, 0, 12, 0, 0⟩ = algL.take 14 ∧ mkN W (algL.take 13) ⟨4, 0, 12, 0, 0⟩ = 13 ∧ mkE W (algL.take 13) ⟨4, 0, 12, 0, 0⟩ = 0 := ⟨by kernel_rfl, by kernel_rfl, by kernel_rfl⟩
theorem alg_mk14_6_1_0 (W : Int) : mkL W (algL.take 14) ⟨6, 0, 1, 0, 0⟩ = algL.take 15 ∧ mkN W (algL.take 14) ⟨6, 0, 1, 0, 0⟩ = 14 ∧ mkE W (algL.take 14) ⟨6, 0, 1, 0, 0⟩ = 0 := ⟨by kernel_rfl, by kernel_rfl, by kernel_rfl⟩
theorem alg_mk15_5_1_2 (W : Int) : mkL W (algL.take 15) ⟨5, 0, 1, 2, 0⟩ = algL.take 15 ∧ mkN W (algL.take 15) ⟨5, 0, 1, 2, 0⟩ = 7 ∧ mkE W (algL.take 15) ⟨5, 0, 1, 2, 0⟩ = 0 := ⟨by kernel_rfl, by kernel_rfl, by kernel_rfl⟩
theorem alg_mk15_5_0_7 (W : Int) : mkL W (algL.take 15) ⟨5, 0, 0, 7, 0⟩ = algL.take 16 ∧ mkN W (algL.take 15) ⟨5, 0, 0, 7, 0⟩ = 15 ∧ mkE W (algL.take 15) ⟨5, 0, 0, 7, 0⟩ = 0 := ⟨by kernel_rfl, by kernel_rfl, by kernel_rfl⟩
theorem alg_mk16_5_0_1 (W : Int) : mkL W (algL.take 16) ⟨5, 0, 0, 1, 0⟩ = algL.take 16 ∧ mkN W (algL.take 16) ⟨5, 0, 0, 1, 0⟩ = 5 ∧ mkE W (algL.take 16) ⟨5, 0, 0, 1, 0⟩ = 0 := ⟨by kernel_rfl, by kernel_rfl, by kernel_rfl⟩
theorem alg_mk16_5_5_2 (W : Int) : mkL W (algL.take 16) ⟨5, 0, 5, 2, 0⟩ = algL.take 17 ∧ mkN W (algL.take 16) ⟨5, 0, 5, 2, 0⟩ = 16 ∧ mkE W (algL.take 16) ⟨5, 0, 5, 2, 0⟩ = 0 := ⟨by kernel_rfl, by kernel_rfl, by kernel_rfl⟩
theorem alg_mk17_17_0_1 (W : Int) : mkL W (algL.take 17) ⟨17, 0, 0, 1, 0⟩ = algL.take 18 ∧ mkN W (algL.take 17) ⟨17, 0, 0, 1, 0⟩ = 17 ∧ mkE W (algL.take 17) ⟨17, 0, 0, 1, 0⟩ = 0 := ⟨by kernel_rfl, by kernel_rfl, by kernel_rfl⟩
theorem alg_mk18_11_17 (W : Int) : mkL W (algL.take 18) ⟨11, 0, 17, 0, 0⟩ = algL.take 19 ∧ mkN W (algL.take 18) ⟨11, 0, 17, 0, 0⟩ = 18 ∧ mkE W (algL.take 18) ⟨11, 0, 17, 0, 0⟩ = 0 := ⟨by kernel_rfl, by kernel_rfl, by kernel_rfl⟩
theorem alg_mk19_17_1_0 (W : Int) : mkL W (algL.take 19) ⟨17, 0, 1, 0, 0⟩ = algL.take 20 ∧ mkN W (algL.take 19) ⟨17, 0, 1, 0, 0⟩ = 19 ∧ mkE W (algL.take 19) ⟨17, 0, 1, 0, 0⟩ = 0 := ⟨by kernel_rfl, by kernel_rfl, by kernel_rfl⟩
theorem alg_mk20_16_0_1 (W : Int) : mkL W (algL.take 20) ⟨16, 0, 0, 1, 0⟩ = algL.take 21 ∧ mkN W (algL.take 20) ⟨16, 0, 0, 1, 0⟩ = 20 ∧ mkE W (algL.take 20) ⟨16, 0, 0, 1, 0⟩ = 0 := ⟨by kernel_rfl, by kernel_rfl, by kernel_rfl⟩
theorem alg_mk21_13_19_20 (W : Int) : mkL W (algL.take 21) ⟨13, 0, 19, 20, 0⟩ = algL.take 22 ∧ mkN W (algL.take 21) ⟨13, 0, 19, 20, 0⟩ = 21 ∧ mkE W (algL.take 21) ⟨13, 0, 19, 20, 0⟩ = 0 := ⟨by kernel_rfl, by kernel_rfl, by kernel_rfl⟩
theorem alg_mk22_12_3_4 (W : Int) : mkL W (algL.take 22) ⟨12, 0, 3, 4, 0⟩ = algL.take 23 ∧ mkN W (algL.take 22) ⟨12, 0, 3, 4, 0⟩ = 22 ∧ mkE W (algL.take 22) ⟨12, 0, 3, 4, 0⟩ = 0 := ⟨by kernel_rfl, by kernel_rfl, by kernel_rfl⟩
theorem alg_mk23_11_22 (W : Int) : mkL W (algL.take 23) ⟨11, 0, 22, 0, 0⟩ = algL.take 24 ∧ mkN W (algL.take 23) ⟨11, 0, 22, 0, 0⟩ = 23 ∧ mkE W (algL.take 23) ⟨11, 0, 22, 0, 0⟩ = 0 := ⟨by kernel_rfl, by kernel_rfl, by kernel_rfl⟩
theorem alg_mk24_11_3 (W : Int) : mkL W (algL.take 24) ⟨11, 0, 3, 0, 0⟩ = algL.take 25 ∧ mkN W (algL.take 24) ⟨11, 0, 3, 0, 0⟩ = 24 ∧ mkE W (algL.take 24) ⟨11, 0, 3, 0, 0⟩ = 0 := ⟨by kernel_rfl, by kernel_rfl, by kernel_rfl⟩
theorem alg_mk25_11_4 (W : Int) : mkL W (algL.take 25) ⟨11, 0, 4, 0, 0⟩ = algL.take 26 ∧ mkN W (algL.take 25) ⟨11, 0, 4, 0, 0⟩ = 25 ∧ mkE W (algL.take 25) ⟨11, 0, 4, 0, 0⟩ = 0 := ⟨by kernel_rfl, by kernel_rfl, by kernel_rfl⟩
theorem alg_mk26_13_24_25 (W : Int) : mkL W (algL.take 26) ⟨13, 0, 24, 25, 0⟩ = algL.take 27 ∧ mkN W (algL.take 26) ⟨13, 0, 24, 25, 0⟩ = 26 ∧ mkE W (algL.take 26) ⟨13, 0, 24, 25, 0⟩ = 0 := ⟨by kernel_rfl, by kernel_rfl, by kernel_rfl⟩
theorem alg_mk27_11_4 (W : Int) : mkL W (algL.take 27) ⟨11, 0, 4, 0, 0⟩ = algL.take 27 ∧ mkN W (algL.take 27) ⟨11, 0, 4, 0, 0⟩ = 25 ∧ mkE W (algL.take 27) ⟨11, 0, 4, 0, 0⟩ = 0 := ⟨by kernel_rfl, by kernel_rfl, by kernel_rfl⟩
theorem alg_mk27_15_3_4_25 (W : Int) : mkL W (algL.take 27) ⟨15, 0, 3, 4, 25⟩ = algL.take 28 ∧ mkN W (algL.take 27) ⟨15, 0, 3, 4, 25⟩ = 27 ∧ mkE W (algL.take 27) ⟨15, 0, 3, 4, 25⟩ = 0 := ⟨by kernel_rfl, by kernel_rfl, by kernel_rfl⟩
theorem alg_mk28_14_3_4 (W : Int) : mkL W (algL.take 28) ⟨14, 0, 3, 4, 0⟩ = algL.take 29 ∧ mkN W (algL.take 28) ⟨14, 0, 3, 4, 0⟩ = 28 ∧ mkE W (algL.take 28) ⟨14, 0, 3, 4, 0⟩ = 0 := ⟨by kernel_rfl, by kernel_rfl, by kernel_rfl⟩
theorem alg_mk29_16_0_1 (W : Int) : mkL W (algL.take 29) ⟨16, 0, 0, 1, 0⟩ = algL.take 29 ∧ mkN W (algL.take 29) ⟨16, 0, 0, 1, 0⟩ = 20 ∧ mkE W (algL.take 29) ⟨16, 0, 0, 1, 0⟩ = 0 := ⟨by kernel_rfl, by kernel_rfl, by kernel_rfl⟩
theorem alg_mk29_10_20_0_1 (W : Int) : mkL W (algL.take 29) ⟨10, 0, 20, 0, 1⟩ = algL.take 30 ∧ mkN W (algL.take 29) ⟨10, 0, 20, 0, 1⟩ = 29 ∧ mkE W (algL.take 29) ⟨10, 0, 20, 0, 1⟩ = 0 := ⟨by kernel_rfl, by kernel_rfl, by kernel_rfl⟩
theorem alg_mk30_10_3_0_1 (W : Int) : mkL W (algL.take 30) ⟨10, 0, 3, 0, 1⟩ = algL.take 31 ∧ mkN W (algL.take 30) ⟨10, 0, 3, 0, 1⟩ = 30 ∧ mkE W (algL.take 30) ⟨10, 0, 3, 0, 1⟩ = 0 := ⟨by kernel_rfl, by kernel_rfl, by kernel_rfl⟩
theorem alg_mk31_17_30_2 (W : Int) : mkL W (algL.take 31) ⟨17, 0, 30, 2, 0⟩ = algL.take 32 ∧ mkN W (algL.take 31) ⟨17, 0, 30, 2, 0⟩ = 31 ∧ mkE W (algL.take 31) ⟨17, 0, 30, 2, 0⟩ = 0 := ⟨by kernel_rfl, by kernel_rfl, by kernel_rfl⟩
theorem alg_mk32_17_0_2 (W : Int) : mkL W (algL.take 32) ⟨17, 0, 0, 2, 0⟩ = algL.take 33 ∧ mkN W (algL.take 32) ⟨17, 0, 0, 2, 0⟩ = 32 ∧ mkE W (algL.take 32) ⟨17, 0, 0, 2, 0⟩ = 0 := ⟨by kernel_rfl, by kernel_rfl, by kernel_rfl⟩
theorem alg_mk33_17_1_2 (W : Int) : mkL W (algL.take 33) ⟨17, 0, 1, 2, 0⟩ = algL.take 34 ∧ mkN W (algL.take 33) ⟨17, 0, 1, 2, 0⟩ = 33 ∧ mkE W (algL.take 33) ⟨17, 0, 1, 2, 0⟩ = 0 := ⟨by kernel_rfl, by kernel_rfl, by kernel_rfl⟩
theorem alg_mk34_15_3_32_33 (W : Int) : mkL W (algL.take 34) ⟨15, 0, 3, 32, 33⟩ = algL.take 35 ∧ mkN W (algL.take 34) ⟨15, 0, 3, 32, 33⟩ = 34 ∧ mkE W (algL.take 34) ⟨15, 0, 3, 32, 33⟩ = 0 := ⟨by kernel_rfl, by kernel_rfl, by kernel_rfl⟩
theorem alg_bld (W : Int) : bldL W algL = algL := by kernel_rfl
theorem alg_bld5 (W : Int) : bldL W (algL.take 5) = algL.take 5 := by kernel_rfl
theorem TbOk.take {W : Int} {l : List Tm} (h : TbOk W l) (n : Nat) : TbOk W (l.take n) := by
  refine ⟨h.nd.sublist (List.take_sublist n l), fun i hi => ?_⟩
  have hi2 : i < l.length := by rw [List.length_take] at hi; omega
  have hin : i < n := by rw [List.length_take] at hi; omega
  rw [List.getElem_take, List.take_take, show min i n = i by omega]
  exact h.ok i hi2
theorem alg_tb (W : Int) (n : Nat) : TbOk W (algL.take n) := by
  have := (bld_ok W algL 35 (by decide)).1
  rw [show algL.take 35 = algL from rfl, alg_bld] at this
  exact this.take n
theorem alg_ops : ∀ k, (h : k < algL.length) → 5 ≤ k → algL[k].op ≠ 0 ∧ algL[k].op ≠ 1 := by decide +kernel
theorem alg_fit {W x y z p q : Int} (hx : wrpP W x = x) (hy : wrpP W y = y) (hz : wrpP W z = z) (hp : p = 0 ∨ p = 1) (hq : q = 0 ∨ q = 1) (n : Nat) : ∀ k (h : k < (algL.take n).length), fitB W (algL.take n)[k] [x, y, z, p, q] = true := by
  intro k h
  rw [List.getElem_take]
  have hk : k < algL.length := by rw [List.length_take] at h; omega
  rcases Nat.lt_or_ge k 5 with h5 | h5
  · have : k = 0 ∨ k = 1 ∨ k = 2 ∨ k = 3 ∨ k = 4 := by omega
    rcases this with rfl | rfl | rfl | rfl | rfl
    · simp [algL, fitB, hx]
    · simp [algL, fitB, hy]
    · simp [algL, fitB, hz]
    · rcases hp with rfl | rfl <;> simp [algL, fitB]
    · rcases hq with rfl | rfl <;> simp [algL, fitB]
  · obtain ⟨h0, h1⟩ := alg_ops k hk h5
    unfold fitB
    rw [if_neg h0, if_neg h1]
/-- the equations of the values -/
def AlgE (W : Int) (inp : List Int) (n : Nat) (F : Nat → Int) : Prop := ∀ k, (h : k < algL.length) → k < n → F k = valP W algL[k] F inp
theorem alg_den (W : Int) (inp : List Int) (n : Nat) : AlgE W inp n (den W (algL.take n) inp) := fun k h hn => by
  have := den_eq (alg_tb W n) inp (k := k) (by rw [List.length_take]; omega)
  rwa [List.getElem_take] at this
theorem alg_ev {W x y z p q : Int} (hx : wrpP W x = x) (hy : wrpP W y = y) (hz : wrpP W z = z) (hp : p = 0 ∨ p = 1) (hq : q = 0 ∨ q = 1) (n i k : Nat) (hn : n ≤ 35) (hi : i < n) (hk : k < n) (he : ∀ F, AlgE W [x, y, z, p, q] n F → F i = F k) :
    ∃ v, evP W (algL.take n) (i : Int) [x, y, z, p, q] = (v, 0) ∧ evP W (algL.take n) (k : Int) [x, y, z, p, q] = (v, 0) := by
  have hl : (algL.take n).length = n := by rw [List.length_take]; have : algL.length = 35 := rfl; omega
  refine ⟨_, evP_den (alg_tb W n) (alg_fit hx hy hz hp hq n) i (by omega), ?_⟩
  rw [evP_den (alg_tb W n) (alg_fit hx hy hz hp hq n) k (by omega), he _ (alg_den W _ n)]
theorem wrp_sub1 (W m n : Int) (h : ¬ (W < 2 ∨ 8 < W)) : wrpP W (wrpP W m - n) = wrpP W (m - n) := by
  obtain ⟨k, hk⟩ := wrp_diff W m h
  exact wrp_cong W _ _ k h (by rw [hk]; omega)
theorem wrp_add1 (W m n : Int) (h : ¬ (W < 2 ∨ 8 < W)) : wrpP W (wrpP W m + n) = wrpP W (m + n) := by
  obtain ⟨k, hk⟩ := wrp_diff W m h
  exact wrp_cong W _ _ k h (by rw [hk]; omega)
theorem wrp_add2 (W m n : Int) (h : ¬ (W < 2 ∨ 8 < W)) : wrpP W (m + wrpP W n) = wrpP W (m + n) := by
  rw [Int.add_comm, wrp_add1 W n m h, Int.add_comm]
theorem wrp_mul2 (W m n : Int) (h : ¬ (W < 2 ∨ 8 < W)) : wrpP W (m * wrpP W n) = wrpP W (m * n) := by
  obtain ⟨k, hk⟩ := wrp_diff W n h
  refine wrp_cong W _ _ (m * k) h ?_
  rw [hk, Int.mul_add, show m * (2 * hf W * k) = 2 * hf W * (m * k) by rw [← Int.mul_assoc, Int.mul_comm m, Int.mul_assoc]]
theorem wrp_neg2 (W n : Int) (h : ¬ (W < 2 ∨ 8 < W)) : wrpP W (-wrpP W n) = wrpP W (-n) := by
  obtain ⟨k, hk⟩ := wrp_diff W n h
  exact wrp_cong W _ _ (-k) h (by rw [hk, Int.mul_neg]; omega)
section
variable {W x y z p q : Int} {F : Nat → Int}
theorem alg_in {n : Nat} (h : AlgE W [x, y, z, p, q] n F) (hn : 5 ≤ n) : F 0 = x ∧ F 1 = y ∧ F 2 = z ∧ F 3 = p ∧ F 4 = q :=
  ⟨(h 0 (by decide) (by omega)).trans rfl, (h 1 (by decide) (by omega)).trans rfl, (h 2 (by decide) (by omega)).trans rfl, (h 3 (by decide) (by omega)).trans rfl, (h 4 (by decide) (by omega)).trans rfl⟩
theorem alg_1 (hW : ¬ (W < 2 ∨ 8 < W)) (hx : wrpP W x = x) (h : AlgE W [x, y, z, p, q] 7 F) : F 6 = F 0 := by
  obtain ⟨f0, f1, f2, f3, f4⟩ := alg_in h (by decide)
  have e5 : F 5 = wrpP W (F 0 + F 1) := (h 5 (by decide) (by decide)).trans rfl
  have e6 : F 6 = wrpP W (F 5 - F 1) := (h 6 (by decide) (by decide)).trans rfl
  rw [e6, e5, wrp_sub1 W _ _ hW, f0, f1, show x + y - y = x by omega, hx]
theorem alg_2 (hW : ¬ (W < 2 ∨ 8 < W)) (h : AlgE W [x, y, z, p, q] 12 F) : F 8 = F 11 := by
  have e7 : F 7 = wrpP W (F 1 + F 2) := (h 7 (by decide) (by decide)).trans rfl
  have e8 : F 8 = wrpP W (F 0 * F 7) := (h 8 (by decide) (by decide)).trans rfl
  have e9 : F 9 = wrpP W (F 0 * F 1) := (h 9 (by decide) (by decide)).trans rfl
  have e10 : F 10 = wrpP W (F 0 * F 2) := (h 10 (by decide) (by decide)).trans rfl
  have e11 : F 11 = wrpP W (F 9 + F 10) := (h 11 (by decide) (by decide)).trans rfl
  rw [e8, e7, e11, e9, e10, wrp_mul2 W _ _ hW, wrp_sum W _ _ hW, Int.mul_add]
theorem alg_3 (hW : ¬ (W < 2 ∨ 8 < W)) (h : AlgE W [x, y, z, p, q] 15 F) : F 13 = F 14 := by
  have e12 : F 12 = wrpP W (F 0 - F 1) := (h 12 (by decide) (by decide)).trans rfl
  have e13 : F 13 = wrpP W (-F 12) := (h 13 (by decide) (by decide)).trans rfl
  have e14 : F 14 = wrpP W (F 1 - F 0) := (h 14 (by decide) (by decide)).trans rfl
  rw [e13, e12, e14, wrp_neg2 W _ hW, show -(F 0 - F 1) = F 1 - F 0 by omega]
theorem alg_4 (hW : ¬ (W < 2 ∨ 8 < W)) (h : AlgE W [x, y, z, p, q] 17 F) : F 15 = F 16 := by
  have e5 : F 5 = wrpP W (F 0 + F 1) := (h 5 (by decide) (by decide)).trans rfl
  have e7 : F 7 = wrpP W (F 1 + F 2) := (h 7 (by decide) (by decide)).trans rfl
  have e15 : F 15 = wrpP W (F 0 + F 7) := (h 15 (by decide) (by decide)).trans rfl
  have e16 : F 16 = wrpP W (F 5 + F 2) := (h 16 (by decide) (by decide)).trans rfl
  rw [e15, e7, e16, e5, wrp_add2 W _ _ hW, wrp_add1 W _ _ hW, Int.add_assoc]
theorem alg_5 (h : AlgE W [x, y, z, p, q] 22 F) : F 18 = F 21 := by
  have e17 : F 17 = bt (decide (F 0 < F 1)) := (h 17 (by decide) (by decide)).trans rfl
  have e18 : F 18 = 1 - F 17 := (h 18 (by decide) (by decide)).trans rfl
  have e19 : F 19 = bt (decide (F 1 < F 0)) := (h 19 (by decide) (by decide)).trans rfl
  have e20 : F 20 = bt (F 0 == F 1) := (h 20 (by decide) (by decide)).trans rfl
  have e21 : F 21 = max (F 19) (F 20) := (h 21 (by decide) (by decide)).trans rfl
  rw [e18, e17, e21, e19, e20]
  rcases Int.lt_trichotomy (F 0) (F 1) with h1 | h1 | h1
  · have h2 : ¬ F 1 < F 0 := by omega
    have h3 : ¬ F 0 = F 1 := by omega
    simp [bt, h1, h2, h3]
  · simp [bt, h1]
    decide
  · have h2 : ¬ F 0 < F 1 := by omega
    have h3 : ¬ F 0 = F 1 := by omega
    simp [bt, h1, h2, h3]
    decide
theorem alg_6 (hp : p = 0 ∨ p = 1) (hq : q = 0 ∨ q = 1) (h : AlgE W [x, y, z, p, q] 27 F) : F 23 = F 26 := by
  obtain ⟨f0, f1, f2, f3, f4⟩ := alg_in h (by decide)
  have e22 : F 22 = min (F 3) (F 4) := (h 22 (by decide) (by decide)).trans rfl
  have e23 : F 23 = 1 - F 22 := (h 23 (by decide) (by decide)).trans rfl
  have e24 : F 24 = 1 - F 3 := (h 24 (by decide) (by decide)).trans rfl
  have e25 : F 25 = 1 - F 4 := (h 25 (by decide) (by decide)).trans rfl
  have e26 : F 26 = max (F 24) (F 25) := (h 26 (by decide) (by decide)).trans rfl
  rw [e23, e22, e26, e24, e25, f3, f4]
  omega
theorem alg_7 (hp : p = 0 ∨ p = 1) (hq : q = 0 ∨ q = 1) (h : AlgE W [x, y, z, p, q] 29 F) : F 27 = F 28 := by
  obtain ⟨f0, f1, f2, f3, f4⟩ := alg_in h (by decide)
  have e25 : F 25 = 1 - F 4 := (h 25 (by decide) (by decide)).trans rfl
  have e27 : F 27 = if F 3 = 1 then F 4 else F 25 := (h 27 (by decide) (by decide)).trans rfl
  have e28 : F 28 = bt (F 3 == F 4) := (h 28 (by decide) (by decide)).trans rfl
  rw [e27, e25, e28, f3, f4]
  rcases hp with rfl | rfl <;> rcases hq with rfl | rfl <;> decide
theorem alg_8 (h : AlgE W [x, y, z, p, q] 30 F) : F 29 = F 1 := by
  have e20 : F 20 = bt (F 0 == F 1) := (h 20 (by decide) (by decide)).trans rfl
  have e29 : F 29 = if F 20 = 1 then F 0 else F 1 := (h 29 (by decide) (by decide)).trans rfl
  rw [e29, e20]
  by_cases e : F 0 = F 1
  · simp [bt, e]
  · simp [bt, e]
theorem alg_9 (h : AlgE W [x, y, z, p, q] 35 F) : F 31 = F 34 := by
  have e30 : F 30 = if F 3 = 1 then F 0 else F 1 := (h 30 (by decide) (by decide)).trans rfl
  have e31 : F 31 = bt (decide (F 30 < F 2)) := (h 31 (by decide) (by decide)).trans rfl
  have e32 : F 32 = bt (decide (F 0 < F 2)) := (h 32 (by decide) (by decide)).trans rfl
  have e33 : F 33 = bt (decide (F 1 < F 2)) := (h 33 (by decide) (by decide)).trans rfl
  have e34 : F 34 = if F 3 = 1 then F 32 else F 33 := (h 34 (by decide) (by decide)).trans rfl
  rw [e31, e30, e34, e32, e33]
  split <;> rfl
end
end Go.Proofs.YtlnpgcdgpahdmaaDoor
