/- What is proved: what the operators' facts say of words of inputs: their values are those of layer 22. -/
import Derived.Test.YtbcabnbgkicfdaaBlDvd
import Derived.Test.YtbcabnbgkicfdaaBlRdLaw
set_option linter.unusedVariables false
set_option linter.unusedSimpArgs false
namespace Go.Proofs.Ytbcabnbgkicfdaa
open Go.RowKit Go.Maps

theorem m_cases {m : Nat} (hm : 2 ≤ m ∧ m ≤ 8) : m = 2 ∨ m = 3 ∨ m = 4 ∨ m = 5 ∨ m = 6 ∨ m = 7 ∨ m = 8 := by omega
theorem op_words {m : Nat} (hm : 2 ≤ m ∧ m ≤ 8) : wdsL (m : Int) [0, 0, 1] = [wordL 0 m, wordL m m, wordL (m + m) 1] ∧ wdsN (m : Int) [0, 0, 1] = ((m + m + 1 : Nat) : Int) ∧ wdsE (m : Int) [0, 0, 1] = 0 := by
  rcases m_cases hm with rfl | rfl | rfl | rfl | rfl | rfl | rfl <;> decide +kernel
def inpL (m : Nat) (x y ch : Int) : List Bool := bitL x m ++ (bitL y m ++ bitL ch 1)
theorem inpL_len (m : Nat) (x y ch : Int) : (inpL m x y ch).length = m + m + 1 := by simp [inpL, bitL_len]; omega
theorem op_bits {m : Nat} (hm : 2 ≤ m ∧ m ≤ 8) {x y ch : Int} (hx : wrpP (m : Int) x = x) (hy : wrpP (m : Int) y = y) (hc : ch = 0 ∨ ch = 1) : bitsL (m : Int) [0, 0, 1] [x, y, ch] = inpL m x y ch ∧ bitsE (m : Int) [0, 0, 1] [x, y, ch] = 0 := by
  have h1 : okS (m : Int) [0, 0, 1] = true := by
    unfold okS
    have : decide (2 ≤ (m : Int) ∧ (m : Int) ≤ 8) = true := decide_eq_true (by omega)
    rw [this]; decide
  have h2 : okI (m : Int) [0, 0, 1] [x, y, ch] ([0, 0, 1] : List Int).length = true := by
    rcases hc with rfl | rfl <;> simp [okI, okV, srtK, hx, hy]
  unfold bitsL bitsE
  rw [if_pos ⟨h1, rfl, h2⟩, if_pos ⟨h1, rfl⟩, if_pos h2]
  refine ⟨?_, rfl⟩
  simp [bsK, srtK, lenN, Int.toNat_natCast, inpL]
theorem word_map (inp : List Bool) (G : List Gt) (b k : Nat) (h : b + k ≤ inp.length) : (wordL b k).map (litV (nv inp G)) = (inp.drop b).take k :=
  List.ext_getElem (by simp [wordL_len]; omega) (fun i h1 h2 => by
    have hi : i < k := by simpa [wordL_len] using h1
    simp only [List.getElem_map, List.getElem_take, List.getElem_drop, wordL, List.getElem_range]
    exact litV_inp G (i := b + i) (by omega))
theorem word_lts {I : Int} {gs : List Gt} {b k : Nat} (h : ((b + k : Nat) : Int) ≤ I) : Lts I gs (wordL b k) := fun x hx => by
  obtain ⟨i, hi, rfl⟩ := List.mem_map.1 hx
  have := List.mem_range.1 hi
  unfold isLit
  simp
  omega
theorem inp_x (m : Nat) (x y ch : Int) (G : List Gt) : (wordL 0 m).map (litV (nv (inpL m x y ch) G)) = bitL x m := by
  rw [word_map _ _ _ _ (by rw [inpL_len]; omega), List.drop_zero]
  unfold inpL
  rw [List.take_append_of_le_length (by rw [bitL_len]; omega)]
  exact List.take_of_length_le (by rw [bitL_len]; omega)
theorem inp_y (m : Nat) (x y ch : Int) (G : List Gt) : (wordL m m).map (litV (nv (inpL m x y ch) G)) = bitL y m := by
  rw [word_map _ _ _ _ (by rw [inpL_len]; omega)]
  unfold inpL
  rw [List.drop_left' (bitL_len x m), List.take_append_of_le_length (by rw [bitL_len]; omega)]
  exact List.take_of_length_le (by rw [bitL_len]; omega)
theorem inp_c (m : Nat) (x y ch : Int) (G : List Gt) : (wordL (m + m) 1).map (litV (nv (inpL m x y ch) G)) = bitL ch 1 := by
  rw [word_map _ _ _ _ (by rw [inpL_len]; omega)]
  unfold inpL
  rw [← List.append_assoc, List.drop_left' (by simp [bitL_len])]
  exact List.take_of_length_le (by rw [bitL_len]; omega)
/-- a word of inputs, by its number -/
structure Inp (m : Nat) (v : Int → Bool) (X : List Int) (x : Int) : Prop where
  len : X.length = m
  un : un v X = x % pw m
  mp : X.map v = bitL x m
  wr : wrpP (m : Int) x = x
theorem Inp.of {m : Nat} {v : Int → Bool} {X : List Int} {x : Int} (hl : X.length = m) (h : X.map v = bitL x m) (hw : wrpP (m : Int) x = x) : Inp m v X x := ⟨hl, by rw [un_unB, h, unB_bits], h, hw⟩
theorem con_fin {m : Nat} (hm : 2 ≤ m ∧ m ≤ 8) {v : Int → Bool} {z : List Int} {a : Int} (hz : z.length = m) (h : ∃ q : Int, un v z + pw m * q = a) : valN 0 (z.map v) = wrpP (m : Int) a := by
  obtain ⟨q, e⟩ := h
  exact con_val (W := (m : Int)) (q := q) (by omega) (by rw [List.length_map, hz]) (by rw [List.length_map, hz, ← un_unB, e])
section
variable {m : Nat} {v : Int → Bool} {d : Int → Prop} {X Y z : List Int} {x y : Int}
theorem add_val (hm : 2 ≤ m ∧ m ≤ 8) (hx : Inp m v X x) (hy : Inp m v Y y) (hz : z.length = m) (h : AddH X Y z v d) : valN 0 (z.map v) = wrpP (m : Int) (x + y) := by
  obtain ⟨⟨q, _, _, e⟩, _⟩ := h
  rw [hx.len, hx.un, hy.un] at e
  have e1 := Int.mul_ediv_add_emod x (pw m)
  have e2 := Int.mul_ediv_add_emod y (pw m)
  refine con_fin hm hz ⟨q + x / pw m + y / pw m, ?_⟩
  rw [Int.mul_add, Int.mul_add]
  omega
theorem sub_val (hm : 2 ≤ m ∧ m ≤ 8) (hx : Inp m v X x) (hy : Inp m v Y y) (hz : z.length = m) (h : SubH X Y z v d) : valN 0 (z.map v) = wrpP (m : Int) (x - y) := by
  obtain ⟨⟨q, _, _, e⟩, _⟩ := h
  rw [hx.len, hx.un, hy.un] at e
  have e1 := Int.mul_ediv_add_emod x (pw m)
  have e2 := Int.mul_ediv_add_emod y (pw m)
  refine con_fin hm hz ⟨q + x / pw m - y / pw m - 1, ?_⟩
  rw [Int.mul_sub, Int.mul_sub, Int.mul_add, Int.mul_one]
  omega
theorem neg_val (hm : 2 ≤ m ∧ m ≤ 8) (hx : Inp m v X x) (hz : z.length = m) (h : NegH X z v d) : valN 0 (z.map v) = wrpP (m : Int) (-x) := by
  obtain ⟨⟨q, _, _, e⟩, _⟩ := h
  rw [hx.len, hx.un] at e
  have e1 := Int.mul_ediv_add_emod x (pw m)
  refine con_fin hm hz ⟨q - x / pw m - 1, ?_⟩
  rw [Int.mul_sub, Int.mul_sub, Int.mul_one]
  omega
theorem mul_val (hm : 2 ≤ m ∧ m ≤ 8) (hx : Inp m v X x) (hy : Inp m v Y y) (hz : z.length = m) (h : MulH X Y z v d) : valN 0 (z.map v) = wrpP (m : Int) (x * y) := by
  obtain ⟨⟨q, e⟩, _⟩ := h
  rw [hx.len, hx.un, hy.un] at e
  have e1 := Int.mul_ediv_add_emod x (pw m)
  have e2 := Int.mul_ediv_add_emod y (pw m)
  refine con_fin hm hz ⟨q + (x / pw m) * y + (y / pw m) * x - pw m * (x / pw m) * (y / pw m), ?_⟩
  generalize x % pw m = r at *
  generalize y % pw m = s at *
  generalize x / pw m = a at *
  generalize y / pw m = b at *
  generalize pw m = P at *
  generalize GoMul : un v z = u at *
  have e3 : r = x - P * a := by omega
  have e4 : s = y - P * b := by omega
  rw [e3, e4] at e
  grind
theorem cho_val {c : Int} (hm : 2 ≤ m ∧ m ≤ 8) (hx : Inp m v X x) (hy : Inp m v Y y) (h : ChoH c X Y z v d) : valN 0 (z.map v) = if v c = true then x else y := by
  rw [h.1]
  split
  · rw [hx.mp, val_bits hm, hx.wr]
  · rw [hy.mp, val_bits hm, hy.wr]
theorem inp_sgn (hm : 2 ≤ m ∧ m ≤ 8) (hx : Inp m v X x) : v (sg X) = decide (x < 0) ∧ abv v X = (if x < 0 then -x else x) ∧ sv v X = x ∧ - pw (m - 1) ≤ x ∧ x < pw (m - 1) := by
  have h0 : 0 < X.length := by rw [hx.len]; omega
  have h1 := un_sg v h0
  have h2 := un_lo v (X.take (X.length - 1))
  rw [List.length_take, Nat.min_eq_left (by omega)] at h2
  have hu := hx.un
  have hb := wrp_in (m : Int) x (hf_in (by omega))
  rw [hx.wr] at hb
  unfold loP hiP at hb
  rw [if_neg (hf_in (by omega))] at hb
  have hp := (hf_pow (W := (m : Int)) (by omega)).1
  unfold abv sv
  rw [hx.len] at *
  generalize un v X = u at *
  generalize un v (X.take (m - 1)) = t at *
  rcases m_cases hm with rfl | rfl | rfl | rfl | rfl | rfl | rfl
  all_goals
    simp [pw, hf] at hu hb h1 h2 hp ⊢
    cases hs : v (sg X) <;> rw [hs] at h1 <;> simp [b2n] at h1 ⊢
    all_goals (refine ⟨?_, ?_, ?_, ?_, ?_⟩ <;> first | omega | (split <;> omega))
theorem tdiv_sgn (x y : Int) (hy : y ≠ 0) : x.tdiv y = (if decide (x < 0) = decide (y < 0) then (if x < 0 then -x else x) / (if y < 0 then -y else y) else - ((if x < 0 then -x else x) / (if y < 0 then -y else y))) := by
  by_cases h1 : x < 0
  · obtain ⟨a, rfl⟩ : ∃ a, x = -a := ⟨-x, by omega⟩
    by_cases h2 : y < 0
    · obtain ⟨b, rfl⟩ : ∃ b, y = -b := ⟨-y, by omega⟩
      simp only [h1, h2, if_true, decide_true, Int.neg_neg]
      rw [Int.neg_tdiv, Int.tdiv_neg, Int.neg_neg, Int.tdiv_eq_ediv_of_nonneg (by omega)]
    · simp only [h1, h2, if_true, if_false, decide_true, decide_false, Int.neg_neg]
      rw [if_neg (by simp), Int.neg_tdiv, Int.tdiv_eq_ediv_of_nonneg (by omega)]
  · by_cases h2 : y < 0
    · obtain ⟨b, rfl⟩ : ∃ b, y = -b := ⟨-y, by omega⟩
      simp only [h1, h2, if_true, if_false, decide_true, decide_false, Int.neg_neg]
      rw [if_neg (by simp), Int.tdiv_neg, Int.tdiv_eq_ediv_of_nonneg (by omega)]
    · simp only [h1, h2, if_true, if_false, decide_false]
      rw [Int.tdiv_eq_ediv_of_nonneg (by omega)]
theorem tmod_sgn (x y : Int) : x.tmod y = (if x < 0 then - ((if x < 0 then -x else x) % (if y < 0 then -y else y)) else (if x < 0 then -x else x) % (if y < 0 then -y else y)) := by
  have hy : x.tmod y = x.tmod (if y < 0 then -y else y) := by
    split
    · rw [Int.tmod_neg]
    · rfl
  rw [hy]
  generalize (if y < 0 then -y else y) = b
  by_cases h1 : x < 0
  · obtain ⟨a, rfl⟩ : ∃ a, x = -a := ⟨-x, by omega⟩
    simp only [h1, if_true, Int.neg_neg]
    rw [Int.neg_tmod, Int.tmod_eq_emod_of_nonneg (by omega)]
  · simp only [h1, if_false]
    rw [Int.tmod_eq_emod_of_nonneg (by omega)]
theorem quo_val (hm : 2 ≤ m ∧ m ≤ 8) (hx : Inp m v X x) (hy : Inp m v Y y) (hz : z.length = m) (h : QuoH X Y z v d) : valN 0 (z.map v) = divQ (m : Int) x y := by
  obtain ⟨⟨q, e⟩, _⟩ := h
  obtain ⟨sx, ax, _⟩ := inp_sgn hm hx
  obtain ⟨sy, ay, _⟩ := inp_sgn hm hy
  rw [sx, sy, ax, ay, hz] at e
  rw [con_fin hm hz ⟨q, e⟩]
  unfold divQ
  rw [hx.wr, hy.wr]
  by_cases h0 : y = 0
  · subst h0
    have : quoP (if x < 0 then -x else x) (if (0 : Int) < 0 then -0 else 0) = 0 := by simp [quoP]
    rw [this, if_pos rfl]
    simp [(wrp_same (m : Int) 0 (hf_in (by omega))).2 (by have := hf_pos (W := (m : Int)) (by omega); unfold loP hiP; rw [if_neg (by omega)]; omega)]
  · have hb : (if y < 0 then -y else y) ≠ 0 := by split <;> omega
    rw [if_neg h0, tdiv_sgn x y h0]
    unfold quoP
    rw [if_neg hb]
theorem rem_val (hm : 2 ≤ m ∧ m ≤ 8) (hx : Inp m v X x) (hy : Inp m v Y y) (hz : z.length = m) (h : RemH X Y z v d) : valN 0 (z.map v) = divR (m : Int) x y := by
  obtain ⟨⟨q, e⟩, _⟩ := h
  obtain ⟨sx, ax, _⟩ := inp_sgn hm hx
  obtain ⟨sy, ay, _⟩ := inp_sgn hm hy
  rw [sx, ax, ay, hz] at e
  rw [con_fin hm hz ⟨q, e⟩]
  unfold divR
  rw [hx.wr, hy.wr]
  by_cases h0 : y = 0
  · subst h0
    have h1 : remP (if x < 0 then -x else x) (if (0 : Int) < 0 then -0 else 0) = (if x < 0 then -x else x) := by simp [remP]
    rw [h1, if_pos rfl]
    by_cases h2 : x < 0
    · simp only [h2, if_true, decide_true, Int.neg_neg]; exact hx.wr
    · simp only [h2, if_false, decide_false]; exact hx.wr
  · have hb : (if y < 0 then -y else y) ≠ 0 := by split <;> omega
    have hr := rest_in (m : Int) x y (by omega) hy.wr h0
    rw [if_neg h0, ← hr]
    congr 1
    rw [tmod_sgn x y]
    unfold remP
    rw [if_neg hb]
    simp only [decide_eq_true_eq]
theorem eq_val {c : Int} (hm : 2 ≤ m ∧ m ≤ 8) (hx : Inp m v X x) (hy : Inp m v Y y) (h : EqH X Y c v d) : v c = decide (x = y) := by
  obtain ⟨_, _, _, lx⟩ := inp_sgn hm hx
  obtain ⟨_, _, _, ly⟩ := inp_sgn hm hy
  rw [h.1, hx.un, hy.un, decide_eq_decide]
  rcases m_cases hm with rfl | rfl | rfl | rfl | rfl | rfl | rfl
  all_goals
    simp [pw] at lx ly ⊢
    omega
theorem less_val {c : Int} (hm : 2 ≤ m ∧ m ≤ 8) (hx : Inp m v X x) (hy : Inp m v Y y) (h : LsH X Y c v d) : v c = decide (x < y) := by
  obtain ⟨_, _, lx, _⟩ := inp_sgn hm hx
  obtain ⟨_, _, ly, _⟩ := inp_sgn hm hy
  rw [h.1, lx, ly]
end
end Go.Proofs.Ytbcabnbgkicfdaa
