/- What is proved: Inputs of bitvec's tables; Eval at any number. -/
import Derived.Test.YtjgkcicgjnjepaaDoorBvEval
set_option linter.unusedVariables false
namespace Go.Proofs.YtjgkcicgjnjepaaDoor
open Go.RowKit Go.Maps

def isInp (x : Tm) : Bool := x.op == 0 || x.op == 1
def inpAt (l : List Tm) (n : Nat) (k : Nat) : Bool := match l[k]? with
  | none => false
  | some x => isInp x && x.v == (n : Int)
/-- the inputs of a node in increasing order -/
def inpN (l : List Tm) (i : Int) : List Nat := (List.range 24).filter fun n => (prtZ l i).any (inpAt l n)
/-- the inputs as they are collected -/
def colI (l : List Tm) (ks : List Nat) : List Int := ks.filterMap fun k => (l[k]?).bind fun x => if isInp x = true then some x.v else none
theorem col_snoc (l : List Tm) (ks : List Nat) (k : Nat) (hk : k < l.length) : colI l (ks ++ [k]) = colI l ks ++ (if isInp l[k] = true then [l[k].v] else []) := by
  unfold colI
  rw [List.filterMap_append]
  congr 1
  simp only [List.filterMap_cons, List.filterMap_nil, List.getElem?_eq_getElem hk, Option.bind_some]
  by_cases h : isInp l[k] = true
  · rw [if_pos h, if_pos h]
  · rw [if_neg h, if_neg h]
theorem col_len (l : List Tm) (ks : List Nat) : (colI l ks).length ≤ ks.length := List.length_filterMap_le _ _
theorem col_inp {W : Int} {l : List Tm} (h : TbOk W l) (i : Int) (hi : ∀ k ∈ prtZ l i, k < l.length) : Lib.compact (srtZ (colI l (prtZ l i))) = zl (inpN l i) := by
  refine sorted_once _ _ ?_ fun x => ?_
  · unfold zl inpN
    rw [List.pairwise_map]
    exact (List.Pairwise.filter _ List.pairwise_lt_range).imp fun h => by omega
  · unfold colI zl inpN
    rw [List.mem_filterMap, List.mem_map]
    constructor
    · rintro ⟨k, hk, he⟩
      have hkl := hi k hk
      rw [List.getElem?_eq_getElem hkl, Option.bind_some] at he
      split at he
      · rename_i hin
        cases he
        have hop : l[k].op = 0 ∨ l[k].op = 1 := by simpa [isInp] using hin
        have hv := val_nn (h.node hkl).2.2.1 hop
        refine ⟨l[k].v.toNat, List.mem_filter.2 ⟨by simp; omega, List.any_eq_true.2 ⟨k, hk, ?_⟩⟩, by omega⟩
        unfold inpAt
        rw [List.getElem?_eq_getElem hkl]
        simp only [hin, Bool.true_and, beq_iff_eq]
        omega
      · cases he
    · rintro ⟨n, hn, rfl⟩
      obtain ⟨_, hn2⟩ := List.mem_filter.1 hn
      obtain ⟨k, hk, hat⟩ := List.any_eq_true.1 hn2
      refine ⟨k, hk, ?_⟩
      unfold inpAt at hat
      have hkl := hi k hk
      rw [List.getElem?_eq_getElem hkl] at hat ⊢
      simp only [Bool.and_eq_true, beq_iff_eq] at hat
      rw [Option.bind_some, if_pos hat.1, hat.2]
theorem prtZ_lt {W : Int} {l : List Tm} (h : TbOk W l) (i : Int) : ∀ k ∈ prtZ l i, k < l.length := by
  intro k hk
  unfold prtZ at hk
  split at hk
  · rename_i hi
    have := prt_mem h (show i.toNat < l.length by omega) k hk
    omega
  · simp at hk
theorem prtZ_len (l : List Tm) (i : Int) (h : l.length ≤ 1000) : (prtZ l i).length ≤ 1001 := by
  unfold prtZ
  split
  · unfold prt
    have := List.length_filter_le (mrk l i.toNat) (List.range (i.toNat + 1))
    simp at this
    omega
  · simp
section
variable {w : World} {n₀ tb mb : Nat} {rv : Value} {W : Int} {l : List Tm}
theorem eval_any (i : Int) (A : Option Addr) (c : Nat) (inp : List Int) (h : Tab w n₀ tb mb rv W l) (ht : TabS w) (hW : ¬ (W < 2 ∨ 8 < W)) (hz : ZRow w.heap.size w A inp) : Calls Tryd.prog 9 #[.pointer (some ⟨tb, 0, none⟩), .int .i64 i, .slice A inp.length c] w fun e w' => e = .returned (.tuple #[.int .i64 (evP W l i inp).1, .int .i64 (evP W l i inp).2]) ∧ Below w.heap.size w w' := by
  by_cases hi : 0 ≤ i ∧ i < (l.length : Int)
  · obtain ⟨k, rfl⟩ : ∃ k : Nat, i = (k : Int) := ⟨i.toNat, by omega⟩
    exact eval_in k A c inp h ht hW hz (by omega)
  · have HP := Lib.hid (parts_out i h (by omega))
    have HE := Lib.hid (show evP W l i inp = (0, 1) by unfold evP; rw [if_neg hi])
    rw [HE.out]
    clear h ht hW hz hi
    go_enter Tryd.func9, Tryd.ntmps9
    go_wp2_with (fail)
    refine HP.out.mono ?_
    rintro e w1 ⟨rfl, rfl⟩
    go_wp2_with (fail)
    go_ret2
    exact ⟨rfl, Below.refl _ _⟩
set_option maxRecDepth 100000 in
set_option maxHeartbeats 2000000 in
theorem inputs_any (i : Int) (h : Tab w n₀ tb mb rv W l) (ht : TabS w) : Calls Tryd.prog 12 #[.pointer (some ⟨tb, 0, none⟩), .int .i64 i] w fun e w' => ∃ A c, e = .returned (.slice A (inpN l i).length c) ∧ ZOwn w' w.heap.size (.slice A (inpN l i).length c) (zl (inpN l i)) ∧ Below w.heap.size w w' := by
  have HP := Lib.hid (parts_any i h ht)
  have HC := Lib.hid (col_inp h.tb i (prtZ_lt h.tb i))
  have HPM := Lib.hid (prtZ_lt h.tb i)
  have HH := Lib.hid h
  have hpl := prtZ_len l i h.few
  have hfew := h.few
  have HSN := Lib.hid (fun (ks : List Nat) k hk => col_snoc l ks k hk)
  generalize prtZ l i = P at *
  clear h ht
  go_enter Tryd.func12, Tryd.ntmps12
  go_wp2_with (fail)
  refine HP.out.mono ?_
  rintro e w1 ⟨PA, pc, rfl, hzo, hb⟩
  have HB1 := Lib.hid hb
  have HZR := Lib.hid (show ZRow w1.heap.size w1 PA (zl P) from hzo.row.2.2)
  have HNIL := Lib.hid (show ZOwn w1 w1.heap.size (.slice none 0 0) (colI l (P.take 0)) from World.ownsRow_nil _ _ _ _)
  have hsz1 := hb.size
  clear hb hzo HP
  go_wp2_with (fail)
  go_loopw [5, 13] (fun v jv wr => ∃ j : Nat, j ≤ P.length ∧ jv = .int .i64 (j : Int) ∧ Hid (ZOwn wr w1.heap.size v (colI l (P.take j))) ∧ Hid (Below w1.heap.size w1 wr)) (fun _ jv _ => P.length - (intOf jv).toNat)
  case atStart => exact ⟨0, Nat.zero_le _, rfl, HNIL, Lib.hid (Below.refl _ _)⟩
  case round =>
    obtain ⟨j, hj, rfl, hz, hbw⟩ := hrel
    have HBW := Lib.hid (HB1.out.trans (hbw.out.mono hsz1))
    by_cases hlt : j < P.length
    · obtain ⟨pb, poff, hPA, hpl2, hpc⟩ := HZR.out (by rw [zl_len]; omega)
      have q1 := (hbw.out.cell (p := ⟨pb, poff + j, none⟩) hpl2).trans (hpc j (by rw [zl_len]; exact hlt))
      rw [zl_get P j hlt] at q1
      subst hPA
      have hkl := HPM.out _ (List.getElem_mem hlt)
      have HTK := Lib.hid (show colI l (P.take (j + 1)) = colI l (P.take j) ++ (if isInp l[P[j]] = true then [l[P[j]].v] else []) by rw [List.take_succ_eq_append_getElem hlt, HSN.out _ _ hkl])
      have hcl := col_len l (P.take j)
      rw [List.length_take] at hcl
      generalize P[j] = k at *
      have HTR := Lib.hid (HH.out.later HBW.out)
      obtain ⟨A2, c2, hrv, _, hrow, hown⟩ := HTR.out.form
      have c1 : wr.cell? ⟨tb, 1, none⟩ = some (.slice A2 l.length c2) := by rw [← hrv]; exact Lib.cell_of_heap HTR.out.box 1
      obtain ⟨b0, off, hA, _, hc0⟩ := hrow.at hkl
      have dk : decide ((k : Int) < 0) = false := by simp
      have nk : ¬ l.length ≤ k := by omega
      clear hown hrow hrv hpc hpl2
      subst hA
      obtain ⟨d0, d1, d2, d3, d4⟩ := hc0
      generalize l[k] = x at *
      go_upto_region 6 with fail
      have HBX := Lib.hid (TBox.new wr x)
      have HW5 := Lib.hid ((Below.refl wr.heap.size wr).alloc (Nat.le_refl _) (.cells #[.int .i64 x.op, .int .i64 x.v, .int .i64 x.a, .int .i64 x.b, .int .i64 x.c] 46))
      clear c1 d0 d1 d2 d3 d4 q1
      generalize wr.alloc (.cells #[.int .i64 x.op, .int .i64 x.v, .int .i64 x.a, .int .i64 x.b, .int .i64 x.c] 46) = w5 at *
      have hzr := hbw.out.size
      have HB5 := Lib.hid (hbw.out.trans (HW5.out.mono hzr))
      have HZ5 := Lib.hid (hz.out.later HW5.out)
      have HI := Lib.hid (isInput_any x w5)
      obtain ⟨x0, x1, x2, x3, x4⟩ := HBX.out.cells
      cases hin : isInp x with
      | false => as_aux_lemma =>
        rw [show (x.op == 0 || x.op == 1) = false from hin] at HI
        rw [hin, if_neg (by decide), List.append_nil] at HTK
        clear hin
        go_wp2_with (fail)
        refine HI.out.mono ?_
        rintro e w6 ⟨rfl, hb6⟩
        have hz5 := HW5.out.size
        have HB6 := Lib.hid (HB5.out.trans (hb6.mono (by omega)))
        have HZ6 := Lib.hid (HZ5.out.later hb6)
        clear hb6 x0 x1 x2 x3 x4
        go_wp2_with (fail)
        exact ⟨⟨j + 1, by omega, by go_num, Lib.hid (by rw [HTK.out]; exact HZ6.out), HB6⟩, by simp [intOf]; omega⟩
      | true => as_aux_lemma =>
        rw [show (x.op == 0 || x.op == 1) = true from hin] at HI
        rw [hin, if_pos rfl] at HTK
        clear hin
        obtain ⟨i0, hi0, hz0, hz1, hz2⟩ := info_parts infoInt
        go_wp2_with (fail)
        refine HI.out.mono ?_
        rintro e w6 ⟨rfl, hb6⟩
        have hz5 := HW5.out.size
        have HB6 := Lib.hid (HB5.out.trans (hb6.mono (by omega)))
        have HZ6 := Lib.hid (HZ5.out.later hb6)
        have HBX6 := Lib.hid (HBX.out.later hb6)
        have HOK := Lib.hid HZ6.out.lt
        have hs6 := HB6.out.size
        clear hb6 x0 x1 x2 x3 x4
        obtain ⟨x0, x1, x2, x3, x4⟩ := HBX6.out.cells
        go_wp2_with (at_builtin; refine wpList_append_own _ rfl _ _ 23 rfl w1.heap.size 3 i0 _ 1 8 Tryd.underlying23 hi0 hz0 hz1 hz2 rfl (by decide) _ _ _ rfl (HZ6.out.alloc _) ⟨w6.heap.size, 0, none⟩ 1 1 [.int .i64 x.v] rfl rfl ?c1 ?c2 ?c3 ?c4 ?c5 ?_)
        case c1 => exact World.news_of_block (cs := #[.int .i64 x.v]) (heap_alloc_new w6 _)
        case c2 => intro u hu; simp at hu; subst hu; rfl
        case c3 => unfold maxLen; omega
        case c4 => omega
        case c5 => simp; omega
        intro v' w7 hown' hgrow _
        have hal7 : (w6.alloc (.cells #[.int .i64 x.v] 3)).heap.size = w6.heap.size + 1 := by simp
        have HZ7 := Lib.hid (show ZOwn w7 w1.heap.size v' (colI l (P.take (j + 1))) by
          show w7.ownsRow _ _ _ _ _ _
          rw [HTK.out, zcells_append, List.length_append]
          exact hown')
        have HB7 := Lib.hid (HB6.out.trans (((Below.refl w6.heap.size w6).alloc (Nat.le_refl _) (.cells #[.int .i64 x.v] 3)).mono (by omega : w1.heap.size ≤ w6.heap.size) |>.grown hgrow (by rw [hal7]; omega) (fun b e => (HOK.out b e).1)))
        clear hown' hgrow hal7 hs6
        go_wp2_with (fail)
        exact ⟨⟨j + 1, by omega, by go_num, HZ7, HB7⟩, by simp [intOf]; omega⟩
    · obtain rfl : j = P.length := by omega
      rw [List.take_length] at hz
      have hcl := col_len l P
      obtain ⟨A3, c3, hv3, _, _⟩ := hz.out.form
      subst hv3
      have HS := Lib.hid (sort_own rfl (show ZOwn wr w1.heap.size _ _ from hz.out) (by omega))
      have HL3 := Lib.hid (show (srtZ (colI l P)).length = (colI l P).length from List.length_mergeSort _)
      go_wp2_with (fail)
      refine HS.out.mono ?_
      rintro e w6 ⟨rfl, hz6, _, _, hb6⟩
      have HB6 := Lib.hid (hbw.out.trans hb6)
      have HCO := Lib.hid (compact_own HL3.out.symm hz6 (by omega))
      rw [HC.out, zl_len] at HCO
      clear hz6 hb6
      go_wp2_with (fail)
      refine HCO.out.mono ?_
      rintro e w7 ⟨rfl, hz7, _, hb7⟩
      have HB7 := Lib.hid (HB1.out.trans ((HB6.out.trans hb7).mono hsz1))
      have HZ7 := Lib.hid (own_down hz7 hsz1)
      clear hz7 hb7
      go_wp2_with (fail)
      go_ret
      exact ⟨_, _, rfl, HZ7.out, HB7.out⟩
end
end Go.Proofs.YtjgkcicgjnjepaaDoor
