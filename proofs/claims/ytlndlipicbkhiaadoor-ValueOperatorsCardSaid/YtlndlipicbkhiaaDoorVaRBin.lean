/- What is proved: the reference's Binary answers what the plain function says. -/
import Derived.Test.YtlndlipicbkhiaaDoorVaRef2
import Derived.Test.YtlndlipicbkhiaaDoorVaFmt
import Derived.Test.YtlndlipicbkhiaaDoorVaDiv
set_option linter.unusedVariables false
namespace Go.Proofs.YtlndlipicbkhiaaDoor
open Go.RowKit

/-- strings in memory -/
def SArr (w : World) (A : Option Addr) (l : List ByteArray) : Prop := 0 < l.length → ∃ b off, A = some ⟨b, off, none⟩ ∧ b < w.heap.size ∧ ∀ (i : Nat) (h : i < l.length), w.cell? ⟨b, off + i, none⟩ = some (.string l[i])
def hasB (l : List ByteArray) (s : ByteArray) : Bool := l.any (fun x => x.toList == s.toList)
theorem has_hit (l : List ByteArray) (s : ByteArray) (k : Nat) (hk : k < l.length) (h : (l[k].toList == s.toList) = true) : hasB (l.drop k) s = true := by
  rw [List.drop_eq_getElem_cons hk]
  unfold hasB
  rw [List.any_cons, h]
  rfl
theorem has_miss (l : List ByteArray) (s : ByteArray) (k : Nat) (hk : k < l.length) (h : (l[k].toList == s.toList) = false) : hasB (l.drop k) s = hasB (l.drop (k + 1)) s := by
  rw [List.drop_eq_getElem_cons hk]
  unfold hasB
  rw [List.any_cons, h]
  rfl
theorem has_end (l : List ByteArray) (s : ByteArray) (k : Nat) (hk : ¬ k < l.length) : hasB (l.drop k) s = false := by
  rw [List.drop_of_length_le (by omega)]
  rfl
set_option maxHeartbeats 400000 in
theorem has_any (A : Option Addr) (c : Nat) (l : List ByteArray) (s : ByteArray) (w : World) (hl : l.length ≤ 1000000) (h : SArr w A l) :
    Calls Tryd.prog 29 #[.slice A l.length c, .string s] w fun e w' => e = .returned (.bool (hasB l s)) ∧ w = w' := by
  have H := Lib.hid h
  clear h
  go_enter Tryd.func29, Tryd.ntmps29
  go_wp2_with (fail)
  go_loop [5] (fun i => ∃ k : Nat, k ≤ l.length ∧ i = .int .i64 (k : Int) ∧ Hid (hasB l s = hasB (l.drop k) s)) (fun i => l.length - (intOf i).toNat)
  case atStart => exact ⟨0, Nat.zero_le _, rfl, rfl⟩
  case round =>
    obtain ⟨k, hk, rfl, hq⟩ := hrel
    by_cases hlt : k < l.length
    · obtain ⟨b, o, rfl, _, r⟩ := H.out (by omega)
      have q1 := r k hlt
      have hlt' : (k : Int) < (l.length : Int) := by omega
      clear r
      cases hc : (l[k].toList == s.toList) with
      | true =>
        have HV := Lib.hid (hq.out.trans (has_hit l s k hlt hc))
        generalize l[k] = x at *
        go_wp2_with (fail)
        go_ret
        exact ⟨ret_bool HV.out.symm, rfl⟩
      | false =>
        have HV := Lib.hid (hq.out.trans (has_miss l s k hlt hc))
        generalize l[k] = x at *
        go_wp2_with (fail)
        exact ⟨⟨k + 1, by omega, by go_num, HV⟩, by simp [intOf]; omega⟩
    · have HV := Lib.hid (hq.out.trans (has_end l s k hlt))
      go_wp2_with (fail)
      go_ret
      exact ⟨ret_bool HV.out.symm, rfl⟩
theorem lit_strs (w : World) (l : List ByteArray) (E : TypeId) : SArr (w.alloc (.cells (scells l).toArray E)) (some ⟨w.heap.size, 0, none⟩) l := by
  intro _
  refine ⟨w.heap.size, 0, rfl, by simp, ?_⟩
  have h := heap_alloc_new w (.cells (scells l).toArray E)
  intro i hi
  rw [Nat.zero_add, Lib.cell_of_heap h i]
  simp [scells, hi]
def rops : List ByteArray := [⟨#[43]⟩, ⟨#[45]⟩, ⟨#[42]⟩, ⟨#[47]⟩, ⟨#[37]⟩, ⟨#[61, 61]⟩, ⟨#[33, 61]⟩, ⟨#[60]⟩, ⟨#[60, 61]⟩, ⟨#[62]⟩, ⟨#[62, 61]⟩, ⟨#[97, 110, 100]⟩, ⟨#[111, 114]⟩]
theorem rops_none (s : ByteArray) (h : opN s.data.toList = 13) : hasB rops s = false := by
  rw [Bool.eq_false_iff]
  intro hc
  unfold hasB rops at hc
  simp only [List.any_cons, List.any_nil, ByteArray.toList_eq, Bool.or_false, Bool.or_eq_true, beq_iff_eq] at hc
  unfold opN at h
  rcases hc with hc | hc | hc | hc | hc | hc | hc | hc | hc | hc | hc | hc | hc
  all_goals
    rw [← hc] at h
    revert h
    decide
/-- the operator's bytes -/
theorem op_bytes (s : ByteArray) : (opN s.data.toList = 0 ∧ s = ⟨#[43]⟩) ∨ (opN s.data.toList = 1 ∧ s = ⟨#[45]⟩) ∨ (opN s.data.toList = 2 ∧ s = ⟨#[42]⟩) ∨ (opN s.data.toList = 3 ∧ s = ⟨#[47]⟩) ∨ (opN s.data.toList = 4 ∧ s = ⟨#[37]⟩) ∨ (opN s.data.toList = 5 ∧ s = ⟨#[61, 61]⟩) ∨ (opN s.data.toList = 6 ∧ s = ⟨#[33, 61]⟩) ∨ (opN s.data.toList = 7 ∧ s = ⟨#[60]⟩) ∨ (opN s.data.toList = 8 ∧ s = ⟨#[60, 61]⟩) ∨ (opN s.data.toList = 9 ∧ s = ⟨#[62]⟩) ∨ (opN s.data.toList = 10 ∧ s = ⟨#[62, 61]⟩) ∨ (opN s.data.toList = 11 ∧ s = ⟨#[97, 110, 100]⟩) ∨ (opN s.data.toList = 12 ∧ s = ⟨#[111, 114]⟩) ∨ opN s.data.toList = 13 := by
  have hb : ∀ x : Array UInt8, s.data.toList = x.toList → s = ⟨x⟩ := fun x h => ByteArray.ext (Array.ext' h)
  by_cases h0 : s.data.toList = [43]
  · exact .inl ⟨by rw [h0]; rfl, hb #[43] h0⟩
  by_cases h1 : s.data.toList = [45]
  · exact .inr (.inl ⟨by rw [h1]; rfl, hb #[45] h1⟩)
  by_cases h2 : s.data.toList = [42]
  · exact .inr (.inr (.inl ⟨by rw [h2]; rfl, hb #[42] h2⟩))
  by_cases h3 : s.data.toList = [47]
  · exact .inr (.inr (.inr (.inl ⟨by rw [h3]; rfl, hb #[47] h3⟩)))
  by_cases h4 : s.data.toList = [37]
  · exact .inr (.inr (.inr (.inr (.inl ⟨by rw [h4]; rfl, hb #[37] h4⟩))))
  by_cases h5 : s.data.toList = [61, 61]
  · exact .inr (.inr (.inr (.inr (.inr (.inl ⟨by rw [h5]; rfl, hb #[61, 61] h5⟩)))))
  by_cases h6 : s.data.toList = [33, 61]
  · exact .inr (.inr (.inr (.inr (.inr (.inr (.inl ⟨by rw [h6]; rfl, hb #[33, 61] h6⟩))))))
  by_cases h7 : s.data.toList = [60]
  · exact .inr (.inr (.inr (.inr (.inr (.inr (.inr (.inl ⟨by rw [h7]; rfl, hb #[60] h7⟩)))))))
  by_cases h8 : s.data.toList = [60, 61]
  · exact .inr (.inr (.inr (.inr (.inr (.inr (.inr (.inr (.inl ⟨by rw [h8]; rfl, hb #[60, 61] h8⟩))))))))
  by_cases h9 : s.data.toList = [62]
  · exact .inr (.inr (.inr (.inr (.inr (.inr (.inr (.inr (.inr (.inl ⟨by rw [h9]; rfl, hb #[62] h9⟩)))))))))
  by_cases h10 : s.data.toList = [62, 61]
  · exact .inr (.inr (.inr (.inr (.inr (.inr (.inr (.inr (.inr (.inr (.inl ⟨by rw [h10]; rfl, hb #[62, 61] h10⟩))))))))))
  by_cases h11 : s.data.toList = [97, 110, 100]
  · exact .inr (.inr (.inr (.inr (.inr (.inr (.inr (.inr (.inr (.inr (.inr (.inl ⟨by rw [h11]; rfl, hb #[97, 110, 100] h11⟩)))))))))))
  by_cases h12 : s.data.toList = [111, 114]
  · exact .inr (.inr (.inr (.inr (.inr (.inr (.inr (.inr (.inr (.inr (.inr (.inr (.inl ⟨by rw [h12]; rfl, hb #[111, 114] h12⟩))))))))))))
  exact .inr (.inr (.inr (.inr (.inr (.inr (.inr (.inr (.inr (.inr (.inr (.inr (.inr (by simp [opN, h0, h1, h2, h3, h4, h5, h6, h7, h8, h9, h10, h11, h12])))))))))))))
theorem r_has_op (s : ByteArray) (w : World) : Calls Tryd.prog 29 #[.slice (some ⟨w.heap.size, 0, none⟩) 13 13, .string s] (w.alloc (.cells (scells rops).toArray 9)) fun e w' => e = .returned (.bool (hasB rops s)) ∧ (w.alloc (.cells (scells rops).toArray 9)) = w' :=
  has_any (some ⟨w.heap.size, 0, none⟩) 13 rops s _ (by decide) (lit_strs w rops _)
theorem sc_int (W n : Int) (h : ¬ (W < 2 ∨ 8 < W)) : (decide (loP W ≤ n) && decide (n ≤ hiP W)) = scB W false n := by
  have := wrp_same W n (hf_in h)
  unfold scB
  rw [Bool.eq_iff_iff]
  simp
  rw [← this]
  exact eq_comm
theorem sc_bits (W n : Int) (h : ¬ (W < 2 ∨ 8 < W)) (hs : scB W true n = true) : wrpP W n = n ∧ scB W false n = true := by
  have hb := hf_bound h
  have e : wrpP W n = n := by
    rw [wrp_same W n (hf_in h)]
    unfold loP hiP
    rw [if_neg (hf_in h)]
    simp [scB] at hs
    omega
  exact ⟨e, by simp [scB, e]⟩
theorem wrp_bt (W : Int) (x : Bool) (h : ¬ (W < 2 ∨ 8 < W)) : wrpP W (bt x) = bt x := by
  have hb := hf_bound h
  rw [wrp_same W _ (hf_in h)]
  unfold loP hiP
  rw [if_neg (hf_in h)]
  cases x <;> simp [bt] <;> omega

set_option maxRecDepth 100000 in
set_option maxHeartbeats 4000000 in
theorem r_bin_out (W a b : Int) (s : ByteArray) (h : W < 2 ∨ 8 < W) (w : World) :
    Calls Tryd.prog 9 #[.int .i64 W, .string s, .int .i64 a, .int .i64 b] w fun e w' => e = .returned (binV (binP W (opN s.data.toList) a b)) ∧ Below w.heap.size w w' := by
  have HP := Lib.hid (r_width_any W w)
  rw [wok_no h] at HP
  have HR := Lib.hid (binP_out h (opN s.data.toList) a b)
  clear h
  go_enter Tryd.func9, Tryd.ntmps9
  go_wp2_with (fail)
  refine HP.out.mono ?_
  rintro e w1 ⟨rfl, rfl⟩
  go_wp2_with (fail)
  go_ret3
  exact ⟨by rw [HR.out]; rfl, Below.refl _ _⟩
set_option maxRecDepth 100000 in
set_option maxHeartbeats 4000000 in
theorem r_bin_none (W a b : Int) (s : ByteArray) (h : ¬ (W < 2 ∨ 8 < W)) (hk : opN s.data.toList = 13) (w : World) :
    Calls Tryd.prog 9 #[.int .i64 W, .string s, .int .i64 a, .int .i64 b] w fun e w' => e = .returned (binV (binP W (opN s.data.toList) a b)) ∧ Below w.heap.size w w' := by
  have HP := Lib.hid (r_width_any W w)
  rw [wok_yes h] at HP
  have HR := Lib.hid (binP_none h hk a b)
  have HH := Lib.hid (fun w => r_has_op s w)
  rw [rops_none s hk] at HH
  have HB := Lib.hid ((Below.refl w.heap.size w).alloc (Nat.le_refl _) (.cells (scells rops).toArray 9))
  clear h
  go_enter Tryd.func9, Tryd.ntmps9
  go_wp2_with (fail)
  refine HP.out.mono ?_
  rintro e w1 ⟨rfl, rfl⟩
  go_wp2_with (fail)
  refine (HH.out _).mono ?_
  rintro e w2 ⟨rfl, rfl⟩
  go_wp2_with (fail)
  go_ret3
  exact ⟨by rw [HR.out]; rfl, HB.out⟩
end Go.Proofs.YtlndlipicbkhiaaDoor
