/- What is proved: the reference's small functions return what the plain functions say. -/
import Derived.Test.YtoopnddlcofhoaaGreatDoorLxStr
set_option linter.unusedVariables false
namespace Go.Proofs.YtoopnddlcofhoaaGreatDoor.Lx
open Go.RowKit

theorem r_blank_any (b : UInt8) (w : World) : Calls Tryz.prog 39 #[.int .u8 (b.toNat : Int)] w fun e w' => e = .returned (.bool (white b)) ∧ w = w' := by
  have HV := Lib.hid (white_eq b)
  go_enter Tryz.func39, Tryz.ntmps39
  go_wp2
  all_goals
    go_ret
    refine ⟨congrArg (fun x => Ending.returned (Value.bool x)) ?_, rfl⟩
    rw [HV.out]
    all_goals first | rfl | (simp [*]; done)
theorem r_letter_any (b : UInt8) (w : World) : Calls Tryz.prog 18 #[.int .u8 (b.toNat : Int)] w fun e w' => e = .returned (.bool (letter b)) ∧ w = w' := by
  have HV := Lib.hid (letter_eq b)
  go_enter Tryz.func18, Tryz.ntmps18
  go_wp2
  all_goals
    go_ret
    refine ⟨congrArg (fun x => Ending.returned (Value.bool x)) ?_, rfl⟩
    rw [HV.out]
    all_goals first | rfl | (simp [*]; done) | (simp; omega)
theorem r_digit_any (b : UInt8) (w : World) : Calls Tryz.prog 37 #[.int .u8 (b.toNat : Int)] w fun e w' => e = .returned (.bool (digit b)) ∧ w = w' := by
  have HV := Lib.hid (digit_eq b)
  go_enter Tryz.func37, Tryz.ntmps37
  go_wp2
  all_goals
    go_ret
    refine ⟨congrArg (fun x => Ending.returned (Value.bool x)) ?_, rfl⟩
    rw [HV.out]
    all_goals first | rfl | (simp [*]; done) | (simp; omega)

/-- is a string in a list -/
def hasB (l : List ByteArray) (s : ByteArray) : Bool := l.any (fun x => x.toList == s.toList)
theorem has_hit (l : List ByteArray) (s : ByteArray) (k : Nat) (hk : k < l.length) (h : (l[k].toList == s.toList) = true) : hasB (l.drop k) s = true := by
  rw [List.drop_eq_getElem_cons hk]
  unfold hasB
  rw [List.any_cons, h]
  rfl
theorem has_miss (l : List ByteArray) (s : ByteArray) (k : Nat) (hk : k < l.length) (h : (l[k].toList == s.toList) = false) : hasB (l.drop k) s = hasB (l.drop (k + 1)) s := by
  rw [List.drop_eq_getElem_cons hk]
  unfold hasB
  rw [List.any_cons, h]
  rfl
theorem has_end (l : List ByteArray) (s : ByteArray) (k : Nat) (hk : ¬ k < l.length) : hasB (l.drop k) s = false := by
  rw [List.drop_of_length_le (by omega)]
  rfl

set_option maxHeartbeats 400000 in
theorem has_any (A : Option Addr) (c : Nat) (l : List ByteArray) (s : ByteArray) (w : World) (hl : l.length ≤ 1000000) (h : StrA w A l) :
    Calls Tryz.prog 36 #[.slice A l.length c, .string s] w fun e w' => e = .returned (.bool (hasB l s)) ∧ w = w' := by
  have H := Lib.hid h
  clear h
  go_enter Tryz.func36, Tryz.ntmps36
  go_wp2_with (fail)
  go_loop [5] (fun i => ∃ k : Nat, k ≤ l.length ∧ i = .int .i64 (k : Int) ∧ Hid (hasB l s = hasB (l.drop k) s)) (fun i => l.length - (intOf i).toNat)
  case atStart => exact ⟨0, Nat.zero_le _, rfl, rfl⟩
  case round =>
    obtain ⟨k, hk, rfl, hq⟩ := hrel
    by_cases hlt : k < l.length
    · obtain ⟨b, o, rfl, _, r⟩ := H.out (by omega)
      have q1 := r k hlt
      have hlt' : (k : Int) < (l.length : Int) := by omega
      clear r
      cases hc : (l[k].toList == s.toList) with
      | true =>
        have HV := Lib.hid (hq.out.trans (has_hit l s k hlt hc))
        generalize l[k] = x at *
        go_wp2_with (fail)
        go_ret
        exact ⟨ret_bool HV.out.symm, rfl⟩
      | false =>
        have HV := Lib.hid (hq.out.trans (has_miss l s k hlt hc))
        generalize l[k] = x at *
        go_wp2_with (fail)
        exact ⟨⟨k + 1, by omega, by go_num, HV⟩, by simp [intOf]; omega⟩
    · have HV := Lib.hid (hq.out.trans (has_end l s k hlt))
      go_wp2_with (fail)
      go_ret
      exact ⟨ret_bool HV.out.symm, rfl⟩

/-- a literal of strings reads as its strings -/
theorem lit_strs (w : World) (l : List ByteArray) (E : TypeId) : StrA (w.alloc (.cells (scells l).toArray E)) (some ⟨w.heap.size, 0, none⟩) l := by
  intro _
  refine ⟨w.heap.size, 0, rfl, by simp, ?_⟩
  have h := heap_new1 w (.cells (scells l).toArray E)
  intro i hi
  rw [Nat.zero_add, Lib.cell_of_heap h i]
  simp [scells, hi]

def kws : List ByteArray := [⟨#[114, 101, 99, 111, 114, 100]⟩, ⟨#[112, 114, 111, 99]⟩, ⟨#[118, 97, 114]⟩, ⟨#[105, 102]⟩, ⟨#[101, 108, 115, 101]⟩, ⟨#[119, 104, 105, 108, 101]⟩, ⟨#[102, 111, 114]⟩, ⟨#[116, 111]⟩, ⟨#[114, 101, 116, 117, 114, 110]⟩, ⟨#[97, 115, 115, 101, 114, 116]⟩, ⟨#[97, 110, 100]⟩, ⟨#[111, 114]⟩, ⟨#[110, 111, 116]⟩, ⟨#[116, 114, 117, 101]⟩, ⟨#[102, 97, 108, 115, 101]⟩, ⟨#[105, 110, 116]⟩, ⟨#[98, 111, 111, 108]⟩, ⟨#[108, 101, 110]⟩]
theorem any_mem (l : List (List UInt8)) (x : List UInt8) : l.any (fun y => y == x) = decide (x ∈ l) := by
  rw [Bool.eq_iff_iff]
  simp
theorem kws_eq (s : ByteArray) : hasB kws s = isKw s.data.toList := by
  unfold hasB isKw
  rw [← any_mem]
  have e : kwList = kws.map ByteArray.toList := by
    unfold kws
    simp only [List.map_cons, List.map_nil, ByteArray.toList_eq]
    rfl
  rw [e, List.any_map]
  congr 1
  funext x
  simp [Function.comp, ByteArray.toList_eq]

theorem r_keyword_any (s : ByteArray) (w : World) :
    Calls Tryz.prog 19 #[.string s] w fun e w' => e = .returned (.bool (isKw s.data.toList)) ∧ Below w.heap.size w w' := by
  rw [← kws_eq]
  have H := Lib.hid (has_any (some ⟨w.heap.size, 0, none⟩) 18 kws s (w.alloc (.cells (scells kws).toArray 9)) (by decide) (lit_strs w kws _))
  have HB := Lib.hid ((Below.refl w.heap.size w).alloc (Nat.le_refl _) (.cells (scells kws).toArray 9))
  go_enter Tryz.func19, Tryz.ntmps19
  go_wp2_with (fail)
  refine H.out.mono ?_
  rintro e w1 ⟨rfl, rfl⟩
  go_wp2_with (fail)
  go_ret
  exact ⟨rfl, HB.out⟩
end Go.Proofs.YtoopnddlcofhoaaGreatDoor.Lx
