/- What is proved: the reference's small functions return what the plain functions say. -/
import Derived.Test.YtnpcfmoiiecadaaDoorLxTokPlain
set_option linter.unusedVariables false
namespace Go.Proofs.YtnpcfmoiiecadaaDoor.Lx
open Go.RowKit

/-- the number that digits are, behind a number -/
def num : List UInt8 → Nat → Option Nat
  | [], n => some n
  | b :: bs, n => if digit b then num bs (10 * n + (b.toNat - 48)) else none
def numOk (s : ByteArray) : Bool := decide (1 ≤ s.size) && decide (s.size ≤ 9) && (num s.data.toList 0).isSome
def numV (s : ByteArray) : Nat := if numOk s then (num s.data.toList 0).getD 0 else 0
theorem num_cons (b : UInt8) (bs : List UInt8) (n : Nat) : num (b :: bs) n = if digit b then num bs (10 * n + (b.toNat - 48)) else none := rfl
theorem num_step (l : List UInt8) (k n : Nat) (hk : k < l.length) (h : digit l[k] = true) : num (l.drop k) n = num (l.drop (k + 1)) (10 * n + (l[k].toNat - 48)) := by
  rw [List.drop_eq_getElem_cons hk, num_cons, if_pos h]
theorem num_halt (l : List UInt8) (k n : Nat) (hk : k < l.length) (h : digit l[k] = false) : num (l.drop k) n = none := by
  rw [List.drop_eq_getElem_cons hk, num_cons, h]
  rfl
theorem num_end (l : List UInt8) (k n : Nat) (hk : ¬ k < l.length) : num (l.drop k) n = some n := by
  rw [List.drop_of_length_le (by omega)]
  rfl
theorem digit_bd (b : UInt8) (h : digit b = true) : 48 ≤ b.toNat ∧ b.toNat ≤ 57 := by
  unfold digit at h
  simpa using h
theorem pow_step (n k d : Nat) (h : n < 10 ^ k) (hd : d ≤ 9) : 10 * n + d < 10 ^ (k + 1) := by
  rw [Nat.pow_succ]
  omega
theorem pow_small (n k : Nat) (h : n < 10 ^ k) (hk : k ≤ 9) : n < 1000000000 := by
  have : 10 ^ k ≤ 10 ^ 9 := Nat.pow_le_pow_right (by omega) hk
  have e : 10 ^ 9 = 1000000000 := by decide
  omega
theorem ret_num {a b : Int} {x y : Bool} (h1 : a = b) (h2 : x = y) : Ending.returned (.tuple #[.int .i64 a, .bool x]) = .returned (.tuple #[.int .i64 b, .bool y]) := by rw [h1, h2]
theorem numOk_len (s : ByteArray) (h : s.size < 1 ∨ 9 < s.size) : numOk s = false := by
  unfold numOk
  rcases h with h | h
  · rw [show decide (1 ≤ s.size) = false from decide_eq_false (by omega)]
    rfl
  · rw [show decide (s.size ≤ 9) = false from decide_eq_false (by omega)]
    simp
theorem numOk_some (s : ByteArray) (n : Nat) (h1 : 1 ≤ s.size) (h2 : s.size ≤ 9) (h : num s.data.toList 0 = some n) : numOk s = true ∧ numV s = n := by
  have a : numOk s = true := by
    unfold numOk
    rw [h]
    simp [h1, h2]
  exact ⟨a, by unfold numV; rw [a, h]; rfl⟩
theorem numOk_none (s : ByteArray) (h : num s.data.toList 0 = none) : numOk s = false := by
  unfold numOk
  rw [h]
  simp
theorem numV_no (s : ByteArray) (h : numOk s = false) : numV s = 0 := by unfold numV; rw [h]; rfl

set_option maxHeartbeats 1000000 in
theorem number_any (s : ByteArray) (w : World) :
    Calls Tryd.prog 56 #[.string s] w fun e w' => e = .returned (.tuple #[.int .i64 (numV s : Int), .bool (numOk s)]) ∧ w = w' := by
  by_cases hsz : s.size < 1 ∨ 9 < s.size
  · have h1 := numOk_len s hsz
    have h2 := numV_no s h1
    have HV := Lib.hid (And.intro h1 h2)
    clear h1 h2
    rcases hsz with h | h
    · go_enter Tryd.func56, Tryd.ntmps56
      go_wp2_with (fail)
      go_ret2
      exact ⟨ret_num (by rw [HV.out.2]; rfl) HV.out.1.symm, rfl⟩
    · go_enter Tryd.func56, Tryd.ntmps56
      go_wp2_with (fail)
      go_ret2
      exact ⟨ret_num (by rw [HV.out.2]; rfl) HV.out.1.symm, rfl⟩
  · have hll : s.data.toList.length = s.size := by simp
    have HL := Lib.hid hll
    have hs1 : 1 ≤ s.size := by omega
    have hs9 : s.size ≤ 9 := by omega
    have HD := Lib.hid (fun (k : Nat) (h : k < s.size) => digit_any s[k] w)
    have HS := Lib.hid (fun n => numOk_some s n hs1 hs9)
    have HN := Lib.hid (numOk_none s)
    clear hsz hll
    go_enter Tryd.func56, Tryd.ntmps56
    go_wp2_with (fail)
    go_loop [4, 5] (fun x i => ∃ k n : Nat, k ≤ s.size ∧ i = .int .i64 (k : Int) ∧ x = .int .i64 (n : Int) ∧ Hid (n < 10 ^ k) ∧ Hid (num s.data.toList 0 = num (s.data.toList.drop k) n)) (fun _ i => s.size - (intOf i).toNat)
    case atStart => exact ⟨0, 0, Nat.zero_le _, rfl, rfl, by show 0 < 10 ^ 0; decide, rfl⟩
    case round =>
      obtain ⟨k, n, hk, rfl, rfl, hp, hq⟩ := hrel
      by_cases hlt : k < s.size
      · have hlt' : (k : Int) < (s.size : Int) := by omega
        have hll := HL.out
        have hget : s.data.toList[k]'(by omega) = s[k] := rfl
        have hd := Lib.hid (HD.out k hlt)
        have hn := pow_small n k hp.out (by omega)
        cases c : digit s[k] with
        | true =>
          have hb := digit_bd s[k] c
          have HP := Lib.hid (pow_step n k (s[k].toNat - 48) hp.out (by omega))
          have HQ := Lib.hid (hq.out.trans (num_step s.data.toList k n (by omega) (by rw [hget]; exact c)))
          rw [hget] at HQ
          rw [c] at hd
          clear c hget hll
          obtain ⟨d, hdd⟩ : ∃ d, d = s[k].toNat - 48 := ⟨_, rfl⟩
          rw [← hdd] at HP HQ
          have e1 : (s[k].toNat : Int) - 48 = (d : Int) := by omega
          have e2 : d ≤ 9 := by omega
          clear hdd
          go_wp2_with (fail)
          refine hd.out.mono ?_
          rintro e w' ⟨rfl, rfl⟩
          go_wp2_with (fail)
          exact ⟨⟨k + 1, 10 * n + d, by omega, by go_num, by go_num, HP, HQ⟩, by simp [intOf]; omega⟩
        | false =>
          have h1 := HN.out (hq.out.trans (num_halt s.data.toList k n (by omega) (by rw [hget]; exact c)))
          have HV := Lib.hid (And.intro h1 (numV_no s h1))
          rw [c] at hd
          clear c hget hll h1
          go_wp2_with (fail)
          refine hd.out.mono ?_
          rintro e w' ⟨rfl, rfl⟩
          go_wp2_with (fail)
          go_ret2
          exact ⟨ret_num (by rw [HV.out.2]; rfl) HV.out.1.symm, rfl⟩
      · have HV := Lib.hid (HS.out n (hq.out.trans (num_end s.data.toList k n (by rw [HL.out]; exact hlt))))
        have hlt' : (s.size : Int) ≤ (k : Int) := by omega
        go_wp2_with (fail)
        go_ret2
        exact ⟨ret_num (by rw [HV.out.2]) HV.out.1.symm, rfl⟩

end Go.Proofs.YtnpcfmoiiecadaaDoor.Lx
set_option linter.unusedVariables false
namespace Go.Proofs.YtnpcfmoiiecadaaDoor.Lx
open Go.RowKit

theorem ret_bool {a b : Bool} (h : a = b) : Ending.returned (.bool a) = .returned (.bool b) := by rw [h]
def covB (t : Tok) (a e : Int) : Bool := decide (a < e) && t.at_ == a && t.hi == e

theorem run_haltN (l : List UInt8) (p : UInt8 → Bool) (i : Nat) (h : p (at_ l i) = false) : run l p i = i := by
  unfold run
  exact whl_no _ _ _ h
theorem blank_noneN (l : List UInt8) (i : Nat) (hi : i < l.length) (h : white (at_ l i) = false) (h2 : at_ l i ≠ 35) : blank l i = i := by
  have hw : run l white i = i := run_haltN l white i h
  unfold blank
  rw [blk_step, hw, if_pos (.inr h2)]
def nameB (l : List UInt8) : Bool := decide (1 ≤ l.length) && decide (l.length ≤ 16) && letter (at_ l 0) && !isKw l && (tokAt l 0).2 == l.length

theorem letter_not (b : UInt8) (h : letter b = true) : white b = false ∧ b ≠ 35 := by
  unfold letter at h
  simp at h
  constructor
  · cases hw : white b with
    | false => rfl
    | true =>
      rw [white_eq] at hw
      simp at hw
      omega
  · rintro rfl
    have : (35 : UInt8).toNat = 35 := rfl
    omega
theorem letter_out (l : List UInt8) (h : letter (at_ l 0) = true) : 0 < l.length := by
  cases l with
  | nil => exact absurd h (by decide)
  | cons b bs => simp

theorem name_eq (l : List UInt8) : nameB l = (decide (l.length ≤ 16) && ((nextTok l 0).kind == 0 && covB (nextTok l 0) 0 l.length)) := by
  unfold nameB covB nextTok
  simp only
  rw [Bool.eq_iff_iff]
  simp only [Bool.and_eq_true, decide_eq_true_eq, beq_iff_eq, Bool.not_eq_true']
  constructor
  · rintro ⟨⟨⟨⟨h1, h2⟩, h3⟩, h4⟩, h5⟩
    have hb : blank l 0 = 0 := blank_noneN l 0 (by omega) (letter_not _ h3).1 (letter_not _ h3).2
    rw [hb]
    refine ⟨h2, ?_, ⟨by omega, rfl⟩, by omega⟩
    unfold tokAt at h5 ⊢
    rw [if_neg (by omega), if_pos h3] at h5 ⊢
    simp only at h5 ⊢
    rw [h5, List.take_length, List.drop_zero, h4]
    rfl
  · rintro ⟨h1, h2, ⟨h3, h4⟩, h5⟩
    have hb : blank l 0 = 0 := by omega
    rw [hb] at h2 h5
    have hlt : 0 < l.length := by omega
    have hle : letter (at_ l 0) = true := by
      cases hc : letter (at_ l 0) with
      | true => rfl
      | false =>
        unfold tokAt at h2
        rw [if_neg (by omega), hc, if_neg (by simp)] at h2
        split at h2
        · simp at h2
        · split at h2 <;> simp at h2
    refine ⟨⟨⟨⟨by omega, h1⟩, hle⟩, ?_⟩, by omega⟩
    unfold tokAt at h2 h5
    rw [if_neg (by omega), if_pos hle] at h2 h5
    simp only at h2 h5
    have e : run l inName 0 = l.length := by omega
    rw [e, List.take_length, List.drop_zero] at h2
    cases hk : isKw l with
    | false => rfl
    | true => rw [hk] at h2; simp at h2

end Go.Proofs.YtnpcfmoiiecadaaDoor.Lx
set_option linter.unusedVariables false
namespace Go.Proofs.YtnpcfmoiiecadaaDoor.Lx
open Go.RowKit

theorem heap_new1 (w : World) (o : Obj) : (w.alloc o).heap[w.heap.size]? = some o := heap_alloc_new w o
/-- a slice value, nil or not, reads as these strings -/
def StrA (w : World) (A : Option Addr) (l : List ByteArray) : Prop := 0 < l.length → ∃ b off, A = some ⟨b, off, none⟩ ∧ b < w.heap.size ∧ ∀ (i : Nat) (h : i < l.length), w.cell? ⟨b, off + i, none⟩ = some (.string l[i])
theorem StrA.below {w w' : World} {A : Option Addr} {l : List ByteArray} (h : StrA w A l) (hb : Below w.heap.size w w') : StrA w' A l := by
  intro hl
  obtain ⟨b, off, hA, hlt, hr⟩ := h hl
  exact ⟨b, off, hA, Nat.lt_of_lt_of_le hlt hb.size, fun i hi => (hb.cell (p := ⟨b, off + i, none⟩) hlt).trans (hr i hi)⟩
theorem StrA.drew {w : World} {A : Option Addr} {l : List ByteArray} (h : StrA w A l) (n : Nat) : StrA (w.drewN n) A l := h
theorem StrA.nil (w : World) (A : Option Addr) : StrA w A [] := fun h => absurd h (by simp)

def scells (l : List ByteArray) : List Value := l.map Value.string
end Go.Proofs.YtnpcfmoiiecadaaDoor.Lx
set_option linter.unusedVariables false
namespace Go.Proofs.YtnpcfmoiiecadaaDoor.Lx
open Go.RowKit

theorem r_blank_any (b : UInt8) (w : World) : Calls Tryd.prog 39 #[.int .u8 (b.toNat : Int)] w fun e w' => e = .returned (.bool (white b)) ∧ w = w' := by
  have HV := Lib.hid (white_eq b)
  go_enter Tryd.func39, Tryd.ntmps39
  go_wp2
  all_goals
    go_ret
    refine ⟨congrArg (fun x => Ending.returned (Value.bool x)) ?_, rfl⟩
    rw [HV.out]
    all_goals first | rfl | (simp [*]; done)
theorem r_letter_any (b : UInt8) (w : World) : Calls Tryd.prog 14 #[.int .u8 (b.toNat : Int)] w fun e w' => e = .returned (.bool (letter b)) ∧ w = w' := by
  have HV := Lib.hid (letter_eq b)
  go_enter Tryd.func14, Tryd.ntmps14
  go_wp2
  all_goals
    go_ret
    refine ⟨congrArg (fun x => Ending.returned (Value.bool x)) ?_, rfl⟩
    rw [HV.out]
    all_goals first | rfl | (simp [*]; done) | (simp; omega)
theorem r_digit_any (b : UInt8) (w : World) : Calls Tryd.prog 37 #[.int .u8 (b.toNat : Int)] w fun e w' => e = .returned (.bool (digit b)) ∧ w = w' := by
  have HV := Lib.hid (digit_eq b)
  go_enter Tryd.func37, Tryd.ntmps37
  go_wp2
  all_goals
    go_ret
    refine ⟨congrArg (fun x => Ending.returned (Value.bool x)) ?_, rfl⟩
    rw [HV.out]
    all_goals first | rfl | (simp [*]; done) | (simp; omega)

/-- is a string in a list -/
def hasB (l : List ByteArray) (s : ByteArray) : Bool := l.any (fun x => x.toList == s.toList)
theorem has_hit (l : List ByteArray) (s : ByteArray) (k : Nat) (hk : k < l.length) (h : (l[k].toList == s.toList) = true) : hasB (l.drop k) s = true := by
  rw [List.drop_eq_getElem_cons hk]
  unfold hasB
  rw [List.any_cons, h]
  rfl
theorem has_miss (l : List ByteArray) (s : ByteArray) (k : Nat) (hk : k < l.length) (h : (l[k].toList == s.toList) = false) : hasB (l.drop k) s = hasB (l.drop (k + 1)) s := by
  rw [List.drop_eq_getElem_cons hk]
  unfold hasB
  rw [List.any_cons, h]
  rfl
theorem has_end (l : List ByteArray) (s : ByteArray) (k : Nat) (hk : ¬ k < l.length) : hasB (l.drop k) s = false := by
  rw [List.drop_of_length_le (by omega)]
  rfl

set_option maxHeartbeats 400000 in
theorem has_any (A : Option Addr) (c : Nat) (l : List ByteArray) (s : ByteArray) (w : World) (hl : l.length ≤ 1000000) (h : StrA w A l) :
    Calls Tryd.prog 36 #[.slice A l.length c, .string s] w fun e w' => e = .returned (.bool (hasB l s)) ∧ w = w' := by
  have H := Lib.hid h
  clear h
  go_enter Tryd.func36, Tryd.ntmps36
  go_wp2_with (fail)
  go_loop [5] (fun i => ∃ k : Nat, k ≤ l.length ∧ i = .int .i64 (k : Int) ∧ Hid (hasB l s = hasB (l.drop k) s)) (fun i => l.length - (intOf i).toNat)
  case atStart => exact ⟨0, Nat.zero_le _, rfl, rfl⟩
  case round =>
    obtain ⟨k, hk, rfl, hq⟩ := hrel
    by_cases hlt : k < l.length
    · obtain ⟨b, o, rfl, _, r⟩ := H.out (by omega)
      have q1 := r k hlt
      have hlt' : (k : Int) < (l.length : Int) := by omega
      clear r
      cases hc : (l[k].toList == s.toList) with
      | true =>
        have HV := Lib.hid (hq.out.trans (has_hit l s k hlt hc))
        generalize l[k] = x at *
        go_wp2_with (fail)
        go_ret
        exact ⟨ret_bool HV.out.symm, rfl⟩
      | false =>
        have HV := Lib.hid (hq.out.trans (has_miss l s k hlt hc))
        generalize l[k] = x at *
        go_wp2_with (fail)
        exact ⟨⟨k + 1, by omega, by go_num, HV⟩, by simp [intOf]; omega⟩
    · have HV := Lib.hid (hq.out.trans (has_end l s k hlt))
      go_wp2_with (fail)
      go_ret
      exact ⟨ret_bool HV.out.symm, rfl⟩

/-- a literal of strings reads as its strings -/
theorem lit_strs (w : World) (l : List ByteArray) (E : TypeId) : StrA (w.alloc (.cells (scells l).toArray E)) (some ⟨w.heap.size, 0, none⟩) l := by
  intro _
  refine ⟨w.heap.size, 0, rfl, by simp, ?_⟩
  have h := heap_new1 w (.cells (scells l).toArray E)
  intro i hi
  rw [Nat.zero_add, Lib.cell_of_heap h i]
  simp [scells, hi]

def kws : List ByteArray := [⟨#[114, 101, 99, 111, 114, 100]⟩, ⟨#[112, 114, 111, 99]⟩, ⟨#[118, 97, 114]⟩, ⟨#[105, 102]⟩, ⟨#[101, 108, 115, 101]⟩, ⟨#[119, 104, 105, 108, 101]⟩, ⟨#[102, 111, 114]⟩, ⟨#[116, 111]⟩, ⟨#[114, 101, 116, 117, 114, 110]⟩, ⟨#[97, 115, 115, 101, 114, 116]⟩, ⟨#[97, 110, 100]⟩, ⟨#[111, 114]⟩, ⟨#[110, 111, 116]⟩, ⟨#[116, 114, 117, 101]⟩, ⟨#[102, 97, 108, 115, 101]⟩, ⟨#[105, 110, 116]⟩, ⟨#[98, 111, 111, 108]⟩, ⟨#[108, 101, 110]⟩]
theorem any_mem (l : List (List UInt8)) (x : List UInt8) : l.any (fun y => y == x) = decide (x ∈ l) := by
  rw [Bool.eq_iff_iff]
  simp
theorem kws_eq (s : ByteArray) : hasB kws s = isKw s.data.toList := by
  unfold hasB isKw
  rw [← any_mem]
  have e : kwList = kws.map ByteArray.toList := by
    unfold kws
    simp only [List.map_cons, List.map_nil, ByteArray.toList_eq]
    rfl
  rw [e, List.any_map]
  congr 1
  funext x
  simp [Function.comp, ByteArray.toList_eq]

theorem r_keyword_any (s : ByteArray) (w : World) :
    Calls Tryd.prog 15 #[.string s] w fun e w' => e = .returned (.bool (isKw s.data.toList)) ∧ Below w.heap.size w w' := by
  rw [← kws_eq]
  have H := Lib.hid (has_any (some ⟨w.heap.size, 0, none⟩) 18 kws s (w.alloc (.cells (scells kws).toArray 9)) (by decide) (lit_strs w kws _))
  have HB := Lib.hid ((Below.refl w.heap.size w).alloc (Nat.le_refl _) (.cells (scells kws).toArray 9))
  go_enter Tryd.func15, Tryd.ntmps15
  go_wp2_with (fail)
  refine H.out.mono ?_
  rintro e w1 ⟨rfl, rfl⟩
  go_wp2_with (fail)
  go_ret
  exact ⟨rfl, HB.out⟩
end Go.Proofs.YtnpcfmoiiecadaaDoor.Lx
