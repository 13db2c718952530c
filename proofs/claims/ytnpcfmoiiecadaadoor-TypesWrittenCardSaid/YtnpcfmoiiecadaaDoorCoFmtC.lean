/- What is proved: types.Format and the reference's Format give the same text of any type. -/
import Derived.Test.YtnpcfmoiiecadaaDoorShelf
import Derived.Test.YtnpcfmoiiecadaaDoorTyWr
import Derived.Lib.ItoaMem
import Derived.Lib.AppendIntMem
import Derived.Lib.SmallJoins
set_option linter.unusedVariables false
namespace Go.Proofs.YtnpcfmoiiecadaaDoor
open Go.RowKit Go.Shelf

/-- the table of powers of ten -/
abbrev Tab10 (w : World) : Prop := Lib.TabIs Tryd.prog w "internal/strconv.uint64pow10" .u64 Lib.pow10Tab
theorem dig_conv (n : Nat) (w : World) : (convert 113 9 (.slice (some ⟨w.heap.size, 0, none⟩) 1 1)).run Tryd.prog (w.alloc (.cells #[.int .u8 (48 + (n : Int) % 10)] 5)) = .ok (.string ⟨#[UInt8.ofNat (48 + n % 10)]⟩) (w.alloc (.cells #[.int .u8 (48 + (n : Int) % 10)] 5)) := by
  have h := run_convert_bytes_arg (P := Tryd.prog) (w.alloc (.cells #[.int .u8 (48 + (n : Int) % 10)] 5)) 113 5 Tryd.underlying113 Tryd.underlying5 w.heap.size 0 1 1 [48 + (n : Int) % 10] rfl (fun i hi => by
    obtain rfl : i = 0 := by omega
    exact Lib.cell_of_heap (heap_alloc_new w _) 0) 9 Tryd.underlying9
  rw [h]
  have e : (48 + (n : Int) % 10).toNat = 48 + n % 10 := by omega
  simp [strOfNums, e]
theorem dec_len : ∀ (k n : Nat), n < 10 ^ (k + 1) → (Lib.decDigits n).length ≤ k + 1
  | 0, n, h => by rw [Lib.decDigits_one (by omega)]; simp
  | k + 1, n, h => by
    by_cases h10 : n < 10
    · rw [Lib.decDigits_one h10]; simp
    · have e : n / 10 < 10 ^ (k + 1) := by rw [Nat.pow_succ] at h; omega
      have ih := dec_len k (n / 10) e
      rw [Lib.decDigits, dif_neg h10, List.length_append]
      simp
      omega
/-- the text of a type -/
def fmtS (t : TyV) : ByteArray :=
  if t.kind = 1 then ⟨#[105, 110, 116]⟩ else if t.kind = 2 then ⟨#[98, 111, 111, 108]⟩ else if t.kind = 3 then (if t.len < 0 then ⟨#[]⟩ else ((⟨#[105, 110, 116, 91]⟩ : ByteArray) ++ ⟨(Lib.decDigits t.len.toNat).toArray⟩) ++ ⟨#[93]⟩)
  else if t.kind = 4 then t.nm else if t.kind = 5 then ⟨#[97, 114, 114, 97, 121]⟩ else if t.kind = 6 then ⟨#[105, 110, 116, 32, 111, 114, 32, 98, 111, 111, 108]⟩ else ⟨#[]⟩
abbrev tyObj (t : TyV) : Obj := .cells #[.int .i64 t.kind, .int .i64 t.len, .string t.nm] 23
set_option maxRecDepth 100000 in
set_option maxHeartbeats 2000000 in
theorem format_any (t : TyV) (ht : t.len ≤ 9223372036854775807) (w : World) (htab : Tab10 w) : Calls Tryd.prog 9 #[.agg #[.int .i64 t.kind, .int .i64 t.len, .string t.nm]] w fun e w' => e = .returned (.string (fmtS t)) ∧ Below w.heap.size w w' := by
  obtain ⟨tk, tl, tn⟩ := t
  have hb := (Below.refl w.heap.size w).alloc (Nat.le_refl _) (tyObj ⟨tk, tl, tn⟩)
  dsimp only at ht hb ⊢
  have HB := Lib.hid hb
  have HTB := Lib.hid (Lib.tabIs_alloc htab (tyObj ⟨tk, tl, tn⟩))
  clear htab
  clear hb
  by_cases k1 : tk = 1
  · have HF := Lib.hid (show fmtS ⟨tk, tl, tn⟩ = ⟨#[105, 110, 116]⟩ by unfold fmtS; rw [if_pos k1])
    have e1 : (tk == 1) = true := by rw [k1]; rfl
    clear k1
    go_enter Tryd.func9, Tryd.ntmps9
    go_wp2_with (fail)
    go_ret
    exact ⟨by rw [HF.out]; rfl, HB.out⟩
  by_cases k2 : tk = 2
  · have HF := Lib.hid (show fmtS ⟨tk, tl, tn⟩ = ⟨#[98, 111, 111, 108]⟩ by unfold fmtS; rw [if_neg k1, if_pos k2])
    have e1 : (tk == 1) = false := by rw [k2]; rfl
    have e2 : (tk == 2) = true := by rw [k2]; rfl
    clear k1 k2
    go_enter Tryd.func9, Tryd.ntmps9
    go_wp2_with (fail)
    go_ret
    exact ⟨by rw [HF.out]; rfl, HB.out⟩
  by_cases k3 : tk = 3
  · have e1 : (tk == 1) = false := by rw [k3]; rfl
    have e2 : (tk == 2) = false := by rw [k3]; rfl
    have e3 : (tk == 3) = true := by rw [k3]; rfl
    by_cases hn : tl < 0
    · have HF := Lib.hid (show fmtS ⟨tk, tl, tn⟩ = ⟨#[]⟩ by unfold fmtS; rw [if_neg k1, if_neg k2, if_pos k3, if_pos hn])
      clear k1 k2 k3
      go_enter Tryd.func9, Tryd.ntmps9
      go_wp2_with (fail)
      go_ret
      exact ⟨by rw [HF.out]; rfl, HB.out⟩
    · have HF := Lib.hid (show fmtS ⟨tk, tl, tn⟩ = ((⟨#[105, 110, 116, 91]⟩ : ByteArray) ++ ⟨(Lib.decDigits tl.toNat).toArray⟩) ++ ⟨#[93]⟩ by unfold fmtS; rw [if_neg k1, if_neg k2, if_pos k3, if_neg hn])
      obtain ⟨m, rfl⟩ : ∃ m : Nat, tl = (m : Int) := ⟨tl.toNat, by omega⟩
      rw [Int.toNat_natCast] at HF
      have hm3 : m ≤ 9223372036854775807 := by omega
      have hs0 : (⟨(Lib.decDigits m).toArray⟩ : ByteArray).size ≤ 19 := by simpa [ByteArray.size] using dec_len 18 m (by omega)
      have HC := Lib.hid (Tryd.strconv_Itoa (m : Int) (by omega) (by omega) (w.alloc (tyObj ⟨tk, m, tn⟩)) HTB.out)
      rw [Lib.itoa_nonneg] at HC
      obtain ⟨ds, HDS⟩ : ∃ ds : ByteArray, Hid ((⟨(Lib.decDigits m).toArray⟩ : ByteArray) = ds) := ⟨_, Lib.hid rfl⟩
      rw [HDS.out] at hs0 HC HF
      have hs2 : ((⟨#[105, 110, 116, 91]⟩ : ByteArray) ++ ds).size ≤ 23 := by rw [ByteArray.size_append, show (⟨#[105, 110, 116, 91]⟩ : ByteArray).size = 4 from rfl]; omega
      have hs3 : (⟨#[105, 110, 116, 91]⟩ : ByteArray).size = 4 := rfl
      have hs4 : (⟨#[93]⟩ : ByteArray).size = 1 := rfl
      clear k1 k2 k3 hn
      go_enter Tryd.func9, Tryd.ntmps9
      go_wp2_with (fail)
      refine HC.out.mono ?_
      rintro e w2 ⟨rfl, kq, os, hw⟩
      have HB2 := Lib.hid (show Below w.heap.size w w2 by rw [hw]; exact HB.out.trans (Lib.below_grow _ _ HB.out.size kq os))
      clear hw
      go_wp2_with (fail)
      go_ret
      exact ⟨by rw [HF.out]; first | rfl | (simp; done) | skip, HB2.out⟩
  by_cases k4 : tk = 4
  · have HF := Lib.hid (show fmtS ⟨tk, tl, tn⟩ = tn by unfold fmtS; rw [if_neg k1, if_neg k2, if_neg k3, if_pos k4])
    have e1 : (tk == 1) = false := by rw [k4]; rfl
    have e2 : (tk == 2) = false := by rw [k4]; rfl
    have e3 : (tk == 3) = false := by rw [k4]; rfl
    have e4 : (tk == 4) = true := by rw [k4]; rfl
    clear k1 k2 k3 k4
    go_enter Tryd.func9, Tryd.ntmps9
    go_wp2_with (fail)
    go_ret
    exact ⟨by rw [HF.out]; rfl, HB.out⟩
  by_cases k5 : tk = 5
  · have HF := Lib.hid (show fmtS ⟨tk, tl, tn⟩ = ⟨#[97, 114, 114, 97, 121]⟩ by unfold fmtS; rw [if_neg k1, if_neg k2, if_neg k3, if_neg k4, if_pos k5])
    have e1 : (tk == 1) = false := by rw [k5]; rfl
    have e2 : (tk == 2) = false := by rw [k5]; rfl
    have e3 : (tk == 3) = false := by rw [k5]; rfl
    have e4 : (tk == 4) = false := by rw [k5]; rfl
    have e5 : (tk == 5) = true := by rw [k5]; rfl
    clear k1 k2 k3 k4 k5
    go_enter Tryd.func9, Tryd.ntmps9
    go_wp2_with (fail)
    go_ret
    exact ⟨by rw [HF.out]; rfl, HB.out⟩
  by_cases k6 : tk = 6
  · have HF := Lib.hid (show fmtS ⟨tk, tl, tn⟩ = ⟨#[105, 110, 116, 32, 111, 114, 32, 98, 111, 111, 108]⟩ by unfold fmtS; rw [if_neg k1, if_neg k2, if_neg k3, if_neg k4, if_neg k5, if_pos k6])
    have e1 : (tk == 1) = false := by rw [k6]; rfl
    have e2 : (tk == 2) = false := by rw [k6]; rfl
    have e3 : (tk == 3) = false := by rw [k6]; rfl
    have e4 : (tk == 4) = false := by rw [k6]; rfl
    have e5 : (tk == 5) = false := by rw [k6]; rfl
    have e6 : (tk == 6) = true := by rw [k6]; rfl
    clear k1 k2 k3 k4 k5 k6
    go_enter Tryd.func9, Tryd.ntmps9
    go_wp2_with (fail)
    go_ret
    exact ⟨by rw [HF.out]; rfl, HB.out⟩
  have HF := Lib.hid (show fmtS ⟨tk, tl, tn⟩ = ⟨#[]⟩ by unfold fmtS; rw [if_neg k1, if_neg k2, if_neg k3, if_neg k4, if_neg k5, if_neg k6])
  have e1 : (tk == 1) = false := by simpa using k1
  have e2 : (tk == 2) = false := by simpa using k2
  have e3 : (tk == 3) = false := by simpa using k3
  have e4 : (tk == 4) = false := by simpa using k4
  have e5 : (tk == 5) = false := by simpa using k5
  have e6 : (tk == 6) = false := by simpa using k6
  clear k1 k2 k3 k4 k5 k6
  go_enter Tryd.func9, Tryd.ntmps9
  go_wp2_with (fail)
  go_ret
  exact ⟨by rw [HF.out]; rfl, HB.out⟩
end Go.Proofs.YtnpcfmoiiecadaaDoor
