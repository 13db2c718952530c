/- What is proved: both Explains give the same steps. -/
import Derived.Test.YtmamajillkajoaaDoorShelf
import Derived.Test.YtmamajillkajoaaDoorTyValid
import Derived.Lib.ItoaMem
import Derived.Lib.AppendIntMem
import Derived.Lib.SmallJoins
import Derived.Test.YtmamajillkajoaaDoorCoBase
import Derived.Deep.Slices
import Derived.ChangeSlices
import Derived.ChangeSame
import Derived.Deep.Fields
import Derived.Test.YtmamajillkajoaaDoorCoFits
import Derived.Deep.Cut
import Derived.Deep.DeepCutAuto
set_option linter.unusedVariables false
namespace Go.Proofs.YtmamajillkajoaaDoor
open Go.RowKit Go.Shelf

/-- the table of powers of ten -/
abbrev Tab10 (w : World) : Prop := Lib.TabIs Tryd.prog w "internal/strconv.uint64pow10" .u64 Lib.pow10Tab
theorem dig_conv (n : Nat) (w : World) : (convert 79 9 (.slice (some ⟨w.heap.size, 0, none⟩) 1 1)).run Tryd.prog (w.alloc (.cells #[.int .u8 (48 + (n : Int) % 10)] 5)) = .ok (.string ⟨#[UInt8.ofNat (48 + n % 10)]⟩) (w.alloc (.cells #[.int .u8 (48 + (n : Int) % 10)] 5)) := by
  have h := run_convert_bytes_arg (P := Tryd.prog) (w.alloc (.cells #[.int .u8 (48 + (n : Int) % 10)] 5)) 79 5 Tryd.underlying79 Tryd.underlying5 w.heap.size 0 1 1 [48 + (n : Int) % 10] rfl (fun i hi => by
    obtain rfl : i = 0 := by omega
    exact Lib.cell_of_heap (heap_alloc_new w _) 0) 9 Tryd.underlying9
  rw [h]
  have e : (48 + (n : Int) % 10).toNat = 48 + n % 10 := by omega
  simp [strOfNums, e]
theorem dec_len : ∀ (k n : Nat), n < 10 ^ (k + 1) → (Lib.decDigits n).length ≤ k + 1
  | 0, n, h => by rw [Lib.decDigits_one (by omega)]; simp
  | k + 1, n, h => by
    by_cases h10 : n < 10
    · rw [Lib.decDigits_one h10]; simp
    · have e : n / 10 < 10 ^ (k + 1) := by rw [Nat.pow_succ] at h; omega
      have ih := dec_len k (n / 10) e
      rw [Lib.decDigits, dif_neg h10, List.length_append]
      simp
      omega
set_option maxRecDepth 100000 in
set_option maxHeartbeats 2000000 in
theorem decimal_any : ∀ (n : Nat) (w : World), n ≤ 9223372036854775807 → Calls Tryd.prog 41 #[.int .i64 (n : Int)] w fun e w' => e = .returned (.string ⟨(Lib.decDigits n).toArray⟩) ∧ Below w.heap.size w w' := by
  intro n
  induction n using Nat.strongRecOn with
  | ind n ih =>
    intro w hn
    have hn' : (n : Int) ≤ 9223372036854775807 := by omega
    have hcv := dig_conv n w
    obtain ⟨dg, HDG⟩ : ∃ dg : UInt8, Hid (UInt8.ofNat (48 + n % 10) = dg) := ⟨_, Lib.hid rfl⟩
    rw [HDG.out] at hcv
    have HB1 := Lib.hid ((Below.refl w.heap.size w).alloc (Nat.le_refl _) (.cells #[.int .u8 (48 + (n : Int) % 10)] 5))
    by_cases h10 : n < 10
    · have HD := Lib.hid (show Lib.decDigits n = [dg] by rw [Lib.decDigits_one h10, ← HDG.out, Nat.mod_eq_of_lt h10])
      clear ih
      go_enter Tryd.func41, Tryd.ntmps41
      go_wp2_with (fail)
      go_ret
      exact ⟨by rw [HD.out]; rfl, HB1.out⟩
    · obtain ⟨m, hm⟩ : ∃ m, n / 10 = m := ⟨_, rfl⟩
      have HD := Lib.hid (show Lib.decDigits n = Lib.decDigits m ++ [dg] by rw [Lib.decDigits, dif_neg h10, hm, HDG.out])
      have hme : (n : Int) / 10 = (m : Int) := by omega
      have HI := Lib.hid (fun W => ih m (by omega) W (by omega))
      have hlen := dec_len 18 m (by omega)
      have HLE := Lib.hid hlen
      clear ih hm
      go_enter Tryd.func41, Tryd.ntmps41
      go_wp2_with (fail)
      refine (HI.out _).mono ?_
      rintro e w2 ⟨rfl, hb2⟩
      have HB2 := Lib.hid (HB1.out.trans (hb2.mono HB1.out.size))
      clear hb2
      have hs1 : (⟨(Lib.decDigits m).toArray⟩ : ByteArray).size ≤ 19 := by simpa [ByteArray.size] using HLE.out
      go_wp2_with (fail)
      go_ret
      exact ⟨by rw [HD.out]; first | rfl | (simp [ByteArray.ext_iff]; done) | skip, HB2.out⟩
/-- the text of a type -/
def fmtS (t : TyV) : ByteArray :=
  if t.kind = 1 then ⟨#[105, 110, 116]⟩ else if t.kind = 2 then ⟨#[98, 111, 111, 108]⟩ else if t.kind = 3 then (if t.len < 0 then ⟨#[]⟩ else ((⟨#[105, 110, 116, 91]⟩ : ByteArray) ++ ⟨(Lib.decDigits t.len.toNat).toArray⟩) ++ ⟨#[93]⟩)
  else if t.kind = 4 then t.nm else if t.kind = 5 then ⟨#[97, 114, 114, 97, 121]⟩ else if t.kind = 6 then ⟨#[105, 110, 116, 32, 111, 114, 32, 98, 111, 111, 108]⟩ else ⟨#[]⟩
abbrev tyObj (t : TyV) : Obj := .cells #[.int .i64 t.kind, .int .i64 t.len, .string t.nm] 39
set_option maxRecDepth 100000 in
set_option maxHeartbeats 2000000 in
theorem format_any (t : TyV) (ht : t.len ≤ 9223372036854775807) (w : World) (htab : Tab10 w) : Calls Tryd.prog 27 #[.agg #[.int .i64 t.kind, .int .i64 t.len, .string t.nm]] w fun e w' => e = .returned (.string (fmtS t)) ∧ Below w.heap.size w w' := by
  obtain ⟨tk, tl, tn⟩ := t
  have hb := (Below.refl w.heap.size w).alloc (Nat.le_refl _) (tyObj ⟨tk, tl, tn⟩)
  dsimp only at ht hb ⊢
  have HB := Lib.hid hb
  have HTB := Lib.hid (Lib.tabIs_alloc htab (tyObj ⟨tk, tl, tn⟩))
  clear htab
  clear hb
  by_cases k1 : tk = 1
  · have HF := Lib.hid (show fmtS ⟨tk, tl, tn⟩ = ⟨#[105, 110, 116]⟩ by unfold fmtS; rw [if_pos k1])
    have e1 : (tk == 1) = true := by rw [k1]; rfl
    clear k1
    go_enter Tryd.func27, Tryd.ntmps27
    go_wp2_with (fail)
    go_ret
    exact ⟨by rw [HF.out]; rfl, HB.out⟩
  by_cases k2 : tk = 2
  · have HF := Lib.hid (show fmtS ⟨tk, tl, tn⟩ = ⟨#[98, 111, 111, 108]⟩ by unfold fmtS; rw [if_neg k1, if_pos k2])
    have e1 : (tk == 1) = false := by rw [k2]; rfl
    have e2 : (tk == 2) = true := by rw [k2]; rfl
    clear k1 k2
    go_enter Tryd.func27, Tryd.ntmps27
    go_wp2_with (fail)
    go_ret
    exact ⟨by rw [HF.out]; rfl, HB.out⟩
  by_cases k3 : tk = 3
  · have e1 : (tk == 1) = false := by rw [k3]; rfl
    have e2 : (tk == 2) = false := by rw [k3]; rfl
    have e3 : (tk == 3) = true := by rw [k3]; rfl
    by_cases hn : tl < 0
    · have HF := Lib.hid (show fmtS ⟨tk, tl, tn⟩ = ⟨#[]⟩ by unfold fmtS; rw [if_neg k1, if_neg k2, if_pos k3, if_pos hn])
      clear k1 k2 k3
      go_enter Tryd.func27, Tryd.ntmps27
      go_wp2_with (fail)
      go_ret
      exact ⟨by rw [HF.out]; rfl, HB.out⟩
    · have HF := Lib.hid (show fmtS ⟨tk, tl, tn⟩ = ((⟨#[105, 110, 116, 91]⟩ : ByteArray) ++ ⟨(Lib.decDigits tl.toNat).toArray⟩) ++ ⟨#[93]⟩ by unfold fmtS; rw [if_neg k1, if_neg k2, if_pos k3, if_neg hn])
      obtain ⟨m, rfl⟩ : ∃ m : Nat, tl = (m : Int) := ⟨tl.toNat, by omega⟩
      rw [Int.toNat_natCast] at HF
      have hm3 : m ≤ 9223372036854775807 := by omega
      have hs0 : (⟨(Lib.decDigits m).toArray⟩ : ByteArray).size ≤ 19 := by simpa [ByteArray.size] using dec_len 18 m (by omega)
      have HC := Lib.hid (Tryd.strconv_Itoa (m : Int) (by omega) (by omega) (w.alloc (tyObj ⟨tk, m, tn⟩)) HTB.out)
      rw [Lib.itoa_nonneg] at HC
      obtain ⟨ds, HDS⟩ : ∃ ds : ByteArray, Hid ((⟨(Lib.decDigits m).toArray⟩ : ByteArray) = ds) := ⟨_, Lib.hid rfl⟩
      rw [HDS.out] at hs0 HC HF
      have hs2 : ((⟨#[105, 110, 116, 91]⟩ : ByteArray) ++ ds).size ≤ 23 := by rw [ByteArray.size_append, show (⟨#[105, 110, 116, 91]⟩ : ByteArray).size = 4 from rfl]; omega
      have hs3 : (⟨#[105, 110, 116, 91]⟩ : ByteArray).size = 4 := rfl
      have hs4 : (⟨#[93]⟩ : ByteArray).size = 1 := rfl
      clear k1 k2 k3 hn
      go_enter Tryd.func27, Tryd.ntmps27
      go_wp2_with (fail)
      refine HC.out.mono ?_
      rintro e w2 ⟨rfl, kq, os, hw⟩
      have HB2 := Lib.hid (show Below w.heap.size w w2 by rw [hw]; exact HB.out.trans (Lib.below_grow _ _ HB.out.size kq os))
      clear hw
      go_wp2_with (fail)
      go_ret
      exact ⟨by rw [HF.out]; first | rfl | (simp; done) | skip, HB2.out⟩
  by_cases k4 : tk = 4
  · have HF := Lib.hid (show fmtS ⟨tk, tl, tn⟩ = tn by unfold fmtS; rw [if_neg k1, if_neg k2, if_neg k3, if_pos k4])
    have e1 : (tk == 1) = false := by rw [k4]; rfl
    have e2 : (tk == 2) = false := by rw [k4]; rfl
    have e3 : (tk == 3) = false := by rw [k4]; rfl
    have e4 : (tk == 4) = true := by rw [k4]; rfl
    clear k1 k2 k3 k4
    go_enter Tryd.func27, Tryd.ntmps27
    go_wp2_with (fail)
    go_ret
    exact ⟨by rw [HF.out]; rfl, HB.out⟩
  by_cases k5 : tk = 5
  · have HF := Lib.hid (show fmtS ⟨tk, tl, tn⟩ = ⟨#[97, 114, 114, 97, 121]⟩ by unfold fmtS; rw [if_neg k1, if_neg k2, if_neg k3, if_neg k4, if_pos k5])
    have e1 : (tk == 1) = false := by rw [k5]; rfl
    have e2 : (tk == 2) = false := by rw [k5]; rfl
    have e3 : (tk == 3) = false := by rw [k5]; rfl
    have e4 : (tk == 4) = false := by rw [k5]; rfl
    have e5 : (tk == 5) = true := by rw [k5]; rfl
    clear k1 k2 k3 k4 k5
    go_enter Tryd.func27, Tryd.ntmps27
    go_wp2_with (fail)
    go_ret
    exact ⟨by rw [HF.out]; rfl, HB.out⟩
  by_cases k6 : tk = 6
  · have HF := Lib.hid (show fmtS ⟨tk, tl, tn⟩ = ⟨#[105, 110, 116, 32, 111, 114, 32, 98, 111, 111, 108]⟩ by unfold fmtS; rw [if_neg k1, if_neg k2, if_neg k3, if_neg k4, if_neg k5, if_pos k6])
    have e1 : (tk == 1) = false := by rw [k6]; rfl
    have e2 : (tk == 2) = false := by rw [k6]; rfl
    have e3 : (tk == 3) = false := by rw [k6]; rfl
    have e4 : (tk == 4) = false := by rw [k6]; rfl
    have e5 : (tk == 5) = false := by rw [k6]; rfl
    have e6 : (tk == 6) = true := by rw [k6]; rfl
    clear k1 k2 k3 k4 k5 k6
    go_enter Tryd.func27, Tryd.ntmps27
    go_wp2_with (fail)
    go_ret
    exact ⟨by rw [HF.out]; rfl, HB.out⟩
  have HF := Lib.hid (show fmtS ⟨tk, tl, tn⟩ = ⟨#[]⟩ by unfold fmtS; rw [if_neg k1, if_neg k2, if_neg k3, if_neg k4, if_neg k5, if_neg k6])
  have e1 : (tk == 1) = false := by simpa using k1
  have e2 : (tk == 2) = false := by simpa using k2
  have e3 : (tk == 3) = false := by simpa using k3
  have e4 : (tk == 4) = false := by simpa using k4
  have e5 : (tk == 5) = false := by simpa using k5
  have e6 : (tk == 6) = false := by simpa using k6
  clear k1 k2 k3 k4 k5 k6
  go_enter Tryd.func27, Tryd.ntmps27
  go_wp2_with (fail)
  go_ret
  exact ⟨by rw [HF.out]; rfl, HB.out⟩
set_option maxRecDepth 100000 in
set_option maxHeartbeats 2000000 in
theorem r_format_any (t : TyV) (ht : t.len ≤ 9223372036854775807) (w : World) : Calls Tryd.prog 28 #[.agg #[.int .i64 t.kind, .int .i64 t.len, .string t.nm]] w fun e w' => e = .returned (.string (fmtS t)) ∧ Below w.heap.size w w' := by
  obtain ⟨tk, tl, tn⟩ := t
  have hb := (Below.refl w.heap.size w).alloc (Nat.le_refl _) (tyObj ⟨tk, tl, tn⟩)
  dsimp only at ht hb ⊢
  have HB := Lib.hid hb
  clear hb
  by_cases k1 : tk = 1
  · have HF := Lib.hid (show fmtS ⟨tk, tl, tn⟩ = ⟨#[105, 110, 116]⟩ by unfold fmtS; rw [if_pos k1])
    have e1 : (tk == 1) = true := by rw [k1]; rfl
    clear k1
    go_enter Tryd.func28, Tryd.ntmps28
    go_wp2_with (fail)
    go_ret
    exact ⟨by rw [HF.out]; rfl, HB.out⟩
  by_cases k2 : tk = 2
  · have HF := Lib.hid (show fmtS ⟨tk, tl, tn⟩ = ⟨#[98, 111, 111, 108]⟩ by unfold fmtS; rw [if_neg k1, if_pos k2])
    have e1 : (tk == 1) = false := by rw [k2]; rfl
    have e2 : (tk == 2) = true := by rw [k2]; rfl
    clear k1 k2
    go_enter Tryd.func28, Tryd.ntmps28
    go_wp2_with (fail)
    go_ret
    exact ⟨by rw [HF.out]; rfl, HB.out⟩
  by_cases k3 : tk = 3
  · have e1 : (tk == 1) = false := by rw [k3]; rfl
    have e2 : (tk == 2) = false := by rw [k3]; rfl
    have e3 : (tk == 3) = true := by rw [k3]; rfl
    by_cases hn : tl < 0
    · have HF := Lib.hid (show fmtS ⟨tk, tl, tn⟩ = ⟨#[]⟩ by unfold fmtS; rw [if_neg k1, if_neg k2, if_pos k3, if_pos hn])
      clear k1 k2 k3
      go_enter Tryd.func28, Tryd.ntmps28
      go_wp2_with (fail)
      go_ret
      exact ⟨by rw [HF.out]; rfl, HB.out⟩
    · have HF := Lib.hid (show fmtS ⟨tk, tl, tn⟩ = ((⟨#[105, 110, 116, 91]⟩ : ByteArray) ++ ⟨(Lib.decDigits tl.toNat).toArray⟩) ++ ⟨#[93]⟩ by unfold fmtS; rw [if_neg k1, if_neg k2, if_pos k3, if_neg hn])
      obtain ⟨m, rfl⟩ : ∃ m : Nat, tl = (m : Int) := ⟨tl.toNat, by omega⟩
      rw [Int.toNat_natCast] at HF
      have hm3 : m ≤ 9223372036854775807 := by omega
      have hs0 : (⟨(Lib.decDigits m).toArray⟩ : ByteArray).size ≤ 19 := by simpa [ByteArray.size] using dec_len 18 m (by omega)
      have HC := Lib.hid (decimal_any m (w.alloc (tyObj ⟨tk, m, tn⟩)) hm3)
      obtain ⟨ds, HDS⟩ : ∃ ds : ByteArray, Hid ((⟨(Lib.decDigits m).toArray⟩ : ByteArray) = ds) := ⟨_, Lib.hid rfl⟩
      rw [HDS.out] at hs0 HC HF
      have hs2 : ((⟨#[105, 110, 116, 91]⟩ : ByteArray) ++ ds).size ≤ 23 := by rw [ByteArray.size_append, show (⟨#[105, 110, 116, 91]⟩ : ByteArray).size = 4 from rfl]; omega
      have hs3 : (⟨#[105, 110, 116, 91]⟩ : ByteArray).size = 4 := rfl
      have hs4 : (⟨#[93]⟩ : ByteArray).size = 1 := rfl
      clear k1 k2 k3 hn
      go_enter Tryd.func28, Tryd.ntmps28
      go_wp2_with (fail)
      refine HC.out.mono ?_
      rintro e w2 ⟨rfl, hb2⟩
      have HB2 := Lib.hid (HB.out.trans (hb2.mono HB.out.size))
      clear hb2
      go_wp2_with (fail)
      go_ret
      exact ⟨by rw [HF.out]; first | rfl | (simp; done) | skip, HB2.out⟩
  by_cases k4 : tk = 4
  · have HF := Lib.hid (show fmtS ⟨tk, tl, tn⟩ = tn by unfold fmtS; rw [if_neg k1, if_neg k2, if_neg k3, if_pos k4])
    have e1 : (tk == 1) = false := by rw [k4]; rfl
    have e2 : (tk == 2) = false := by rw [k4]; rfl
    have e3 : (tk == 3) = false := by rw [k4]; rfl
    have e4 : (tk == 4) = true := by rw [k4]; rfl
    clear k1 k2 k3 k4
    go_enter Tryd.func28, Tryd.ntmps28
    go_wp2_with (fail)
    go_ret
    exact ⟨by rw [HF.out]; rfl, HB.out⟩
  by_cases k5 : tk = 5
  · have HF := Lib.hid (show fmtS ⟨tk, tl, tn⟩ = ⟨#[97, 114, 114, 97, 121]⟩ by unfold fmtS; rw [if_neg k1, if_neg k2, if_neg k3, if_neg k4, if_pos k5])
    have e1 : (tk == 1) = false := by rw [k5]; rfl
    have e2 : (tk == 2) = false := by rw [k5]; rfl
    have e3 : (tk == 3) = false := by rw [k5]; rfl
    have e4 : (tk == 4) = false := by rw [k5]; rfl
    have e5 : (tk == 5) = true := by rw [k5]; rfl
    clear k1 k2 k3 k4 k5
    go_enter Tryd.func28, Tryd.ntmps28
    go_wp2_with (fail)
    go_ret
    exact ⟨by rw [HF.out]; rfl, HB.out⟩
  by_cases k6 : tk = 6
  · have HF := Lib.hid (show fmtS ⟨tk, tl, tn⟩ = ⟨#[105, 110, 116, 32, 111, 114, 32, 98, 111, 111, 108]⟩ by unfold fmtS; rw [if_neg k1, if_neg k2, if_neg k3, if_neg k4, if_neg k5, if_pos k6])
    have e1 : (tk == 1) = false := by rw [k6]; rfl
    have e2 : (tk == 2) = false := by rw [k6]; rfl
    have e3 : (tk == 3) = false := by rw [k6]; rfl
    have e4 : (tk == 4) = false := by rw [k6]; rfl
    have e5 : (tk == 5) = false := by rw [k6]; rfl
    have e6 : (tk == 6) = true := by rw [k6]; rfl
    clear k1 k2 k3 k4 k5 k6
    go_enter Tryd.func28, Tryd.ntmps28
    go_wp2_with (fail)
    go_ret
    exact ⟨by rw [HF.out]; rfl, HB.out⟩
  have HF := Lib.hid (show fmtS ⟨tk, tl, tn⟩ = ⟨#[]⟩ by unfold fmtS; rw [if_neg k1, if_neg k2, if_neg k3, if_neg k4, if_neg k5, if_neg k6])
  have e1 : (tk == 1) = false := by simpa using k1
  have e2 : (tk == 2) = false := by simpa using k2
  have e3 : (tk == 3) = false := by simpa using k3
  have e4 : (tk == 4) = false := by simpa using k4
  have e5 : (tk == 5) = false := by simpa using k5
  have e6 : (tk == 6) = false := by simpa using k6
  clear k1 k2 k3 k4 k5 k6
  go_enter Tryd.func28, Tryd.ntmps28
  go_wp2_with (fail)
  go_ret
  exact ⟨by rw [HF.out]; rfl, HB.out⟩
end Go.Proofs.YtmamajillkajoaaDoor
set_option linter.unusedVariables false
namespace Go.Proofs.YtmamajillkajoaaDoor
open Go.RowKit Go.Joins Go.ChangeShapes Go.WideShapes Go.Deep

theorem co_intCells : Tryd.prog.cellsOf 3 = 1 := by kernel_rfl
/-- a slice's address, nil or not, below block n₀, where these numbers lie -/
def CZRow (n₀ : Nat) (w : World) (A : Option Addr) (l : List Int) : Prop :=
  0 < l.length → ∃ b off, A = some ⟨b, off, none⟩ ∧ b < n₀ ∧ ∀ (i : Nat) (h : i < l.length), w.cell? ⟨b, off + i, none⟩ = some (.int .i64 l[i])
/-- what is known of an argument's list: its room, its size, its numbers -/
def CZArg (W : World) (A : Option Addr) (c : Nat) (l : List Int) : Prop := l.length ≤ c ∧ l.length ≤ 9223372036854775807 ∧ CZRow W.heap.size W A l ∧ ∀ i, -9223372036854775808 ≤ l.getD i 0 ∧ l.getD i 0 ≤ 9223372036854775807
set_option maxRecDepth 100000 in
theorem co_open_zs {H : Type} {enc : TypeId × Value → H} {W : World} {base : Nat} {v : Value} {d : DataW H} {p : List MemPlace}
    (hv : Value.okWide Tryd.prog W .any base 23 v) (h : DataW.Trod enc Tryd.prog W 0 (fun _ => true) true 23 v d p) :
    ∃ (A : Option Addr) (c : Nat) (l : List Int), v = .slice A l.length c ∧ CZArg W A c l := by
  obtain ⟨a, len, cap, rfl⟩ := okWide_slice Tryd.underlying23 hv
  obtain ⟨fuel, hf⟩ := h
  rcases open_ints Tryd.underlying23 Tryd.underlying3 co_intCells hf with ⟨hcs, hx⟩ | ⟨a', len', cap', zs, hcs, _, hl, hm, hlen, hx, hcell, hwf⟩
  · simp [Value.cells] at hcs
    obtain ⟨rfl, rfl, rfl⟩ := hcs
    exact ⟨none, 0, [], rfl, by simp, by simp, fun h0 => absurd h0 (by simp), fun i => by simp⟩
  · simp [Value.cells] at hcs
    obtain ⟨rfl, rfl, rfl⟩ := hcs
    have hle : len ≤ zs.length := by rw [hlen]; simp; exact hl
    have hll : (zs.take len).length = len := by rw [List.length_take]; omega
    refine ⟨some a', cap, zs.take len, by rw [hll], by rw [hll]; exact hl, by rw [hll]; unfold maxLen at hm; omega, fun h0 => ?_, fun i => ?_⟩
    · rw [hll] at h0
      obtain ⟨bk, off, spot⟩ := a'
      have h1 := hcell 0 (by omega)
      have hspot : spot = none := by simpa [Addr.add] using World.cell?_spot h1
      subst hspot
      have hbk : bk < W.heap.size := World.block_lt_of_cell? W _ (by simpa [Addr.add] using h1)
      refine ⟨bk, off, rfl, hbk, fun i hil => ?_⟩
      have h2 := hcell i (by rw [hll] at hil; omega)
      rw [Go.WideShapes.add_plain] at h2
      rw [h2]
      have : i < zs.length := by rw [hll] at hil; omega
      simp [List.getD_eq_getElem?_getD, List.getElem?_eq_getElem this]
    · rcases Nat.lt_or_ge i (zs.take len).length with hi | hi
      · have hm2 : (zs.take len)[i] ∈ zs := List.mem_of_mem_take (List.getElem_mem hi)
        have hw := hwf _ hm2
        simp [Lit.wf, IntKind.min, IntKind.max, IntKind.bits, IntKind.signed] at hw
        rw [List.getD_eq_getElem?_getD, List.getElem?_eq_getElem hi]
        simp only [Option.getD_some, List.getElem_take]
        omega
      · rw [List.getD_eq_getElem?_getD, List.getElem?_eq_none hi]
        simp
end Go.Proofs.YtmamajillkajoaaDoor
set_option linter.unusedVariables false
namespace Go.Proofs.YtmamajillkajoaaDoor
open Go.RowKit Go.Shelf

/-- a step -/
structure StpV where
  kind : Int
  lo : Int
  hi : Int
  tx : ByteArray
def stpOf (c : Con) : StpV := ⟨c.kind, c.lo, c.hi, if c.kind = 0 then fmtS c.mark else ⟨#[]⟩⟩
def inB (l : List Con) (i : Int) : Bool := decide (0 ≤ i) && decide (i < l.length)
def stps (l : List Con) (ch : List Int) : List StpV := ch.filterMap (fun i => (l[i.toNat]?).map stpOf)
/-- what Explain gives -/
def exps (l : List Con) (ch : List Int) : List StpV := if ch.all (inB l) then stps l ch else []
def scl : List StpV → List Value
  | [] => []
  | x :: xs => .int .i64 x.kind :: .int .i64 x.lo :: .int .i64 x.hi :: .string x.tx :: scl xs
theorem scl_append : ∀ (l m : List StpV), scl (l ++ m) = scl l ++ scl m
  | [], m => rfl
  | x :: xs, m => by simp [scl, scl_append xs m]
theorem scl_len : ∀ (l : List StpV), (scl l).length = l.length * 4
  | [] => rfl
  | x :: xs => by simp [scl, scl_len xs]; omega
theorem scl_one : ∀ (l : List StpV), ∀ u ∈ scl l, u.oneCell' = true
  | [], u, hu => by simp [scl] at hu
  | x :: xs, u, hu => by
    simp only [scl, List.mem_cons] at hu
    rcases hu with rfl | rfl | rfl | rfl | hu
    all_goals first | rfl | exact scl_one xs u hu
theorem scl_get : ∀ (l : List StpV) (i : Nat) (h : i < l.length), (scl l)[i * 4]? = some (.int .i64 l[i].kind) ∧ (scl l)[i * 4 + 1]? = some (.int .i64 l[i].lo) ∧ (scl l)[i * 4 + 2]? = some (.int .i64 l[i].hi) ∧ (scl l)[i * 4 + 3]? = some (.string l[i].tx)
  | [], i, h => by simp at h
  | x :: xs, 0, h => ⟨rfl, rfl, rfl, rfl⟩
  | x :: xs, i + 1, h => by
    have ih := scl_get xs i (by simpa using h)
    rw [show (i + 1) * 4 = i * 4 + 4 by omega]
    simpa [scl] using ih
/-- steps in a row that the call owns -/
def SOwn (w : World) (B : Nat) (v : Value) (l : List StpV) : Prop := w.ownsRow B 58 4 v l.length (scl l)
def SRow (w : World) (A : Option Addr) (l : List StpV) : Prop :=
  0 < l.length → ∃ b off, A = some ⟨b, off, none⟩ ∧ b < w.heap.size ∧ ∀ (i : Nat) (h : i < l.length), w.cell? ⟨b, off + i * 4, none⟩ = some (.int .i64 l[i].kind) ∧ w.cell? ⟨b, off + i * 4 + 1, none⟩ = some (.int .i64 l[i].lo) ∧ w.cell? ⟨b, off + i * 4 + 2, none⟩ = some (.int .i64 l[i].hi) ∧ w.cell? ⟨b, off + i * 4 + 3, none⟩ = some (.string l[i].tx)
theorem SRow.later {w w' : World} {A : Option Addr} {l : List StpV} (h : SRow w A l) (hb : Below w.heap.size w w') : SRow w' A l := fun h0 => by
  obtain ⟨b, off, h1, h2, h3⟩ := h h0
  refine ⟨b, off, h1, Nat.lt_of_lt_of_le h2 hb.size, fun i hi => ?_⟩
  obtain ⟨e0, e1, e2, e3⟩ := h3 i hi
  exact ⟨(hb.cell (p := ⟨b, off + i * 4, none⟩) h2).trans e0, (hb.cell (p := ⟨b, off + i * 4 + 1, none⟩) h2).trans e1, (hb.cell (p := ⟨b, off + i * 4 + 2, none⟩) h2).trans e2, (hb.cell (p := ⟨b, off + i * 4 + 3, none⟩) h2).trans e3⟩
theorem SOwn.later {w w' : World} {B : Nat} {v : Value} {l : List StpV} (h : SOwn w B v l) (hb : Below w.heap.size w w') : SOwn w' B v l :=
  own_stays h fun b e => by
    obtain ⟨q1, q2, cs, q3⟩ := own_block' h e
    rw [hb.block _ q2]
theorem SOwn.srow {w : World} {B n c : Nat} {A : Option Addr} {l : List StpV} (h : SOwn w B (.slice A n c) l) (hn : l.length = n) : SRow w A l := fun h0 => by
  rcases h.2 with ⟨g1, g2⟩ | ⟨b, cap, cur, g1, g2, g3, g4, g5, g6, g7⟩
  · omega
  · cases g1
    have key : ∀ j, j < l.length * 4 → w.cell? ⟨b, j, none⟩ = (scl l)[j]? := fun j hj => by
      rw [← g7, List.getElem?_take, if_pos (by omega)]
      simpa using Lib.cell_of_heap g3 j
    refine ⟨b, 0, rfl, (Array.getElem?_eq_some_iff.1 g3).1, fun i hi => ?_⟩
    obtain ⟨e0, e1, e2, e3⟩ := scl_get l i hi
    rw [Nat.zero_add]
    exact ⟨(key _ (by omega)).trans e0, (key _ (by omega)).trans e1, (key _ (by omega)).trans e2, (key _ (by omega)).trans e3⟩
/-- a step in a variable -/
def SBox (w : World) (sb : Nat) (x : StpV) : Prop := w.heap[sb]? = some (.cells #[.int .i64 x.kind, .int .i64 x.lo, .int .i64 x.hi, .string x.tx] 58 (0, 0))
theorem SBox.later {w w' : World} {sb : Nat} {x : StpV} (h : SBox w sb x) (hb : Below w.heap.size w w') : SBox w' sb x := (hb.block _ (Array.getElem?_eq_some_iff.1 h).1).trans h
theorem SBox.set {w : World} {sb : Nat} {k lo hi : Int} {t : ByteArray} (h : SBox w sb ⟨k, lo, hi, t⟩) (u : ByteArray) : SBox (w.setCell ⟨sb, 3, none⟩ (.string u)) sb ⟨k, lo, hi, u⟩ := by
  have h1 := hset (i := 3) h (.string u)
  exact h1
theorem infoStp : (Tryd.prog.info? 58).map (fun i => (i.zero, i.size, i.bytes)) = some (some (.agg #[.int .i64 0, .int .i64 0, .int .i64 0, .string ⟨#[]⟩]), 4, 40) := by kernel_rfl
/-- what an Explain answers -/
def ExRes (w : World) (l : List Con) (ch : List Int) (e : Ending) (w' : World) : Prop :=
  ∃ A c, e = .returned (.slice A (exps l ch).length c) ∧ SRow w' A (exps l ch) ∧ Below w.heap.size w w'
theorem exps_no {l : List Con} {ch : List Int} {j : Nat} (hj : j < ch.length) (h : inB l ch[j] = false) : exps l ch = [] := by
  unfold exps
  rw [if_neg]
  intro ha
  have := List.all_eq_true.1 ha _ (List.getElem_mem hj)
  rw [h] at this
  cases this
theorem exps_yes {l : List Con} {ch : List Int} (h : ∀ j (hj : j < ch.length), inB l ch[j] = true) : exps l ch = stps l ch := by
  unfold exps
  rw [if_pos]
  refine List.all_eq_true.2 fun x hx => ?_
  obtain ⟨j, hj, rfl⟩ := List.getElem_of_mem hx
  exact h j hj
theorem stps_snoc {l : List Con} {ch : List Int} {j : Nat} {x : Con} (hj : j < ch.length) (h : l[ch[j].toNat]? = some x) : stps l (ch.take (j + 1)) = stps l (ch.take j) ++ [stpOf x] := by
  unfold stps
  rw [List.take_succ_eq_append_getElem hj, List.filterMap_append]
  simp [h]
theorem stps_len (l : List Con) (ch : List Int) : (stps l ch).length ≤ ch.length := List.length_filterMap_le _ _
set_option maxRecDepth 100000 in
set_option maxHeartbeats 4000000 in
theorem r_explain_any (A C : Option Addr) (c d : Nat) (l : List Con) (ch : List Int) (w : World) (hl : l.length ≤ 1000000) (hch : ch.length ≤ 1000000) (hr : CRow w.heap.size w A l) (hc : CZRow w.heap.size w C ch) (hok : ∀ x ∈ l, x.mark.len ≤ 9223372036854775807) :
    Calls Tryd.prog 12 #[.slice A l.length c, .slice C ch.length d] w (ExRes w l ch) := by
  obtain ⟨i0, hi0, hz0, hz1, hz2⟩ := info_parts infoStp
  have HR := Lib.hid hr
  have HC := Lib.hid hc
  have HOK := Lib.hid hok
  clear hr hc hok
  go_enter Tryd.func12, Tryd.ntmps12
  go_wp2_with (fail)
  have HO1 := Lib.hid (show SOwn (w.alloc (.cells #[] 58)) w.heap.size (.slice (some ⟨w.heap.size, 0, none⟩) 0 0) [] from World.ownsRow_lit w #[] 0 (Nat.le_refl _) (by decide) (by simp))
  have HB1 := Lib.hid ((Below.refl w.heap.size w).alloc (Nat.le_refl _) (.cells #[] 58))
  generalize (w.alloc (.cells #[] 58)) = w1 at *
  go_loopw [5, 6] (fun v i wr => ∃ (j : Nat) (X : Option Addr) (cx : Nat), j ≤ ch.length ∧ i = .int .i64 (j : Int) ∧ v = .slice X (stps l (ch.take j)).length cx ∧ Hid (∀ q (hq : q < ch.length), q < j → inB l ch[q] = true) ∧ Hid (SOwn wr w.heap.size v (stps l (ch.take j))) ∧ Hid (Below w.heap.size w wr)) (fun _ i _ => ch.length - (intOf i).toNat)
  case atStart => exact ⟨0, _, _, Nat.zero_le _, rfl, rfl, Lib.hid (fun q hq h => by omega), HO1, HB1⟩
  case round =>
    obtain ⟨j, X, cx, hj, rfl, rfl, hin, hown, hbw⟩ := hrel
    by_cases hlt : j < ch.length
    · obtain ⟨cb, co, rfl, hcb, hcc⟩ := HC.out (by omega)
      have c0 := (hbw.out.cell (p := ⟨cb, co + j, none⟩) hcb).trans (hcc j hlt)
      obtain ⟨z, HZ⟩ : ∃ z, Hid (ch[j] = z) := ⟨_, Lib.hid rfl⟩
      rw [HZ.out] at c0
      clear hcc
      by_cases hz : z < 0
      · have HE := Lib.hid (exps_no (l := l) hlt (by rw [HZ.out]; unfold inB; simp; omega))
        go_wp2_with (fail)
        go_ret
        exact ⟨none, 0, by rw [HE.out]; rfl, by rw [HE.out]; exact fun h => by simp at h, hbw.out⟩
      · obtain ⟨i, rfl⟩ : ∃ i : Nat, z = (i : Int) := ⟨z.toNat, by omega⟩
        by_cases hi : i < l.length
        · obtain ⟨ab, off, rfl, hab, hcs⟩ := HR.out (by omega)
          obtain ⟨r0, r1, r2, r3, r4, r5, r6, r7⟩ := (hcs i hi).below hbw.out hab
          obtain ⟨x, HX⟩ : ∃ x, Hid (l[i] = x) := ⟨_, Lib.hid rfl⟩
          rw [HX.out] at r0 r1 r2 r3 r4 r5 r6 r7
          have HML := Lib.hid (show x.mark.len ≤ 9223372036854775807 from HOK.out x (by rw [← HX.out]; exact List.getElem_mem hi))
          have HSN := Lib.hid (stps_snoc (l := l) (x := x) hlt (by rw [HZ.out, Int.toNat_natCast, List.getElem?_eq_getElem hi, HX.out]))
          have HIN := Lib.hid (show ∀ q (hq : q < ch.length), q < j + 1 → inB l ch[q] = true from fun q hq h => by
            rcases Nat.lt_or_ge q j with g | g
            · exact hin.out q hq g
            · obtain rfl : q = j := by omega
              rw [HZ.out]; unfold inB; simp; omega)
          have hsl := stps_len l (ch.take j)
          have htl : (ch.take j).length ≤ j := by rw [List.length_take]; omega
          have hL0 : (stps l (ch.take j)).length ≤ 1000000 := by omega
          clear hcs hsl htl
          obtain ⟨L, HL⟩ : ∃ L, Hid (stps l (ch.take j) = L) := ⟨_, Lib.hid rfl⟩
          rw [HL.out] at hown HSN hL0 ⊢
          have hb1 := (Below.refl wr.heap.size wr).alloc (Nat.le_refl _) (cObj x)
          have hn1 := heap_alloc_new wr (cObj x)
          obtain ⟨n0, n1, n2, n3, n4, n5, n6, n7⟩ := (show _ ∧ _ ∧ _ ∧ _ ∧ _ ∧ _ ∧ _ ∧ _ from ⟨Lib.cell_of_heap hn1 0, Lib.cell_of_heap hn1 1, Lib.cell_of_heap hn1 2, Lib.cell_of_heap hn1 3, Lib.cell_of_heap hn1 4, Lib.cell_of_heap hn1 5, Lib.cell_of_heap hn1 6, Lib.cell_of_heap hn1 7⟩)
          have hb2 := hb1.alloc hb1.size (.cells #[.int .i64 x.kind, .int .i64 x.lo, .int .i64 x.hi, .string ⟨#[]⟩] 58)
          have hn2 := heap_alloc_new (wr.alloc (cObj x)) (.cells #[.int .i64 x.kind, .int .i64 x.lo, .int .i64 x.hi, .string ⟨#[]⟩] 58)
          rw [World.size_alloc] at hn2
          have hn3 := (heap_alloc_old (wr.alloc (cObj x)) (.cells #[.int .i64 x.kind, .int .i64 x.lo, .int .i64 x.hi, .string ⟨#[]⟩] 58) (by simp)).trans hn1
          go_upto_if 46 with (fail)
          clear n0 n1 n2 n3 n4 n5 n6 n7 hn1 hb1 c0 r0 r1 r2 r3 r4 r5 r6 r7
          generalize ((wr.alloc (cObj x)).alloc (.cells #[.int .i64 x.kind, .int .i64 x.lo, .int .i64 x.hi, .string ⟨#[]⟩] 58)) = w2 at *
          have HBX := Lib.hid (show SBox w2 (wr.heap.size + 1) ⟨x.kind, x.lo, x.hi, ⟨#[]⟩⟩ from hn2)
          have HB2 := Lib.hid hb2
          have m3 := Lib.cell_of_heap hn3 3
          have m4 := Lib.cell_of_heap hn3 4
          have m5 := Lib.cell_of_heap hn3 5
          change w2.cell? ⟨wr.heap.size, 3, none⟩ = some (.int .i64 x.mark.kind) at m3
          change w2.cell? ⟨wr.heap.size, 4, none⟩ = some (.int .i64 x.mark.len) at m4
          change w2.cell? ⟨wr.heap.size, 5, none⟩ = some (.string x.mark.nm) at m5
          clear hn2 hn3 hb2
          go_cut [8] (fun s8 wx => s8 = .pointer (some ⟨wr.heap.size + 1, 0, none⟩) ∧ Hid (SBox wx (wr.heap.size + 1) (stpOf x)) ∧ Hid (Below wr.heap.size wr wx))
          case first =>
            by_cases k0 : x.kind = 0
            · have HST := Lib.hid (show stpOf x = ⟨x.kind, x.lo, x.hi, fmtS x.mark⟩ by unfold stpOf; rw [if_pos k0])
              have e0 : (x.kind == 0) = true := by simpa using k0
              clear k0
              go_wp2_with (fail)
              refine (r_format_any x.mark HML.out w2).mono ?_
              rintro e w3 ⟨rfl, hb3⟩
              have HBX3 := Lib.hid (HBX.out.later hb3)
              have HB3 := Lib.hid (HB2.out.trans (hb3.mono HB2.out.size))
              have t3 := Lib.cell_of_heap HBX3.out 3
              have z3 := hfrz HBX3.out 3
              have HN := Lib.hid (HBX3.out.set (fmtS x.mark))
              have HNB := Lib.hid (HB3.out.setCell (p := ⟨wr.heap.size + 1, 3, none⟩) (by simp) (.string (fmtS x.mark)))
              clear hb3
              go_wp2_with (fail)
              go_meet
              exact ⟨rfl, by rw [HST.out]; exact HN, HNB⟩
            · have HST := Lib.hid (show stpOf x = ⟨x.kind, x.lo, x.hi, ⟨#[]⟩⟩ by unfold stpOf; rw [if_neg k0])
              have e0 : (x.kind == 0) = false := by simpa using k0
              clear k0
              go_wp2_with (fail)
              go_meet
              exact ⟨rfl, by rw [HST.out]; exact HBX, HB2⟩
          case rest =>
          obtain ⟨rfl, hsb, hbc⟩ := hcut
          obtain ⟨y, HY⟩ : ∃ y, Hid (stpOf x = y) := ⟨_, Lib.hid rfl⟩
          rw [HY.out] at hsb HSN
          have t0 := Lib.cell_of_heap hsb.out 0
          have t1 := Lib.cell_of_heap hsb.out 1
          have t2 := Lib.cell_of_heap hsb.out 2
          have t3 := Lib.cell_of_heap hsb.out 3
          have HOC := Lib.hid (hown.out.later hbc.out)
          have HBC := Lib.hid (hbw.out.trans (hbc.out.mono hbw.out.size))
          have hzc := HBC.out.size
          have HLT := Lib.hid (fun b e => (World.ownsRow.lt HOC.out b e).1)
          have HOW := Lib.hid (HOC.out.alloc (.cells #[.int .i64 y.kind, .int .i64 y.lo, .int .i64 y.hi, .string y.tx] 58))
          change wc.cell? ⟨wr.heap.size + 1, 0, none⟩ = some (.int .i64 y.kind) at t0
          change wc.cell? ⟨wr.heap.size + 1, 1, none⟩ = some (.int .i64 y.lo) at t1
          change wc.cell? ⟨wr.heap.size + 1, 2, none⟩ = some (.int .i64 y.hi) at t2
          change wc.cell? ⟨wr.heap.size + 1, 3, none⟩ = some (.string y.tx) at t3
          go_wp2_with (at_builtin; refine wpList_append_lies _ rfl _ _ 34 rfl w.heap.size 58 i0 _ 4 40 Tryd.underlying34 hi0 hz0 hz1 hz2 rfl (by decide) _ _ _ rfl HOW.out ⟨wc.heap.size, 0, none⟩ 1 1 [.int .i64 y.kind, .int .i64 y.lo, .int .i64 y.hi, .string y.tx] rfl rfl (World.news_of_block (cs := #[.int .i64 y.kind, .int .i64 y.lo, .int .i64 y.hi, .string y.tx]) (heap_alloc_new wc _)) (by simp [Value.oneCell']) (by decide) ?c3 ?c4 ?c5 (wc.heap.size + 1) (by simp) ?_)
          case c3 => unfold maxLen; omega
          case c4 => omega
          case c5 => first | omega | (simp; omega)
          intro gq cap w4 hown4 hgr hsel hgl
          have HB4 := Lib.hid ((HBC.out.alloc HBC.out.size (.cells #[.int .i64 y.kind, .int .i64 y.lo, .int .i64 y.hi, .string y.tx] 58)).grown hgr (by simp; omega) (fun b e => HLT.out b e))
          have HO4 := Lib.hid (show SOwn w4 w.heap.size (.slice (some ⟨gq, 0, none⟩) (L.length + 1) cap) (L ++ [y]) by unfold SOwn; rw [List.length_append, scl_append]; exact hown4)
          clear hown4 hgr hsel hgl
          go_wp2_with (fail)
          exact ⟨⟨j + 1, some ⟨gq, 0, none⟩, cap, by omega, by go_num, by rw [HSN.out, List.length_append]; rfl, HIN, by rw [HSN.out]; exact HO4, HB4⟩, by simp [intOf]; omega⟩
        · have HE := Lib.hid (exps_no (l := l) hlt (by rw [HZ.out]; unfold inB; simp; omega))
          go_wp2_with (fail)
          go_ret
          exact ⟨none, 0, by rw [HE.out]; rfl, by rw [HE.out]; exact fun h => by simp at h, hbw.out⟩
    · obtain rfl : j = ch.length := by omega
      have HE := Lib.hid (exps_yes (fun q hq => hin.out q hq hq))
      have ht : ch.take ch.length = ch := List.take_length
      rw [ht] at hown
      go_wp2_with (fail)
      go_ret
      exact ⟨X, cx, by rw [HE.out, ht]; rfl, by rw [HE.out]; exact hown.out.srow rfl, hbw.out⟩
set_option maxRecDepth 100000 in
set_option maxHeartbeats 4000000 in
theorem explain_any (A C : Option Addr) (c d : Nat) (l : List Con) (ch : List Int) (w : World) (hl : l.length ≤ 1000000) (hch : ch.length ≤ 1000000) (hr : CRow w.heap.size w A l) (hc : CZRow w.heap.size w C ch) (hok : ∀ x ∈ l, x.mark.len ≤ 9223372036854775807) (htab : ∀ W, Below w.heap.size w W → Tab10 W) :
    Calls Tryd.prog 11 #[.slice A l.length c, .slice C ch.length d] w (ExRes w l ch) := by
  obtain ⟨i0, hi0, hz0, hz1, hz2⟩ := info_parts infoStp
  have HR := Lib.hid hr
  have HC := Lib.hid hc
  have HOK := Lib.hid hok
  have HTAB := Lib.hid htab
  clear hr hc hok htab
  go_enter Tryd.func11, Tryd.ntmps11
  go_wp2_with (fail)
  go_loopw [5, 11] (fun v i wr => ∃ (j : Nat) (X : Option Addr) (cx : Nat), j ≤ ch.length ∧ i = .int .i64 (j : Int) ∧ v = .slice X (stps l (ch.take j)).length cx ∧ Hid (∀ q (hq : q < ch.length), q < j → inB l ch[q] = true) ∧ Hid (SOwn wr w.heap.size v (stps l (ch.take j))) ∧ Hid (Below w.heap.size w wr)) (fun _ i _ => ch.length - (intOf i).toNat)
  case atStart => exact ⟨0, none, 0, Nat.zero_le _, rfl, rfl, Lib.hid (fun q hq h => by omega), Lib.hid (World.ownsRow_nil _ _ _ _), Lib.hid (Below.refl _ _)⟩
  case round =>
    obtain ⟨j, X, cx, hj, rfl, rfl, hin, hown, hbw⟩ := hrel
    by_cases hlt : j < ch.length
    · obtain ⟨cb, co, rfl, hcb, hcc⟩ := HC.out (by omega)
      have c0 := (hbw.out.cell (p := ⟨cb, co + j, none⟩) hcb).trans (hcc j hlt)
      obtain ⟨z, HZ⟩ : ∃ z, Hid (ch[j] = z) := ⟨_, Lib.hid rfl⟩
      rw [HZ.out] at c0
      clear hcc
      by_cases hz : z < 0
      · have HE := Lib.hid (exps_no (l := l) hlt (by rw [HZ.out]; unfold inB; simp; omega))
        go_wp2_with (fail)
        go_ret
        exact ⟨none, 0, by rw [HE.out]; rfl, by rw [HE.out]; exact fun h => by simp at h, hbw.out⟩
      · obtain ⟨i, rfl⟩ : ∃ i : Nat, z = (i : Int) := ⟨z.toNat, by omega⟩
        by_cases hi : i < l.length
        · obtain ⟨ab, off, rfl, hab, hcs⟩ := HR.out (by omega)
          obtain ⟨r0, r1, r2, r3, r4, r5, r6, r7⟩ := (hcs i hi).below hbw.out hab
          obtain ⟨x, HX⟩ : ∃ x, Hid (l[i] = x) := ⟨_, Lib.hid rfl⟩
          rw [HX.out] at r0 r1 r2 r3 r4 r5 r6 r7
          have HML := Lib.hid (show x.mark.len ≤ 9223372036854775807 from HOK.out x (by rw [← HX.out]; exact List.getElem_mem hi))
          have HSN := Lib.hid (stps_snoc (l := l) (x := x) hlt (by rw [HZ.out, Int.toNat_natCast, List.getElem?_eq_getElem hi, HX.out]))
          have HIN := Lib.hid (show ∀ q (hq : q < ch.length), q < j + 1 → inB l ch[q] = true from fun q hq h => by
            rcases Nat.lt_or_ge q j with g | g
            · exact hin.out q hq g
            · obtain rfl : q = j := by omega
              rw [HZ.out]; unfold inB; simp; omega)
          have hsl := stps_len l (ch.take j)
          have htl : (ch.take j).length ≤ j := by rw [List.length_take]; omega
          have hL0 : (stps l (ch.take j)).length ≤ 1000000 := by omega
          clear hcs hsl htl
          obtain ⟨L, HL⟩ : ∃ L, Hid (stps l (ch.take j) = L) := ⟨_, Lib.hid rfl⟩
          rw [HL.out] at hown HSN hL0 ⊢
          have habz : ab < wr.heap.size := by have := hbw.out.size; omega
          have HP0 := Lib.hid (show ∀ w', Below wr.heap.size wr w' → (w'.cell? ⟨ab, off + i * 8, none⟩ = some (.int .i64 x.kind) ∧ w'.cell? ⟨ab, off + i * 8 + 6, none⟩ = some (.int .i64 x.lo) ∧ w'.cell? ⟨ab, off + i * 8 + 7, none⟩ = some (.int .i64 x.hi)) from fun w' hb => ⟨(hb.cell (p := ⟨ab, off + i * 8, none⟩) habz).trans r0, (hb.cell (p := ⟨ab, off + i * 8 + 6, none⟩) habz).trans r6, (hb.cell (p := ⟨ab, off + i * 8 + 7, none⟩) habz).trans r7⟩)
          have HS1 := Lib.hid (((Below.refl wr.heap.size wr).drew).alloc (Nat.le_refl _) (.cells #[.int .i64 0, .int .i64 0, .int .i64 0, .string ⟨#[]⟩] 58))
          have hs2 := ((Below.refl wr.heap.size wr).alloc (Nat.le_refl _) (.cells #[.int .i64 x.kind, .int .i64 x.lo, .int .i64 x.hi, .string ⟨#[]⟩] 58)).drew
          have hn2 : SBox (wr.alloc (.cells #[.int .i64 x.kind, .int .i64 x.lo, .int .i64 x.hi, .string ⟨#[]⟩] 58)).drew wr.heap.size ⟨x.kind, x.lo, x.hi, ⟨#[]⟩⟩ := heap_alloc_new wr (.cells #[.int .i64 x.kind, .int .i64 x.lo, .int .i64 x.hi, .string ⟨#[]⟩] 58)
          have HS2 := Lib.hid hs2
          have HN2 := Lib.hid hn2
          have HM := Lib.hid (show ∀ w', Below wr.heap.size wr w' → (w'.cell? ⟨ab, off + i * 8 + 3, none⟩ = some (.int .i64 x.mark.kind) ∧ w'.cell? ⟨ab, off + i * 8 + 4, none⟩ = some (.int .i64 x.mark.len) ∧ w'.cell? ⟨ab, off + i * 8 + 5, none⟩ = some (.string x.mark.nm)) from fun w' hb => ⟨(hb.cell (p := ⟨ab, off + i * 8 + 3, none⟩) habz).trans r3, (hb.cell (p := ⟨ab, off + i * 8 + 4, none⟩) habz).trans r4, (hb.cell (p := ⟨ab, off + i * 8 + 5, none⟩) habz).trans r5⟩)
          clear hs2 hn2 r0 r1 r2 r3 r4 r5 r6 r7
          go_upto_region 7 with (fail)
          clear c0
          refine wp_region_noPanic ?_
          refine wp_region_held (S := fun w' => Below wr.heap.size wr w') (by kernel_rfl) ?_
          refine wpAnyH_take (i := 0) (oi := { dst := some 23, op := Op.move (Operand.tmp 0), type := 22, pos := "constraints.go:100", after := #[], guard := none }) (v := .slice (some ⟨ab, off, none⟩) l.length c) rfl (by kernel_rfl) (by kernel_rfl) (by kernel_rfl) (fun _ _ _ h => h) (Or.inl ⟨by rfl, ?_⟩) (Below.refl _ _).drew ?_
          · (intro w' hSw; go_simp)
          simp only [Act.put, List.setIfInBounds_toArray, List.set_cons_zero, List.set_cons_succ]
          refine wpAnyH_take (i := 1) (oi := { dst := some 24, op := Op.move (Operand.tmp 7), type := 3, pos := "constraints.go:100", after := #[], guard := none }) (v := .int .i64 (i : Int)) rfl (by kernel_rfl) (by kernel_rfl) (by kernel_rfl) (fun _ _ _ h => h) (Or.inl ⟨by rfl, ?_⟩) (Below.refl _ _).drew ?_
          · (intro w' hSw; go_simp)
          simp only [Act.put, List.setIfInBounds_toArray, List.set_cons_zero, List.set_cons_succ]
          refine wpAnyH_take (i := 2) (oi := { dst := some 25, op := Op.indexAddr 22 (Operand.tmp 23) (Operand.tmp 24), type := 0, pos := "constraints.go:100", after := #[{ on := 0, ground := Ground.data }, { on := 1, ground := Ground.data }], guard := none }) (v := .pointer (some ⟨ab, off + i * 8, none⟩)) rfl (by kernel_rfl) (by kernel_rfl) (by kernel_rfl) (fun _ _ _ h => h) (Or.inl ⟨by rfl, ?_⟩) (Below.refl _ _).drew ?_
          · (intro w' hSw; go_simp)
          simp only [Act.put, List.setIfInBounds_toArray, List.set_cons_zero, List.set_cons_succ]
          refine wpAnyH_take (i := 3) (oi := { dst := some 26, op := Op.fieldAddr 41 (Operand.tmp 25) 0, type := 0, pos := "constraints.go:100", after := #[{ on := 2, ground := Ground.data }], guard := none }) (v := .pointer (some ⟨ab, off + i * 8, none⟩)) rfl (by kernel_rfl) (by kernel_rfl) (by kernel_rfl) (fun _ _ _ h => h) (Or.inl ⟨by rfl, ?_⟩) (Below.refl _ _).drew ?_
          · (intro w' hSw; go_simp)
          simp only [Act.put, List.setIfInBounds_toArray, List.set_cons_zero, List.set_cons_succ]
          refine wpAnyH_take (i := 4) (oi := { dst := some 27, op := Op.load 3 (Operand.tmp 26), type := 3, pos := "constraints.go:100", after := #[{ on := 3, ground := Ground.data }], guard := none }) (v := .int .i64 x.kind) rfl (by kernel_rfl) (by kernel_rfl) (by kernel_rfl) (fun _ _ _ h => h) (Or.inl ⟨by rfl, ?_⟩) (Below.refl _ _).drew ?_
          · (intro w' hSw; obtain ⟨p0, p6, p7⟩ := HP0.out w' hSw; go_simp)
          simp only [Act.put, List.setIfInBounds_toArray, List.set_cons_zero, List.set_cons_succ]
          refine wpAnyH_take (i := 5) (oi := { dst := some 28, op := Op.move (Operand.tmp 0), type := 22, pos := "constraints.go:100", after := #[], guard := none }) (v := .slice (some ⟨ab, off, none⟩) l.length c) rfl (by kernel_rfl) (by kernel_rfl) (by kernel_rfl) (fun _ _ _ h => h) (Or.inl ⟨by rfl, ?_⟩) (Below.refl _ _).drew ?_
          · (intro w' hSw; go_simp)
          simp only [Act.put, List.setIfInBounds_toArray, List.set_cons_zero, List.set_cons_succ]
          refine wpAnyH_take (i := 6) (oi := { dst := some 29, op := Op.move (Operand.tmp 7), type := 3, pos := "constraints.go:100", after := #[], guard := none }) (v := .int .i64 (i : Int)) rfl (by kernel_rfl) (by kernel_rfl) (by kernel_rfl) (fun _ _ _ h => h) (Or.inl ⟨by rfl, ?_⟩) (Below.refl _ _).drew ?_
          · (intro w' hSw; go_simp)
          simp only [Act.put, List.setIfInBounds_toArray, List.set_cons_zero, List.set_cons_succ]
          refine wpAnyH_take (i := 7) (oi := { dst := some 30, op := Op.indexAddr 22 (Operand.tmp 28) (Operand.tmp 29), type := 0, pos := "constraints.go:100", after := #[{ on := 5, ground := Ground.data }, { on := 6, ground := Ground.data }], guard := none }) (v := .pointer (some ⟨ab, off + i * 8, none⟩)) rfl (by kernel_rfl) (by kernel_rfl) (by kernel_rfl) (fun _ _ _ h => h) (Or.inl ⟨by rfl, ?_⟩) (Below.refl _ _).drew ?_
          · (intro w' hSw; go_simp)
          simp only [Act.put, List.setIfInBounds_toArray, List.set_cons_zero, List.set_cons_succ]
          refine wpAnyH_take (i := 8) (oi := { dst := some 31, op := Op.fieldAddr 41 (Operand.tmp 30) 4, type := 0, pos := "constraints.go:100", after := #[{ on := 7, ground := Ground.data }], guard := none }) (v := .pointer (some ⟨ab, off + i * 8 + 6, none⟩)) rfl (by kernel_rfl) (by kernel_rfl) (by kernel_rfl) (fun _ _ _ h => h) (Or.inl ⟨by rfl, ?_⟩) (Below.refl _ _).drew ?_
          · (intro w' hSw; go_simp)
          simp only [Act.put, List.setIfInBounds_toArray, List.set_cons_zero, List.set_cons_succ]
          refine wpAnyH_take (i := 9) (oi := { dst := some 32, op := Op.load 3 (Operand.tmp 31), type := 3, pos := "constraints.go:100", after := #[{ on := 8, ground := Ground.data }], guard := none }) (v := .int .i64 x.lo) rfl (by kernel_rfl) (by kernel_rfl) (by kernel_rfl) (fun _ _ _ h => h) (Or.inl ⟨by rfl, ?_⟩) (Below.refl _ _).drew ?_
          · (intro w' hSw; obtain ⟨p0, p6, p7⟩ := HP0.out w' hSw; go_simp)
          simp only [Act.put, List.setIfInBounds_toArray, List.set_cons_zero, List.set_cons_succ]
          refine wpAnyH_take (i := 10) (oi := { dst := some 33, op := Op.move (Operand.tmp 0), type := 22, pos := "constraints.go:100", after := #[], guard := none }) (v := .slice (some ⟨ab, off, none⟩) l.length c) rfl (by kernel_rfl) (by kernel_rfl) (by kernel_rfl) (fun _ _ _ h => h) (Or.inl ⟨by rfl, ?_⟩) (Below.refl _ _).drew ?_
          · (intro w' hSw; go_simp)
          simp only [Act.put, List.setIfInBounds_toArray, List.set_cons_zero, List.set_cons_succ]
          refine wpAnyH_take (i := 11) (oi := { dst := some 34, op := Op.move (Operand.tmp 7), type := 3, pos := "constraints.go:100", after := #[], guard := none }) (v := .int .i64 (i : Int)) rfl (by kernel_rfl) (by kernel_rfl) (by kernel_rfl) (fun _ _ _ h => h) (Or.inl ⟨by rfl, ?_⟩) (Below.refl _ _).drew ?_
          · (intro w' hSw; go_simp)
          simp only [Act.put, List.setIfInBounds_toArray, List.set_cons_zero, List.set_cons_succ]
          refine wpAnyH_take (i := 12) (oi := { dst := some 35, op := Op.indexAddr 22 (Operand.tmp 33) (Operand.tmp 34), type := 0, pos := "constraints.go:100", after := #[{ on := 10, ground := Ground.data }, { on := 11, ground := Ground.data }], guard := none }) (v := .pointer (some ⟨ab, off + i * 8, none⟩)) rfl (by kernel_rfl) (by kernel_rfl) (by kernel_rfl) (fun _ _ _ h => h) (Or.inl ⟨by rfl, ?_⟩) (Below.refl _ _).drew ?_
          · (intro w' hSw; go_simp)
          simp only [Act.put, List.setIfInBounds_toArray, List.set_cons_zero, List.set_cons_succ]
          refine wpAnyH_take (i := 13) (oi := { dst := some 36, op := Op.fieldAddr 41 (Operand.tmp 35) 5, type := 0, pos := "constraints.go:100", after := #[{ on := 12, ground := Ground.data }], guard := none }) (v := .pointer (some ⟨ab, off + i * 8 + 7, none⟩)) rfl (by kernel_rfl) (by kernel_rfl) (by kernel_rfl) (fun _ _ _ h => h) (Or.inl ⟨by rfl, ?_⟩) (Below.refl _ _).drew ?_
          · (intro w' hSw; go_simp)
          simp only [Act.put, List.setIfInBounds_toArray, List.set_cons_zero, List.set_cons_succ]
          refine wpAnyH_take (i := 14) (oi := { dst := some 37, op := Op.load 3 (Operand.tmp 36), type := 3, pos := "constraints.go:100", after := #[{ on := 13, ground := Ground.data }], guard := none }) (v := .int .i64 x.hi) rfl (by kernel_rfl) (by kernel_rfl) (by kernel_rfl) (fun _ _ _ h => h) (Or.inl ⟨by rfl, ?_⟩) (Below.refl _ _).drew ?_
          · (intro w' hSw; obtain ⟨p0, p6, p7⟩ := HP0.out w' hSw; go_simp)
          simp only [Act.put, List.setIfInBounds_toArray, List.set_cons_zero, List.set_cons_succ]
          refine wpAnyH_take (i := 15) (oi := { dst := some 38, op := Op.build 58 #[(0, Operand.tmp 27), (1, Operand.tmp 32), (2, Operand.tmp 37)], type := 58, pos := "constraints.go:100", after := #[{ on := 4, ground := Ground.data }, { on := 9, ground := Ground.data }, { on := 14, ground := Ground.data }], guard := none }) (v := .agg #[.int .i64 x.kind, .int .i64 x.lo, .int .i64 x.hi, .string ⟨#[]⟩]) rfl (by kernel_rfl) (by kernel_rfl) (by kernel_rfl) (fun _ _ _ h => h) (Or.inl ⟨by rfl, ?_⟩) (Below.refl _ _).drew ?_
          · (intro w' hSw; go_simp)
          simp only [Act.put, List.setIfInBounds_toArray, List.set_cons_zero, List.set_cons_succ]
          refine wpAnyH_ready (rs := [16]) (by kernel_rfl) (by simp) (AllReadyH.cons (o := { dst := some 8, op := Op.alloc 58, type := 0, pos := "constraints.go:100", after := #[], guard := none }) rfl (fun K hK => ?_) AllReadyH.nil)
          go_simp
          refine hK.out _ _ HS1.out (fun _ => ?_)
          clear hK K
          try simp only [Act.put, List.setIfInBounds_toArray, List.set_cons_zero, List.set_cons_succ]
          refine wpAnyH_ready (rs := [17]) (by kernel_rfl) (by simp) (AllReadyH.cons (o := { dst := none, op := Op.store 58 (Operand.tmp 8) (Operand.tmp 38), type := 0, pos := "constraints.go:100", after := #[{ on := 16, ground := Ground.data }, { on := 15, ground := Ground.data }, { on := 0, ground := Ground.phase }, { on := 1, ground := Ground.phase }, { on := 2, ground := Ground.phase }, { on := 3, ground := Ground.phase }, { on := 4, ground := Ground.phase }, { on := 5, ground := Ground.phase }, { on := 6, ground := Ground.phase }, { on := 7, ground := Ground.phase }, { on := 8, ground := Ground.phase }, { on := 9, ground := Ground.phase }, { on := 10, ground := Ground.phase }, { on := 11, ground := Ground.phase }, { on := 12, ground := Ground.phase }, { on := 13, ground := Ground.phase }, { on := 14, ground := Ground.phase }, { on := 15, ground := Ground.phase }, { on := 16, ground := Ground.phase }], guard := none }) rfl (fun K hK => ?_) AllReadyH.nil)
          go_simp
          refine hK.out _ _ HS2.out (fun _ => ?_)
          clear hK K
          try simp only [Act.put, List.setIfInBounds_toArray, List.set_cons_zero, List.set_cons_succ]
          refine wpAnyH_done (by kernel_rfl) ?_ _
          refine NoPanic.normal ?_
          go_upto_if 41 with (fail)
          generalize (wr.alloc (.cells #[.int .i64 x.kind, .int .i64 x.lo, .int .i64 x.hi, .string ⟨#[]⟩] 58)).drew = w2 at *
          obtain ⟨m3, m4, m5⟩ := HM.out w2 HS2.out
          have HBW2 := Lib.hid (hbw.out.trans (HS2.out.mono hbw.out.size))
          go_cut [8] (fun s8 wx => s8 = .pointer (some ⟨wr.heap.size, 0, none⟩) ∧ Hid (SBox wx wr.heap.size (stpOf x)) ∧ Hid (Below wr.heap.size wr wx))
          case first =>
            by_cases k0 : x.kind = 0
            · have HST := Lib.hid (show stpOf x = ⟨x.kind, x.lo, x.hi, fmtS x.mark⟩ by unfold stpOf; rw [if_pos k0])
              have e0 : (x.kind == 0) = true := by simpa using k0
              clear k0
              go_wp2_with (fail)
              refine (format_any x.mark HML.out w2 (HTAB.out w2 HBW2.out)).mono ?_
              rintro e w3 ⟨rfl, hb3⟩
              have HBX3 := Lib.hid (HN2.out.later hb3)
              have HB3 := Lib.hid (HS2.out.trans (hb3.mono HS2.out.size))
              have t3 := Lib.cell_of_heap HBX3.out 3
              have z3 := hfrz HBX3.out 3
              have HN := Lib.hid (HBX3.out.set (fmtS x.mark))
              have HNB := Lib.hid (HB3.out.setCell (p := ⟨wr.heap.size, 3, none⟩) (by simp) (.string (fmtS x.mark)))
              clear hb3
              go_wp2_with (fail)
              go_meet
              exact ⟨rfl, by rw [HST.out]; exact HN, HNB⟩
            · have HST := Lib.hid (show stpOf x = ⟨x.kind, x.lo, x.hi, ⟨#[]⟩⟩ by unfold stpOf; rw [if_neg k0])
              have e0 : (x.kind == 0) = false := by simpa using k0
              clear k0
              go_wp2_with (fail)
              go_meet
              exact ⟨rfl, by rw [HST.out]; exact HN2, HS2⟩
          case rest =>
          obtain ⟨rfl, hsb, hbc⟩ := hcut
          obtain ⟨y, HY⟩ : ∃ y, Hid (stpOf x = y) := ⟨_, Lib.hid rfl⟩
          rw [HY.out] at hsb HSN
          have t0 := Lib.cell_of_heap hsb.out 0
          have t1 := Lib.cell_of_heap hsb.out 1
          have t2 := Lib.cell_of_heap hsb.out 2
          have t3 := Lib.cell_of_heap hsb.out 3
          have HOC := Lib.hid (hown.out.later hbc.out)
          have HBC := Lib.hid (hbw.out.trans (hbc.out.mono hbw.out.size))
          have hzc := HBC.out.size
          have HLT := Lib.hid (fun b e => (World.ownsRow.lt HOC.out b e).1)
          have HOW := Lib.hid (HOC.out.alloc (.cells #[.int .i64 y.kind, .int .i64 y.lo, .int .i64 y.hi, .string y.tx] 58))
          change wc.cell? ⟨wr.heap.size, 0, none⟩ = some (.int .i64 y.kind) at t0
          change wc.cell? ⟨wr.heap.size, 1, none⟩ = some (.int .i64 y.lo) at t1
          change wc.cell? ⟨wr.heap.size, 2, none⟩ = some (.int .i64 y.hi) at t2
          change wc.cell? ⟨wr.heap.size, 3, none⟩ = some (.string y.tx) at t3
          go_wp2_with (at_builtin; refine wpList_append_lies _ rfl _ _ 34 rfl w.heap.size 58 i0 _ 4 40 Tryd.underlying34 hi0 hz0 hz1 hz2 rfl (by decide) _ _ _ rfl HOW.out ⟨wc.heap.size, 0, none⟩ 1 1 [.int .i64 y.kind, .int .i64 y.lo, .int .i64 y.hi, .string y.tx] rfl rfl (World.news_of_block (cs := #[.int .i64 y.kind, .int .i64 y.lo, .int .i64 y.hi, .string y.tx]) (heap_alloc_new wc _)) (by simp [Value.oneCell']) (by decide) ?c3 ?c4 ?c5 (wc.heap.size + 1) (by simp) ?_)
          case c3 => unfold maxLen; omega
          case c4 => omega
          case c5 => first | omega | (simp; omega)
          intro gq cap w4 hown4 hgr hsel hgl
          have HB4 := Lib.hid ((HBC.out.alloc HBC.out.size (.cells #[.int .i64 y.kind, .int .i64 y.lo, .int .i64 y.hi, .string y.tx] 58)).grown hgr (by simp; omega) (fun b e => HLT.out b e))
          have HO4 := Lib.hid (show SOwn w4 w.heap.size (.slice (some ⟨gq, 0, none⟩) (L.length + 1) cap) (L ++ [y]) by unfold SOwn; rw [List.length_append, scl_append]; exact hown4)
          clear hown4 hgr hsel hgl
          go_wp2_with (fail)
          exact ⟨⟨j + 1, some ⟨gq, 0, none⟩, cap, by omega, by go_num, by rw [HSN.out, List.length_append]; rfl, HIN, by rw [HSN.out]; exact HO4, HB4⟩, by simp [intOf]; omega⟩
        · have HE := Lib.hid (exps_no (l := l) hlt (by rw [HZ.out]; unfold inB; simp; omega))
          go_wp2_with (fail)
          go_ret
          exact ⟨none, 0, by rw [HE.out]; rfl, by rw [HE.out]; exact fun h => by simp at h, hbw.out⟩
    · obtain rfl : j = ch.length := by omega
      have HE := Lib.hid (exps_yes (fun q hq => hin.out q hq hq))
      have ht : ch.take ch.length = ch := List.take_length
      rw [ht] at hown
      go_wp2_with (fail)
      go_ret
      exact ⟨X, cx, by rw [HE.out, ht]; rfl, by rw [HE.out]; exact hown.out.srow rfl, hbw.out⟩
end Go.Proofs.YtmamajillkajoaaDoor
