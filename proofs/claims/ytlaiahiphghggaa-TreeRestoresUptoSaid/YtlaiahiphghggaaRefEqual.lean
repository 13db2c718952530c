/- What is proved: Equal of the reference answers true at two trees that are the same in memory of their own. -/
import Derived.Test.YtlaiahiphghggaaBare
import Derived.Deep.RegionHeld3
set_option linter.unusedVariables false
namespace Go.Proofs.Ytlaiahiphghggaa
open Go.RowKit

/-- a call that finds a tree equal to its copies -/
def Equals (f : Nat) (a : NT) : Prop := ∀ (b : NT) (w : World), NT.strip a = NT.strip b → InT w.heap.size w a → InT w.heap.size w b → NT.cnt a ≤ 1000000000 →
  Calls Try.prog f #[.agg #[.int .i64 a.kind, .string a.text, .int .i64 a.lo, .int .i64 a.hi, .slice a.A a.kids.length a.c], .agg #[.int .i64 b.kind, .string b.text, .int .i64 b.lo, .int .i64 b.hi, .slice b.A b.kids.length b.c]] w fun e w' => e = .returned (.bool true) ∧ Below w.heap.size w w'

theorem strip_get {l m : List NT} (h : l.map NT.strip = m.map NT.strip) (k : Nat) (h1 : k < l.length) (h2 : k < m.length) : NT.strip l[k] = NT.strip m[k] := by
  have := congrArg (fun x => x[k]?) h
  simpa [List.getElem?_map, List.getElem?_eq_getElem h1, List.getElem?_eq_getElem h2] using this

set_option maxHeartbeats 4000000 in
set_option maxRecDepth 100000 in
theorem r_equal_of (kd : Int) (t : ByteArray) (lo hi : Int) (A B : Option Addr) (c d : Nat) (l m : List NT) (hst : l.map NT.strip = m.map NT.strip) (ih : ∀ k ∈ l, Equals 32 k) (w : World) (hra : Row w.heap.size w A l) (hrb : Row w.heap.size w B m) (hia : ∀ k ∈ l, InT w.heap.size w k) (hib : ∀ k ∈ m, InT w.heap.size w k) (hcn : NT.cnts l ≤ 1000000000) (n : Nat) (hln : l.length = n) (hmn : m.length = n) :
    Calls Try.prog 32 #[.agg #[.int .i64 kd, .string t, .int .i64 lo, .int .i64 hi, .slice A n c], .agg #[.int .i64 kd, .string t, .int .i64 lo, .int .i64 hi, .slice B n d]] w fun e w' => e = .returned (.bool true) ∧ Below w.heap.size w w' := by
  have HS := Lib.hid hst
  have HIH := Lib.hid ih
  have HRA := Lib.hid hra
  have HRB := Lib.hid hrb
  have HIA := Lib.hid hia
  have HIB := Lib.hid hib
  have hll := NT.cnts_len l
  have HLN := Lib.hid hln
  have HMN := Lib.hid hmn
  have hn : n ≤ 1000000000 := by omega
  have e1 : (kd != kd) = false := by simp
  have e2 : (lo != lo) = false := by simp
  have e3 : (hi != hi) = false := by simp
  have e4 : ((n : Int) != (n : Int)) = false := by simp
  clear hst ih hra hrb hia hib hln hmn
  go_enter Try.func32, Try.ntmps32
  go_wp2_with (fail)
  have HB := Lib.hid (((Below.refl w.heap.size w).alloc (Nat.le_refl _) (.cells #[.int .i64 kd, .string t, .int .i64 lo, .int .i64 hi, .slice A n c] 24)).alloc (by simp) (.cells #[.int .i64 kd, .string t, .int .i64 lo, .int .i64 hi, .slice B n d] 24))
  have hA : ((w.alloc (.cells #[.int .i64 kd, .string t, .int .i64 lo, .int .i64 hi, .slice A n c] 24)).alloc (.cells #[.int .i64 kd, .string t, .int .i64 lo, .int .i64 hi, .slice B n d] 24)).cell? ⟨w.heap.size, 4, none⟩ = some (.slice A n c) := Lib.cell_of_heap ((heap_alloc_old _ _ (by simp)).trans (heap_alloc_new w _)) 4
  have hB : ((w.alloc (.cells #[.int .i64 kd, .string t, .int .i64 lo, .int .i64 hi, .slice A n c] 24)).alloc (.cells #[.int .i64 kd, .string t, .int .i64 lo, .int .i64 hi, .slice B n d] 24)).cell? ⟨w.heap.size + 1, 4, none⟩ = some (.slice B n d) := by
    have h := heap_alloc_new (w.alloc (.cells #[.int .i64 kd, .string t, .int .i64 lo, .int .i64 hi, .slice A n c] 24)) (.cells #[.int .i64 kd, .string t, .int .i64 lo, .int .i64 hi, .slice B n d] 24)
    rw [World.size_alloc] at h
    exact Lib.cell_of_heap h 4
  have hz : ((w.alloc (.cells #[.int .i64 kd, .string t, .int .i64 lo, .int .i64 hi, .slice A n c] 24)).alloc (.cells #[.int .i64 kd, .string t, .int .i64 lo, .int .i64 hi, .slice B n d] 24)).heap.size = w.heap.size + 1 + 1 := by simp
  generalize ((w.alloc (.cells #[.int .i64 kd, .string t, .int .i64 lo, .int .i64 hi, .slice A n c] 24)).alloc (.cells #[.int .i64 kd, .string t, .int .i64 lo, .int .i64 hi, .slice B n d] 24)) = W at *
  go_loopw [5] (fun i wr => ∃ k : Nat, k ≤ n ∧ i = .int .i64 (k : Int) ∧ Hid (wr.cell? ⟨w.heap.size, 4, none⟩ = some (.slice A n c)) ∧ Hid (wr.cell? ⟨w.heap.size + 1, 4, none⟩ = some (.slice B n d)) ∧ Hid (Below w.heap.size w wr)) (fun i _ => n - (intOf i).toNat)
  case atStart => exact ⟨0, Nat.zero_le _, rfl, hA, hB, HB⟩
  case round =>
    obtain ⟨k, hk, rfl, ha, hb, hbw⟩ := hrel
    have ha' := ha.out
    have hb' := hb.out
    have hza := World.block_lt_of_cell? _ _ hb'
    by_cases hlt : k < n
    · have hl1 : k < l.length := by have := HLN.out; omega
      have hl2 : k < m.length := by have := HMN.out; omega
      obtain ⟨ba, oa, rfl, hba, hca⟩ := (HRA.out.below hbw.out) (by omega)
      obtain ⟨bb, ob, rfl, hbb, hcb⟩ := (HRB.out.below hbw.out) (by omega)
      obtain ⟨x0, x1, x2, x3, x4⟩ := hca k hl1
      obtain ⟨y0, y1, y2, y3, y4⟩ := hcb k hl2
      have HX := Lib.hid (HIH.out _ (List.getElem_mem hl1) m[k] wr.drew (strip_get HS.out k hl1 hl2) (InT.later (HIA.out _ (List.getElem_mem hl1)) hbw.out.drew) (InT.later (HIB.out _ (List.getElem_mem hl2)) hbw.out.drew) (by have := NT.cnts_mem (List.getElem_mem hl1); omega))
      have g1 : (0 : Int) ≤ (k : Int) := by omega
      have g2 : (k : Int) < (n : Int) := by omega
      clear hca hcb
      generalize l[k] = x at *
      generalize m[k] = y at *
      go_wp2_with (fail)
      have HK := Lib.hid (show ∀ w' : World, Below wr.heap.size wr.drew w' → w'.cell? ⟨w.heap.size, 4, none⟩ = some (.slice (some ⟨ba, oa, none⟩) n c) ∧ w'.cell? ⟨w.heap.size + 1, 4, none⟩ = some (.slice (some ⟨bb, ob, none⟩) n d) ∧ w'.cell? ⟨ba, oa + k * 5, none⟩ = some (.int .i64 x.kind) ∧ w'.cell? ⟨ba, oa + k * 5 + 1, none⟩ = some (.string x.text) ∧ w'.cell? ⟨ba, oa + k * 5 + 2, none⟩ = some (.int .i64 x.lo) ∧ w'.cell? ⟨ba, oa + k * 5 + 3, none⟩ = some (.int .i64 x.hi) ∧ w'.cell? ⟨ba, oa + k * 5 + 4, none⟩ = some (.slice x.A x.kids.length x.c) ∧ w'.cell? ⟨bb, ob + k * 5, none⟩ = some (.int .i64 y.kind) ∧ w'.cell? ⟨bb, ob + k * 5 + 1, none⟩ = some (.string y.text) ∧ w'.cell? ⟨bb, ob + k * 5 + 2, none⟩ = some (.int .i64 y.lo) ∧ w'.cell? ⟨bb, ob + k * 5 + 3, none⟩ = some (.int .i64 y.hi) ∧ w'.cell? ⟨bb, ob + k * 5 + 4, none⟩ = some (.slice y.A y.kids.length y.c) from fun w' hb2 => ⟨(hb2.cell (p := ⟨w.heap.size, 4, none⟩) (World.block_lt_of_cell? wr _ ha')).trans ha', (hb2.cell (p := ⟨w.heap.size + 1, 4, none⟩) (World.block_lt_of_cell? wr _ hb')).trans hb', (hb2.cell (p := ⟨ba, oa + k * 5, none⟩) (World.block_lt_of_cell? wr _ x0)).trans x0, (hb2.cell (p := ⟨ba, oa + k * 5 + 1, none⟩) (World.block_lt_of_cell? wr _ x1)).trans x1, (hb2.cell (p := ⟨ba, oa + k * 5 + 2, none⟩) (World.block_lt_of_cell? wr _ x2)).trans x2, (hb2.cell (p := ⟨ba, oa + k * 5 + 3, none⟩) (World.block_lt_of_cell? wr _ x3)).trans x3, (hb2.cell (p := ⟨ba, oa + k * 5 + 4, none⟩) (World.block_lt_of_cell? wr _ x4)).trans x4, (hb2.cell (p := ⟨bb, ob + k * 5, none⟩) (World.block_lt_of_cell? wr _ y0)).trans y0, (hb2.cell (p := ⟨bb, ob + k * 5 + 1, none⟩) (World.block_lt_of_cell? wr _ y1)).trans y1, (hb2.cell (p := ⟨bb, ob + k * 5 + 2, none⟩) (World.block_lt_of_cell? wr _ y2)).trans y2, (hb2.cell (p := ⟨bb, ob + k * 5 + 3, none⟩) (World.block_lt_of_cell? wr _ y3)).trans y3, (hb2.cell (p := ⟨bb, ob + k * 5 + 4, none⟩) (World.block_lt_of_cell? wr _ y4)).trans y4⟩)
      go_region_held3 (fun w' => w'.cell? ⟨w.heap.size, 4, none⟩ = some (.slice (some ⟨ba, oa, none⟩) n c) ∧ w'.cell? ⟨w.heap.size + 1, 4, none⟩ = some (.slice (some ⟨bb, ob, none⟩) n d) ∧ w'.cell? ⟨ba, oa + k * 5, none⟩ = some (.int .i64 x.kind) ∧ w'.cell? ⟨ba, oa + k * 5 + 1, none⟩ = some (.string x.text) ∧ w'.cell? ⟨ba, oa + k * 5 + 2, none⟩ = some (.int .i64 x.lo) ∧ w'.cell? ⟨ba, oa + k * 5 + 3, none⟩ = some (.int .i64 x.hi) ∧ w'.cell? ⟨ba, oa + k * 5 + 4, none⟩ = some (.slice x.A x.kids.length x.c) ∧ w'.cell? ⟨bb, ob + k * 5, none⟩ = some (.int .i64 y.kind) ∧ w'.cell? ⟨bb, ob + k * 5 + 1, none⟩ = some (.string y.text) ∧ w'.cell? ⟨bb, ob + k * 5 + 2, none⟩ = some (.int .i64 y.lo) ∧ w'.cell? ⟨bb, ob + k * 5 + 3, none⟩ = some (.int .i64 y.hi) ∧ w'.cell? ⟨bb, ob + k * 5 + 4, none⟩ = some (.slice y.A y.kids.length y.c)) (first | exact HSS.out | go_keep) ((first | (go_at_call 32; refine HX.out.mono ?_; rintro e w2 ⟨rfl, hb2⟩; have HB2 := Lib.hid hb2; clear hb2; have HSS := Lib.hid (HK.out w2 HB2.out))))
      have HBW2 := Lib.hid ((hbw.out.drew).trans (HB2.out.mono hbw.out.size))
      have HA2 := Lib.hid (HK.out w2 HB2.out).1
      have HB3 := Lib.hid (HK.out w2 HB2.out).2.1
      go_wp2_with (fail)
      exact ⟨⟨k + 1, by omega, by go_num, HA2, HB3, HBW2⟩, by simp [intOf]; omega⟩
    · go_wp2_with (fail)
      go_ret
      exact ⟨rfl, hbw.out⟩
theorem r_equal_any : ∀ a : NT, Equals 32 a := NT.ind fun a ih b w hst hia hib hcn => by
  have h := (NT.strip_iff a b).1 hst
  have hl : a.kids.length = b.kids.length := by have := congrArg List.length h.2.2.2.2; simpa using this
  have hce := NT.cnt_eq a
  have g := r_equal_of a.kind a.text a.lo a.hi a.A b.A a.c b.c a.kids b.kids h.2.2.2.2 ih w hia.row hib.row (fun k hk => hia.kid hk) (fun k hk => hib.kid hk) (by omega) a.kids.length rfl hl.symm
  rw [← h.1, ← h.2.1, ← h.2.2.1, ← h.2.2.2.1, ← hl]
  exact g
end Go.Proofs.Ytlaiahiphghggaa
