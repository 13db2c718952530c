/- What is proved: TreeEdits answers true. -/
import Derived.Test.YtjikfdifcpdhhaaBare
import Derived.Deep.RegionHeld3
import Derived.Test.YtjikfdifcpdhhaaTreeSame
import Derived.Test.YtjikfdifcpdhhaaPutO
import Derived.Test.YtjikfdifcpdhhaaRefCopied
import Derived.Test.YtjikfdifcpdhhaaGetMore
import Derived.Test.YtjikfdifcpdhhaaShaped
import Derived.Test.YtjikfdifcpdhhaaRefRep
import Derived.Test.YtjikfdifcpdhhaaTreeAwake
import Derived.Test.YtjikfdifcpdhhaaRefNodes
import Derived.OpenShut
import Derived.IntWalk
set_option linter.unusedVariables false
namespace Go.Proofs.Ytjikfdifcpdhhaa
open Go.RowKit

/-- a call that finds a tree equal to its copies -/
def Equals (f : Nat) (a : NT) : Prop := ∀ (b : NT) (w : World), NT.strip a = NT.strip b → InT w.heap.size w a → InT w.heap.size w b → NT.cnt a ≤ 1000000000 →
  Calls Try.prog f #[.agg #[.int .i64 a.kind, .string a.text, .int .i64 a.lo, .int .i64 a.hi, .slice a.A a.kids.length a.c], .agg #[.int .i64 b.kind, .string b.text, .int .i64 b.lo, .int .i64 b.hi, .slice b.A b.kids.length b.c]] w fun e w' => e = .returned (.bool true) ∧ Below w.heap.size w w'

theorem strip_get {l m : List NT} (h : l.map NT.strip = m.map NT.strip) (k : Nat) (h1 : k < l.length) (h2 : k < m.length) : NT.strip l[k] = NT.strip m[k] := by
  have := congrArg (fun x => x[k]?) h
  simpa [List.getElem?_map, List.getElem?_eq_getElem h1, List.getElem?_eq_getElem h2] using this

set_option maxHeartbeats 4000000 in
set_option maxRecDepth 100000 in
theorem r_equal_of (kd : Int) (t : ByteArray) (lo hi : Int) (A B : Option Addr) (c d : Nat) (l m : List NT) (hst : l.map NT.strip = m.map NT.strip) (ih : ∀ k ∈ l, Equals 32 k) (w : World) (hra : Row w.heap.size w A l) (hrb : Row w.heap.size w B m) (hia : ∀ k ∈ l, InT w.heap.size w k) (hib : ∀ k ∈ m, InT w.heap.size w k) (hcn : NT.cnts l ≤ 1000000000) (n : Nat) (hln : l.length = n) (hmn : m.length = n) :
    Calls Try.prog 32 #[.agg #[.int .i64 kd, .string t, .int .i64 lo, .int .i64 hi, .slice A n c], .agg #[.int .i64 kd, .string t, .int .i64 lo, .int .i64 hi, .slice B n d]] w fun e w' => e = .returned (.bool true) ∧ Below w.heap.size w w' := by
  have HS := Lib.hid hst
  have HIH := Lib.hid ih
  have HRA := Lib.hid hra
  have HRB := Lib.hid hrb
  have HIA := Lib.hid hia
  have HIB := Lib.hid hib
  have hll := NT.cnts_len l
  have HLN := Lib.hid hln
  have HMN := Lib.hid hmn
  have hn : n ≤ 1000000000 := by omega
  have e1 : (kd != kd) = false := by simp
  have e2 : (lo != lo) = false := by simp
  have e3 : (hi != hi) = false := by simp
  have e4 : ((n : Int) != (n : Int)) = false := by simp
  clear hst ih hra hrb hia hib hln hmn
  go_enter Try.func32, Try.ntmps32
  go_wp2_with (fail)
  have HB := Lib.hid (((Below.refl w.heap.size w).alloc (Nat.le_refl _) (.cells #[.int .i64 kd, .string t, .int .i64 lo, .int .i64 hi, .slice A n c] 24)).alloc (by simp) (.cells #[.int .i64 kd, .string t, .int .i64 lo, .int .i64 hi, .slice B n d] 24))
  have hA : ((w.alloc (.cells #[.int .i64 kd, .string t, .int .i64 lo, .int .i64 hi, .slice A n c] 24)).alloc (.cells #[.int .i64 kd, .string t, .int .i64 lo, .int .i64 hi, .slice B n d] 24)).cell? ⟨w.heap.size, 4, none⟩ = some (.slice A n c) := Lib.cell_of_heap ((heap_alloc_old _ _ (by simp)).trans (heap_alloc_new w _)) 4
  have hB : ((w.alloc (.cells #[.int .i64 kd, .string t, .int .i64 lo, .int .i64 hi, .slice A n c] 24)).alloc (.cells #[.int .i64 kd, .string t, .int .i64 lo, .int .i64 hi, .slice B n d] 24)).cell? ⟨w.heap.size + 1, 4, none⟩ = some (.slice B n d) := by
    have h := heap_alloc_new (w.alloc (.cells #[.int .i64 kd, .string t, .int .i64 lo, .int .i64 hi, .slice A n c] 24)) (.cells #[.int .i64 kd, .string t, .int .i64 lo, .int .i64 hi, .slice B n d] 24)
    rw [World.size_alloc] at h
    exact Lib.cell_of_heap h 4
  have hz : ((w.alloc (.cells #[.int .i64 kd, .string t, .int .i64 lo, .int .i64 hi, .slice A n c] 24)).alloc (.cells #[.int .i64 kd, .string t, .int .i64 lo, .int .i64 hi, .slice B n d] 24)).heap.size = w.heap.size + 1 + 1 := by simp
  generalize ((w.alloc (.cells #[.int .i64 kd, .string t, .int .i64 lo, .int .i64 hi, .slice A n c] 24)).alloc (.cells #[.int .i64 kd, .string t, .int .i64 lo, .int .i64 hi, .slice B n d] 24)) = W at *
  go_loopw [5] (fun i wr => ∃ k : Nat, k ≤ n ∧ i = .int .i64 (k : Int) ∧ Hid (wr.cell? ⟨w.heap.size, 4, none⟩ = some (.slice A n c)) ∧ Hid (wr.cell? ⟨w.heap.size + 1, 4, none⟩ = some (.slice B n d)) ∧ Hid (Below w.heap.size w wr)) (fun i _ => n - (intOf i).toNat)
  case atStart => exact ⟨0, Nat.zero_le _, rfl, hA, hB, HB⟩
  case round =>
    obtain ⟨k, hk, rfl, ha, hb, hbw⟩ := hrel
    have ha' := ha.out
    have hb' := hb.out
    have hza := World.block_lt_of_cell? _ _ hb'
    by_cases hlt : k < n
    · have hl1 : k < l.length := by have := HLN.out; omega
      have hl2 : k < m.length := by have := HMN.out; omega
      obtain ⟨ba, oa, rfl, hba, hca⟩ := (HRA.out.below hbw.out) (by omega)
      obtain ⟨bb, ob, rfl, hbb, hcb⟩ := (HRB.out.below hbw.out) (by omega)
      obtain ⟨x0, x1, x2, x3, x4⟩ := hca k hl1
      obtain ⟨y0, y1, y2, y3, y4⟩ := hcb k hl2
      have HX := Lib.hid (HIH.out _ (List.getElem_mem hl1) m[k] wr.drew (strip_get HS.out k hl1 hl2) (InT.later (HIA.out _ (List.getElem_mem hl1)) hbw.out.drew) (InT.later (HIB.out _ (List.getElem_mem hl2)) hbw.out.drew) (by have := NT.cnts_mem (List.getElem_mem hl1); omega))
      have g1 : (0 : Int) ≤ (k : Int) := by omega
      have g2 : (k : Int) < (n : Int) := by omega
      clear hca hcb
      generalize l[k] = x at *
      generalize m[k] = y at *
      go_wp2_with (fail)
      have HK := Lib.hid (show ∀ w' : World, Below wr.heap.size wr.drew w' → w'.cell? ⟨w.heap.size, 4, none⟩ = some (.slice (some ⟨ba, oa, none⟩) n c) ∧ w'.cell? ⟨w.heap.size + 1, 4, none⟩ = some (.slice (some ⟨bb, ob, none⟩) n d) ∧ w'.cell? ⟨ba, oa + k * 5, none⟩ = some (.int .i64 x.kind) ∧ w'.cell? ⟨ba, oa + k * 5 + 1, none⟩ = some (.string x.text) ∧ w'.cell? ⟨ba, oa + k * 5 + 2, none⟩ = some (.int .i64 x.lo) ∧ w'.cell? ⟨ba, oa + k * 5 + 3, none⟩ = some (.int .i64 x.hi) ∧ w'.cell? ⟨ba, oa + k * 5 + 4, none⟩ = some (.slice x.A x.kids.length x.c) ∧ w'.cell? ⟨bb, ob + k * 5, none⟩ = some (.int .i64 y.kind) ∧ w'.cell? ⟨bb, ob + k * 5 + 1, none⟩ = some (.string y.text) ∧ w'.cell? ⟨bb, ob + k * 5 + 2, none⟩ = some (.int .i64 y.lo) ∧ w'.cell? ⟨bb, ob + k * 5 + 3, none⟩ = some (.int .i64 y.hi) ∧ w'.cell? ⟨bb, ob + k * 5 + 4, none⟩ = some (.slice y.A y.kids.length y.c) from fun w' hb2 => ⟨(hb2.cell (p := ⟨w.heap.size, 4, none⟩) (World.block_lt_of_cell? wr _ ha')).trans ha', (hb2.cell (p := ⟨w.heap.size + 1, 4, none⟩) (World.block_lt_of_cell? wr _ hb')).trans hb', (hb2.cell (p := ⟨ba, oa + k * 5, none⟩) (World.block_lt_of_cell? wr _ x0)).trans x0, (hb2.cell (p := ⟨ba, oa + k * 5 + 1, none⟩) (World.block_lt_of_cell? wr _ x1)).trans x1, (hb2.cell (p := ⟨ba, oa + k * 5 + 2, none⟩) (World.block_lt_of_cell? wr _ x2)).trans x2, (hb2.cell (p := ⟨ba, oa + k * 5 + 3, none⟩) (World.block_lt_of_cell? wr _ x3)).trans x3, (hb2.cell (p := ⟨ba, oa + k * 5 + 4, none⟩) (World.block_lt_of_cell? wr _ x4)).trans x4, (hb2.cell (p := ⟨bb, ob + k * 5, none⟩) (World.block_lt_of_cell? wr _ y0)).trans y0, (hb2.cell (p := ⟨bb, ob + k * 5 + 1, none⟩) (World.block_lt_of_cell? wr _ y1)).trans y1, (hb2.cell (p := ⟨bb, ob + k * 5 + 2, none⟩) (World.block_lt_of_cell? wr _ y2)).trans y2, (hb2.cell (p := ⟨bb, ob + k * 5 + 3, none⟩) (World.block_lt_of_cell? wr _ y3)).trans y3, (hb2.cell (p := ⟨bb, ob + k * 5 + 4, none⟩) (World.block_lt_of_cell? wr _ y4)).trans y4⟩)
      go_region_held3 (fun w' => w'.cell? ⟨w.heap.size, 4, none⟩ = some (.slice (some ⟨ba, oa, none⟩) n c) ∧ w'.cell? ⟨w.heap.size + 1, 4, none⟩ = some (.slice (some ⟨bb, ob, none⟩) n d) ∧ w'.cell? ⟨ba, oa + k * 5, none⟩ = some (.int .i64 x.kind) ∧ w'.cell? ⟨ba, oa + k * 5 + 1, none⟩ = some (.string x.text) ∧ w'.cell? ⟨ba, oa + k * 5 + 2, none⟩ = some (.int .i64 x.lo) ∧ w'.cell? ⟨ba, oa + k * 5 + 3, none⟩ = some (.int .i64 x.hi) ∧ w'.cell? ⟨ba, oa + k * 5 + 4, none⟩ = some (.slice x.A x.kids.length x.c) ∧ w'.cell? ⟨bb, ob + k * 5, none⟩ = some (.int .i64 y.kind) ∧ w'.cell? ⟨bb, ob + k * 5 + 1, none⟩ = some (.string y.text) ∧ w'.cell? ⟨bb, ob + k * 5 + 2, none⟩ = some (.int .i64 y.lo) ∧ w'.cell? ⟨bb, ob + k * 5 + 3, none⟩ = some (.int .i64 y.hi) ∧ w'.cell? ⟨bb, ob + k * 5 + 4, none⟩ = some (.slice y.A y.kids.length y.c)) (first | exact HSS.out | go_keep) ((first | (go_at_call 32; refine HX.out.mono ?_; rintro e w2 ⟨rfl, hb2⟩; have HB2 := Lib.hid hb2; clear hb2; have HSS := Lib.hid (HK.out w2 HB2.out))))
      have HBW2 := Lib.hid ((hbw.out.drew).trans (HB2.out.mono hbw.out.size))
      have HA2 := Lib.hid (HK.out w2 HB2.out).1
      have HB3 := Lib.hid (HK.out w2 HB2.out).2.1
      go_wp2_with (fail)
      exact ⟨⟨k + 1, by omega, by go_num, HA2, HB3, HBW2⟩, by simp [intOf]; omega⟩
    · go_wp2_with (fail)
      go_ret
      exact ⟨rfl, hbw.out⟩
theorem r_equal_any : ∀ a : NT, Equals 32 a := NT.ind fun a ih b w hst hia hib hcn => by
  have h := (NT.strip_iff a b).1 hst
  have hl : a.kids.length = b.kids.length := by have := congrArg List.length h.2.2.2.2; simpa using this
  have hce := NT.cnt_eq a
  have g := r_equal_of a.kind a.text a.lo a.hi a.A b.A a.c b.c a.kids b.kids h.2.2.2.2 ih w hia.row hib.row (fun k hk => hia.kid hk) (fun k hk => hib.kid hk) (by omega) a.kids.length rfl hl.symm
  rw [← h.1, ← h.2.1, ← h.2.2.1, ← h.2.2.2.1, ← hl]
  exact g
end Go.Proofs.Ytjikfdifcpdhhaa
set_option linter.unusedVariables false
namespace Go.Proofs.Ytjikfdifcpdhhaa
open Go.RowKit

theorem text_eq {a b : ByteArray} (h : a.toList = b.toList) : a = b := by
  rw [ByteArray.toList_eq, ByteArray.toList_eq] at h
  cases a; cases b
  simp only [Array.toList_inj] at h
  rw [h]
set_option maxHeartbeats 4000000 in
set_option maxRecDepth 100000 in
theorem r_same_of (kd : Int) (t : ByteArray) (lo hi lo2 hi2 : Int) (A B : Option Addr) (c d : Nat) (l m : List NT) (ih : ∀ k ∈ l, Compares 37 k) (w : World) (hra : Row w.heap.size w A l) (hrb : Row w.heap.size w B m) (hia : ∀ k ∈ l, InT w.heap.size w k) (hib : ∀ k ∈ m, InT w.heap.size w k) (hcn : NT.cnts l ≤ 1000000000) (n : Nat) (hln : l.length = n) (hmn : m.length = n) :
    Calls Try.prog 37 #[.agg #[.int .i64 kd, .string t, .int .i64 lo, .int .i64 hi, .slice A n c], .agg #[.int .i64 kd, .string t, .int .i64 lo2, .int .i64 hi2, .slice B n d]] w fun e w' => e = .returned (.bool (NT.samesB l m)) ∧ Below w.heap.size w w' := by
  have HIH := Lib.hid ih
  have HRA := Lib.hid hra
  have HRB := Lib.hid hrb
  have HIA := Lib.hid hia
  have HIB := Lib.hid hib
  have hll := NT.cnts_len l
  have HLN := Lib.hid hln
  have HMN := Lib.hid hmn
  have hn : n ≤ 1000000000 := by omega
  have e1 : (kd != kd) = false := by simp
  have e4 : ((n : Int) != (n : Int)) = false := by simp
  clear ih hra hrb hia hib hln hmn
  go_enter Try.func37, Try.ntmps37
  go_wp2_with (fail)
  have HB := Lib.hid (((Below.refl w.heap.size w).alloc (Nat.le_refl _) (.cells #[.int .i64 kd, .string t, .int .i64 lo, .int .i64 hi, .slice A n c] 24)).alloc (by simp) (.cells #[.int .i64 kd, .string t, .int .i64 lo2, .int .i64 hi2, .slice B n d] 24))
  have hA : ((w.alloc (.cells #[.int .i64 kd, .string t, .int .i64 lo, .int .i64 hi, .slice A n c] 24)).alloc (.cells #[.int .i64 kd, .string t, .int .i64 lo2, .int .i64 hi2, .slice B n d] 24)).cell? ⟨w.heap.size, 4, none⟩ = some (.slice A n c) := Lib.cell_of_heap ((heap_alloc_old _ _ (by simp)).trans (heap_alloc_new w _)) 4
  have hB : ((w.alloc (.cells #[.int .i64 kd, .string t, .int .i64 lo, .int .i64 hi, .slice A n c] 24)).alloc (.cells #[.int .i64 kd, .string t, .int .i64 lo2, .int .i64 hi2, .slice B n d] 24)).cell? ⟨w.heap.size + 1, 4, none⟩ = some (.slice B n d) := by
    have h := heap_alloc_new (w.alloc (.cells #[.int .i64 kd, .string t, .int .i64 lo, .int .i64 hi, .slice A n c] 24)) (.cells #[.int .i64 kd, .string t, .int .i64 lo2, .int .i64 hi2, .slice B n d] 24)
    rw [World.size_alloc] at h
    exact Lib.cell_of_heap h 4
  have hz : ((w.alloc (.cells #[.int .i64 kd, .string t, .int .i64 lo, .int .i64 hi, .slice A n c] 24)).alloc (.cells #[.int .i64 kd, .string t, .int .i64 lo2, .int .i64 hi2, .slice B n d] 24)).heap.size = w.heap.size + 1 + 1 := by simp
  generalize ((w.alloc (.cells #[.int .i64 kd, .string t, .int .i64 lo, .int .i64 hi, .slice A n c] 24)).alloc (.cells #[.int .i64 kd, .string t, .int .i64 lo2, .int .i64 hi2, .slice B n d] 24)) = W at *
  go_loopw [5] (fun i wr => ∃ k : Nat, k ≤ n ∧ i = .int .i64 (k : Int) ∧ Hid (NT.samesB l m = NT.samesB (l.drop k) (m.drop k)) ∧ Hid (wr.cell? ⟨w.heap.size, 4, none⟩ = some (.slice A n c)) ∧ Hid (wr.cell? ⟨w.heap.size + 1, 4, none⟩ = some (.slice B n d)) ∧ Hid (Below w.heap.size w wr)) (fun i _ => n - (intOf i).toNat)
  case atStart => exact ⟨0, Nat.zero_le _, rfl, Lib.hid (by simp), hA, hB, HB⟩
  case round =>
    obtain ⟨k, hk, rfl, hsm, ha, hb, hbw⟩ := hrel
    have ha' := ha.out
    have hb' := hb.out
    have hza := World.block_lt_of_cell? _ _ hb'
    by_cases hlt : k < n
    · have hl1 : k < l.length := by have := HLN.out; omega
      have hl2 : k < m.length := by have := HMN.out; omega
      obtain ⟨ba, oa, rfl, hba, hca⟩ := (HRA.out.below hbw.out) (by omega)
      obtain ⟨bb, ob, rfl, hbb, hcb⟩ := (HRB.out.below hbw.out) (by omega)
      obtain ⟨x0, x1, x2, x3, x4⟩ := hca k hl1
      obtain ⟨y0, y1, y2, y3, y4⟩ := hcb k hl2
      have HX := Lib.hid (HIH.out _ (List.getElem_mem hl1) m[k] wr.drew (InT.later (HIA.out _ (List.getElem_mem hl1)) hbw.out.drew) (InT.later (HIB.out _ (List.getElem_mem hl2)) hbw.out.drew) (by have := NT.cnts_mem (List.getElem_mem hl1); omega))
      have g1 : (0 : Int) ≤ (k : Int) := by omega
      have g2 : (k : Int) < (n : Int) := by omega
      clear hca hcb
      have hd1 : l.drop k = l[k] :: l.drop (k + 1) := List.drop_eq_getElem_cons hl1
      have hd2 : m.drop k = m[k] :: m.drop (k + 1) := List.drop_eq_getElem_cons hl2
      rw [hd1, hd2, NT.samesB] at hsm
      clear hd1 hd2
      generalize l[k] = x at *
      generalize m[k] = y at *
      cases hh : NT.sameB x y with
      | true =>
          rw [hh] at HX hsm
          have HSM := Lib.hid (show NT.samesB l m = NT.samesB (l.drop (k + 1)) (m.drop (k + 1)) from by have h := hsm.out; rwa [Bool.true_and] at h)
          clear hh
          go_wp2_with (fail)
          have HK := Lib.hid (show ∀ w' : World, Below wr.heap.size wr.drew w' → w'.cell? ⟨w.heap.size, 4, none⟩ = some (.slice (some ⟨ba, oa, none⟩) n c) ∧ w'.cell? ⟨w.heap.size + 1, 4, none⟩ = some (.slice (some ⟨bb, ob, none⟩) n d) ∧ w'.cell? ⟨ba, oa + k * 5, none⟩ = some (.int .i64 x.kind) ∧ w'.cell? ⟨ba, oa + k * 5 + 1, none⟩ = some (.string x.text) ∧ w'.cell? ⟨ba, oa + k * 5 + 2, none⟩ = some (.int .i64 x.lo) ∧ w'.cell? ⟨ba, oa + k * 5 + 3, none⟩ = some (.int .i64 x.hi) ∧ w'.cell? ⟨ba, oa + k * 5 + 4, none⟩ = some (.slice x.A x.kids.length x.c) ∧ w'.cell? ⟨bb, ob + k * 5, none⟩ = some (.int .i64 y.kind) ∧ w'.cell? ⟨bb, ob + k * 5 + 1, none⟩ = some (.string y.text) ∧ w'.cell? ⟨bb, ob + k * 5 + 2, none⟩ = some (.int .i64 y.lo) ∧ w'.cell? ⟨bb, ob + k * 5 + 3, none⟩ = some (.int .i64 y.hi) ∧ w'.cell? ⟨bb, ob + k * 5 + 4, none⟩ = some (.slice y.A y.kids.length y.c) from fun w' hb2 => ⟨(hb2.cell (p := ⟨w.heap.size, 4, none⟩) (World.block_lt_of_cell? wr _ ha')).trans ha', (hb2.cell (p := ⟨w.heap.size + 1, 4, none⟩) (World.block_lt_of_cell? wr _ hb')).trans hb', (hb2.cell (p := ⟨ba, oa + k * 5, none⟩) (World.block_lt_of_cell? wr _ x0)).trans x0, (hb2.cell (p := ⟨ba, oa + k * 5 + 1, none⟩) (World.block_lt_of_cell? wr _ x1)).trans x1, (hb2.cell (p := ⟨ba, oa + k * 5 + 2, none⟩) (World.block_lt_of_cell? wr _ x2)).trans x2, (hb2.cell (p := ⟨ba, oa + k * 5 + 3, none⟩) (World.block_lt_of_cell? wr _ x3)).trans x3, (hb2.cell (p := ⟨ba, oa + k * 5 + 4, none⟩) (World.block_lt_of_cell? wr _ x4)).trans x4, (hb2.cell (p := ⟨bb, ob + k * 5, none⟩) (World.block_lt_of_cell? wr _ y0)).trans y0, (hb2.cell (p := ⟨bb, ob + k * 5 + 1, none⟩) (World.block_lt_of_cell? wr _ y1)).trans y1, (hb2.cell (p := ⟨bb, ob + k * 5 + 2, none⟩) (World.block_lt_of_cell? wr _ y2)).trans y2, (hb2.cell (p := ⟨bb, ob + k * 5 + 3, none⟩) (World.block_lt_of_cell? wr _ y3)).trans y3, (hb2.cell (p := ⟨bb, ob + k * 5 + 4, none⟩) (World.block_lt_of_cell? wr _ y4)).trans y4⟩)
          go_region_held3 (fun w' => w'.cell? ⟨w.heap.size, 4, none⟩ = some (.slice (some ⟨ba, oa, none⟩) n c) ∧ w'.cell? ⟨w.heap.size + 1, 4, none⟩ = some (.slice (some ⟨bb, ob, none⟩) n d) ∧ w'.cell? ⟨ba, oa + k * 5, none⟩ = some (.int .i64 x.kind) ∧ w'.cell? ⟨ba, oa + k * 5 + 1, none⟩ = some (.string x.text) ∧ w'.cell? ⟨ba, oa + k * 5 + 2, none⟩ = some (.int .i64 x.lo) ∧ w'.cell? ⟨ba, oa + k * 5 + 3, none⟩ = some (.int .i64 x.hi) ∧ w'.cell? ⟨ba, oa + k * 5 + 4, none⟩ = some (.slice x.A x.kids.length x.c) ∧ w'.cell? ⟨bb, ob + k * 5, none⟩ = some (.int .i64 y.kind) ∧ w'.cell? ⟨bb, ob + k * 5 + 1, none⟩ = some (.string y.text) ∧ w'.cell? ⟨bb, ob + k * 5 + 2, none⟩ = some (.int .i64 y.lo) ∧ w'.cell? ⟨bb, ob + k * 5 + 3, none⟩ = some (.int .i64 y.hi) ∧ w'.cell? ⟨bb, ob + k * 5 + 4, none⟩ = some (.slice y.A y.kids.length y.c)) (first | exact HSS.out | go_keep) ((first | (go_at_call 37; refine HX.out.mono ?_; rintro e w2 ⟨rfl, hb2⟩; have HB2 := Lib.hid hb2; clear hb2; have HSS := Lib.hid (HK.out w2 HB2.out))))
          have HBW2 := Lib.hid ((hbw.out.drew).trans (HB2.out.mono hbw.out.size))
          have HA2 := Lib.hid (HK.out w2 HB2.out).1
          have HB3 := Lib.hid (HK.out w2 HB2.out).2.1
          go_wp2_with (fail)
          exact ⟨⟨k + 1, by omega, by go_num, HSM, HA2, HB3, HBW2⟩, by simp [intOf]; omega⟩
      | false =>
          rw [hh] at HX hsm
          have HSM := Lib.hid (show NT.samesB l m = false from by have h := hsm.out; rwa [Bool.false_and] at h)
          clear hh
          go_wp2_with (fail)
          have HK := Lib.hid (show ∀ w' : World, Below wr.heap.size wr.drew w' → w'.cell? ⟨w.heap.size, 4, none⟩ = some (.slice (some ⟨ba, oa, none⟩) n c) ∧ w'.cell? ⟨w.heap.size + 1, 4, none⟩ = some (.slice (some ⟨bb, ob, none⟩) n d) ∧ w'.cell? ⟨ba, oa + k * 5, none⟩ = some (.int .i64 x.kind) ∧ w'.cell? ⟨ba, oa + k * 5 + 1, none⟩ = some (.string x.text) ∧ w'.cell? ⟨ba, oa + k * 5 + 2, none⟩ = some (.int .i64 x.lo) ∧ w'.cell? ⟨ba, oa + k * 5 + 3, none⟩ = some (.int .i64 x.hi) ∧ w'.cell? ⟨ba, oa + k * 5 + 4, none⟩ = some (.slice x.A x.kids.length x.c) ∧ w'.cell? ⟨bb, ob + k * 5, none⟩ = some (.int .i64 y.kind) ∧ w'.cell? ⟨bb, ob + k * 5 + 1, none⟩ = some (.string y.text) ∧ w'.cell? ⟨bb, ob + k * 5 + 2, none⟩ = some (.int .i64 y.lo) ∧ w'.cell? ⟨bb, ob + k * 5 + 3, none⟩ = some (.int .i64 y.hi) ∧ w'.cell? ⟨bb, ob + k * 5 + 4, none⟩ = some (.slice y.A y.kids.length y.c) from fun w' hb2 => ⟨(hb2.cell (p := ⟨w.heap.size, 4, none⟩) (World.block_lt_of_cell? wr _ ha')).trans ha', (hb2.cell (p := ⟨w.heap.size + 1, 4, none⟩) (World.block_lt_of_cell? wr _ hb')).trans hb', (hb2.cell (p := ⟨ba, oa + k * 5, none⟩) (World.block_lt_of_cell? wr _ x0)).trans x0, (hb2.cell (p := ⟨ba, oa + k * 5 + 1, none⟩) (World.block_lt_of_cell? wr _ x1)).trans x1, (hb2.cell (p := ⟨ba, oa + k * 5 + 2, none⟩) (World.block_lt_of_cell? wr _ x2)).trans x2, (hb2.cell (p := ⟨ba, oa + k * 5 + 3, none⟩) (World.block_lt_of_cell? wr _ x3)).trans x3, (hb2.cell (p := ⟨ba, oa + k * 5 + 4, none⟩) (World.block_lt_of_cell? wr _ x4)).trans x4, (hb2.cell (p := ⟨bb, ob + k * 5, none⟩) (World.block_lt_of_cell? wr _ y0)).trans y0, (hb2.cell (p := ⟨bb, ob + k * 5 + 1, none⟩) (World.block_lt_of_cell? wr _ y1)).trans y1, (hb2.cell (p := ⟨bb, ob + k * 5 + 2, none⟩) (World.block_lt_of_cell? wr _ y2)).trans y2, (hb2.cell (p := ⟨bb, ob + k * 5 + 3, none⟩) (World.block_lt_of_cell? wr _ y3)).trans y3, (hb2.cell (p := ⟨bb, ob + k * 5 + 4, none⟩) (World.block_lt_of_cell? wr _ y4)).trans y4⟩)
          go_region_held3 (fun w' => w'.cell? ⟨w.heap.size, 4, none⟩ = some (.slice (some ⟨ba, oa, none⟩) n c) ∧ w'.cell? ⟨w.heap.size + 1, 4, none⟩ = some (.slice (some ⟨bb, ob, none⟩) n d) ∧ w'.cell? ⟨ba, oa + k * 5, none⟩ = some (.int .i64 x.kind) ∧ w'.cell? ⟨ba, oa + k * 5 + 1, none⟩ = some (.string x.text) ∧ w'.cell? ⟨ba, oa + k * 5 + 2, none⟩ = some (.int .i64 x.lo) ∧ w'.cell? ⟨ba, oa + k * 5 + 3, none⟩ = some (.int .i64 x.hi) ∧ w'.cell? ⟨ba, oa + k * 5 + 4, none⟩ = some (.slice x.A x.kids.length x.c) ∧ w'.cell? ⟨bb, ob + k * 5, none⟩ = some (.int .i64 y.kind) ∧ w'.cell? ⟨bb, ob + k * 5 + 1, none⟩ = some (.string y.text) ∧ w'.cell? ⟨bb, ob + k * 5 + 2, none⟩ = some (.int .i64 y.lo) ∧ w'.cell? ⟨bb, ob + k * 5 + 3, none⟩ = some (.int .i64 y.hi) ∧ w'.cell? ⟨bb, ob + k * 5 + 4, none⟩ = some (.slice y.A y.kids.length y.c)) (first | exact HSS.out | go_keep) ((first | (go_at_call 37; refine HX.out.mono ?_; rintro e w2 ⟨rfl, hb2⟩; have HB2 := Lib.hid hb2; clear hb2; have HSS := Lib.hid (HK.out w2 HB2.out))))
          have HBW2 := Lib.hid ((hbw.out.drew).trans (HB2.out.mono hbw.out.size))
          have HA2 := Lib.hid (HK.out w2 HB2.out).1
          have HB3 := Lib.hid (HK.out w2 HB2.out).2.1
          go_wp2_with (fail)
          go_ret
          exact ⟨congrArg (fun b => Ending.returned (Value.bool b)) HSM.out.symm, HBW2.out⟩
    · have hd1 : l.drop k = [] := List.drop_eq_nil_of_le (by have := HLN.out; omega)
      have hd2 : m.drop k = [] := List.drop_eq_nil_of_le (by have := HMN.out; omega)
      rw [hd1, hd2] at hsm
      clear hd1 hd2
      go_wp2_with (fail)
      go_ret
      exact ⟨congrArg (fun b => Ending.returned (Value.bool b)) hsm.out.symm, hbw.out⟩
set_option maxRecDepth 100000 in
theorem r_same_any : ∀ a : NT, Compares 37 a := NT.ind fun a ih b w hia hib hcn => by
  have hce := NT.cnt_eq a
  have hba := ((Below.refl w.heap.size w).alloc (Nat.le_refl _) (.cells #[.int .i64 a.kind, .string a.text, .int .i64 a.lo, .int .i64 a.hi, .slice a.A a.kids.length a.c] 24)).alloc (by simp) (.cells #[.int .i64 b.kind, .string b.text, .int .i64 b.lo, .int .i64 b.hi, .slice b.A b.kids.length b.c] 24)
  have HBA := Lib.hid hba
  have HE := Lib.hid (NT.sameB_eq a b)
  clear hba
  by_cases hk : a.kind = b.kind
  · by_cases ht : a.text.toList = b.text.toList
    · by_cases hl : a.kids.length = b.kids.length
      · have ht2 := text_eq ht
        have g := r_same_of a.kind a.text a.lo a.hi b.lo b.hi a.A b.A a.c b.c a.kids b.kids ih w hia.row hib.row (fun k hk => hia.kid hk) (fun k hk => hib.kid hk) (by omega) a.kids.length rfl hl.symm
        have HV := Lib.hid (show NT.sameB a b = NT.samesB a.kids b.kids by rw [HE.out, hk, ht]; simp)
        rw [HV.out, ← hk, ← ht2, ← hl]
        exact g
      · have ht2 := text_eq ht
        have HV := Lib.hid (show NT.sameB a b = false by rw [HE.out, NT.samesB_len _ _ hl]; simp)
        have e1 : ((a.kids.length : Int) != (b.kids.length : Int)) = true := by simpa using (by omega : ¬ (a.kids.length : Int) = (b.kids.length : Int))
        rw [HV.out]
        have HT := Lib.hid ht2
        rw [← hk, ← ht2]
        clear hk ht hl ht2 ih hia hib hce
        have HB2 := Lib.hid (((Below.refl w.heap.size w).alloc (Nat.le_refl _) (.cells #[.int .i64 a.kind, .string a.text, .int .i64 a.lo, .int .i64 a.hi, .slice a.A a.kids.length a.c] 24)).alloc (by simp) (.cells #[.int .i64 a.kind, .string a.text, .int .i64 b.lo, .int .i64 b.hi, .slice b.A b.kids.length b.c] 24))
        go_enter Try.func37, Try.ntmps37
        go_wp2_with (fail)
        go_ret
        exact ⟨rfl, HB2.out⟩
    · have HV := Lib.hid (show NT.sameB a b = false by rw [HE.out, show (a.text.toList == b.text.toList) = false from by simpa using ht]; simp)
      have e1 : (a.text.toList == b.text.toList) = false := by simpa using ht
      have e2 : (a.text.toList != b.text.toList) = true := by simpa using ht
      have HB2 := Lib.hid (((Below.refl w.heap.size w).alloc (Nat.le_refl _) (.cells #[.int .i64 a.kind, .string a.text, .int .i64 a.lo, .int .i64 a.hi, .slice a.A a.kids.length a.c] 24)).alloc (by simp) (.cells #[.int .i64 a.kind, .string b.text, .int .i64 b.lo, .int .i64 b.hi, .slice b.A b.kids.length b.c] 24))
      rw [HV.out, ← hk]
      clear hk ht ih hia hib hce
      go_enter Try.func37, Try.ntmps37
      go_wp2_with (fail)
      go_ret
      exact ⟨rfl, HB2.out⟩
  · have HV := Lib.hid (show NT.sameB a b = false by rw [HE.out, show (a.kind == b.kind) = false from by simpa using hk]; rfl)
    have e1 : (a.kind != b.kind) = true := by simpa using hk
    rw [HV.out]
    clear hk ih hia hib hce
    go_enter Try.func37, Try.ntmps37
    go_wp2_with (fail)
    go_ret
    exact ⟨rfl, HBA.out⟩
end Go.Proofs.Ytjikfdifcpdhhaa
set_option linter.unusedVariables false
namespace Go.Proofs.Ytjikfdifcpdhhaa
open Go.RowKit

theorem inS_avoid {S : Nat → Prop} {w : World} {g : Nat} : ∀ n : NT, InS S w n → g ∉ NT.blks n → InS (fun b => S b ∧ b ≠ g) w n := NT.ind fun n ih h hg => by
  refine (inS_iff n).2 ⟨fun h0 => ?_, h.cap, fun k hk => ih k hk (h.kid hk) (fun hm => hg ?_)⟩
  · obtain ⟨a, off, hA, hS, hc, hb⟩ := blks_cons h h0
    rw [hb] at hg
    exact ⟨a, off, hA, ⟨hS, fun e => hg (by rw [← e]; simp)⟩, hc⟩
  · rw [NT.blks_eq]
    exact List.mem_append_right _ ((NT.mem_blkss _).2 ⟨k, hk, hm⟩)
theorem NBox.len {W : World} {b : Nat} {k : Int} {t : ByteArray} {lo hi : Int} {A : Option Addr} {c : Nat} {l l' : List NT} (h : NBox W b (.mk k t lo hi A c l)) (e : l.length = l'.length) : NBox W b (.mk k t lo hi A c l') := by
  have h' : W.heap[b]? = some (.cells #[.int .i64 k, .string t, .int .i64 lo, .int .i64 hi, .slice A l.length c] 24 (0, 0)) := h
  rw [e] at h'
  exact h'
/-- the kids' row while its nodes are being replaced -/
def KRow (B : Nat) (A : Option Addr) (l : List NT) (W : World) : Prop := 0 < l.length → ∃ g off, A = some ⟨g, off, none⟩ ∧ B ≤ g ∧ g < W.heap.size ∧ Thaw W g ∧ (∀ (i : Nat) (hi : i < l.length), Cells5 W g (off + i * 5) l[i]) ∧ ∀ x ∈ l, InS (fun b => (B ≤ b ∧ b < W.heap.size) ∧ b ≠ g) W x
theorem KRow.start {W w1 : World} {m : NT} (hin : InS (Fresh W w1) w1 m) (hnd : (NT.blks m).Nodup) (hth : ∀ b ∈ NT.blks m, Thaw w1 b) : KRow W.heap.size m.A m.kids w1 := fun h0 => by
  obtain ⟨a, off, hA, hS, hc, hb⟩ := blks_cons hin h0
  rw [hb] at hnd hth
  rw [List.nodup_cons] at hnd
  exact ⟨a, off, hA, hS.1, hS.2, hth a (by simp), hc, fun x hx => inS_avoid x (hin.kid hx) (fun hm => hnd.1 ((NT.mem_blkss _).2 ⟨x, hx, hm⟩))⟩
/-- it stays where none of its blocks changes -/
theorem KRow.keep {B : Nat} {A : Option Addr} {l : List NT} {W W' : World} (h : KRow B A l W) (hz : W.heap.size ≤ W'.heap.size) (hk : ∀ b, B ≤ b → b < W.heap.size → W'.heap[b]? = W.heap[b]?) : KRow B A l W' := fun h0 => by
  obtain ⟨g, off, hA, h1, h2, h3, h4, h5⟩ := h h0
  refine ⟨g, off, hA, h1, by omega, h3.keep (hk g h1 h2), fun i hi => ?_, fun x hx => InS.mono (fun b hb => ⟨⟨hb.1.1, by have := hb.1.2; omega⟩, hb.2⟩) x (InS.keep (fun b hb => hk b hb.1.1 hb.1.2) x (h5 x hx))⟩
  obtain ⟨c0, c1, c2, c3, c4⟩ := h4 i hi
  have e : ∀ o, W'.cell? ⟨g, o, none⟩ = W.cell? ⟨g, o, none⟩ := fun o => World.cell?_of_block (hk g h1 h2)
  exact ⟨(e _).trans c0, (e _).trans c1, (e _).trans c2, (e _).trans c3, (e _).trans c4⟩
/-- one node stored into it -/
theorem KRow.put {B : Nat} {g off k : Nat} {l : List NT} {W : World} {x : NT} (h : KRow B (some ⟨g, off, none⟩) l W) (hk : k < l.length) (hx : InS (fun b => (B ≤ b ∧ b < W.heap.size) ∧ b ≠ g) W x) : KRow B (some ⟨g, off, none⟩) (l.set k x) (putO W g (off + k * 5) x) := fun h0 => by
  obtain ⟨g', off', hA, h1, h2, h3, h4, h5⟩ := h (by omega)
  cases hA
  have kp : ∀ y, InS (fun b => (B ≤ b ∧ b < W.heap.size) ∧ b ≠ g) W y → InS (fun b => (B ≤ b ∧ b < (putO W g (off + k * 5) x).heap.size) ∧ b ≠ g) (putO W g (off + k * 5) x) y := fun y hy => InS.mono (fun b hb => by rw [putO_size]; exact hb) y (InS.keep (fun b hb => putO_block W x hb.2) y hy)
  refine ⟨g, off, rfl, h1, by rw [putO_size]; exact h2, h3.putO g _ x, row_put h4 hk x, fun y hy => ?_⟩
  rcases List.mem_or_eq_of_mem_set hy with hy | hy
  · exact kp y (h5 y hy)
  · rw [hy]; exact kp x hx
/-- a call that returns a tree without its places -/
def BaresX (f : Nat) (n' n : NT) : Prop := ∀ w : World, InT w.heap.size w n' → NT.cnt n' ≤ 1000000000 →
  Calls Try.prog f #[.agg #[.int .i64 n'.kind, .string n'.text, .int .i64 n'.lo, .int .i64 n'.hi, .slice n'.A n'.kids.length n'.c]] w fun e w' => ∃ m : NT, e = .returned (.agg #[.int .i64 m.kind, .string m.text, .int .i64 m.lo, .int .i64 m.hi, .slice m.A m.kids.length m.c]) ∧ NT.strip m = NT.bare n ∧ InS (Fresh w w') w' m ∧ Below w.heap.size w w'

set_option maxHeartbeats 4000000 in
set_option maxRecDepth 100000 in
theorem r_bare_any : ∀ n n' : NT, NT.strip n' = NT.strip n → BaresX 39 n' n := NT.ind fun n ih n' hs w hin hcn => by
  have IH := Lib.hid ih
  have HS := Lib.hid hs
  clear ih hs
  go_enter Try.func39, Try.ntmps39
  go_wp2_with (fail)
  have hb0 : Below w.heap.size w ((w.alloc (.cells #[.int .i64 n'.kind, .string n'.text, .int .i64 n'.lo, .int .i64 n'.hi, .slice n'.A n'.kids.length n'.c] 24)).alloc (.cells #[.int .i64 0, .string ⟨#[]⟩, .int .i64 0, .int .i64 0, .slice none 0 0] 24)) := ((Below.refl _ _).alloc (Nat.le_refl _) _).alloc (by simp) _
  have hn : NBox ((w.alloc (.cells #[.int .i64 n'.kind, .string n'.text, .int .i64 n'.lo, .int .i64 n'.hi, .slice n'.A n'.kids.length n'.c] 24)).alloc (.cells #[.int .i64 0, .string ⟨#[]⟩, .int .i64 0, .int .i64 0, .slice none 0 0] 24)) w.heap.size n' := (heap_alloc_old _ _ (by simp)).trans (NBox.new w n')
  have hr : NBox ((w.alloc (.cells #[.int .i64 n'.kind, .string n'.text, .int .i64 n'.lo, .int .i64 n'.hi, .slice n'.A n'.kids.length n'.c] 24)).alloc (.cells #[.int .i64 0, .string ⟨#[]⟩, .int .i64 0, .int .i64 0, .slice none 0 0] 24)) (w.heap.size + 1) zeroN := by
    have h := zero_box (w.alloc (.cells #[.int .i64 n'.kind, .string n'.text, .int .i64 n'.lo, .int .i64 n'.hi, .slice n'.A n'.kids.length n'.c] 24))
    rw [World.size_alloc] at h
    exact h
  have hz : ((w.alloc (.cells #[.int .i64 n'.kind, .string n'.text, .int .i64 n'.lo, .int .i64 n'.hi, .slice n'.A n'.kids.length n'.c] 24)).alloc (.cells #[.int .i64 0, .string ⟨#[]⟩, .int .i64 0, .int .i64 0, .slice none 0 0] 24)).heap.size = w.heap.size + 2 := by simp
  generalize ((w.alloc (.cells #[.int .i64 n'.kind, .string n'.text, .int .i64 n'.lo, .int .i64 n'.hi, .slice n'.A n'.kids.length n'.c] 24)).alloc (.cells #[.int .i64 0, .string ⟨#[]⟩, .int .i64 0, .int .i64 0, .slice none 0 0] 24)) = W at *
  refine (copied_sep n' W (InT.later hin hb0) hcn).mono ?_
  rintro e w1 ⟨m0, rfl, hst0, hin0, hnd0, hth0, hb1⟩
  have hzW := hb1.size
  have HB1 := Lib.hid (hb0.trans (hb1.mono hb0.size))
  have HN1 := Lib.hid (hn.below hb1 (by omega))
  have HR1 := Lib.hid (hr.below hb1 (by omega))
  have HST := Lib.hid (hst0.trans HS.out)
  have HIN := Lib.hid hin0
  have HND := Lib.hid hnd0
  have HTH := Lib.hid hth0
  have HFR := Lib.hid (NT.blks_in m0 hin0)
  have HLEN := Lib.hid (NT.strip_kids_len (hst0.trans HS.out))
  have hcm : NT.cnt m0 ≤ 1000000000 := by rw [NT.cnt_of_strip hst0]; exact hcn
  have hkl := NT.kids_len m0
  clear hb0 hn hr hst0 hin0 hnd0 hth0 hb1 hin
  obtain ⟨c0, c1, c2, c3, c4⟩ := HN1.out.cells
  have f0 := HN1.out.frozen 0
  have f1 := HN1.out.frozen 1
  have f2 := HN1.out.frozen 2
  have f3 := HN1.out.frozen 3
  have f4 := HN1.out.frozen 4
  go_wp2_with (fail)
  have HBX := Lib.hid (show NBox ((put5 w1 w.heap.size m0).setCell ⟨w.heap.size, 2, none⟩ (.int .i64 0) |>.setCell ⟨w.heap.size, 3, none⟩ (.int .i64 0)) w.heap.size (.mk m0.kind m0.text 0 0 m0.A m0.c m0.kids) from set_same (set_same (HN1.out.put m0) _) _)
  have far : ∀ b, b ≠ w.heap.size → ((put5 w1 w.heap.size m0).setCell ⟨w.heap.size, 2, none⟩ (.int .i64 0) |>.setCell ⟨w.heap.size, 3, none⟩ (.int .i64 0)).heap[b]? = w1.heap[b]? := fun b hb => (Below.heap_setCell _ ⟨w.heap.size, 3, none⟩ _ b (by show b ≠ w.heap.size; exact hb)).trans ((Below.heap_setCell _ ⟨w.heap.size, 2, none⟩ _ b (by show b ≠ w.heap.size; exact hb)).trans (put5_far w1 m0 hb))
  have hsz : ((put5 w1 w.heap.size m0).setCell ⟨w.heap.size, 2, none⟩ (.int .i64 0) |>.setCell ⟨w.heap.size, 3, none⟩ (.int .i64 0)).heap.size = w1.heap.size := by simp [World.setCell]
  have HKR := Lib.hid ((KRow.start HIN.out HND.out HTH.out).keep (W' := ((put5 w1 w.heap.size m0).setCell ⟨w.heap.size, 2, none⟩ (.int .i64 0) |>.setCell ⟨w.heap.size, 3, none⟩ (.int .i64 0))) (by rw [hsz]; exact Nat.le_refl _) (fun b hb _ => far b (by omega)))
  have HRX := Lib.hid (show NBox ((put5 w1 w.heap.size m0).setCell ⟨w.heap.size, 2, none⟩ (.int .i64 0) |>.setCell ⟨w.heap.size, 3, none⟩ (.int .i64 0)) (w.heap.size + 1) zeroN from (far _ (by omega)).trans HR1.out)
  have HBB := Lib.hid (((put5_below HB1.out (Nat.le_refl _) m0).setCell (p := ⟨w.heap.size, 2, none⟩) (Nat.le_refl _) (.int .i64 0)).setCell (p := ⟨w.heap.size, 3, none⟩) (Nat.le_refl _) (.int .i64 0))
  have HZB := Lib.hid hsz
  dsimp only [put5] at HBX HKR HRX HBB HZB
  clear far hsz c0 c1 c2 c3 c4 f0 f1 f2 f3 f4
  generalize (((((((w1.setCell ⟨w.heap.size, 0, none⟩ (.int .i64 m0.kind)).setCell ⟨w.heap.size, 1, none⟩ (.string m0.text)).setCell ⟨w.heap.size, 2, none⟩ (.int .i64 m0.lo)).setCell ⟨w.heap.size, 3, none⟩ (.int .i64 m0.hi)).setCell ⟨w.heap.size, 4, none⟩ (.slice m0.A m0.kids.length m0.c)).setCell ⟨w.heap.size, 2, none⟩ (.int .i64 0)).setCell ⟨w.heap.size, 3, none⟩ (.int .i64 0)) = w2 at *
  have HSS := Lib.hid ((NT.strip_iff m0 n).1 HST.out)
  have hcap := HIN.out.cap
  go_loopw [3] (fun i wr => ∃ (k : Nat) (l : List NT), k ≤ l.length ∧ i = .int .i64 (k : Int) ∧ Hid (l.length = n.kids.length) ∧ Hid (∀ (i : Nat) (h : i < l.length) (h2 : i < n.kids.length), NT.strip l[i] = if i < k then NT.bare n.kids[i] else NT.strip n.kids[i]) ∧ Hid (KRow W.heap.size m0.A l wr) ∧ Hid (NBox wr w.heap.size (.mk m0.kind m0.text 0 0 m0.A m0.c l)) ∧ Hid (NBox wr (w.heap.size + 1) zeroN) ∧ Hid (Below w.heap.size w wr)) (fun i _ => m0.kids.length - (intOf i).toNat)
  case atStart => exact ⟨0, m0.kids, Nat.zero_le _, rfl, HLEN, Lib.hid (fun i h h2 => by rw [if_neg (by omega)]; exact NT.strip_kid HST.out i h h2), HKR, HBX, HRX, HBB⟩
  case round =>
    obtain ⟨k, l, hk, rfl, hll, hsl, hkr, hnb, hrb, hbw⟩ := hrel
    have b0 : wr.cell? ⟨w.heap.size, 0, none⟩ = some (.int .i64 m0.kind) := hnb.out.cells.1
    have b1 : wr.cell? ⟨w.heap.size, 1, none⟩ = some (.string m0.text) := hnb.out.cells.2.1
    have b2 : wr.cell? ⟨w.heap.size, 2, none⟩ = some (.int .i64 0) := hnb.out.cells.2.2.1
    have b3 : wr.cell? ⟨w.heap.size, 3, none⟩ = some (.int .i64 0) := hnb.out.cells.2.2.2.1
    have b4 : wr.cell? ⟨w.heap.size, 4, none⟩ = some (.slice m0.A l.length m0.c) := hnb.out.cells.2.2.2.2
    have hlb : l.length ≤ 1000000000 := by have h1 := hll.out; have h2 := HLEN.out; omega
    have hzr : w.heap.size + 1 < wr.heap.size := (Array.getElem?_eq_some_iff.1 hrb.out).1
    by_cases hlt : k < l.length
    · have hk2 : k < n.kids.length := by have h1 := hll.out; omega
      obtain ⟨g, off, hA, hg1, hg2, hth, hcs, hki⟩ := hkr.out (by omega)
      obtain ⟨d0, d1, d2, d3, d4⟩ := hcs k hlt
      have hse : NT.strip l[k] = NT.strip n.kids[k] := by rw [hsl.out k hlt hk2, if_neg (by omega)]
      have hcl : NT.cnt l[k] ≤ 1000000000 := by
        rw [NT.cnt_of_strip hse]
        have h1 := NT.cnt_kid (List.getElem_mem hk2)
        have h2 := NT.cnt_of_strip HST.out
        omega
      have hdb : Below wr.heap.size wr wr.drew := (Below.refl wr.heap.size wr).drew
      have HX := Lib.hid (IH.out n.kids[k] (List.getElem_mem hk2) l[k] hse wr.drew (InT.later (inS_inT l[k] (InS.mono (fun b hb => hb.1.2) l[k] (hki l[k] (List.getElem_mem hlt)))) hdb) hcl)
      have HDB := Lib.hid hdb
      have HTG := Lib.hid hth
      have HCS := Lib.hid (hcs k hlt)
      have HNK := Lib.hid (show ∀ m : NT, NT.strip m = NT.bare n.kids[k] → ∀ (i : Nat) (h : i < (l.set k m).length) (h2 : i < n.kids.length), NT.strip (l.set k m)[i] = if i < k + 1 then NT.bare n.kids[i] else NT.strip n.kids[i] from fun m hm i h h2 => by
        have hi : i < l.length := by simpa using h
        by_cases e : k = i
        · subst e
          rw [List.getElem_set_self, if_pos (by omega)]
          exact hm
        · rw [List.getElem_set_ne e, hsl.out i hi h2]
          by_cases e2 : i < k
          · rw [if_pos e2, if_pos (by omega)]
          · rw [if_neg e2, if_neg (by omega)])
      have HA := Lib.hid hA
      rw [hA] at b4
      have g1 : (0 : Int) ≤ (k : Int) := by omega
      have g2 : (k : Int) < (l.length : Int) := by omega
      clear hcs hki hth hse hcl hdb hA
      generalize l[k] = x at *
      go_wp2_with (fail)
      go_region_law (first | (go_simp; go_at_call 39; refine HX.out.mono ?_; rintro e w3 ⟨m, rfl, hms, hmi, hb3⟩; have HMS := Lib.hid hms; have HMI := Lib.hid hmi; have HB3 := Lib.hid (HDB.out.trans hb3); have HN3 := Lib.hid (hnb.out.next HB3.out); have hx4 : w3.cell? ⟨w.heap.size, 4, none⟩ = some (.slice (some ⟨g, off, none⟩) l.length m0.c) := (HB3.out.cell (p := ⟨w.heap.size, 4, none⟩) (World.block_lt_of_cell? wr _ b4)).trans b4; obtain ⟨e0, e1, e2, e3, e4⟩ := HCS.out.below HB3.out hg2; have HT3 := Lib.hid (HTG.out.keep (HB3.out.block g hg2)); have t0 := HT3.out (off + k * 5); have t1 := HT3.out (off + k * 5 + 1); have t2 := HT3.out (off + k * 5 + 2); have t3 := HT3.out (off + k * 5 + 3); have t4 := HT3.out (off + k * 5 + 4); clear hms hmi hb3))
      all_goals
        have hz3 := HB3.out.size
        have HK3 := Lib.hid (hkr.out.keep hz3 (fun b _ hb => HB3.out.block b hb))
        rw [HA.out] at HK3
        have HK4 := Lib.hid (HK3.out.put (x := m) hlt (InS.mono (fun b hb => by have h1 : wr.heap.size ≤ b := hb.1; exact ⟨⟨by omega, hb.2⟩, by omega⟩) m HMI.out))
        have HN4 := Lib.hid (show NBox (putO w3 g (off + k * 5) m) w.heap.size (.mk m0.kind m0.text 0 0 m0.A m0.c (l.set k m)) from NBox.len ((putO_block w3 m (by omega)).trans HN3.out) (by rw [List.length_set]))
        have HR4 := Lib.hid (show NBox (putO w3 g (off + k * 5) m) (w.heap.size + 1) zeroN from (putO_block w3 m (by omega)).trans (hrb.out.next HB3.out))
        have HB4 := Lib.hid (putO_below (hbw.out.trans (HB3.out.mono hbw.out.size)) (by omega : w.heap.size ≤ g) (off + k * 5) m)
        rw [← HA.out] at HK4
        go_simp
        go_wp2_with (fail)
        exact ⟨⟨k + 1, l.set k m, by rw [List.length_set]; omega, by go_num, Lib.hid (by rw [List.length_set]; exact hll.out), Lib.hid (HNK.out m HMS.out), HK4, HN4, HR4, HB4⟩, by have h1 := hll.out; have h2 := HLEN.out; simp [intOf]; omega⟩
    · obtain ⟨z0, z1, z2, z3, z4⟩ := zero_cells hrb.out
      have y0 := hrb.out.frozen 0
      have y1 := hrb.out.frozen 1
      have y2 := hrb.out.frozen 2
      have y3 := hrb.out.frozen 3
      have y4 := hrb.out.frozen 4
      have HBW := Lib.hid hbw.out
      have HRB := Lib.hid hrb.out
      have HKR2 := Lib.hid hkr.out
      have HFS := Lib.hid (show NT.strip (.mk m0.kind m0.text 0 0 m0.A m0.c l) = NT.bare n from by
        have e : l.map NT.strip = n.kids.map NT.bare := by
          apply List.ext_getElem
          · simp only [List.length_map]; exact hll.out
          · intro i h1 h2
            simp only [List.length_map] at h1 h2
            rw [List.getElem_map, List.getElem_map, hsl.out i h1 h2, if_pos (by omega)]
        rw [NT.strip_eq, NT.bare_eq]
        show NT.mk m0.kind m0.text 0 0 none 0 (l.map NT.strip) = _
        rw [HSS.out.1, HSS.out.2.1, e])
      have HCP := Lib.hid (show l.length ≤ m0.c by have h1 := hll.out; have h2 := HLEN.out; omega)
      go_wp2_with (fail)
      have hq := HRB.out.putv m0.kind m0.text 0 0 m0.A m0.c l
      have hbq := putv_below HBW.out (b := w.heap.size + 1) (by omega) (.int .i64 m0.kind) (.string m0.text) (.int .i64 0) (.int .i64 0) (.slice m0.A l.length m0.c)
      have hfar : ∀ b, b ≠ w.heap.size + 1 → (putv wr (w.heap.size + 1) (.int .i64 m0.kind) (.string m0.text) (.int .i64 0) (.int .i64 0) (.slice m0.A l.length m0.c)).heap[b]? = wr.heap[b]? := fun b hb => put5_far wr (.mk m0.kind m0.text 0 0 m0.A m0.c l) hb
      have hszv : (putv wr (w.heap.size + 1) (.int .i64 m0.kind) (.string m0.text) (.int .i64 0) (.int .i64 0) (.slice m0.A l.length m0.c)).heap.size = wr.heap.size := by simp [World.setCell]
      have hM : InS (Fresh w (putv wr (w.heap.size + 1) (.int .i64 m0.kind) (.string m0.text) (.int .i64 0) (.int .i64 0) (.slice m0.A l.length m0.c))) (putv wr (w.heap.size + 1) (.int .i64 m0.kind) (.string m0.text) (.int .i64 0) (.int .i64 0) (.slice m0.A l.length m0.c)) (.mk m0.kind m0.text 0 0 m0.A m0.c l) := by
        have hk5 := HKR2.out.keep (W' := putv wr (w.heap.size + 1) (.int .i64 m0.kind) (.string m0.text) (.int .i64 0) (.int .i64 0) (.slice m0.A l.length m0.c)) (by rw [hszv]; exact Nat.le_refl _) (fun b hb _ => hfar b (by omega))
        refine (inS_iff _).2 ⟨fun h0 => ?_, HCP.out, fun x hx => ?_⟩
        · obtain ⟨g, off, hA, h1, h2, _, h4, _⟩ := hk5 h0
          exact ⟨g, off, hA, ⟨by omega, h2⟩, h4⟩
        · obtain ⟨g, off, hA, h1, h2, _, h4, h5⟩ := hk5 (List.length_pos_of_mem hx)
          exact InS.mono (fun b hb => ⟨by have := hb.1.1; omega, hb.1.2⟩) x (h5 x hx)
      have v0 : (putv wr (w.heap.size + 1) (.int .i64 m0.kind) (.string m0.text) (.int .i64 0) (.int .i64 0) (.slice m0.A l.length m0.c)).cell? ⟨w.heap.size + 1, 0, none⟩ = some (.int .i64 m0.kind) := hq.cells.1
      have v1 : (putv wr (w.heap.size + 1) (.int .i64 m0.kind) (.string m0.text) (.int .i64 0) (.int .i64 0) (.slice m0.A l.length m0.c)).cell? ⟨w.heap.size + 1, 1, none⟩ = some (.string m0.text) := hq.cells.2.1
      have v2 : (putv wr (w.heap.size + 1) (.int .i64 m0.kind) (.string m0.text) (.int .i64 0) (.int .i64 0) (.slice m0.A l.length m0.c)).cell? ⟨w.heap.size + 1, 2, none⟩ = some (.int .i64 0) := hq.cells.2.2.1
      have v3 : (putv wr (w.heap.size + 1) (.int .i64 m0.kind) (.string m0.text) (.int .i64 0) (.int .i64 0) (.slice m0.A l.length m0.c)).cell? ⟨w.heap.size + 1, 3, none⟩ = some (.int .i64 0) := hq.cells.2.2.2.1
      have v4 : (putv wr (w.heap.size + 1) (.int .i64 m0.kind) (.string m0.text) (.int .i64 0) (.int .i64 0) (.slice m0.A l.length m0.c)).cell? ⟨w.heap.size + 1, 4, none⟩ = some (.slice m0.A l.length m0.c) := hq.cells.2.2.2.2
      clear hq hfar hszv z0 z1 z2 z3 z4 y0 y1 y2 y3 y4 b0 b1 b2 b3 b4
      dsimp only [putv] at hbq v0 v1 v2 v3 v4 hM
      generalize (((((wr.setCell ⟨w.heap.size + 1, 0, none⟩ (.int .i64 m0.kind)).setCell ⟨w.heap.size + 1, 1, none⟩ (.string m0.text)).setCell ⟨w.heap.size + 1, 2, none⟩ (.int .i64 0)).setCell ⟨w.heap.size + 1, 3, none⟩ (.int .i64 0)).setCell ⟨w.heap.size + 1, 4, none⟩ (.slice m0.A l.length m0.c)) = V at *
      exact bodyPost_ret (v := .agg #[.int .i64 m0.kind, .string m0.text, .int .i64 0, .int .i64 0, .slice m0.A l.length m0.c]) (by simp [results, Try.results39, go_sem, v0, v1, v2, v3, v4]) rfl ⟨.mk m0.kind m0.text 0 0 m0.A m0.c l, rfl, HFS.out, hM, hbq⟩
end Go.Proofs.Ytjikfdifcpdhhaa
set_option linter.unusedVariables false
namespace Go.Proofs.Ytjikfdifcpdhhaa
open Go.RowKit Go.Shelf

/-- a node's label alone -/
def leaf (n : NT) : NT := .mk n.kind n.text 0 0 none 0 []
theorem rowB_leaf (ps : List (NT → Bool)) (h : ∀ p ∈ ps, ∀ x, p x = p (leaf x)) : ∀ l : List NT, rowB ps l = rowB ps (l.map leaf) := by
  induction ps with
  | nil => intro l; cases l <;> rfl
  | cons p ps ih =>
    intro l
    cases l with
    | nil => rfl
    | cons x xs =>
      simp only [rowB, List.map_cons]
      rw [← h p (by simp) x, ← ih (fun q hq => h q (by simp [hq])) xs]
theorem manyB_leaf (m : Int) (p : NT → Bool) (h : ∀ x, p x = p (leaf x)) (l : List NT) : manyB m p l = manyB m p (l.map leaf) := by
  unfold manyB
  rw [List.length_map, List.all_map]
  congr 1
  exact congrArg l.all (funext h)
def Leafy (P : List NT → Bool) : Prop := ∀ l, P l = P (l.map leaf)
theorem Leafy.ite {c : Prop} [Decidable c] {P Q : List NT → Bool} (h : Leafy P) (h' : Leafy Q) : Leafy (if c then P else Q) := by
  split
  · exact h
  · exact h'
theorem Leafy.no : Leafy (fun _ => false) := fun _ => rfl
theorem Leafy.row {ps : List (NT → Bool)} (h : ∀ p ∈ ps, ∀ x, p x = p (leaf x)) : Leafy (rowB ps) := rowB_leaf ps h
theorem Leafy.many {m : Int} {p : NT → Bool} (h : ∀ x, p x = p (leaf x)) : Leafy (manyB m p) := manyB_leaf m p h
theorem leafy_kids (k : Int) : Leafy (kidsB k) := by
  unfold kidsB
  repeat' (apply Leafy.ite)
  all_goals first | exact Leafy.no | (refine Leafy.many ?_; intro x; rfl) | (refine Leafy.row ?_; intro p hp x; first | (cases hp; done) | (simp only [List.mem_cons, List.not_mem_nil, or_false] at hp; (first | (subst hp; rfl) | (rcases hp with rfl | rfl <;> rfl) | (rcases hp with rfl | rfl | rfl <;> rfl))))
theorem kidsB_leaf (k : Int) (l : List NT) : kidsB k l = kidsB k (l.map leaf) := leafy_kids k l
theorem nodeB_leaf {m n : NT} (h1 : m.kind = n.kind) (h2 : m.text = n.text) (h3 : m.kids.map leaf = n.kids.map leaf) : nodeB m = nodeB n := by
  unfold nodeB
  rw [h1, h2, kidsB_leaf _ m.kids, kidsB_leaf _ n.kids, h3]
theorem leaf_of {m n : NT} (h : NT.strip m = NT.bare n) : leaf m = leaf n := by
  rw [NT.strip_eq, NT.bare_eq] at h
  simp only [NT.mk.injEq] at h
  unfold leaf
  rw [h.1, h.2.1]
theorem leafs_of {l l' : List NT} (h : l'.map NT.strip = l.map NT.bare) : l'.map leaf = l.map leaf := by
  induction l' generalizing l with
  | nil => cases l with
    | nil => rfl
    | cons y ys => simp at h
  | cons x xs ih => cases l with
    | nil => simp at h
    | cons y ys =>
      simp only [List.map_cons, List.cons.injEq] at h ⊢
      exact ⟨leaf_of h.1, ih h.2⟩
theorem all_forest (l : List NT) (ih : ∀ k ∈ l, ∀ m : NT, NT.strip m = NT.bare k → (NT.nds m).all nodeB = (NT.nds k).all nodeB) : ∀ l' : List NT, l'.map NT.strip = l.map NT.bare → (NT.ndss l').all nodeB = (NT.ndss l).all nodeB := by
  induction l with
  | nil => intro l' h; cases l' with
    | nil => rfl
    | cons x xs => simp at h
  | cons y ys ihl => intro l' h; cases l' with
    | nil => simp at h
    | cons x xs =>
      simp only [List.map_cons, List.cons.injEq] at h
      simp only [NT.ndss, List.all_append]
      rw [ih y (by simp) x h.1, ihl (fun k hk => ih k (by simp [hk])) xs h.2]
theorem all_blind : ∀ n m : NT, NT.strip m = NT.bare n → (NT.nds m).all nodeB = (NT.nds n).all nodeB := NT.ind fun n ih m h => by
  have h' := h
  rw [NT.strip_eq, NT.bare_eq] at h'
  simp only [NT.mk.injEq] at h'
  obtain ⟨h1, h2, _, _, _, _, h3⟩ := h'
  rw [NT.nds_eq, NT.nds_eq n, List.all_cons, List.all_cons, nodeB_leaf h1 h2 (leafs_of h3), all_forest n.kids ih m.kids h3]
theorem shaped_blind {root : NT → Bool} (hr : ∀ x, root x = root (leaf x)) {n m : NT} (h : NT.strip m = NT.bare n) : shapedB root m = shapedB root n := by
  unfold shapedB
  rw [hr m, hr n, leaf_of h, all_blind n m h]
/-- the places of a tree without places -/
theorem places_forest (l : List NT) (ih : ∀ k ∈ l, ∀ m : NT, NT.strip m = NT.bare k → ∀ x ∈ NT.nds m, x.lo = 0 ∧ x.hi = 0) : ∀ l' : List NT, l'.map NT.strip = l.map NT.bare → ∀ x ∈ NT.ndss l', x.lo = 0 ∧ x.hi = 0 := by
  induction l with
  | nil => intro l' h; cases l' with
    | nil => intro x hx; simp [NT.ndss] at hx
    | cons x xs => simp at h
  | cons y ys ihl => intro l' h; cases l' with
    | nil => simp at h
    | cons x xs =>
      simp only [List.map_cons, List.cons.injEq] at h
      intro z hz
      simp only [NT.ndss, List.mem_append] at hz
      rcases hz with hz | hz
      · exact ih y (by simp) x h.1 z hz
      · exact ihl (fun k hk => ih k (by simp [hk])) xs h.2 z hz
theorem places_zero : ∀ n m : NT, NT.strip m = NT.bare n → ∀ x ∈ NT.nds m, x.lo = 0 ∧ x.hi = 0 := NT.ind fun n ih m h => by
  have h' := h
  rw [NT.strip_eq, NT.bare_eq] at h'
  simp only [NT.mk.injEq] at h'
  obtain ⟨_, _, h4, h5, _, _, h3⟩ := h'
  intro x hx
  rw [NT.nds_eq] at hx
  rcases List.mem_cons.1 hx with rfl | hx
  · exact ⟨h4, h5⟩
  · exact places_forest n.kids ih m.kids h3 x hx
theorem kinds_forest (l : List NT) (ih : ∀ k ∈ l, ∀ m : NT, NT.strip m = NT.bare k → (∀ x ∈ NT.nds k, I64 x.kind) → ∀ x ∈ NT.nds m, I64 x.kind) : ∀ l' : List NT, l'.map NT.strip = l.map NT.bare → (∀ x ∈ NT.ndss l, I64 x.kind) → ∀ x ∈ NT.ndss l', I64 x.kind := by
  induction l with
  | nil => intro l' h; cases l' with
    | nil => intro _ x hx; simp [NT.ndss] at hx
    | cons x xs => simp at h
  | cons y ys ihl => intro l' h; cases l' with
    | nil => simp at h
    | cons x xs =>
      simp only [List.map_cons, List.cons.injEq] at h
      intro hw z hz
      simp only [NT.ndss, List.mem_append] at hz hw
      rcases hz with hz | hz
      · exact ih y (by simp) x h.1 (fun u hu => hw u (.inl hu)) z hz
      · exact ihl (fun k hk => ih k (by simp [hk])) xs h.2 (fun u hu => hw u (.inr hu)) z hz
theorem kinds_same : ∀ n m : NT, NT.strip m = NT.bare n → (∀ x ∈ NT.nds n, I64 x.kind) → ∀ x ∈ NT.nds m, I64 x.kind := NT.ind fun n ih m h hw => by
  have h' := h
  rw [NT.strip_eq, NT.bare_eq] at h'
  simp only [NT.mk.injEq] at h'
  obtain ⟨h1, _, _, _, _, _, h3⟩ := h'
  rw [NT.nds_eq] at hw
  intro x hx
  rw [NT.nds_eq] at hx
  rcases List.mem_cons.1 hx with rfl | hx
  · rw [h1]; exact hw n (by simp)
  · exact kinds_forest n.kids ih m.kids h3 (fun u hu => hw u (by simp [hu])) x hx
theorem cnt_bare : ∀ n : NT, NT.cnt (NT.bare n) = NT.cnt n := NT.ind fun n ih => by
  have h : ∀ l : List NT, (∀ k ∈ l, NT.cnt (NT.bare k) = NT.cnt k) → NT.cnts (l.map NT.bare) = NT.cnts l := by
    intro l
    induction l with
    | nil => intro _; rfl
    | cons x xs ihl => intro h; simp only [List.map_cons, NT.cnts]; rw [h x (by simp), ihl (fun k hk => h k (by simp [hk]))]
  rw [NT.bare_eq, NT.cnt_eq, NT.cnt_eq n, ← h n.kids ih]
  rfl
theorem cnt_blind {n m : NT} (h : NT.strip m = NT.bare n) : NT.cnt m = NT.cnt n := by
  rw [← NT.cnt_strip m, h, cnt_bare]
end Go.Proofs.Ytjikfdifcpdhhaa
set_option linter.unusedVariables false
namespace Go.Proofs.Ytjikfdifcpdhhaa
open Go.RowKit Go.Shelf

theorem rep_same {n : NT} {p : List Int} {f t : Int} {L : List NT} {a b : NT} {r s : Int} (h : RepRes n p f t L a r) (k : RepRes n p f t L b s) : r = s ∧ NT.strip a = NT.strip b := by
  have key : r = s ∧ (r = 0 → NT.strip a = NT.strip b) := by
    have h2 := h.2
    have k2 := k.2
    cases hg : NT.getZ n p with
    | none =>
      rw [hg] at h2 k2
      have h3 : r = 7 := h2
      have k3 : s = 7 := k2
      exact ⟨by omega, fun h0 => by omega⟩
    | some x =>
      rw [hg] at h2 k2
      by_cases hr : 0 ≤ f ∧ f ≤ t ∧ t ≤ (x.kids.length : Int)
      · by_cases hl : listB x.kind = false ∧ (L.length : Int) ≠ t - f
        · simp only [if_pos hr, if_pos hl] at h2 k2
          exact ⟨by omega, fun h0 => by omega⟩
        · simp only [if_pos hr, if_neg hl] at h2 k2
          exact ⟨by omega, fun _ => h2.2.trans k2.2.symm⟩
      · simp only [if_neg hr] at h2 k2
        exact ⟨by omega, fun h0 => by omega⟩
  refine ⟨key.1, ?_⟩
  by_cases h0 : r = 0
  · exact key.2 h0
  · rw [h.1 h0, k.1 (by rw [← key.1]; exact h0)]
theorem rep_cnt {n : NT} {p : List Int} {f t : Int} {L : List NT} {a : NT} {r : Int} (h : RepRes n p f t L a r) : NT.cnt a ≤ NT.cnt n + NT.cnts L + 1 := by
  by_cases h0 : r = 0
  · subst h0
    obtain ⟨x, hx, hf0, hft, htx, hl, hm⟩ := rep_zero h
    obtain ⟨F, rfl⟩ : ∃ F : Nat, f = (F : Int) := ⟨f.toNat, by omega⟩
    obtain ⟨T, rfl⟩ : ∃ T : Nat, t = (T : Int) := ⟨t.toNat, by omega⟩
    have := cnt_rep (m := a) hx (show F ≤ T by omega) (show NT.strip a = NT.strip (NT.setK none 0 (x.kids.take F ++ L ++ x.kids.drop T) p n) from hm)
    omega
  · rw [h.1 h0]
    have : NT.cnt zeroN = 1 := by simp [zeroN, NT.cnt, NT.cnts]
    omega

/-- the two trees in their variables -/
structure N2 (w : World) (n m : NT) (W : World) : Prop where
  below : Below w.heap.size w W
  box : NBox W w.heap.size n
  boxM : NBox W (w.heap.size + 1) m
theorem N2.later {w : World} {n m : NT} {W W' : World} (h : N2 w n m W) (hb : Below W.heap.size W W') : N2 w n m W' := ⟨h.below.trans (hb.mono h.below.size), h.box.next hb, h.boxM.next hb⟩
/-- with the two changed ones -/
structure Ed (w : World) (n m a b : NT) (Ba Bb : Nat) (W : World) : Prop where
  below : Below w.heap.size w W
  box : NBox W w.heap.size n
  boxM : NBox W (w.heap.size + 1) m
  boxA : NBox W Ba a
  boxB : NBox W Bb b
  inA : InT W.heap.size W a
  inB : InT W.heap.size W b
theorem Ed.later {w : World} {n m a b : NT} {Ba Bb : Nat} {W W' : World} (h : Ed w n m a b Ba Bb W) (hb : Below W.heap.size W W') : Ed w n m a b Ba Bb W' :=
  ⟨h.below.trans (hb.mono h.below.size), h.box.next hb, h.boxM.next hb, h.boxA.next hb, h.boxB.next hb, InT.later h.inA hb, InT.later h.inB hb⟩
theorem Ed.cells {w : World} {n m a b : NT} {Ba Bb : Nat} {w' : World} (h : Ed w n m a b Ba Bb w') : w'.cell? ⟨w.heap.size, 0, none⟩ = some (.int .i64 n.kind) ∧ w'.cell? ⟨w.heap.size, 1, none⟩ = some (.string n.text) ∧ w'.cell? ⟨w.heap.size, 2, none⟩ = some (.int .i64 n.lo) ∧ w'.cell? ⟨w.heap.size, 3, none⟩ = some (.int .i64 n.hi) ∧ w'.cell? ⟨w.heap.size, 4, none⟩ = some (.slice n.A n.kids.length n.c) ∧ w'.cell? ⟨(w.heap.size + 1), 0, none⟩ = some (.int .i64 m.kind) ∧ w'.cell? ⟨(w.heap.size + 1), 1, none⟩ = some (.string m.text) ∧ w'.cell? ⟨(w.heap.size + 1), 2, none⟩ = some (.int .i64 m.lo) ∧ w'.cell? ⟨(w.heap.size + 1), 3, none⟩ = some (.int .i64 m.hi) ∧ w'.cell? ⟨(w.heap.size + 1), 4, none⟩ = some (.slice m.A m.kids.length m.c) ∧ w'.cell? ⟨Ba, 0, none⟩ = some (.int .i64 a.kind) ∧ w'.cell? ⟨Ba, 1, none⟩ = some (.string a.text) ∧ w'.cell? ⟨Ba, 2, none⟩ = some (.int .i64 a.lo) ∧ w'.cell? ⟨Ba, 3, none⟩ = some (.int .i64 a.hi) ∧ w'.cell? ⟨Ba, 4, none⟩ = some (.slice a.A a.kids.length a.c) ∧ w'.cell? ⟨Bb, 0, none⟩ = some (.int .i64 b.kind) ∧ w'.cell? ⟨Bb, 1, none⟩ = some (.string b.text) ∧ w'.cell? ⟨Bb, 2, none⟩ = some (.int .i64 b.lo) ∧ w'.cell? ⟨Bb, 3, none⟩ = some (.int .i64 b.hi) ∧ w'.cell? ⟨Bb, 4, none⟩ = some (.slice b.A b.kids.length b.c) :=
  ⟨h.box.cells.1, h.box.cells.2.1, h.box.cells.2.2.1, h.box.cells.2.2.2.1, h.box.cells.2.2.2.2, h.boxM.cells.1, h.boxM.cells.2.1, h.boxM.cells.2.2.1, h.boxM.cells.2.2.2.1, h.boxM.cells.2.2.2.2, h.boxA.cells.1, h.boxA.cells.2.1, h.boxA.cells.2.2.1, h.boxA.cells.2.2.2.1, h.boxA.cells.2.2.2.2, h.boxB.cells.1, h.boxB.cells.2.1, h.boxB.cells.2.2.1, h.boxB.cells.2.2.2.1, h.boxB.cells.2.2.2.2⟩

set_option maxHeartbeats 16000000 in
set_option maxRecDepth 100000 in
theorem treeEdits_any (n m : NT) (A : Option Addr) (c : Nat) (p : List Int) (f t : Int) (AL : Option Addr) (cL : Nat) (L : List NT) (w : World) (hin : InT w.heap.size w n) (hc : NT.cnt n ≤ 1048576) (hinm : InT w.heap.size w m) (hcm : NT.cnt m ≤ 1048576) (hp : IRow w.heap.size w A p) (hpl : p.length ≤ 1000000000) (hpc : p.length ≤ c) (hfw : (Lit.int .i64 f).wf = true) (htw : (Lit.int .i64 t).wf = true) (hrl : Row w.heap.size w AL L) (hil : ∀ k ∈ L, InT w.heap.size w k) (hcl : NT.cnts L ≤ 1048576) :
    Calls Try.prog 5 #[.agg #[.int .i64 n.kind, .string n.text, .int .i64 n.lo, .int .i64 n.hi, .slice n.A n.kids.length n.c], .agg #[.int .i64 m.kind, .string m.text, .int .i64 m.lo, .int .i64 m.hi, .slice m.A m.kids.length m.c], .slice A p.length c, .int .i64 f, .int .i64 t, .slice AL L.length cL] w fun e w' => e = .returned (.bool true) ∧ Below w.heap.size w w' := by
  have HI := Lib.hid hin
  have HJ := Lib.hid hinm
  have HP := Lib.hid hp
  have HRL := Lib.hid hrl
  have HIL := Lib.hid hil
  have hLL := NT.cnts_len L
  clear hin hinm hp hrl hil hfw htw
  go_enter Try.func5, Try.ntmps5
  go_wp2_with (fail)
  have hN : N2 w n m ((w.alloc (.cells #[.int .i64 n.kind, .string n.text, .int .i64 n.lo, .int .i64 n.hi, .slice n.A n.kids.length n.c] 24)).alloc (.cells #[.int .i64 m.kind, .string m.text, .int .i64 m.lo, .int .i64 m.hi, .slice m.A m.kids.length m.c] 24)) := ⟨((Below.refl _ _).alloc (Nat.le_refl _) _).alloc (by simp) _, nbox_alloc (NBox.new w n) _, by have h := NBox.new (w.alloc (.cells #[.int .i64 n.kind, .string n.text, .int .i64 n.lo, .int .i64 n.hi, .slice n.A n.kids.length n.c] 24)) m; rw [World.size_alloc] at h; exact h⟩
  generalize ((w.alloc (.cells #[.int .i64 n.kind, .string n.text, .int .i64 n.lo, .int .i64 n.hi, .slice n.A n.kids.length n.c] 24)).alloc (.cells #[.int .i64 m.kind, .string m.text, .int .i64 m.lo, .int .i64 m.hi, .slice m.A m.kids.length m.c] 24)) = w1 at *
  refine (r_small_any n 100 w1 (InT.later HI.out hN.below) (by omega)).mono ?_
  rintro e w2 ⟨rfl, hb2⟩
  have HN2 := Lib.hid (hN.later hb2)
  clear hN hb2
  obtain ⟨c0, c1, c2, c3, c4⟩ := HN2.out.boxM.cells
  cases hs : smallB n 100 with
  | false =>
    clear hs
    go_wp2_with (fail)
    refine (awake_any w2).mono ?_
    rintro e wa ⟨rfl, hba⟩
    have HBA := Lib.hid (HN2.out.below.trans (hba.mono HN2.out.below.size))
    clear hba
    go_wp2_with (fail)
    go_ret
    exact ⟨rfl, HBA.out⟩
  | true =>
    clear hs
    go_wp2_with (fail)
    refine (r_small_any m 100 w2 (InT.later HJ.out HN2.out.below) (by omega)).mono ?_
    rintro e w3 ⟨rfl, hb3⟩
    have HN3 := Lib.hid (HN2.out.later hb3)
    clear hb3 c0 c1 c2 c3 c4
    cases hs2 : smallB m 100 with
    | false =>
      clear hs2
      go_wp2_with (fail)
      refine (awake_any w3).mono ?_
      rintro e wa ⟨rfl, hba⟩
      have HBA := Lib.hid (HN3.out.below.trans (hba.mono HN3.out.below.size))
      clear hba
      go_wp2_with (fail)
      go_ret
      exact ⟨rfl, HBA.out⟩
    | true =>
      clear hs2
      by_cases hlen : 20 < p.length
      · skip
        go_wp2_with (fail)
        refine (awake_any w3).mono ?_
        rintro e wa ⟨rfl, hba⟩
        have HBA := Lib.hid (HN3.out.below.trans (hba.mono HN3.out.below.size))
        clear hba
        go_wp2_with (fail)
        go_ret
        exact ⟨rfl, HBA.out⟩
      · by_cases hll : 10 < L.length
        · skip
          go_wp2_with (fail)
          refine (awake_any w3).mono ?_
          rintro e wa ⟨rfl, hba⟩
          have HBA := Lib.hid (HN3.out.below.trans (hba.mono HN3.out.below.size))
          clear hba
          go_wp2_with (fail)
          go_ret
          exact ⟨rfl, HBA.out⟩
        · go_wp2_with (fail)
          go_loopw [40] (fun i wr => ∃ k : Nat, k ≤ L.length ∧ i = .int .i64 (k : Int) ∧ Hid (N2 w n m wr)) (fun i _ => L.length - (intOf i).toNat)
          case atStart => exact ⟨0, Nat.zero_le _, rfl, HN3⟩
          case round =>
            obtain ⟨k, hk, rfl, hnb⟩ := hrel
            obtain ⟨c0, c1, c2, c3, c4⟩ := hnb.out.box.cells
            by_cases hlt : k < L.length
            · obtain ⟨b, off, rfl, hb, hcs⟩ := (HRL.out.below hnb.out.below) (by omega)
              obtain ⟨d0, d1, d2, d3, d4⟩ := hcs k hlt
              clear hcs
              have HKX := Lib.hid (InT.later (HIL.out _ (List.getElem_mem hlt)) hnb.out.below)
              have hxc := NT.cnts_mem (List.getElem_mem hlt)
              generalize L[k] = x at *
              go_wp2_with (fail)
              have hba := (Below.refl wr.heap.size wr).alloc (Nat.le_refl _) (.cells #[.int .i64 x.kind, .string x.text, .int .i64 x.lo, .int .i64 x.hi, .slice x.A x.kids.length x.c] 24)
              have HX1 := Lib.hid (NBox.new wr x)
              have HN1 := Lib.hid (hnb.out.later hba)
              have HK1 := Lib.hid (InT.later HKX.out hba)
              clear hba c0 c1 c2 c3 c4 d0 d1 d2 d3 d4
              generalize (wr.alloc (.cells #[.int .i64 x.kind, .string x.text, .int .i64 x.lo, .int .i64 x.hi, .slice x.A x.kids.length x.c] 24)) = w4 at *
              refine (r_small_any x 30 w4 HK1.out (by omega)).mono ?_
              rintro e w5 ⟨rfl, hb5⟩
              have HN5 := Lib.hid (HN1.out.later hb5)
              clear hb5
              cases hsx : smallB x 30 with
              | false =>
                clear hsx
                go_wp2_with (fail)
                refine (awake_any w5).mono ?_
                rintro e wa ⟨rfl, hba⟩
                have HBA := Lib.hid (HN5.out.below.trans (hba.mono HN5.out.below.size))
                clear hba
                go_wp2_with (fail)
                go_ret
                exact ⟨rfl, HBA.out⟩
              | true =>
                clear hsx
                go_wp2_with (fail)
                exact ⟨⟨k + 1, by omega, by go_num, HN5⟩, by simp [intOf]; omega⟩
            · go_wp2_with (fail)
              refine (replace_any n A c p f t AL cL L wr (InT.later HI.out hnb.out.below) (HP.out.later hnb.out.below) ((HRL.out.below hnb.out.below).mono hnb.out.below.size) (fun k hk => InT.later (HIL.out k hk) hnb.out.below) (by omega) hpl).mono ?_
              rintro e w2' ⟨a, r, rfl, hrep, hia, hb2⟩
              have HNR := Lib.hid (hnb.out.later hb2)
              have HRP := Lib.hid hrep
              have HIA := Lib.hid (fresh_inT hia)
              clear hrep hia hb2 c0 c1 c2 c3 c4
              have hba := (Below.refl w2'.heap.size w2').alloc (Nat.le_refl _) (.cells #[.int .i64 a.kind, .string a.text, .int .i64 a.lo, .int .i64 a.hi, .slice a.A a.kids.length a.c] 24)
              have HNA := Lib.hid (HNR.out.later hba)
              have HBX := Lib.hid (NBox.new w2' a)
              have HIA2 := Lib.hid (InT.later HIA.out hba)
              obtain ⟨d0, d1, d2, d3, d4⟩ := HNA.out.box.cells
              obtain ⟨c0, c1, c2, c3, c4⟩ := HNR.out.box.cells
              clear hba
              go_wp2_with (fail)
              clear c0 c1 c2 c3 c4 d0 d1 d2 d3 d4
              generalize hBa : w2'.heap.size = Ba at *
              clear hBa
              generalize (w2'.alloc (.cells #[.int .i64 a.kind, .string a.text, .int .i64 a.lo, .int .i64 a.hi, .slice a.A a.kids.length a.c] 24)) = w3' at *
              refine (r_replace_any n A c p f t AL cL L w3' (InT.later HI.out HNA.out.below) (HP.out.later HNA.out.below) hpc ((HRL.out.below HNA.out.below).mono HNA.out.below.size) (fun k hk => InT.later (HIL.out k hk) HNA.out.below) (by omega) hpl).mono ?_
              rintro e w4 ⟨b, s, rfl, hrep2, hib, hb4⟩
              obtain ⟨hrs, hst⟩ := rep_same HRP.out hrep2
              subst hrs
              have hca := rep_cnt HRP.out
              have HST := Lib.hid hst
              have hba := (Below.refl w4.heap.size w4).alloc (Nat.le_refl _) (.cells #[.int .i64 b.kind, .string b.text, .int .i64 b.lo, .int .i64 b.hi, .slice b.A b.kids.length b.c] 24)
              have HED := Lib.hid (show Ed w n m a b Ba w4.heap.size (w4.alloc (.cells #[.int .i64 b.kind, .string b.text, .int .i64 b.lo, .int .i64 b.hi, .slice b.A b.kids.length b.c] 24)) from ⟨((HNA.out.later hb4).later hba).below, ((HNA.out.later hb4).later hba).box, ((HNA.out.later hb4).later hba).boxM, (HBX.out.next hb4).next hba, NBox.new w4 b, InT.later (InT.later HIA2.out hb4) hba, InT.later hib hba⟩)
              clear hrep2 hib hb4 hba hst
              have hca2 : NT.cnt a ≤ 1000000000 := by omega
              have hcn : NT.cnt n ≤ 1000000000 := by omega
              have hcm2 : NT.cnt m ≤ 1000000000 := by omega
              generalize hBb : w4.heap.size = Bb at HED
              go_wp2_with (fail)
              try rw [hBb]
              clear hBb
              generalize (w4.alloc (.cells #[.int .i64 b.kind, .string b.text, .int .i64 b.lo, .int .i64 b.hi, .slice b.A b.kids.length b.c] 24)) = w8 at *
              obtain ⟨s0, s1, s2, s3, s4, s5, s6, s7, s8, s9, s10, s11, s12, s13, s14, s15, s16, s17, s18, s19⟩ := HED.out.cells
              have HD := Lib.hid (HED.out.later (Below.refl w8.heap.size w8).drew)
              go_region_held3 (fun w' => w'.cell? ⟨w.heap.size, 0, none⟩ = some (.int .i64 n.kind) ∧ w'.cell? ⟨w.heap.size, 1, none⟩ = some (.string n.text) ∧ w'.cell? ⟨w.heap.size, 2, none⟩ = some (.int .i64 n.lo) ∧ w'.cell? ⟨w.heap.size, 3, none⟩ = some (.int .i64 n.hi) ∧ w'.cell? ⟨w.heap.size, 4, none⟩ = some (.slice n.A n.kids.length n.c) ∧ w'.cell? ⟨(w.heap.size + 1), 0, none⟩ = some (.int .i64 m.kind) ∧ w'.cell? ⟨(w.heap.size + 1), 1, none⟩ = some (.string m.text) ∧ w'.cell? ⟨(w.heap.size + 1), 2, none⟩ = some (.int .i64 m.lo) ∧ w'.cell? ⟨(w.heap.size + 1), 3, none⟩ = some (.int .i64 m.hi) ∧ w'.cell? ⟨(w.heap.size + 1), 4, none⟩ = some (.slice m.A m.kids.length m.c) ∧ w'.cell? ⟨Ba, 0, none⟩ = some (.int .i64 a.kind) ∧ w'.cell? ⟨Ba, 1, none⟩ = some (.string a.text) ∧ w'.cell? ⟨Ba, 2, none⟩ = some (.int .i64 a.lo) ∧ w'.cell? ⟨Ba, 3, none⟩ = some (.int .i64 a.hi) ∧ w'.cell? ⟨Ba, 4, none⟩ = some (.slice a.A a.kids.length a.c) ∧ w'.cell? ⟨Bb, 0, none⟩ = some (.int .i64 b.kind) ∧ w'.cell? ⟨Bb, 1, none⟩ = some (.string b.text) ∧ w'.cell? ⟨Bb, 2, none⟩ = some (.int .i64 b.lo) ∧ w'.cell? ⟨Bb, 3, none⟩ = some (.int .i64 b.hi) ∧ w'.cell? ⟨Bb, 4, none⟩ = some (.slice b.A b.kids.length b.c)) (first | with_reducible exact HT7.out | with_reducible exact HT6.out | with_reducible exact HT5.out | with_reducible exact HT4.out | with_reducible exact HT3.out | with_reducible exact HT2.out | with_reducible exact HT1.out | go_keep) ((first | (go_at_call 11; refine (awake_any _).mono ?_; rintro e wg ⟨rfl, hb⟩; have HA7 := Lib.hid (HA6.out.later hb); have HT7 := Lib.hid HA7.out.cells; clear hb) | (go_at_call 32; refine (r_equal_any x5 x6 _ HS56.out HI56.out HI6.out hc5).mono ?_; rintro e wf ⟨rfl, hb⟩; have HA6 := Lib.hid (HA5.out.later hb); have HT6 := Lib.hid HA6.out.cells; clear hb) | (go_at_call 39; refine (r_bare_any n n rfl _ (InT.later HI.out HA4.out.below) hcn).mono ?_; rintro e we ⟨x6, rfl, hs6, hi6, hb⟩; have HA5 := Lib.hid (HA4.out.later hb); have HT5 := Lib.hid HA5.out.cells; have HI6 := Lib.hid (fresh_inT hi6); have HI56 := Lib.hid (InT.later HI5.out hb); have HS56 := Lib.hid (HS5.out.trans hs6.symm); clear hb hs6 hi6) | (go_at_call 38; refine (bare_any n _ (InT.later HI.out HA3.out.below) hcn).mono ?_; rintro e wd ⟨x5, rfl, hs5, hi5, hb⟩; have HA4 := Lib.hid (HA3.out.later hb); have HT4 := Lib.hid HA4.out.cells; have HI5 := Lib.hid (fresh_inT hi5); have HS5 := Lib.hid hs5; have hc5 := Nat.le_trans (Nat.le_of_eq (cnt_blind hs5)) hcn; clear hb hs5 hi5) | (go_at_call 37; refine (r_same_any n m _ (InT.later HI.out HA2.out.below) (InT.later HJ.out HA2.out.below) hcn).mono ?_; rintro e wc ⟨rfl, hb⟩; have HA3 := Lib.hid (HA2.out.later hb); have HT3 := Lib.hid HA3.out.cells; clear hb) | (go_at_call 36; refine (same_any n m _ (InT.later HI.out HA1.out.below) (InT.later HJ.out HA1.out.below) hcn).mono ?_; rintro e wb ⟨rfl, hb⟩; have HA2 := Lib.hid (HA1.out.later hb); have HT2 := Lib.hid HA2.out.cells; clear hb) | (go_at_call 32; refine (r_equal_any a b _ HST.out HD.out.inA HD.out.inB hca2).mono ?_; rintro e wa ⟨rfl, hb⟩; have HA1 := Lib.hid (HD.out.later hb); have HT1 := Lib.hid HA1.out.cells; clear hb)))
              go_wp2_with (fail)
              go_ret
              exact ⟨rfl, HA7.out.below⟩
end Go.Proofs.Ytjikfdifcpdhhaa
