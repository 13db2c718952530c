/- What is proved: Member finds a field of the first record. -/
import Derived.Test.YtlpoeflbnpbmgaaGreatDoorTyFmt
set_option linter.unusedVariables false
namespace Go.Proofs.YtlpoeflbnpbmgaaGreatDoor
open Go.RowKit

/-- a record in a block of its own -/
def RcBox (w : World) (b : Nat) (x : RcV) : Prop := w.heap[b]? = some (.cells #[.string x.name, .slice x.A x.flds.length x.c] 39 (0, 0))
def MemRes (r : RcV) (j : Nat) (f : FldV) (w : World) (e : Ending) (w' : World) : Prop := e = .returned (.tuple #[.string r.name, .int .i64 (j : Int), .agg #[.int .i64 (fkd f), .int .i64 0, .string ⟨#[]⟩], .bool true]) ∧ Below w.heap.size w w'

set_option maxRecDepth 100000 in
set_option maxHeartbeats 4000000 in
theorem member_first (A : Option Addr) (c : Nat) (l : List RcV) (s : ByteArray) (j : Nat) (w : World) (r : RcV) (f : FldV) (h0 : 0 < l.length) (hr0 : l[0] = r) (hj : j < r.flds.length) (hf : r.flds[j] = f) (hy : (f.name.toList == s.toList) = true) (hn : ∀ (i : Nat) (h : i < j), (r.flds[i].name.toList == s.toList) = false) (hr : RRow w.heap.size w A l) (hl : l.length ≤ 1000000000) :
    Calls Tryz.prog 15 #[.slice A l.length c, .string s] w (MemRes r j f w) := by
  obtain ⟨b0, o0, rfl, hb0, hcs⟩ := hr h0
  obtain ⟨c0, c1, hfr, hfl⟩ := hcs 0 h0
  rw [Nat.zero_mul, Nat.add_zero, hr0] at c0 c1
  rw [hr0] at hfr hfl
  have HY := Lib.hid hy
  have HN := Lib.hid hn
  have HFR := Lib.hid hfr
  have HFJ := Lib.hid hf
  clear hr hcs hy hn hfr hf hr0
  have hal := (Below.refl w.heap.size w).alloc (Nat.le_refl _) (.cells #[.int .i64 0, .int .i64 0, .string ⟨#[]⟩] 31)
  have d0 := (hal.cell (p := ⟨b0, o0, none⟩) hb0).trans c0
  have d1 := (hal.cell (p := ⟨b0, o0 + 1, none⟩) hb0).trans c1
  clear hal c0 c1
  go_enter Tryz.func15, Tryz.ntmps15
  go_wp2_with (fail)
  go_loopw [14] (fun i wr => i = .int .i64 0 ∧ wr = w.alloc (.cells #[.int .i64 0, .int .i64 0, .string ⟨#[]⟩] 31)) (fun i _ => 1)
  case atStart => exact ⟨rfl, rfl⟩
  case round =>
    obtain ⟨rfl, rfl⟩ := hrel
    have hl0 : (0 : Int) < (l.length : Int) := by omega
    go_wp2_with (fail)
    have hn1 := heap_alloc_new (w.alloc (.cells #[.int .i64 0, .int .i64 0, .string ⟨#[]⟩] 31)) (.cells #[.string r.name, .slice r.A r.flds.length r.c] 39)
    have hn2 := (heap_alloc_old (w.alloc (.cells #[.int .i64 0, .int .i64 0, .string ⟨#[]⟩] 31)) (.cells #[.string r.name, .slice r.A r.flds.length r.c] 39) (show w.heap.size < _ by simp)).trans (heap_alloc_new w _)
    have hb1 := ((Below.refl w.heap.size w).alloc (Nat.le_refl _) (.cells #[.int .i64 0, .int .i64 0, .string ⟨#[]⟩] 31)).alloc (by simp) (.cells #[.string r.name, .slice r.A r.flds.length r.c] 39)
    have hs1 : ((w.alloc (.cells #[.int .i64 0, .int .i64 0, .string ⟨#[]⟩] 31)).alloc (.cells #[.string r.name, .slice r.A r.flds.length r.c] 39)).heap.size = w.heap.size + 2 := by simp
    rw [World.size_alloc] at hn1
    generalize ((w.alloc (.cells #[.int .i64 0, .int .i64 0, .string ⟨#[]⟩] 31)).alloc (.cells #[.string r.name, .slice r.A r.flds.length r.c] 39)) = w1 at *
    have HZ1 := Lib.hid (show ZT w1 w.heap.size from hn2)
    have HX1 := Lib.hid (show RcBox w1 (w.heap.size + 1) r from hn1)
    have HB1 := Lib.hid hb1
    have HS1 := Lib.hid hs1
    clear hn1 hn2 hb1 hs1 d0 d1
    go_loopw [21] (fun i wr => ∃ k : Nat, k ≤ j ∧ i = .int .i64 (k : Int) ∧ Hid (Below w1.heap.size w1 wr)) (fun i _ => j + 1 - (intOf i).toNat)
    case atStart => exact ⟨0, Nat.zero_le _, rfl, Lib.hid (Below.refl _ _)⟩
    case round =>
      obtain ⟨k, hk, rfl, hbw⟩ := hrel
      obtain ⟨b, off, hA, hb, hcs⟩ := (HFR.out.below (HB1.out.trans (hbw.out.mono (by have := HS1.out; omega)))) (by omega)
      obtain ⟨c0, c1, c2, c3⟩ := hcs k (by omega)
      have hlt : k < r.flds.length := by omega
      clear hcs
      obtain ⟨x, HX⟩ : ∃ x, Hid (r.flds[k] = x) := ⟨_, Lib.hid rfl⟩
      rw [HX.out] at c0 c1 c2 c3
      have hzw := hbw.out.size
      rw [hA]
      have hbx := (Below.refl wr.heap.size wr).alloc (Nat.le_refl _) (.cells #[.string x.name, .int .i64 x.ty.kind, .int .i64 x.ty.len, .string x.ty.nm] 58)
      have HBX := Lib.hid (hbw.out.trans (hbx.mono hzw))
      have HFX := Lib.hid (FCells.of_box (w := wr) (x := x))
      have HSX := Lib.hid (show (wr.alloc (.cells #[.string x.name, .int .i64 x.ty.kind, .int .i64 x.ty.len, .string x.ty.nm] 58)).heap.size = wr.heap.size + 1 by simp)
      clear hbx
      by_cases hkj : k = j
      · subst hkj
        have HE := Lib.hid (HFJ.out.symm.trans HX.out)
        have hyx : (x.name.toList == s.toList) = true := by rw [← HE.out]; exact HY.out
        obtain ⟨kf, HKF⟩ : ∃ q, Hid (fkd x = q) := ⟨_, Lib.hid rfl⟩
        go_wp2_with (fail)
        clear c0 c1 c2 c3 hyx
        generalize (wr.alloc (.cells #[.string x.name, .int .i64 x.ty.kind, .int .i64 x.ty.len, .string x.ty.nm] 58)) = wx at *
        have HRX := Lib.hid (show RcBox wx (w.heap.size + 1) r from (HBX.out.block _ (by have := HS1.out; omega)).trans HX1.out)
        have HZX := Lib.hid (HZ1.out.below HBX.out (by have := HS1.out; omega))
        have f0 := Lib.cell_of_heap HRX.out 0
        obtain ⟨e0, e1, e2, e3⟩ := HFX.out
        have hne1 : ¬ wr.heap.size = w.heap.size := by have := HS1.out; omega
        have hne2 : ¬ w.heap.size = wr.heap.size := by have := HS1.out; omega
        go_region_held3 (fun w' => w'.cell? ⟨w.heap.size + 1, 0, none⟩ = some (.string r.name) ∧ w'.cell? ⟨wr.heap.size, 0, none⟩ = some (.string x.name) ∧ w'.cell? ⟨wr.heap.size, 1, none⟩ = some (.int .i64 x.ty.kind) ∧ w'.cell? ⟨wr.heap.size, 2, none⟩ = some (.int .i64 x.ty.len) ∧ w'.cell? ⟨wr.heap.size, 3, none⟩ = some (.string x.ty.nm)) (first | (with_reducible exact HK.out) | go_keep)
          ((go_at_call 27; (with_reducible refine (fieldType_k x _ kf HKF.out).mono ?_); rintro e w3 ⟨rfl, hb3⟩; have HB3 := Lib.hid (HBX.out.trans (((Below.refl wx.heap.size wx).drew.trans hb3).mono (by have := HSX.out; have := HS1.out; omega))); have HK := Lib.hid (show w3.cell? ⟨w.heap.size + 1, 0, none⟩ = some (.string r.name) ∧ w3.cell? ⟨wr.heap.size, 0, none⟩ = some (.string x.name) ∧ w3.cell? ⟨wr.heap.size, 1, none⟩ = some (.int .i64 x.ty.kind) ∧ w3.cell? ⟨wr.heap.size, 2, none⟩ = some (.int .i64 x.ty.len) ∧ w3.cell? ⟨wr.heap.size, 3, none⟩ = some (.string x.ty.nm) from ⟨(hb3.cell (p := ⟨w.heap.size + 1, 0, none⟩) (show w.heap.size + 1 < wx.heap.size by have := HSX.out; have := HS1.out; omega)).trans f0, (hb3.cell (p := ⟨wr.heap.size, 0, none⟩) (show wr.heap.size < wx.heap.size by have := HSX.out; have := HS1.out; omega)).trans e0, (hb3.cell (p := ⟨wr.heap.size, 1, none⟩) (show wr.heap.size < wx.heap.size by have := HSX.out; have := HS1.out; omega)).trans e1, (hb3.cell (p := ⟨wr.heap.size, 2, none⟩) (show wr.heap.size < wx.heap.size by have := HSX.out; have := HS1.out; omega)).trans e2, (hb3.cell (p := ⟨wr.heap.size, 3, none⟩) (show wr.heap.size < wx.heap.size by have := HSX.out; have := HS1.out; omega)).trans e3⟩); have HZ3 := Lib.hid (HZX.out.below ((Below.refl wx.heap.size wx).drew.trans hb3) (show w.heap.size < wx.heap.size by have := HSX.out; have := HS1.out; omega)); have z0 := HZ3.out.cells.1; have z1 := HZ3.out.cells.2.1; have z2 := HZ3.out.cells.2.2; have y0 := HZ3.out.frozen 0; have y1 := HZ3.out.frozen 1; have y2 := HZ3.out.frozen 2; clear hb3))
        go_wp2_with (fail)
        refine bodyPost_ret (v := .tuple #[.string r.name, .int .i64 (k : Int), .agg #[.int .i64 kf, .int .i64 0, .string ⟨#[]⟩], .bool true]) (by simp [results, Tryz.results15, go_sem, z0, z1, z2]) rfl ⟨?_, ?_⟩
        · rw [HE.out, HKF.out]
        · have HBB := (HB1.out.trans (HB3.out.mono (by have := HS1.out; omega)))
          repeat (first | exact HBB | (refine Below.setCell ?_ (by simp) _))
      · have hyx : (x.name.toList == s.toList) = false := by rw [← HX.out]; exact HN.out k (by omega)
        go_wp2_with (fail)
        exact ⟨⟨k + 1, by omega, by go_num, HBX⟩, by simp [intOf]; omega⟩
end Go.Proofs.YtlpoeflbnpbmgaaGreatDoor
