/- What is proved: backward gives the edges the other way round; above gives the nearest point over those that lead to a point. -/
import Derived.Test.YtbdpdbeekbbehaaDoForw
import Derived.Test.YtbdpdbeekbbehaaDoMeet
set_option linter.unusedVariables false
namespace Go.Proofs.Ytbdpdbeekbbehaa
open Go.RowKit Go.Shelf

/-- what backward gives -/
def BwRes (w : World) (A : Option Addr) (c : Nat) (l : List PtV) (e : Ending) (W : World) : Prop :=
  ∃ a b, e = .returned (.agg #[.int .i64 (l.length : Int), .int .i64 1, bkV b, nxV a]) ∧ Vw w.heap.size A c l a b W ∧ Below w.heap.size w W
/-- it stays so -/
theorem NxOk.later {E : Nat → List Nat} {n g : Nat} {caps : Array Value} {w w' : World} (h : NxOk E n g caps w) (hb : Below w.heap.size w w') : NxOk E n g caps w' := fun W p hB hp => by
  refine (h W p (hb.trans (hB.mono hb.size)) hp).mono ?_
  rintro e W' ⟨A, c, h1, h2, h3⟩
  exact ⟨A, c, h1, (h2.below hb).mono hb.size, h3⟩

set_option maxRecDepth 100000 in
set_option maxHeartbeats 2000000 in
theorem backward_any (A : Option Addr) (c : Nat) (l : List PtV) (w : World) (hl : FlOk l) (hp : PRow w.heap.size w A l) :
    Calls Try.prog 48 #[.agg #[.slice A l.length c]] w (BwRes w A c l) := by
  have HL := Lib.hid hl
  have HP := Lib.hid hp
  have HC := Lib.hid (fun W hP => forward_any A c l W hl hP)
  clear hl hp
  go_enter Try.func48, Try.ntmps48
  go_wp2_with (fail)
  have hb0 := ((Below.refl w.heap.size w).alloc (Nat.le_refl _) (.cells #[.slice A l.length c] 24)).alloc (by simp) (.cells #[.int .i64 0, .int .i64 0, .nilFunc, .nilFunc] 57)
  have hr0 : ∀ W : World, W = _ → W.heap[w.heap.size + 1]? = some (.cells #[.int .i64 0, .int .i64 0, .nilFunc, .nilFunc] 57 (0, 0)) := fun W hW => by
    have h := heap_alloc_new (w.alloc (.cells #[.slice A l.length c] 24)) (.cells #[.int .i64 0, .int .i64 0, .nilFunc, .nilFunc] 57)
    rw [World.size_alloc] at h
    rw [hW]
    exact h
  have HR0 := Lib.hid (hr0 _ rfl)
  have HB0 := Lib.hid hb0
  clear hr0 hb0
  generalize ((w.alloc (.cells #[.slice A l.length c] 24)).alloc (.cells #[.int .i64 0, .int .i64 0, .nilFunc, .nilFunc] 57)) = w1 at *
  refine (HC.out w1 ((HP.out.below HB0.out).mono HB0.out.size)).mono ?_
  rintro e w2 ⟨a, b, rfl, hn, hb2⟩
  have HN := Lib.hid hn
  have HB2 := Lib.hid hb2
  have hrb := (hb2.block _ (hlt HR0.out)).trans HR0.out
  have HRB := Lib.hid hrb
  obtain ⟨v2, hv2⟩ : ∃ v, v = w2.heap.size := ⟨_, rfl⟩
  clear hn hb2 hrb HC
  have HBW := Lib.hid ((Below.refl w2.heap.size w2).alloc (Nat.le_refl _) (.cells #[.int .i64 (l.length : Int), .int .i64 0, .func (.func 65) #[] #[.pointer (some ⟨a, 0, none⟩)], .func (.func 66) #[] #[.pointer (some ⟨b, 0, none⟩)]] 57))
  have HNW := Lib.hid (heap_alloc_new w2 (.cells #[.int .i64 (l.length : Int), .int .i64 0, .func (.func 65) #[] #[.pointer (some ⟨a, 0, none⟩)], .func (.func 66) #[] #[.pointer (some ⟨b, 0, none⟩)]] 57))
  go_upto_region 2 with fail
  generalize (w2.alloc (.cells #[.int .i64 (l.length : Int), .int .i64 0, .func (.func 65) #[] #[.pointer (some ⟨a, 0, none⟩)], .func (.func 66) #[] #[.pointer (some ⟨b, 0, none⟩)]] 57)) = w3 at *
  have hrc := (HBW.out.block _ (hlt HRB.out)).trans HRB.out
  have HRC := Lib.hid hrc
  have q := Lib.cell_of_heap HNW.out
  have q0 := q 0
  have q2 := q 2
  have q3 := q 3
  have p := Lib.cell_of_heap hrc
  have p0 := p 0
  have p1 := p 1
  have p2 := p 2
  have p3 := p 3
  have z0 := hfrz hrc 0
  have z1 := hfrz hrc 1
  have z2 := hfrz hrc 2
  have z3 := hfrz hrc 3
  clear p q hrc HNW
  go_wp2_with (fail)
  have HV3 := Lib.hid ((HN.out.later HBW.out).mono (n₁ := w1.heap.size) (Nat.le_refl _))
  have hs1 : w.heap.size + 1 < w1.heap.size := hlt HR0.out
  have HFIN := Lib.hid (show ∀ W : World, W = ((((w3.setCell ⟨w.heap.size + 1, 0, none⟩ (.int .i64 (l.length : Int))).setCell ⟨w.heap.size + 1, 1, none⟩ (.int .i64 1)).setCell ⟨w.heap.size + 1, 2, none⟩ (bkV b)).setCell ⟨w.heap.size + 1, 3, none⟩ (nxV a)) → BwRes w A c l (.returned (.agg #[.int .i64 (l.length : Int), .int .i64 1, bkV b, nxV a])) W ∧ W.heap[w.heap.size + 1]? = some (.cells #[.int .i64 (l.length : Int), .int .i64 1, bkV b, nxV a] 57 (0, 0)) from fun W hW => by
    subst hW
    exact ⟨⟨a, b, rfl, ((((HV3.out.set (by simpa using hs1) _).set (by simpa using hs1) _).set (by simpa using hs1) _).set (by simpa using hs1) _).mono (by have := HB0.out.size; omega), (((((HB0.out.trans (HB2.out.mono HB0.out.size)).trans (HBW.out.mono (Nat.le_trans HB0.out.size HB2.out.size))).setCell (by simp) _).setCell (by simp) _).setCell (by simp) _).setCell (by simp) _⟩, hset (hset (hset (hset HRC.out _) _) _) _⟩)
  obtain ⟨f1, f2⟩ := HFIN.out _ rfl
  have HF1 := Lib.hid f1
  have t := Lib.cell_of_heap f2
  have t0 := t 0
  have t1 := t 1
  have t2 := t 2
  have t3 := t 3
  exact bodyPost_ret (v := .agg #[.int .i64 (l.length : Int), .int .i64 1, bkV b, nxV a]) (by simp [results, Try.results48, go_sem, t0, t1, t2, t3]) rfl HF1.out
end Go.Proofs.Ytbdpdbeekbbehaa
