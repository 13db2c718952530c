/- What is proved: the scanner's method next, and newScanner, return what the plain functions say. -/
import Derived.Test.YtoopnddlcofhoaaGreatDoorLxScan5
import Derived.Maps.AppendAt
set_option linter.unusedVariables false
namespace Go.Proofs.YtoopnddlcofhoaaGreatDoor.Lx
open Go.RowKit

/-- a token -/
structure Tok where
  kind : Int
  lo : Int
  at_ : Int
  hi : Int
  deriving DecidableEq
def tokV (t : Tok) : Value := .agg #[.int .i64 t.kind, .int .i64 t.lo, .int .i64 t.at_, .int .i64 t.hi]

/-- the token behind a place -/
def nextTok (l : List UInt8) (i : Nat) : Tok := ⟨((tokAt l (blank l i)).1 : Nat), i, (blank l i : Nat), ((tokAt l (blank l i)).2 : Nat)⟩

theorem blank_bd (l : List UInt8) (i : Nat) (hi : i ≤ l.length) : i ≤ blank l i ∧ blank l i ≤ l.length := blk_bd l _ i hi
theorem sym_bd (l : List UInt8) (i : Nat) (hi : i < l.length) : i + sym l i ≤ l.length := by
  unfold sym
  split
  · rename_i h
    unfold two at h
    simp at h
    omega
  · split <;> omega
theorem tokAt_bd (l : List UInt8) (i : Nat) (hi : i ≤ l.length) : i ≤ (tokAt l i).2 ∧ (tokAt l i).2 ≤ l.length := by
  unfold tokAt
  split
  · exact ⟨Nat.le_refl _, hi⟩
  · split
    · exact run_bd l inName i hi
    · split
      · exact run_bd l digit i hi
      · split
        · exact ⟨by show i ≤ i + sym l i; omega, sym_bd l i (by omega)⟩
        · have := whl_bd (wrongAt l) (l.length - i) i
          exact ⟨by show i ≤ wrongTo l i; unfold wrongTo; omega, by show wrongTo l i ≤ l.length; unfold wrongTo; omega⟩

theorem grownBy_of_below {w w' : World} (h : Below w.heap.size w w') (row : Option Nat) : w.grownBy w' row := ⟨h.os, h.tape, h.output, h.size, fun k hk _ => h.block k hk⟩
theorem grownBy_setCell {w : World} {p : Addr} (u : Value) : w.grownBy (w.setCell p u) (some p.block) :=
  ⟨rfl, rfl, rfl, by simp [World.setCell], fun k hk hne => Below.heap_setCell w p u k (fun e => hne (by rw [e]))⟩

theorem cells4 {w : World} {g : Nat} {E : TypeId} {a b c d : Value} (h : w.heap[g]? = some (.cells #[a, b, c, d] E (0, 0))) : w.cell? ⟨g, 0, none⟩ = some a ∧ w.cell? ⟨g, 1, none⟩ = some b ∧ w.cell? ⟨g, 2, none⟩ = some c ∧ w.cell? ⟨g, 3, none⟩ = some d ∧ w.frozen? ⟨g, 0, none⟩ = false := by simp [World.cell?, World.frozen?, h]

theorem KwMap.lt {w : World} {b : Nat} (h : KwMap w b) : b < w.heap.size := by
  obtain ⟨n, h⟩ := h
  exact h.lt
theorem KwMap.kept {w w' : World} {b : Nat} {row : Option Nat} (h : KwMap w b) (hg : w.grownBy w' row) (hne : some b ≠ row) : KwMap w' b := by
  obtain ⟨n, h⟩ := h
  exact ⟨n, h.kept hg hne⟩
theorem Sc.ne {w : World} {g b : Nat} {s : ByteArray} {a : Int} (h : Sc w g b s a) : b ≠ g := by
  intro e
  obtain ⟨h1, n, es, clock, hb, _⟩ := h
  rw [e, h1] at hb
  simp at hb
theorem Sc.kept {w w' : World} {g b : Nat} {s : ByteArray} {a : Int} {row : Option Nat} (h : Sc w g b s a) (hg : w.grownBy w' row) (h1 : some g ≠ row) (h2 : some b ≠ row) : Sc w' g b s a := ⟨(hg.block g h.lt h1).trans h.1, h.2.kept hg h2⟩
theorem Sc.set {w : World} {g b : Nat} {s : ByteArray} {a : Int} (h : Sc w g b s a) (c : Int) : Sc (w.setCell ⟨g, 2, none⟩ (.int .i64 c)) g b s c := by
  refine ⟨?_, h.2.kept (grownBy_setCell (p := ⟨g, 2, none⟩) _) (by simpa using h.ne)⟩
  simp only [World.setCell, Array.getElem?_modify]
  rw [h.1]
  simp

set_option maxHeartbeats 1000000 in
theorem next_any (s : ByteArray) (g b i : Nat) (w : World) (hs : s.size ≤ 1000000) (hi : i ≤ s.size) (h : Sc w g b s i) :
    Calls Tryz.prog 86 #[.pointer (some ⟨g, 0, none⟩)] w fun e w' => e = .returned (tokV (nextTok s.data.toList i)) ∧ Sc w' g b s (nextTok s.data.toList i).hi ∧ w.grownBy w' (some g) := by
  have hl : s.data.toList.length = s.size := by simp
  have hbd := blank_bd s.data.toList i (by omega)
  have htb := tokAt_bd s.data.toList (blank s.data.toList i) (by omega)
  unfold nextTok tokV
  rw [hl] at hbd htb
  have hb0 := (Below.refl w.heap.size w).alloc (Nat.le_refl _) (.cells #[.int .i64 0, .int .i64 0, .int .i64 0, .int .i64 0] 66)
  have h1 := h.below hb0
  have k2 := h1.c2
  have HBl := Lib.hid (blank_any s g i (w.alloc (.cells #[.int .i64 0, .int .i64 0, .int .i64 0, .int .i64 0] 66)) hs hi h1.c0 h1.lt)
  have HT := Lib.hid (fun w1 (h : Sc w1 g b s i) => token_any s g b (blank s.data.toList i) i w1 hs hbd.2 h)
  have HS := Lib.hid h1
  have HB := Lib.hid hb0
  clear hb0 h1
  generalize blank s.data.toList i = m at *
  generalize tokAt s.data.toList m = z at *
  go_enter Tryz.func86, Tryz.ntmps86
  go_wp2_with (fail)
  refine HBl.out.mono ?_
  rintro e w1 ⟨rfl, hb1⟩
  have s1 := HS.out.below hb1
  go_wp2_with (fail)
  refine (HT.out w1 s1).mono ?_
  rintro e w2 ⟨rfl, hb2⟩
  have s2 := s1.below hb2
  have c2 := s2.c2
  have f2 := s2.fz
  have hbn : w2.heap[w.heap.size]? = some (.cells #[.int .i64 0, .int .i64 0, .int .i64 0, .int .i64 0] 66 (0, 0)) := by
    rw [hb2.block _ (by have := hb1.size; simp at this; omega), hb1.block _ (by simp)]
    exact heap_alloc_new w _
  obtain ⟨z0, z1, z2, z3, y0⟩ := cells4 hbn
  have hgn : (g = w.heap.size) = False := by simp; have := h.lt; omega
  have hgn2 : (w.heap.size = g) = False := by simp; have := h.lt; omega
  have hgw : ∀ k, w2.frozen? ⟨w.heap.size, k, none⟩ = false := fun k => by simp [World.frozen?, hbn]
  clear hbn
  have hsz2 : w.heap.size < w2.heap.size := by have e1 := hb1.size; have e2 := hb2.size; simp at e1; omega
  have HS2 := Lib.hid s2
  have HB2 := Lib.hid ((HB.out.trans (hb1.mono (by simp))).trans (hb2.mono (by have e1 := hb1.size; simp at e1; omega)))
  clear s1 s2 hb1 hb2
  go_wp2_with (fail)
  refine bodyPost_ret (v := .agg #[.int .i64 (z.1 : Int), .int .i64 (i : Int), .int .i64 (m : Int), .int .i64 (z.2 : Int)]) (by simp [results, Tryz.results86, go_sem, hgn, z0, z1, z2, z3]) rfl ⟨rfl, ?_⟩
  have hg0 := h.lt
  have hb0 := h.2.lt
  refine ⟨?_, ?_⟩
  · refine ((((HS2.out.set _).kept (grownBy_setCell (p := ⟨w.heap.size, 0, none⟩) _) ?_ ?_).kept (grownBy_setCell (p := ⟨w.heap.size, 1, none⟩) _) ?_ ?_).kept (grownBy_setCell (p := ⟨w.heap.size, 2, none⟩) _) ?_ ?_).kept (grownBy_setCell (p := ⟨w.heap.size, 3, none⟩) _) ?_ ?_
    all_goals simp; omega
  · have q0 := grownBy_of_below HB2.out (some g)
    have q1 := q0.trans (grownBy_setCell (p := ⟨g, 2, none⟩) (.int .i64 (z.2 : Int)))
    have hh : ∀ (W : World) (k : Nat) (v : Value), w.grownBy W (some g) → w.grownBy (W.setCell ⟨w.heap.size, k, none⟩ v) (some g) := fun W k v hW => ⟨hW.os, hW.tape, hW.output, by simpa [World.setCell] using hW.size, fun j hj hne => (Below.heap_setCell W ⟨w.heap.size, k, none⟩ v j (by show j ≠ w.heap.size; omega)).trans (hW.block j hj hne)⟩
    exact hh _ _ _ (hh _ _ _ (hh _ _ _ (hh _ _ _ q1)))

set_option maxHeartbeats 1000000 in
theorem newScanner_any (s : ByteArray) (w : World) :
    Calls Tryz.prog 85 #[.string s] w fun e w' => ∃ g b, e = .returned (.pointer (some ⟨g, 0, none⟩)) ∧ Sc w' g b s ((0 : Nat) : Int) ∧ w.heap.size ≤ g ∧ Below w.heap.size w w' := by
  have HK := Lib.hid (keywords_any w)
  go_enter Tryz.func85, Tryz.ntmps85
  go_wp2_with (fail)
  refine HK.out.mono ?_
  rintro e w1 ⟨rfl, hk, hb⟩
  have HK1 := Lib.hid hk
  have HB := Lib.hid hb
  clear hk hb
  go_wp2_with (fail)
  go_ret
  have hz := HB.out.size
  exact ⟨_, _, rfl, ⟨heap_alloc_new w1 _, HK1.out.below ((Below.refl _ _).alloc (Nat.le_refl _) _)⟩, hz, HB.out.alloc hz _⟩
end Go.Proofs.YtoopnddlcofhoaaGreatDoor.Lx
