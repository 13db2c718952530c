/- What is proved: Get of the reference returns the node with a path (for seats without the tree's own functions). -/
import Derived.Test.YtnpcfmoiiecadaaDoorParTot
import Derived.StillTailTactics
set_option linter.unusedVariables false
namespace Go.Proofs.YtnpcfmoiiecadaaDoor.Wt
open Go.RowKit

namespace NT
/-- the node with a path of any numbers -/
def getZ : NT → List Int → Option NT
  | n, [] => some n
  | n, i :: p => if h : 0 ≤ i ∧ i.toNat < n.kids.length then getZ (n.kids[i.toNat]'h.2) p else none
theorem getZ_yes {n : NT} {i : Int} {p : List Int} (h0 : 0 ≤ i) (h : i.toNat < n.kids.length) : getZ n (i :: p) = getZ n.kids[i.toNat] p := by simp [getZ, h0, h]
theorem getZ_no {n : NT} {i : Int} {p : List Int} (h : ¬ (0 ≤ i ∧ i < (n.kids.length : Int))) : getZ n (i :: p) = none := by
  unfold getZ; rw [dif_neg (by omega)]
end NT
/-- a slice's address, nil or not, below block n₀, where these numbers lie -/
def IRow (n₀ : Nat) (w : World) (A : Option Addr) (l : List Int) : Prop :=
  0 < l.length → ∃ b off, A = some ⟨b, off, none⟩ ∧ b < n₀ ∧ ∀ (i : Nat) (h : i < l.length), w.cell? ⟨b, off + i, none⟩ = some (.int .i64 l[i])
theorem IRow.below {n₀ : Nat} {w w' : World} {A : Option Addr} {l : List Int} (h : IRow n₀ w A l) (hb : Below n₀ w w') : IRow n₀ w' A l := fun h0 => by
  obtain ⟨b, off, hA, hlt, hc⟩ := h h0
  exact ⟨b, off, hA, hlt, fun i hi => (hb.cell (p := ⟨b, off + i, none⟩) hlt).trans (hc i hi)⟩
theorem IRow.later {w w' : World} {A : Option Addr} {l : List Int} (h : IRow w.heap.size w A l) (hb : Below w.heap.size w w') : IRow w'.heap.size w' A l := fun h0 => by
  obtain ⟨b, off, hA, hlt, hc⟩ := h.below hb h0
  exact ⟨b, off, hA, by have := hb.size; omega, hc⟩
/-- a variable that holds a node -/
def NBox (w : World) (b : Nat) (n : NT) : Prop := w.heap[b]? = some (.cells #[.int .i64 n.kind, .string n.text, .int .i64 n.lo, .int .i64 n.hi, .slice n.A n.kids.length n.c] 31 (0, 0))
theorem NBox.cells {w : World} {b : Nat} {n : NT} (h : NBox w b n) : w.cell? ⟨b, 0, none⟩ = some (.int .i64 n.kind) ∧ w.cell? ⟨b, 1, none⟩ = some (.string n.text) ∧ w.cell? ⟨b, 2, none⟩ = some (.int .i64 n.lo) ∧ w.cell? ⟨b, 3, none⟩ = some (.int .i64 n.hi) ∧ w.cell? ⟨b, 4, none⟩ = some (.slice n.A n.kids.length n.c) :=
  ⟨Lib.cell_of_heap h 0, Lib.cell_of_heap h 1, Lib.cell_of_heap h 2, Lib.cell_of_heap h 3, Lib.cell_of_heap h 4⟩
theorem NBox.frozen {w : World} {b : Nat} {n : NT} (h : NBox w b n) (i : Nat) : w.frozen? ⟨b, i, none⟩ = false := by
  have h' : w.heap[b]? = some (.cells #[.int .i64 n.kind, .string n.text, .int .i64 n.lo, .int .i64 n.hi, .slice n.A n.kids.length n.c] 31 (0, 0)) := h
  simp [World.frozen?, h']
theorem NBox.below {w w' : World} {b B : Nat} {n : NT} (h : NBox w b n) (hb : Below B w w') (hlt : b < B) : NBox w' b n := (hb.block b hlt).trans h
theorem NBox.new (w : World) (n : NT) : NBox (w.alloc (.cells #[.int .i64 n.kind, .string n.text, .int .i64 n.lo, .int .i64 n.hi, .slice n.A n.kids.length n.c] 31)) w.heap.size n := heap_alloc_new w _

/-- a node stored into a variable -/
abbrev put5 (w : World) (b : Nat) (x : NT) : World := ((((w.setCell ⟨b, 0, none⟩ (.int .i64 x.kind)).setCell ⟨b, 1, none⟩ (.string x.text)).setCell ⟨b, 2, none⟩ (.int .i64 x.lo)).setCell ⟨b, 3, none⟩ (.int .i64 x.hi)).setCell ⟨b, 4, none⟩ (.slice x.A x.kids.length x.c)
abbrev putv (w : World) (b : Nat) (k t l h s : Value) : World := ((((w.setCell ⟨b, 0, none⟩ k).setCell ⟨b, 1, none⟩ t).setCell ⟨b, 2, none⟩ l).setCell ⟨b, 3, none⟩ h).setCell ⟨b, 4, none⟩ s
theorem set_same {w : World} {b i : Nat} {cs : Array Value} {t : TypeId} (hb : w.heap[b]? = some (.cells cs t (0, 0))) (v : Value) : (w.setCell ⟨b, i, none⟩ v).heap[b]? = some (.cells (cs.setIfInBounds i v) t (0, 0)) := by
  simp [World.setCell, Array.getElem?_modify, hb]
theorem NBox.put {w : World} {b : Nat} {m : NT} (h : NBox w b m) (x : NT) : NBox (put5 w b x) b x :=
  set_same (set_same (set_same (set_same (set_same h _) _) _) _) _
theorem put5_below {n₀ : Nat} {w W : World} {b : Nat} (h : Below n₀ w W) (hb : n₀ ≤ b) (x : NT) : Below n₀ w (put5 W b x) :=
  ((((h.setCell (p := ⟨b, 0, none⟩) hb _).setCell (p := ⟨b, 1, none⟩) hb _).setCell (p := ⟨b, 2, none⟩) hb _).setCell (p := ⟨b, 3, none⟩) hb _).setCell (p := ⟨b, 4, none⟩) hb _

theorem NBox.putv {w : World} {b : Nat} {m : NT} (h : NBox w b m) (k : Int) (t : ByteArray) (lo hi : Int) (A : Option Addr) (c : Nat) (ks : List NT) : NBox (putv w b (.int .i64 k) (.string t) (.int .i64 lo) (.int .i64 hi) (.slice A ks.length c)) b (.mk k t lo hi A c ks) :=
  set_same (set_same (set_same (set_same (set_same h _) _) _) _) _
theorem putv_below {n₀ : Nat} {w W : World} {b : Nat} (h : Below n₀ w W) (hb : n₀ ≤ b) (k t l hh s : Value) : Below n₀ w (putv W b k t l hh s) :=
  ((((h.setCell (p := ⟨b, 0, none⟩) hb _).setCell (p := ⟨b, 1, none⟩) hb _).setCell (p := ⟨b, 2, none⟩) hb _).setCell (p := ⟨b, 3, none⟩) hb _).setCell (p := ⟨b, 4, none⟩) hb _

def zeroN : NT := .mk 0 ⟨#[]⟩ 0 0 none 0 []
theorem zero_box (w : World) : NBox (w.alloc (.cells #[.int .i64 0, .string ⟨#[]⟩, .int .i64 0, .int .i64 0, .slice none 0 0] 31)) w.heap.size zeroN := heap_alloc_new w _
theorem zero_cells {w : World} {b : Nat} (h : NBox w b zeroN) : w.cell? ⟨b, 0, none⟩ = some (.int .i64 0) ∧ w.cell? ⟨b, 1, none⟩ = some (.string ⟨#[]⟩) ∧ w.cell? ⟨b, 2, none⟩ = some (.int .i64 0) ∧ w.cell? ⟨b, 3, none⟩ = some (.int .i64 0) ∧ w.cell? ⟨b, 4, none⟩ = some (.slice none 0 0) := h.cells
theorem put5_far (X : World) {b k : Nat} (x : NT) (h : k ≠ b) : (put5 X b x).heap[k]? = X.heap[k]? := by
  have e : ∀ (X : World) (o : Nat) (v : Value), (X.setCell ⟨b, o, none⟩ v).heap[k]? = X.heap[k]? := fun X o v => Below.heap_setCell X ⟨b, o, none⟩ v k (by show k ≠ b; exact h)
  unfold put5
  rw [e, e, e, e, e]

theorem drewN_below (w : World) (n : Nat) : Below w.heap.size w (w.drewN n) := by
  induction n with
  | zero => exact Below.refl _ _
  | succ n ih => exact ih.drew
theorem irow_new (w : World) (l : List Int) (cs : Array Value) (hcs : cs.toList = l.map (Value.int .i64)) : IRow (w.alloc (.cells cs 3)).heap.size (w.alloc (.cells cs 3)) (some ⟨w.heap.size, 0, none⟩) l := fun h0 => by
  refine ⟨w.heap.size, 0, rfl, by simp, fun i hi => ?_⟩
  have hb := heap_alloc_new w (.cells cs 3)
  have e : cs[i]? = some (.int .i64 l[i]) := by
    rw [← Array.getElem?_toList, hcs, List.getElem?_map, List.getElem?_eq_getElem hi]
    rfl
  rw [Nat.zero_add, Lib.cell_of_heap hb i, e]

set_option maxHeartbeats 2000000 in
set_option maxRecDepth 100000 in
theorem r_get_any (n : NT) (A : Option Addr) (c : Nat) (p : List Int) (w : World) (hin : InT w.heap.size w n) (hp : IRow w.heap.size w A p) (hcn : NT.cnt n ≤ 1000000000) (hpl : p.length ≤ 1000000000) :
    Calls Tryd.prog 10 #[.agg #[.int .i64 n.kind, .string n.text, .int .i64 n.lo, .int .i64 n.hi, .slice n.A n.kids.length n.c], .slice A p.length c] w fun e w' => e = .returned (.tuple #[.agg #[.int .i64 ((NT.getZ n p).getD zeroN).kind, .string ((NT.getZ n p).getD zeroN).text, .int .i64 ((NT.getZ n p).getD zeroN).lo, .int .i64 ((NT.getZ n p).getD zeroN).hi, .slice ((NT.getZ n p).getD zeroN).A ((NT.getZ n p).getD zeroN).kids.length ((NT.getZ n p).getD zeroN).c], .bool (NT.getZ n p).isSome]) ∧ Below w.heap.size w w' := by
  have HI := Lib.hid hin
  have HP := Lib.hid hp
  clear hin hp
  go_enter Tryd.func10, Tryd.ntmps10
  go_wp2_with (fail)
  have HB := Lib.hid (((Below.refl w.heap.size w).alloc (Nat.le_refl _) (.cells #[.int .i64 n.kind, .string n.text, .int .i64 n.lo, .int .i64 n.hi, .slice n.A n.kids.length n.c] 31)).alloc (by simp) (.cells #[.int .i64 0, .string ⟨#[]⟩, .int .i64 0, .int .i64 0, .slice none 0 0] 31))
  have HN : Hid (NBox ((w.alloc (.cells #[.int .i64 n.kind, .string n.text, .int .i64 n.lo, .int .i64 n.hi, .slice n.A n.kids.length n.c] 31)).alloc (.cells #[.int .i64 0, .string ⟨#[]⟩, .int .i64 0, .int .i64 0, .slice none 0 0] 31)) w.heap.size n) := (heap_alloc_old _ _ (by simp)).trans (NBox.new w n)
  have HZ : Hid (NBox ((w.alloc (.cells #[.int .i64 n.kind, .string n.text, .int .i64 n.lo, .int .i64 n.hi, .slice n.A n.kids.length n.c] 31)).alloc (.cells #[.int .i64 0, .string ⟨#[]⟩, .int .i64 0, .int .i64 0, .slice none 0 0] 31)) (w.heap.size + 1) zeroN) := by
    have h := zero_box (w.alloc (.cells #[.int .i64 n.kind, .string n.text, .int .i64 n.lo, .int .i64 n.hi, .slice n.A n.kids.length n.c] 31))
    rw [World.size_alloc] at h
    exact h
  have hz : ((w.alloc (.cells #[.int .i64 n.kind, .string n.text, .int .i64 n.lo, .int .i64 n.hi, .slice n.A n.kids.length n.c] 31)).alloc (.cells #[.int .i64 0, .string ⟨#[]⟩, .int .i64 0, .int .i64 0, .slice none 0 0] 31)).heap.size = w.heap.size + 1 + 1 := by simp
  generalize ((w.alloc (.cells #[.int .i64 n.kind, .string n.text, .int .i64 n.lo, .int .i64 n.hi, .slice n.A n.kids.length n.c] 31)).alloc (.cells #[.int .i64 0, .string ⟨#[]⟩, .int .i64 0, .int .i64 0, .slice none 0 0] 31)) = W at *
  go_loopw [6] (fun i wr => ∃ (k : Nat) (m : NT), k ≤ p.length ∧ i = .int .i64 (k : Int) ∧ NT.cnt m ≤ 1000000000 ∧ Hid (NBox wr w.heap.size m) ∧ Hid (NBox wr (w.heap.size + 1) zeroN) ∧ Hid (InT w.heap.size w m) ∧ Hid (NT.getZ n p = NT.getZ m (p.drop k)) ∧ Hid (Below w.heap.size w wr)) (fun i _ => p.length - (intOf i).toNat)
  case atStart => exact ⟨0, n, Nat.zero_le _, rfl, hcn, HN, HZ, HI, (show NT.getZ n p = NT.getZ n (p.drop 0) by simp), HB⟩
  case round =>
    obtain ⟨k, m, hk, rfl, ham, hnb, hzb, hin, hnum, hbw⟩ := hrel
    by_cases hlt : k < p.length
    · obtain ⟨b, off, rfl, hb, hcs⟩ := (HP.out.below hbw.out) (by omega)
      have hck := hcs k hlt
      clear hcs
      have hd : p.drop k = p[k] :: p.drop (k + 1) := List.drop_eq_getElem_cons hlt
      rw [hd] at hnum
      clear hd
      have g1 : (0 : Int) ≤ (k : Int) := by omega
      have g2 : (k : Int) < (p.length : Int) := by omega
      obtain ⟨b0, b1, b2, b3, b4⟩ := hnb.out.cells
      obtain ⟨z0, z1, z2, z3, z4⟩ := zero_cells hzb.out
      have y0 := hzb.out.frozen 0
      have y1 := hzb.out.frozen 1
      have y2 := hzb.out.frozen 2
      have y3 := hzb.out.frozen 3
      have y4 := hzb.out.frozen 4
      generalize p[k] = i at *
      by_cases hi0 : i < 0
      · have hx : NT.getZ m (i :: p.drop (k + 1)) = none := NT.getZ_no (by omega)
        rw [hx] at hnum
        clear hx
        have HV := Lib.hid hnum.out
        have hi0' : decide (i < 0) = true := by simpa using hi0
        go_wp2_with (fail)
        go_quiet (fail)
        go_wp2_with (fail)
        have hdb := drewN_below wr nq
        have HZ0 := hzb.out.below hdb (Array.getElem?_eq_some_iff.1 hzb.out).1
        have HB0 := hbw.out.trans (hdb.mono hbw.out.size)
        have hq : NBox (putv (wr.drewN nq) (w.heap.size + 1) (.int .i64 0) (.string ⟨#[]⟩) (.int .i64 0) (.int .i64 0) (.slice none 0 0)) (w.heap.size + 1) zeroN := HZ0.putv 0 ⟨#[]⟩ 0 0 none 0 []
        have hbq := putv_below HB0 (b := w.heap.size + 1) (by omega) (.int .i64 0) (.string ⟨#[]⟩) (.int .i64 0) (.int .i64 0) (.slice none 0 0)
        obtain ⟨v0, v1, v2, v3, v4⟩ := zero_cells hq
        clear hq z0 z1 z2 z3 z4 y0 y1 y2 y3 y4 hdb HZ0 HB0
        dsimp only [putv] at hbq v0 v1 v2 v3 v4
        generalize (((((wr.drewN nq).setCell ⟨w.heap.size + 1, 0, none⟩ (.int .i64 0)).setCell ⟨w.heap.size + 1, 1, none⟩ (.string ⟨#[]⟩)).setCell ⟨w.heap.size + 1, 2, none⟩ (.int .i64 0)).setCell ⟨w.heap.size + 1, 3, none⟩ (.int .i64 0)).setCell ⟨w.heap.size + 1, 4, none⟩ (.slice none 0 0) = V at *
        exact bodyPost_ret (v := .tuple #[.agg #[.int .i64 0, .string ⟨#[]⟩, .int .i64 0, .int .i64 0, .slice none 0 0], .bool false]) (by simp [results, Tryd.results10, go_sem, v0, v1, v2, v3, v4]) rfl ⟨by rw [HV.out]; rfl, hbq⟩
      · by_cases hi1 : i < (m.kids.length : Int)
        · obtain ⟨j, rfl⟩ : ∃ j : Nat, i = (j : Int) := ⟨i.toNat, by omega⟩
          have hj : j < m.kids.length := by omega
          have hx := NT.getZ_yes (n := m) (p := p.drop (k + 1)) (show (0 : Int) ≤ (j : Int) by omega) (by simpa using hj)
          simp only [Int.toNat_natCast] at hx
          rw [hx] at hnum
          clear hx
          have hce := NT.cnt_kid (List.getElem_mem hj)
          obtain ⟨b', off', hA, hb', c0, c1, c2, c3, c4⟩ := (InT.below hbw.out m hin.out).cells j hj
          have f0 := hnb.out.frozen 0
          have f1 := hnb.out.frozen 1
          have f2 := hnb.out.frozen 2
          have f3 := hnb.out.frozen 3
          have f4 := hnb.out.frozen 4
          have HKO := Lib.hid (InT.kidAt hin.out hj)
          have hi0' : decide ((j : Int) < 0) = false := by simp
          have g3 : (0 : Int) ≤ (j : Int) := by omega
          have g4 : (j : Int) < (m.kids.length : Int) := by omega
          have hi2 : decide ((m.kids.length : Int) ≤ (j : Int)) = false := by simp; omega
          rw [hA] at b4
          clear hA
          generalize m.kids[j] = x at *
          go_wp2_with (fail)
          go_quiet (fail)
          go_wp2_with (fail)
          have hdb := drewN_below wr nq
          have HN0 := Lib.hid (hnb.out.below hdb (Array.getElem?_eq_some_iff.1 hnb.out).1)
          have HZ0 := Lib.hid (hzb.out.below hdb (Array.getElem?_eq_some_iff.1 hzb.out).1)
          have HB0 := Lib.hid (hbw.out.trans (hdb.mono hbw.out.size))
          have hx0 : (wr.drewN nq).cell? ⟨b, off + k, none⟩ = some (.int .i64 (j : Int)) := (hdb.cell (p := ⟨b, off + k, none⟩) (World.block_lt_of_cell? wr _ hck)).trans hck
          have hc0 := (hdb.cell (p := ⟨b', off' + j * 5, none⟩) (World.block_lt_of_cell? wr _ c0)).trans c0
          have hc1 := (hdb.cell (p := ⟨b', off' + j * 5 + 1, none⟩) (World.block_lt_of_cell? wr _ c1)).trans c1
          have hc2 := (hdb.cell (p := ⟨b', off' + j * 5 + 2, none⟩) (World.block_lt_of_cell? wr _ c2)).trans c2
          have hc3 := (hdb.cell (p := ⟨b', off' + j * 5 + 3, none⟩) (World.block_lt_of_cell? wr _ c3)).trans c3
          have hc4 := (hdb.cell (p := ⟨b', off' + j * 5 + 4, none⟩) (World.block_lt_of_cell? wr _ c4)).trans c4
          have hb4 := (hdb.cell (p := ⟨w.heap.size, 4, none⟩) (World.block_lt_of_cell? wr _ b4)).trans b4
          clear hdb hck c0 c1 c2 c3 c4 b0 b1 b2 b3 b4 f0 f1 f2 f3 f4 z0 z1 z2 z3 z4 y0 y1 y2 y3 y4
          generalize (wr.drewN nq) = w0 at *
          go_still_tail 8, (by kernel_rfl)
          change wpList _ _ _ _ _ w0.drew
          have hn2 : NBox w0.drew w.heap.size m := HN0.out
          have HZ2 : Hid (NBox w0.drew (w.heap.size + 1) zeroN) := HZ0.out
          have HB2 := Lib.hid (HB0.out.drew)
          clear hx0 hc0 hc1 hc2 hc3 hc4 hb4 HN0 HZ0 HB0
          generalize w0.drew = w2 at *
          obtain ⟨b0, b1, b2, b3, b4⟩ := hn2.cells
          have f0 := hn2.frozen 0
          have f1 := hn2.frozen 1
          have f2 := hn2.frozen 2
          have f3 := hn2.frozen 3
          have f4 := hn2.frozen 4
          have HN2 := Lib.hid hn2
          clear hn2
          go_wp2_with (fail)
          have hx : NBox (put5 w2 w.heap.size x) (w.heap.size + 1) zeroN := (put5_far w2 x (by omega)).trans HZ2.out
          exact ⟨⟨k + 1, x, by omega, by go_num, by omega, HN2.out.put x, hx, HKO.out, hnum.out, put5_below HB2.out (Nat.le_refl _) x⟩, by simp [intOf]; omega⟩
        · have hx : NT.getZ m (i :: p.drop (k + 1)) = none := NT.getZ_no (by omega)
          rw [hx] at hnum
          clear hx
          have HV := Lib.hid hnum.out
          have hi0' : decide (i < 0) = false := by simpa using hi0
          have hi2 : decide ((m.kids.length : Int) ≤ i) = true := by simp; omega
          go_wp2_with (fail)
          go_quiet (fail)
          go_wp2_with (fail)
          have hdb := drewN_below wr nq
          have HZ0 := hzb.out.below hdb (Array.getElem?_eq_some_iff.1 hzb.out).1
          have HB0 := hbw.out.trans (hdb.mono hbw.out.size)
          have hq : NBox (putv (wr.drewN nq) (w.heap.size + 1) (.int .i64 0) (.string ⟨#[]⟩) (.int .i64 0) (.int .i64 0) (.slice none 0 0)) (w.heap.size + 1) zeroN := HZ0.putv 0 ⟨#[]⟩ 0 0 none 0 []
          have hbq := putv_below HB0 (b := w.heap.size + 1) (by omega) (.int .i64 0) (.string ⟨#[]⟩) (.int .i64 0) (.int .i64 0) (.slice none 0 0)
          obtain ⟨v0, v1, v2, v3, v4⟩ := zero_cells hq
          clear hq z0 z1 z2 z3 z4 y0 y1 y2 y3 y4 hdb HZ0 HB0
          dsimp only [putv] at hbq v0 v1 v2 v3 v4
          generalize (((((wr.drewN nq).setCell ⟨w.heap.size + 1, 0, none⟩ (.int .i64 0)).setCell ⟨w.heap.size + 1, 1, none⟩ (.string ⟨#[]⟩)).setCell ⟨w.heap.size + 1, 2, none⟩ (.int .i64 0)).setCell ⟨w.heap.size + 1, 3, none⟩ (.int .i64 0)).setCell ⟨w.heap.size + 1, 4, none⟩ (.slice none 0 0) = V at *
          exact bodyPost_ret (v := .tuple #[.agg #[.int .i64 0, .string ⟨#[]⟩, .int .i64 0, .int .i64 0, .slice none 0 0], .bool false]) (by simp [results, Tryd.results10, go_sem, v0, v1, v2, v3, v4]) rfl ⟨by rw [HV.out]; rfl, hbq⟩
    · have hd : p.drop k = [] := List.drop_eq_nil_of_le (by omega)
      rw [hd] at hnum
      have HV := Lib.hid hnum.out
      clear hd
      obtain ⟨b0, b1, b2, b3, b4⟩ := hnb.out.cells
      obtain ⟨z0, z1, z2, z3, z4⟩ := zero_cells hzb.out
      have y0 := hzb.out.frozen 0
      have y1 := hzb.out.frozen 1
      have y2 := hzb.out.frozen 2
      have y3 := hzb.out.frozen 3
      have y4 := hzb.out.frozen 4
      go_wp2_with (fail)
      have hq := hzb.out.put m
      have hbq := put5_below hbw.out (b := w.heap.size + 1) (by omega) m
      obtain ⟨v0, v1, v2, v3, v4⟩ := hq.cells
      clear hq z0 z1 z2 z3 z4 y0 y1 y2 y3 y4 b0 b1 b2 b3 b4
      dsimp only [put5] at hbq v0 v1 v2 v3 v4
      generalize ((((wr.setCell ⟨w.heap.size + 1, 0, none⟩ (.int .i64 m.kind)).setCell ⟨w.heap.size + 1, 1, none⟩ (.string m.text)).setCell ⟨w.heap.size + 1, 2, none⟩ (.int .i64 m.lo)).setCell ⟨w.heap.size + 1, 3, none⟩ (.int .i64 m.hi)).setCell ⟨w.heap.size + 1, 4, none⟩ (.slice m.A m.kids.length m.c) = V at *
      exact bodyPost_ret (v := .tuple #[.agg #[.int .i64 m.kind, .string m.text, .int .i64 m.lo, .int .i64 m.hi, .slice m.A m.kids.length m.c], .bool true]) (by simp [results, Tryd.results10, go_sem, v0, v1, v2, v3, v4]) rfl ⟨by rw [HV.out]; rfl, hbq⟩
end Go.Proofs.YtnpcfmoiiecadaaDoor.Wt
