/- What is proved: distance and Number return what the plain functions say. -/
import Derived.Test.YtjikfdifcpdhhaaTreePath
set_option linter.unusedVariables false
namespace Go.Proofs.Ytjikfdifcpdhhaa
open Go.RowKit

set_option maxHeartbeats 400000 in
theorem distance_any (n : NT) (i : Nat) (w : World) (hin : InT w.heap.size w n) (hcn : NT.cnt n ≤ 1000000000) (hi : i ≤ n.kids.length) :
    Calls Try.prog 51 #[.agg #[.int .i64 n.kind, .string n.text, .int .i64 n.lo, .int .i64 n.hi, .slice n.A n.kids.length n.c], .int .i64 (i : Int)] w fun e w' => e = .returned (.int .i64 ((1 + NT.cnts (n.kids.take i) : Nat) : Int)) ∧ Below w.heap.size w w' := by
  have HI := Lib.hid hin
  have HW := Lib.hid hin.row
  have hcap := hin.cap
  have hkl := NT.kids_len n
  have hce := NT.cnt_eq n
  clear hin
  generalize n.A = A at *
  go_enter Try.func51, Try.ntmps51
  go_wp2_with (fail)
  have hz : (w.alloc (.cells #[.int .i64 n.kind, .string n.text, .int .i64 n.lo, .int .i64 n.hi, .slice A n.kids.length n.c] 24)).heap.size = w.heap.size + 1 := by simp
  have HB := Lib.hid ((Below.refl w.heap.size w).alloc (Nat.le_refl _) (.cells #[.int .i64 n.kind, .string n.text, .int .i64 n.lo, .int .i64 n.hi, .slice A n.kids.length n.c] 24))
  generalize (w.alloc (.cells #[.int .i64 n.kind, .string n.text, .int .i64 n.lo, .int .i64 n.hi, .slice A n.kids.length n.c] 24)) = W at *
  go_loopw [5, 13] (fun x i' wr => ∃ k : Nat, k ≤ i ∧ i' = .int .i64 (k : Int) ∧ x = .int .i64 ((1 + NT.cnts (n.kids.take k) : Nat) : Int) ∧ Hid (Below w.heap.size w wr)) (fun _ i' _ => i - (intOf i').toNat)
  case atStart => exact ⟨0, Nat.zero_le _, rfl, rfl, HB⟩
  case round =>
    obtain ⟨k, hk, rfl, rfl, hbw⟩ := hrel
    have hle := NT.cnts_take_le n.kids k
    have hzw := hbw.out.size
    by_cases hlt : k < i
    · have hlt2 : k < n.kids.length := by omega
      obtain ⟨b, off, rfl, hb, hcs⟩ := (HW.out.below hbw.out) (by omega)
      obtain ⟨c0, c1, c2, c3, c4⟩ := hcs k hlt2
      clear hcs
      have hcg := NT.cnts_get hlt2
      have hle2 := NT.cnts_take_le n.kids (k + 1)
      have HIx := Lib.hid (InT.kidAt HI.out hlt2)
      have HG := Lib.hid hcg
      have hk2 : NT.cnts (n.kids.take k) + NT.cnt n.kids[k] ≤ 1000000000 := by omega
      clear hcg hle2
      generalize n.kids[k] = x at *
      go_wp2_with (fail)
      have hba := hbw.out.alloc hzw (.cells #[.int .i64 x.kind, .string x.text, .int .i64 x.lo, .int .i64 x.hi, .slice x.A x.kids.length x.c] 24)
      refine (count_any x _ (InT.later HIx.out hba) (by omega)).mono ?_
      rintro e w' ⟨rfl, hb2⟩
      have HB2 := Lib.hid (hba.trans (hb2.mono (by simp; omega)))
      clear hba hb2
      go_wp2_with (fail)
      exact ⟨⟨k + 1, by omega, by go_num, by rw [HG.out]; simp; omega, HB2⟩, by simp [intOf]; omega⟩
    · obtain rfl : k = i := by omega
      go_wp2_with (fail)
      go_ret
      exact ⟨rfl, hbw.out⟩

namespace NT
/-- the node with a path of any numbers -/
def getZ : NT → List Int → Option NT
  | n, [] => some n
  | n, i :: p => if h : 0 ≤ i ∧ i.toNat < n.kids.length then getZ (n.kids[i.toNat]'h.2) p else none
/-- its number -/
def numZ : NT → List Int → Option Nat
  | n, [] => some 0
  | n, i :: p => if h : 0 ≤ i ∧ i.toNat < n.kids.length then (numZ (n.kids[i.toNat]'h.2) p).map (· + (1 + cnts (n.kids.take i.toNat))) else none
theorem getZ_nat (p : List Nat) : ∀ n : NT, getZ n (p.map Int.ofNat) = getP n p := by
  induction p with
  | nil => intro n; rfl
  | cons i p ih =>
    intro n
    by_cases h : i < n.kids.length
    · simp [getZ, getP, h, ih]
    · simp [getZ, getP, h]
theorem numZ_nat (p : List Nat) : ∀ n : NT, numZ n (p.map Int.ofNat) = numP n p := by
  induction p with
  | nil => intro n; rfl
  | cons i p ih =>
    intro n
    by_cases h : i < n.kids.length
    · simp [numZ, numP, h, ih]
    · simp [numZ, numP, h]
theorem getZ_yes {n : NT} {i : Int} {p : List Int} (h0 : 0 ≤ i) (h : i.toNat < n.kids.length) : getZ n (i :: p) = getZ n.kids[i.toNat] p := by simp [getZ, h0, h]
theorem getZ_no {n : NT} {i : Int} {p : List Int} (h : ¬ (0 ≤ i ∧ i < (n.kids.length : Int))) : getZ n (i :: p) = none := by
  unfold getZ; rw [dif_neg (by omega)]
theorem numZ_yes {n : NT} {i : Int} {p : List Int} (h0 : 0 ≤ i) (h : i.toNat < n.kids.length) : numZ n (i :: p) = (numZ n.kids[i.toNat] p).map (· + (1 + cnts (n.kids.take i.toNat))) := by simp [numZ, h0, h]
theorem numZ_no {n : NT} {i : Int} {p : List Int} (h : ¬ (0 ≤ i ∧ i < (n.kids.length : Int))) : numZ n (i :: p) = none := by
  unfold numZ; rw [dif_neg (by omega)]
theorem cnts_split (l : List NT) (i : Nat) (h : i < l.length) : cnts (l.take i) + cnt l[i] ≤ cnts l := by
  have h1 := cnts_get h
  have h2 := cnts_take_le l (i + 1)
  omega
end NT

/-- a slice's address, nil or not, below block n₀, where these numbers lie -/
def IRow (n₀ : Nat) (w : World) (A : Option Addr) (l : List Int) : Prop :=
  0 < l.length → ∃ b off, A = some ⟨b, off, none⟩ ∧ b < n₀ ∧ ∀ (i : Nat) (h : i < l.length), w.cell? ⟨b, off + i, none⟩ = some (.int .i64 l[i])
theorem IRow.below {n₀ : Nat} {w w' : World} {A : Option Addr} {l : List Int} (h : IRow n₀ w A l) (hb : Below n₀ w w') : IRow n₀ w' A l := fun h0 => by
  obtain ⟨b, off, hA, hlt, hc⟩ := h h0
  exact ⟨b, off, hA, hlt, fun i hi => (hb.cell (p := ⟨b, off + i, none⟩) hlt).trans (hc i hi)⟩
theorem IRow.later {w w' : World} {A : Option Addr} {l : List Int} (h : IRow w.heap.size w A l) (hb : Below w.heap.size w w') : IRow w'.heap.size w' A l := fun h0 => by
  obtain ⟨b, off, hA, hlt, hc⟩ := h.below hb h0
  exact ⟨b, off, hA, by have := hb.size; omega, hc⟩
theorem IntRow.ints {n₀ : Nat} {w : World} {A : Option Addr} {l : List Nat} (h : IntRow n₀ w A l) : IRow n₀ w A (l.map Int.ofNat) := fun h0 => by
  obtain ⟨b, off, hA, hlt, hc⟩ := h (by simpa using h0)
  exact ⟨b, off, hA, hlt, fun i hi => by rw [List.getElem_map]; exact hc i (by simpa using hi)⟩

/-- a variable that holds a node -/
def NBox (w : World) (b : Nat) (n : NT) : Prop := w.heap[b]? = some (.cells #[.int .i64 n.kind, .string n.text, .int .i64 n.lo, .int .i64 n.hi, .slice n.A n.kids.length n.c] 24 (0, 0))
theorem NBox.cells {w : World} {b : Nat} {n : NT} (h : NBox w b n) : w.cell? ⟨b, 0, none⟩ = some (.int .i64 n.kind) ∧ w.cell? ⟨b, 1, none⟩ = some (.string n.text) ∧ w.cell? ⟨b, 2, none⟩ = some (.int .i64 n.lo) ∧ w.cell? ⟨b, 3, none⟩ = some (.int .i64 n.hi) ∧ w.cell? ⟨b, 4, none⟩ = some (.slice n.A n.kids.length n.c) :=
  ⟨Lib.cell_of_heap h 0, Lib.cell_of_heap h 1, Lib.cell_of_heap h 2, Lib.cell_of_heap h 3, Lib.cell_of_heap h 4⟩
theorem NBox.frozen {w : World} {b : Nat} {n : NT} (h : NBox w b n) (i : Nat) : w.frozen? ⟨b, i, none⟩ = false := by
  have h' : w.heap[b]? = some (.cells #[.int .i64 n.kind, .string n.text, .int .i64 n.lo, .int .i64 n.hi, .slice n.A n.kids.length n.c] 24 (0, 0)) := h
  simp [World.frozen?, h']
theorem NBox.below {w w' : World} {b B : Nat} {n : NT} (h : NBox w b n) (hb : Below B w w') (hlt : b < B) : NBox w' b n := (hb.block b hlt).trans h
theorem NBox.new (w : World) (n : NT) : NBox (w.alloc (.cells #[.int .i64 n.kind, .string n.text, .int .i64 n.lo, .int .i64 n.hi, .slice n.A n.kids.length n.c] 24)) w.heap.size n := heap_alloc_new w _

/-- a node stored into a variable -/
abbrev put5 (w : World) (b : Nat) (x : NT) : World := ((((w.setCell ⟨b, 0, none⟩ (.int .i64 x.kind)).setCell ⟨b, 1, none⟩ (.string x.text)).setCell ⟨b, 2, none⟩ (.int .i64 x.lo)).setCell ⟨b, 3, none⟩ (.int .i64 x.hi)).setCell ⟨b, 4, none⟩ (.slice x.A x.kids.length x.c)
abbrev putv (w : World) (b : Nat) (k t l h s : Value) : World := ((((w.setCell ⟨b, 0, none⟩ k).setCell ⟨b, 1, none⟩ t).setCell ⟨b, 2, none⟩ l).setCell ⟨b, 3, none⟩ h).setCell ⟨b, 4, none⟩ s
theorem set_same {w : World} {b i : Nat} {cs : Array Value} {t : TypeId} (hb : w.heap[b]? = some (.cells cs t (0, 0))) (v : Value) : (w.setCell ⟨b, i, none⟩ v).heap[b]? = some (.cells (cs.setIfInBounds i v) t (0, 0)) := by
  simp [World.setCell, Array.getElem?_modify, hb]
theorem NBox.put {w : World} {b : Nat} {m : NT} (h : NBox w b m) (x : NT) : NBox (put5 w b x) b x :=
  set_same (set_same (set_same (set_same (set_same h _) _) _) _) _
theorem put5_below {n₀ : Nat} {w W : World} {b : Nat} (h : Below n₀ w W) (hb : n₀ ≤ b) (x : NT) : Below n₀ w (put5 W b x) :=
  ((((h.setCell (p := ⟨b, 0, none⟩) hb _).setCell (p := ⟨b, 1, none⟩) hb _).setCell (p := ⟨b, 2, none⟩) hb _).setCell (p := ⟨b, 3, none⟩) hb _).setCell (p := ⟨b, 4, none⟩) hb _

theorem NBox.putv {w : World} {b : Nat} {m : NT} (h : NBox w b m) (k : Int) (t : ByteArray) (lo hi : Int) (A : Option Addr) (c : Nat) (ks : List NT) : NBox (putv w b (.int .i64 k) (.string t) (.int .i64 lo) (.int .i64 hi) (.slice A ks.length c)) b (.mk k t lo hi A c ks) :=
  set_same (set_same (set_same (set_same (set_same h _) _) _) _) _
theorem putv_below {n₀ : Nat} {w W : World} {b : Nat} (h : Below n₀ w W) (hb : n₀ ≤ b) (k t l hh s : Value) : Below n₀ w (putv W b k t l hh s) :=
  ((((h.setCell (p := ⟨b, 0, none⟩) hb _).setCell (p := ⟨b, 1, none⟩) hb _).setCell (p := ⟨b, 2, none⟩) hb _).setCell (p := ⟨b, 3, none⟩) hb _).setCell (p := ⟨b, 4, none⟩) hb _

set_option maxHeartbeats 1000000 in
theorem number_any (n : NT) (A : Option Addr) (c : Nat) (p : List Int) (w : World) (hin : InT w.heap.size w n) (hp : IRow w.heap.size w A p) (hcn : NT.cnt n ≤ 1000000000) (hpl : p.length ≤ 1000000000) :
    Calls Try.prog 24 #[.agg #[.int .i64 n.kind, .string n.text, .int .i64 n.lo, .int .i64 n.hi, .slice n.A n.kids.length n.c], .slice A p.length c] w fun e w' => e = .returned (.tuple #[.int .i64 (((NT.numZ n p).getD 0 : Nat) : Int), .bool (NT.numZ n p).isSome]) ∧ Below w.heap.size w w' := by
  have HI := Lib.hid hin
  have HP := Lib.hid hp
  clear hin hp
  go_enter Try.func24, Try.ntmps24
  go_wp2_with (fail)
  have hn := NBox.new w n
  have hz : (w.alloc (.cells #[.int .i64 n.kind, .string n.text, .int .i64 n.lo, .int .i64 n.hi, .slice n.A n.kids.length n.c] 24)).heap.size = w.heap.size + 1 := by simp
  have HB := Lib.hid ((Below.refl w.heap.size w).alloc (Nat.le_refl _) (.cells #[.int .i64 n.kind, .string n.text, .int .i64 n.lo, .int .i64 n.hi, .slice n.A n.kids.length n.c] 24))
  have HN := Lib.hid hn
  clear hn
  generalize (w.alloc (.cells #[.int .i64 n.kind, .string n.text, .int .i64 n.lo, .int .i64 n.hi, .slice n.A n.kids.length n.c] 24)) = W at *
  go_loopw [6, 11] (fun x i wr => ∃ (k a : Nat) (m : NT), k ≤ p.length ∧ i = .int .i64 (k : Int) ∧ x = .int .i64 (a : Int) ∧ a + NT.cnt m ≤ 1000000000 ∧ Hid (NBox wr w.heap.size m) ∧ Hid (InT w.heap.size w m) ∧ Hid (NT.numZ n p = (NT.numZ m (p.drop k)).map (· + a)) ∧ Hid (Below w.heap.size w wr)) (fun _ i _ => p.length - (intOf i).toNat)
  case atStart => exact ⟨0, 0, n, Nat.zero_le _, rfl, rfl, by omega, HN, HI, (show NT.numZ n p = (NT.numZ n (p.drop 0)).map (· + 0) by simp), HB⟩
  case round =>
    obtain ⟨k, a, m, hk, rfl, rfl, ham, hnb, hin, hnum, hbw⟩ := hrel
    by_cases hlt : k < p.length
    · obtain ⟨b, off, rfl, hb, hcs⟩ := (HP.out.below hbw.out) (by omega)
      have hck := hcs k hlt
      clear hcs
      have hd : p.drop k = p[k] :: p.drop (k + 1) := List.drop_eq_getElem_cons hlt
      rw [hd] at hnum
      clear hd
      obtain ⟨b0, b1, b2, b3, b4⟩ := hnb.out.cells
      generalize p[k] = i at *
      by_cases hi0 : i < 0
      · have hx : NT.numZ m (i :: p.drop (k + 1)) = none := NT.numZ_no (by omega)
        rw [hx] at hnum
        clear hx
        have hv := hnum.out
        have HV := Lib.hid hv
        clear hv
        go_wp2_with (fail)
        go_ret2
        exact ⟨by rw [HV.out]; rfl, hbw.out⟩
      · by_cases hi1 : i < (m.kids.length : Int)
        · obtain ⟨j, rfl⟩ : ∃ j : Nat, i = (j : Int) := ⟨i.toNat, by omega⟩
          have hj : j < m.kids.length := by omega
          have hx := NT.numZ_yes (n := m) (p := p.drop (k + 1)) (show (0 : Int) ≤ (j : Int) by omega) (by simpa using hj)
          simp only [Int.toNat_natCast] at hx
          rw [hx] at hnum
          clear hx
          have hsp := NT.cnts_split m.kids j hj
          have hce := NT.cnt_eq m
          have HD := Lib.hid (fun w1 h1 => distance_any m j w1 h1 (by omega) (by omega))
          have HMI := Lib.hid (InT.below hbw.out m hin.out)
          have HMW := Lib.hid hbw.out.size
          go_wp2_with (fail)
          refine (HD.out _ (InT.mono HMW.out m HMI.out)).mono ?_
          rintro e w' ⟨rfl, hb2⟩
          have hwz := hbw.out.size
          have hw1 : w.heap.size + 1 ≤ wr.heap.size := (Array.getElem?_eq_some_iff.1 hnb.out).1
          have hnb2 := hnb.out.below hb2 (by omega)
          obtain ⟨b0', b1', b2', b3', b4'⟩ := hnb2.cells
          have f0 := hnb2.frozen 0
          have f1 := hnb2.frozen 1
          have f2 := hnb2.frozen 2
          have f3 := hnb2.frozen 3
          have f4 := hnb2.frozen 4
          have HB2 := Lib.hid (hbw.out.trans (hb2.mono (by omega)))
          obtain ⟨b', off', hA, hb', c0, c1, c2, c3, c4⟩ := (InT.below (hb2.mono (by omega)) m HMI.out).cells j hj
          have HKO := Lib.hid (InT.kidAt hin.out hj)
          rw [hA] at b4'
          have HNB := Lib.hid hnb2
          have hz2 := hb2.size
          clear hA hnb2 hb2 b0 b1 b2 b3 b4
          generalize m.kids[j] = x at *
          go_wp2_with (fail)
          exact ⟨⟨k + 1, a + (1 + NT.cnts (m.kids.take j)), x, by omega, by go_num, by go_num, by omega, HNB.out.put x, HKO.out, by rw [hnum.out, Option.map_map, Function.comp_def]; congr 1; funext y; omega, put5_below HB2.out (Nat.le_refl _) x⟩, by simp [intOf]; omega⟩
        · have hx : NT.numZ m (i :: p.drop (k + 1)) = none := NT.numZ_no (by omega)
          rw [hx] at hnum
          clear hx
          have HV := Lib.hid hnum.out
          have hi2 : decide ((m.kids.length : Int) ≤ i) = true := by simp; omega
          go_wp2_with (fail)
          go_ret2
          exact ⟨by rw [HV.out]; rfl, hbw.out⟩
    · have hd : p.drop k = [] := List.drop_eq_nil_of_le (by omega)
      rw [hd] at hnum
      have HV := Lib.hid hnum.out
      clear hd
      go_wp2_with (fail)
      go_ret2
      exact ⟨by rw [HV.out]; simp [NT.numZ], hbw.out⟩
end Go.Proofs.Ytjikfdifcpdhhaa
