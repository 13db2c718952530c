/- What is proved: Find returns the number of the innermost node that contains an offset. -/
import Derived.Test.YtjikfdifcpdhhaaTreeNum
import Derived.Deep.LoopGhost
set_option linter.unusedVariables false
namespace Go.Proofs.Ytjikfdifcpdhhaa
open Go.RowKit

namespace NT
def hasB (n : NT) (at_ : Int) : Bool := decide (n.lo ≤ at_ ∧ at_ < n.hi)
mutual
/-- the number of the innermost node, below one that contains the offset -/
def fnd : NT → Int → Nat
  | mk _ _ _ _ _ _ ks, o => fnds ks o 1
def fnds : List NT → Int → Nat → Nat
  | [], _, _ => 0
  | k :: ks, o, a => if hasB k o then a + fnd k o else fnds ks o (a + cnt k)
end
theorem fnd_eq (n : NT) (o : Int) : fnd n o = fnds n.kids o 1 := by cases n; simp [fnd, kids]
theorem fnds_none (l : List NT) (o : Int) : ∀ a, (∀ k ∈ l, hasB k o = false) → fnds l o a = 0 := by
  induction l with
  | nil => intro a _; simp [fnds]
  | cons x xs ih => intro a h; simp [fnds, h x (by simp), ih _ (fun k hk => h k (by simp [hk]))]
theorem fnds_at (l : List NT) (o : Int) : ∀ (a i : Nat) (hi : i < l.length), hasB l[i] o = true → (∀ (j : Nat) (hj : j < i), hasB (l[j]'(by omega)) o = false) → fnds l o a = a + cnts (l.take i) + fnd l[i] o := by
  induction l with
  | nil => intro a i hi; simp at hi
  | cons x xs ih =>
    intro a i hi h1 h2
    cases i with
    | zero => simp at h1; simp [fnds, h1, cnts]
    | succ i =>
      have hx := h2 0 (by omega)
      simp at hx
      simp only [fnds, hx, Bool.false_eq_true, if_false, List.take_succ_cons, cnts, List.getElem_cons_succ]
      rw [ih (a + cnt x) i (by simpa using hi) (by simpa using h1) (fun j hj => by simpa using h2 (j + 1) (by omega))]
      omega
end NT

theorem has_any (x : NT) (o : Int) (B : Nat) (w : World) (hb : w.cell? ⟨B, 0, none⟩ = some (.int .i64 o)) (hB : B < w.heap.size) :
    Calls Try.prog 52 #[.agg #[.int .i64 x.kind, .string x.text, .int .i64 x.lo, .int .i64 x.hi, .slice x.A x.kids.length x.c], .pointer (some ⟨B, 0, none⟩)] w fun e w' => e = .returned (.bool (NT.hasB x o)) ∧ Below w.heap.size w w' := by
  have hcell : (w.alloc (.cells #[.int .i64 x.kind, .string x.text, .int .i64 x.lo, .int .i64 x.hi, .slice x.A x.kids.length x.c] 24)).cell? ⟨B, 0, none⟩ = some (.int .i64 o) := (((Below.refl w.heap.size w).alloc (Nat.le_refl _) _).cell (p := ⟨B, 0, none⟩) hB).trans hb
  clear hb
  by_cases h1 : x.lo ≤ o
  · by_cases h2 : o < x.hi
    · go_enter Try.func52, Try.ntmps52
      go_wp2_with (fail)
      go_ret
      exact ⟨by simp [NT.hasB, h1, h2], (Below.refl _ _).alloc (Nat.le_refl _) _⟩
    · have h2' : decide (o < x.hi) = false := by simpa using h2
      go_enter Try.func52, Try.ntmps52
      go_wp2_with (fail)
      go_ret
      exact ⟨by simp [NT.hasB, h2], (Below.refl _ _).alloc (Nat.le_refl _) _⟩
  · have h1' : decide (x.lo ≤ o) = false := by simpa using h1
    go_enter Try.func52, Try.ntmps52
    go_wp2_with (fail)
    go_ret
    exact ⟨by simp [NT.hasB]; intro h; omega, (Below.refl _ _).alloc (Nat.le_refl _) _⟩

set_option maxHeartbeats 1000000 in
theorem indexFunc_any (A : Option Addr) (c : Nat) (l : List NT) (o : Int) (B : Nat) (w : World) (hb : w.cell? ⟨B, 0, none⟩ = some (.int .i64 o)) (hB : B < w.heap.size) (hr : Row w.heap.size w A l) (hl : l.length ≤ 1000000000) :
    Calls Try.prog 53 #[.slice A l.length c, .func (.func 52) #[] #[.pointer (some ⟨B, 0, none⟩)]] w fun e w' => ∃ r : Int, e = .returned (.int .i64 r) ∧ ((r = -1 ∧ ∀ k ∈ l, NT.hasB k o = false) ∨ ∃ (i : Nat) (hi : i < l.length), r = i ∧ NT.hasB l[i] o = true ∧ ∀ (j : Nat) (hj : j < i), NT.hasB (l[j]'(by omega)) o = false) ∧ Below w.heap.size w w' := by
  have HB := Lib.hid hb
  have HW := Lib.hid hr
  clear hb hr
  go_enter Try.func53, Try.ntmps53
  go_wp2_with (fail)
  go_loopw [8] (fun i wr => ∃ k : Nat, k ≤ l.length ∧ i = .int .i64 (k : Int) ∧ Hid (∀ (j : Nat) (h : j < l.length), j < k → NT.hasB l[j] o = false) ∧ Hid (Below w.heap.size w wr)) (fun i _ => l.length - (intOf i).toNat)
  case atStart => exact ⟨0, Nat.zero_le _, rfl, (fun j _ h => absurd h (by omega) : ∀ (j : Nat) (h : j < l.length), j < 0 → NT.hasB l[j] o = false), Below.refl _ _⟩
  case round =>
    obtain ⟨k, hk, rfl, hno, hbw⟩ := hrel
    have hzw := hbw.out.size
    by_cases hlt : k < l.length
    · obtain ⟨b, off, rfl, hb, hcs⟩ := (HW.out.below hbw.out) (by omega)
      obtain ⟨c0, c1, c2, c3, c4⟩ := hcs k hlt
      clear hcs
      have hx : l[k] = l[k] := rfl
      have HX : ∃ x, Hid (l[k] = x) := ⟨_, Lib.hid rfl⟩
      obtain ⟨x, HX⟩ := HX
      rw [HX.out] at c0 c1 c2 c3 c4
      clear hx
      go_wp2_with (fail)
      refine (has_any x o B _ ((hbw.out.cell (p := ⟨B, 0, none⟩) hB).trans HB.out) (by omega)).mono ?_
      rintro e w' ⟨rfl, hb2⟩
      have HB2 := Lib.hid (hbw.out.trans (hb2.mono hzw))
      clear hb2
      cases hh : NT.hasB x o with
      | true =>
        have HH := Lib.hid hh
        clear hh
        go_wp2_with (fail)
        go_ret
        exact ⟨_, rfl, .inr ⟨k, hlt, rfl, by rw [HX.out]; exact HH.out, fun j hj => hno.out j (by omega) hj⟩, HB2.out⟩
      | false =>
        have HH := Lib.hid hh
        clear hh
        go_wp2_with (fail)
        have HN : Hid (∀ (j : Nat) (h : j < l.length), j < k + 1 → NT.hasB l[j] o = false) := Lib.hid (fun j h hj => by
          rcases Nat.lt_or_ge j k with h' | h'
          · exact hno.out j h h'
          · obtain rfl : j = k := by omega
            rw [HX.out]; exact HH.out)
        exact ⟨⟨k + 1, by omega, by go_num, HN, HB2⟩, by simp [intOf]; omega⟩
    · have hkl : k = l.length := by omega
      subst hkl
      go_wp2_with (fail)
      go_ret
      exact ⟨-1, rfl, .inl ⟨rfl, fun x hx => by
        obtain ⟨j, hj, rfl⟩ := List.getElem_of_mem hx
        exact hno.out j hj hj⟩, hbw.out⟩

set_option maxHeartbeats 2000000 in
theorem find_any (n : NT) (o : Int) (w : World) (hin : InT w.heap.size w n) (hcn : NT.cnt n ≤ 1000000000) (r : Nat) (b : Bool) (hr : (if NT.hasB n o then NT.fnd n o else 0) = r) (hb : NT.hasB n o = b) :
    Calls Try.prog 26 #[.agg #[.int .i64 n.kind, .string n.text, .int .i64 n.lo, .int .i64 n.hi, .slice n.A n.kids.length n.c], .int .i64 o] w fun e w' => e = .returned (.tuple #[.int .i64 (r : Int), .bool b]) ∧ Below w.heap.size w w' := by
  have HI := Lib.hid hin
  have HHB := Lib.hid hb
  rw [hb] at hr
  have HR := Lib.hid hr
  clear hin hb hr
  go_enter Try.func26, Try.ntmps26
  go_wp2_with (fail)
  have hb0 : Below w.heap.size w ((w.alloc (.cells #[.int .i64 n.kind, .string n.text, .int .i64 n.lo, .int .i64 n.hi, .slice n.A n.kids.length n.c] 24)).alloc (.cells #[.int .i64 o] 3)) := ((Below.refl _ _).alloc (Nat.le_refl _) _).alloc (by simp) _
  have hn : NBox ((w.alloc (.cells #[.int .i64 n.kind, .string n.text, .int .i64 n.lo, .int .i64 n.hi, .slice n.A n.kids.length n.c] 24)).alloc (.cells #[.int .i64 o] 3)) w.heap.size n := (heap_alloc_old _ _ (by simp)).trans (NBox.new w n)
  have ho : ((w.alloc (.cells #[.int .i64 n.kind, .string n.text, .int .i64 n.lo, .int .i64 n.hi, .slice n.A n.kids.length n.c] 24)).alloc (.cells #[.int .i64 o] 3)).cell? ⟨w.heap.size + 1, 0, none⟩ = some (.int .i64 o) := by
    have h := heap_alloc_new (w.alloc (.cells #[.int .i64 n.kind, .string n.text, .int .i64 n.lo, .int .i64 n.hi, .slice n.A n.kids.length n.c] 24)) (.cells #[.int .i64 o] 3)
    rw [World.size_alloc] at h
    exact Lib.cell_of_heap h 0
  have hz : ((w.alloc (.cells #[.int .i64 n.kind, .string n.text, .int .i64 n.lo, .int .i64 n.hi, .slice n.A n.kids.length n.c] 24)).alloc (.cells #[.int .i64 o] 3)).heap.size = w.heap.size + 1 + 1 := by simp
  generalize ((w.alloc (.cells #[.int .i64 n.kind, .string n.text, .int .i64 n.lo, .int .i64 n.hi, .slice n.A n.kids.length n.c] 24)).alloc (.cells #[.int .i64 o] 3)) = W at *
  refine (has_any n o (w.heap.size + 1) _ ho (by omega)).mono ?_
  rintro e W1 ⟨rfl, hb1⟩
  have HB1 := Lib.hid (hb0.trans (hb1.mono (by omega)))
  have HN1 := Lib.hid (hn.below hb1 (by omega))
  have HO1 := Lib.hid ((hb1.cell (p := ⟨w.heap.size + 1, 0, none⟩) (by simp; omega)).trans ho)
  have hz1 := hb1.size
  clear hb0 hb1 hn ho
  rw [HHB.out]
  cases b with
  | false =>
    have hr0 : r = 0 := HR.out.symm
    subst hr0
    go_wp2_with (fail)
    go_ret2
    exact ⟨rfl, HB1.out⟩
  | true =>
    have HR1 : Hid (NT.fnd n o = r) := HR.out
    go_wp2_with (fail)
    go_loopg [7] (NT.cnt n) (fun g x wr => ∃ (a : Nat) (m : NT), x = .int .i64 (a : Int) ∧ NT.cnt m ≤ g ∧ a + NT.cnt m ≤ 1000000000 ∧ Hid (NBox wr w.heap.size m) ∧ Hid (wr.cell? ⟨w.heap.size + 1, 0, none⟩ = some (.int .i64 o)) ∧ Hid (InT w.heap.size w m) ∧ Hid (NT.fnd n o = a + NT.fnd m o) ∧ Hid (Below w.heap.size w wr) ∧ w.heap.size + 1 + 1 ≤ wr.heap.size)
    case atStart => exact ⟨0, n, rfl, Nat.le_refl _, by omega, HN1, HO1, HI, (show NT.fnd n o = 0 + NT.fnd n o by omega), HB1, by omega⟩
    case round =>
      obtain ⟨a, m, rfl, hmg, ham, hnb, hob, hin, hf, hbw, hzw⟩ := hrel
      obtain ⟨b0, b1, b2, b3, b4⟩ := hnb.out.cells
      have hkl := NT.kids_len m
      have hce := NT.cnt_eq m
      have HMI := Lib.hid (InT.later hin.out hbw.out)
      have HX := Lib.hid (indexFunc_any m.A m.c m.kids o (w.heap.size + 1) wr hob.out (by omega) HMI.out.row (by omega))
      go_wp2_with (fail)
      refine HX.out.mono ?_
      rintro e W2 ⟨r, rfl, hr, hb2⟩
      have hz2 := hb2.size
      have HB2 := Lib.hid (hbw.out.trans (hb2.mono hbw.out.size))
      have hnb2 := hnb.out.below hb2 (by omega)
      have HN2 := Lib.hid hnb2
      have HO2 := Lib.hid ((hb2.cell (p := ⟨w.heap.size + 1, 0, none⟩) (by simp; omega)).trans hob.out)
      clear hb2 hnb2 b0 b1 b2 b3 b4
      rcases hr with ⟨rfl, hnone⟩ | ⟨i, hi, rfl, hyes, hbef⟩
      · have HE := Lib.hid (show NT.fnd n o = a by rw [hf.out, NT.fnd_eq m, NT.fnds_none _ _ _ hnone, Nat.add_zero])
        obtain rfl : a = r := by rw [← HR1.out, HE.out]
        clear hnone
        go_wp2_with (fail)
        go_ret2
        exact ⟨rfl, HB2.out⟩
      · have hfe := NT.fnds_at m.kids o 1 i hi hyes hbef
        rw [← NT.fnd_eq] at hfe
        have hsp := NT.cnts_split m.kids i hi
        have HFE := Lib.hid (show NT.fnd n o = (a + (1 + NT.cnts (m.kids.take i))) + NT.fnd m.kids[i] o by rw [hf.out, hfe]; omega)
        have hri2 : decide ((i : Int) < 0) = false := by simp
        obtain ⟨d0, d1, d2, d3, d4⟩ := HN2.out.cells
        have HD := Lib.hid (distance_any m i W2 (InT.later hin.out HB2.out) (by omega) (by omega))
        clear hyes hbef hfe
        go_wp2_with (fail)
        refine HD.out.mono ?_
        rintro e W3 ⟨rfl, hb3⟩
        have hz3 := hb3.size
        have hnb3 := HN2.out.below hb3 (by omega)
        have HO3 := Lib.hid ((hb3.cell (p := ⟨w.heap.size + 1, 0, none⟩) (by simp; omega)).trans HO2.out)
        obtain ⟨q0, q1, q2, q3, q4⟩ := hnb3.cells
        have f0 := hnb3.frozen 0
        have f1 := hnb3.frozen 1
        have f2 := hnb3.frozen 2
        have f3 := hnb3.frozen 3
        have f4 := hnb3.frozen 4
        have HN3 := Lib.hid hnb3
        have HB3 := Lib.hid (HB2.out.trans (hb3.mono HB2.out.size))
        obtain ⟨b', off', hA, hb', c0, c1, c2, c3, c4⟩ := (InT.below HB3.out m hin.out).cells i hi
        have HKO := Lib.hid (InT.kidAt hin.out hi)
        rw [hA] at q4
        clear hA hnb3 hb3 d0 d1 d2 d3 d4
        generalize m.kids[i] = x at *
        go_wp2_with (fail)
        go_roundg (NT.cnt x)
        case measure => omega
        case rel =>
          refine ⟨a + (1 + NT.cnts (m.kids.take i)), x, by go_num, Nat.le_refl _, by omega, HN3.out.put x, ?_, HKO, HFE, put5_below HB3.out (Nat.le_refl _) x, by simp; omega⟩
          have e : ∀ (X : World) (k : Nat) (v : Value), (X.setCell ⟨w.heap.size, k, none⟩ v).cell? ⟨w.heap.size + 1, 0, none⟩ = X.cell? ⟨w.heap.size + 1, 0, none⟩ := fun X k v => World.cell?_of_block (Below.heap_setCell X ⟨w.heap.size, k, none⟩ v _ (by simp))
          show (put5 W3 w.heap.size x).cell? _ = _
          unfold put5
          rw [e, e, e, e, e]
          exact HO3.out
end Go.Proofs.Ytjikfdifcpdhhaa
