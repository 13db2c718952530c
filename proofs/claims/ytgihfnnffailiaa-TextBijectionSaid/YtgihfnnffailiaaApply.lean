/- What is proved: Apply returns the text with replacements made, or the error that the plain function says. -/
import Derived.Test.YtgihfnnffailiaaCheck
import Derived.Test.YtgihfnnffailiaaBuilder
import Derived.Test.YtgihfnnffailiaaShelf
set_option linter.unusedVariables false
namespace Go.Proofs.Ytgihfnnffailiaa
open Go.RowKit

theorem len_eq' (a : ByteArray) : a.data.toList.length = a.size := by simp

theorem strCells_cut (s : ByteArray) (d e : Nat) : Lib.strCells (s.extract d e) = Lib.byteCells ((s.data.toList.take e).drop d) := by
  rw [Lib.strCells_eq]
  congr 1
  simp [ByteArray.data_extract, List.drop_take]

theorem builder_alloc {B b : Nat} {bs : List Value} {w : World} (h : Lib.IsBuilder 63 5 B b bs w) (o : Obj) : Lib.IsBuilder 63 5 B b bs (w.alloc o) := by
  have go : ∀ p, Lib.BuilderAt 63 5 B b p bs w → Lib.BuilderAt 63 5 B b p bs (w.alloc o) := by
    intro p hp
    have hlt := hp.lt
    obtain ⟨hB, v, hb, hown, hne⟩ := hp
    exact ⟨hB, v, (Lib.alloc_old w o b hlt).trans hb, hown.alloc o, hne⟩
  exact h.imp (go _) (go _)

theorem builder_set {B b k o : Nat} {bs : List Value} {w : World} {cs : Array Value} {t : TypeId} {fr : Nat × Nat} (h : Lib.IsBuilder 63 5 B b bs w) (hk : w.heap[k]? = some (.cells cs t fr)) (ht : t ≠ 5) (hb : k ≠ b) (x : Value) : Lib.IsBuilder 63 5 B b bs (w.setCell ⟨k, o, none⟩ x) := by
  have go : ∀ p, Lib.BuilderAt 63 5 B b p bs w → Lib.BuilderAt 63 5 B b p bs (w.setCell ⟨k, o, none⟩ x) := by
    intro p hp
    obtain ⟨hB, v, hb', hown, hne⟩ := hp
    refine ⟨hB, v, (Below.heap_setCell w ⟨k, o, none⟩ x b (fun e => hb e.symm)).trans hb', ?_, hne⟩
    exact hown.kept (row := some k) ⟨rfl, rfl, rfl, by simp [World.setCell], fun i _ hi => Below.heap_setCell _ _ _ _ (fun e => hi (by simp [e]))⟩ (Or.inr (Lib.ownBlock_ne hown hk ht))
  exact h.imp (go _) (go _)

theorem heap_new1 (w : World) (o : Obj) : (w.alloc o).heap[w.heap.size]? = some o := heap_alloc_new w o
theorem heap_new2 (w : World) (o o' : Obj) : ((w.alloc o).alloc o').heap[w.heap.size + 1]? = some o' := by
  have h := heap_new1 (w.alloc o) o'
  rwa [World.size_alloc] at h
theorem heap_set1 {w : World} {k : Nat} {x y : Value} {t : TypeId} (h : w.heap[k]? = some (.cells #[x] t (0, 0))) : (w.setCell ⟨k, 0, none⟩ y).heap[k]? = some (.cells #[y] t (0, 0)) := by
  simp [World.setCell, Array.getElem?_modify, h]
theorem heap_lt {w : World} {k : Nat} {o : Obj} (h : w.heap[k]? = some o) : k < w.heap.size := by
  rcases Nat.lt_or_ge k w.heap.size with h' | h'
  · exact h'
  · simp [Array.getElem?_eq_none h'] at h

set_option maxHeartbeats 400000 in
theorem upTo_any (s : ByteArray) (B b g h d e : Nat) (bs : List Value) (w : World) (hz : s.size ≤ 1000000) (hB : B ≤ w.heap.size) (hlen : bs.length ≤ 100000000000)
    (h1 : Lib.IsBuilder 63 5 B b bs w) (h2 : w.cell? ⟨g, 0, none⟩ = some (.string s)) (h3 : w.cell? ⟨h, 0, none⟩ = some (.int .i64 (d : Int))) (hd : d ≤ e) (he : e ≤ s.size) :
    Calls Try.prog 36 #[.int .i64 (e : Int), .pointer (some ⟨b, 0, none⟩), .pointer (some ⟨g, 0, none⟩), .pointer (some ⟨h, 0, none⟩)] w fun r w' => r = .returned (.tuple #[]) ∧
      Lib.IsBuilder 63 5 B b (bs ++ Lib.byteCells ((s.data.toList.take e).drop d)) w' ∧ Below B w w' ∧ OthersStay b w w' := by
  have hsz : (s.extract d e).size ≤ 1000000 := by simp [ByteArray.size_extract]; omega
  have HS := hide (strCells_cut s d e)
  have HW := hide (fun w1 hh hb => writeString_any B b bs (s.extract d e) w1 hh (by omega) hb)
  have HI := hide h1
  clear h1
  go_enter Try.func36, Try.ntmps36
  go_wp2_with (go_at_call 37; refine ((unhide HW) _ (unhide HI) hB).mono ?_; rintro e w1 ⟨rfl, hi1, hb1, ho1⟩)
  go_end0
  exact ⟨rfl, .inr (by rw [← unhide HS]; exact hi1), hb1, ho1⟩

set_option maxHeartbeats 400000 in
theorem apply_bad (s : ByteArray) (A : Option Addr) (c : Nat) (l : List Rep) (w : World) (hz : s.size ≤ 1000000) (hl : l.length ≤ 1000) (hs : Short l) (hr : RepsA w A l) (hbad : chk s.size l 0 s.size ≠ 0) :
    Calls Try.prog 20 #[.string s, .slice A l.length c] w fun e w' => e = .returned (.tuple #[.string ⟨#[]⟩, .int .i64 (chk s.size l 0 s.size)]) ∧ Below w.heap.size w w' := by
  have HC := hide (fun w1 h1 => check_any s A c l w1 hz hl hs h1)
  have b0 : Below w.heap.size w (w.alloc (.cells #[.string s] 9)) := (Below.refl _ w).alloc (Nat.le_refl _) _
  have HR := hide (hr.below b0)
  have hne : (chk s.size l 0 s.size != 0) = true := by simpa using hbad
  have hne2 : (chk s.size l 0 s.size == 0) = false := by simpa using hbad
  have HB := hide b0
  clear hr b0 hbad
  go_enter Try.func20, Try.ntmps20
  go_wp2_with (go_at_call 35; refine ((unhide HC) _ (unhide HR)).mono ?_; rintro e w1 ⟨rfl, hb1⟩)
  go_ret2
  exact ⟨rfl, (unhide HB).trans (hb1.mono (by simp))⟩

set_option maxHeartbeats 1000000 in
theorem apply_good (s : ByteArray) (A : Option Addr) (c : Nat) (l : List Rep) (w : World) (hz : s.size ≤ 1000000) (hl : l.length ≤ 1000) (hs : Short l) (hr : RepsA w A l) (hok : chk s.size l 0 s.size = 0) :
    Calls Try.prog 20 #[.string s, .slice A l.length c] w fun e w' => e = .returned (.tuple #[.string ⟨(app s.data.toList 0 l).toArray⟩, .int .i64 0]) ∧ Below w.heap.size w w' := by
  have hmf : ∀ (fn : Fn) (first cap : Array Value) (w : World), (Instr.makeFunc fn first cap).run Try.prog w = .ok (.func fn first cap) w := fun _ _ _ _ => rfl
  have HC := hide (fun w1 h1 => check_any s A c l w1 hz hl hs h1)
  have b0 : Below w.heap.size w (w.alloc (.cells #[.string s] 9)) := (Below.refl _ w).alloc (Nat.le_refl _) _
  have HR := hide (hr.below b0)
  have HB := hide b0
  have HK := hide hok
  have HS := hide hs
  have HR0 := hide hr
  clear hr b0 hs
  go_enter Try.func20, Try.ntmps20
  go_wp2_with (go_at_call 35; refine ((unhide HC) _ (unhide HR)).mono ?_; rintro e w1 ⟨rfl, hb1⟩)
  have hz1 := hb1.size
  simp only [World.size_alloc] at hz1
  have hS1 : w1.heap[w.heap.size]? = some (.cells #[.string s] 9 (0, 0)) := (hb1.block w.heap.size (by simp)).trans (heap_new1 w _)
  have HS1 := hide hS1
  have HBW := hide ((unhide HB).trans (hb1.mono (by simp)))
  clear hS1
  go_loopw [21] (fun i wr => ∃ (k d : Nat) (sz : Int) (acc : List UInt8), k ≤ l.length ∧ i = .int .i64 (k : Int) ∧ d ≤ s.size ∧ acc.length ≤ k * 2000000 ∧ Hid (app s.data.toList 0 l = acc ++ app s.data.toList d (l.drop k)) ∧ Hid (chk s.size (l.drop k) d sz = 0) ∧
      Hid (Lib.IsBuilder 63 5 w1.heap.size w1.heap.size (Lib.byteCells acc) wr) ∧ Hid (wr.heap[w.heap.size]? = some (.cells #[.string s] 9 (0, 0))) ∧ Hid (wr.heap[w1.heap.size + 1]? = some (.cells #[.int .i64 (d : Int)] 3 (0, 0))) ∧ Hid (Below w.heap.size w wr)) (fun i _ => l.length - (intOf i).toNat)
  case atStart =>
    refine ⟨0, 0, s.size, [], Nat.zero_le _, rfl, Nat.zero_le _, by simp, rfl, (unhide HK), builder_alloc (Lib.fresh_isBuilder 63 5 w1) _, ?_, ?_, ?_⟩
    · exact (Lib.alloc_old _ _ _ (by simp; omega)).trans ((Lib.alloc_old _ _ _ (by omega)).trans (unhide HS1))
    · exact heap_new2 w1 _ _
    · exact ((unhide HBW).alloc (by omega) _).alloc (by simp; omega) _
  case round =>
    obtain ⟨k, d, sz, acc, hk, rfl, hd, hacc, happ, hchk, hbu, hbs, hbd, hbw⟩ := hrel
    have hwz := heap_lt (unhide hbd)
    have cS := Lib.cell_of_heap (unhide hbs) 0
    have cD := Lib.cell_of_heap (unhide hbd) 0
    simp at cS cD
    by_cases hlt : k < l.length
    · obtain ⟨b, off, rfl, hb, hr⟩ := ((unhide HR0).below (unhide hbw)) (by omega)
      obtain ⟨c1, c2, c3⟩ := hr k hlt
      clear hr
      obtain ⟨g1, g2, g3, g4, g5⟩ := chk_get s.size l k hlt d sz (unhide hchk)
      have hts := (unhide HS) k hlt
      have happ1 := hide (app_step s.data.toList acc d l k hlt)
      obtain ⟨p, hp⟩ := Int.eq_ofNat_of_zero_le g1
      obtain ⟨q, hq⟩ := Int.eq_ofNat_of_zero_le (show 0 ≤ l[k].hi by omega)
      have HN := hide g5
      clear g5
      generalize ht : l[k].text = txt at *
      have HP := hide hp
      have HQ := hide hq
      have HT := hide ht
      rw [hp] at c1 g1 g2 g3
      rw [hq] at c2 g3 g4
      clear hp hq ht
      have hbz := (unhide hbw).size
      have HW := hide (fun w2 hh hz2 => upTo_any s w1.heap.size w1.heap.size w.heap.size (w1.heap.size + 1) d p (Lib.byteCells acc) w2 hz hz2 (by rw [Lib.byteCells_length]; omega) hh)
      have nR := heap_new1 wr (.cells #[.int .i64 (p : Int), .int .i64 (q : Int), .string txt] 45)
      have nS := (Lib.alloc_old wr (.cells #[.int .i64 (p : Int), .int .i64 (q : Int), .string txt] 45) _ (by omega)).trans (unhide hbs)
      have nD := (Lib.alloc_old wr (.cells #[.int .i64 (p : Int), .int .i64 (q : Int), .string txt] 45) _ hwz).trans (unhide hbd)
      have nB := builder_alloc (unhide hbu) (.cells #[.int .i64 (p : Int), .int .i64 (q : Int), .string txt] 45)
      have NR := hide nR
      have NS := hide nS
      have ND := hide nD
      have NB := hide nB
      clear nR nS nD nB cS cD
      go_wp2_with (fail)
      refine ((unhide HW) _ (unhide NB) (by simp; omega) (by rw [Lib.cell_of_heap (unhide NS)]; rfl) (by rw [Lib.cell_of_heap (unhide ND)]; rfl) (by omega) (by omega)).mono ?_
      rintro e w2 ⟨rfl, hi2, hb2, ho2⟩
      have zz := hb2.size
      simp only [World.size_alloc] at zz
      have mR := ho2 _ _ _ _ (unhide NR) (by decide) (by omega)
      have mS := ho2 _ _ _ _ (unhide NS) (by decide) (by omega)
      have mD := ho2 _ _ _ _ (unhide ND) (by decide) (by omega)
      have r1 : w2.cell? ⟨wr.heap.size, 1, none⟩ = some (.int .i64 (q : Int)) := by rw [Lib.cell_of_heap mR]; rfl
      have r2 : w2.cell? ⟨wr.heap.size, 2, none⟩ = some (.string txt) := by rw [Lib.cell_of_heap mR]; rfl
      have HW2 := hide (writeString_any w1.heap.size w1.heap.size _ txt w2 hi2 (by simp only [List.length_append, Lib.byteCells_length, List.length_drop, List.length_take]; have := len_eq' s; omega) (by omega))
      have MR := hide mR
      have MS := hide mS
      have MD := hide mD
      have B2 := hide (((unhide hbw).alloc hbz _).trans (hb2.mono (by omega)))
      clear mR mS mD hi2 ho2 hb2
      go_wp2_with (fail)
      refine (unhide HW2).mono ?_
      rintro e w3 ⟨rfl, hi3, hb3, ho3⟩
      have zz3 := hb3.size
      have lR := ho3 _ _ _ _ (unhide MR) (by decide) (by omega)
      have lS := ho3 _ _ _ _ (unhide MS) (by decide) (by omega)
      have lD := ho3 _ _ _ _ (unhide MD) (by decide) (by omega)
      have s1 : w3.cell? ⟨wr.heap.size, 1, none⟩ = some (.int .i64 (q : Int)) := by rw [Lib.cell_of_heap lR]; rfl
      have s2 : w3.cell? ⟨w1.heap.size + 1, 0, none⟩ = some (.int .i64 (d : Int)) := by rw [Lib.cell_of_heap lD]; rfl
      have s3 : w3.frozen? ⟨w1.heap.size + 1, 0, none⟩ = false := Lib.frozen_of_heap lD 0
      have LS := hide lS
      have LD := hide lD
      have LB := hide (Or.inr hi3 : Lib.IsBuilder 63 5 w1.heap.size w1.heap.size _ w3)
      have B3 := hide ((unhide B2).trans (hb3.mono (by omega)))
      clear lR lS lD hi3 ho3 hb3 r1 r2
      go_wp2_with (fail)
      refine ⟨⟨k + 1, q, sz + grow l[k], acc ++ (s.data.toList.take p).drop d ++ txt.data.toList, by omega, by go_num, by omega, ?_, ?_, ?_, ?_, ?_, ?_, ?_⟩, by simp [intOf]; omega⟩
      · simp only [List.length_append, List.length_drop, List.length_take]
        have := len_eq' s
        have := len_eq' txt
        omega
      · have h1 := unhide happ1
        rw [unhide HP, unhide HQ] at h1
        exact (unhide happ).trans h1
      · have h1 := unhide HN
        rw [unhide HQ] at h1
        exact h1
      · have h1 := builder_set (o := 0) (unhide LB) (unhide LD) (by decide) (by omega) (.int .i64 (q : Int))
        rw [Lib.strCells_eq, ← Lib.byteCells_append, ← Lib.byteCells_append] at h1
        exact h1
      · exact (Below.heap_setCell _ _ _ _ (by simp; omega)).trans (unhide LS)
      · exact heap_set1 (unhide LD)
      · exact (unhide B3).setCell (p := ⟨w1.heap.size + 1, 0, none⟩) (by simp; omega) _
    · have HA := hide (app_end s.data.toList acc d l k hlt)
      have HW := hide (fun hz2 => upTo_any s w1.heap.size w1.heap.size w.heap.size (w1.heap.size + 1) d s.size (Lib.byteCells acc) wr hz hz2 (by rw [Lib.byteCells_length]; omega) (unhide hbu))
      go_wp2_with (fail)
      refine ((unhide HW) (by omega) cS cD hd (Nat.le_refl _)).mono ?_
      rintro e w2 ⟨rfl, hi2, hb2, ho2⟩
      have zz := hb2.size
      have HI := hide hi2
      have B2 := hide ((unhide hbw).trans (hb2.mono (by omega)))
      clear hi2 hb2 ho2
      go_wp2_with (fail)
      have h1 := unhide HI
      rw [← Lib.byteCells_append] at h1
      refine (Try.Builder_String_any w1.heap.size w1.heap.size _ w2 h1 (by omega)).mono ?_
      rintro e w3 ⟨rfl, hb3⟩
      have B3 := hide ((unhide B2).trans (hb3.mono (by omega)))
      clear hb3 h1
      go_wp2
      go_ret2
      refine ⟨?_, unhide B3⟩
      have e1 : s.data.toList.take s.size = s.data.toList := List.take_of_length_le (by rw [len_eq']; omega)
      rw [unhide happ, unhide HA]
      simp only [e1]
      rfl

/-- what Apply gives: text and error -/
def appText (s : ByteArray) (l : List Rep) : ByteArray := if chk s.size l 0 s.size = 0 then ⟨(app s.data.toList 0 l).toArray⟩ else ⟨#[]⟩

theorem apply_any (s : ByteArray) (A : Option Addr) (c : Nat) (l : List Rep) (w : World) (hz : s.size ≤ 1000000) (hl : l.length ≤ 1000) (hs : Short l) (hr : RepsA w A l) :
    Calls Try.prog 20 #[.string s, .slice A l.length c] w fun e w' => e = .returned (.tuple #[.string (appText s l), .int .i64 (chk s.size l 0 s.size)]) ∧ Below w.heap.size w w' := by
  by_cases h : chk s.size l 0 s.size = 0
  · unfold appText
    rw [if_pos h, h]
    exact apply_good s A c l w hz hl hs hr h
  · unfold appText
    rw [if_neg h]
    exact apply_bad s A c l w hz hl hs hr h
end Go.Proofs.Ytgihfnnffailiaa
