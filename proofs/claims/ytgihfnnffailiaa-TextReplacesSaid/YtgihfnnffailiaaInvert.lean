/- What is proved: Invert returns the replacements that undo others, in new memory, or the error of check. -/
import Derived.Test.YtgihfnnffailiaaCheck
import Derived.Test.YtgihfnnffailiaaApply
import Derived.Laws.MakeOwn
import Derived.Deep.RegionHeld3
import Derived.Deep.AppendLies
set_option linter.unusedVariables false
namespace Go.Proofs.Ytgihfnnffailiaa
open Go.RowKit

theorem infoRep : (Try.prog.info? 45).map (fun i => (i.zero, i.size, i.bytes)) = some (some (.agg #[.int .i64 0, .int .i64 0, .string ⟨#[]⟩]), 3, 32) := by kernel_rfl

theorem make_cap {P : Program} (t e : TypeId) (i : TypeInfo) (z : Value) (ht : P.underlying t = some (.slice e)) (hi : P.info? e = some i) (hz : i.zero = some z)
    (c : Nat) (hbytes : i.bytes * c ≤ 281474976710656) (h63 : c ≤ 9223372036854775807) (w : World) :
    (Instr.makeSlice t (.int .i64 0) (.int .i64 (c : Int))).run P w = .ok (.slice (some ⟨w.heap.size, 0, none⟩) 0 c) (w.alloc (.cells (madeCells z.cells (c * i.size)) e)) := by
  have hb : (i.bytes : Int) * (c : Int) ≤ 281474976710656 := by
    have h : ((i.bytes * c : Nat) : Int) ≤ 281474976710656 := by omega
    rwa [Int.natCast_mul] at h
  have hr := run_make (P := P) w t e i z ht hi hz .i64 .i64 ((0 : Nat) : Int) c (by omega) (by omega) hb (by omega)
  simp only [Int.toNat_natCast] at hr
  exact hr

/-- the cells of replacements -/
def rcells : List Rep → List Value
  | [] => []
  | r :: rs => .int .i64 r.lo :: .int .i64 r.hi :: .string r.text :: rcells rs
theorem rcells_length (l : List Rep) : (rcells l).length = l.length * 3 := by
  induction l with
  | nil => rfl
  | cons r rs ih => simp [rcells, ih]; omega
theorem rcells_append (l m : List Rep) : rcells (l ++ m) = rcells l ++ rcells m := by
  induction l with
  | nil => rfl
  | cons r rs ih => simp [rcells, ih]
theorem rcells_get (l : List Rep) : ∀ (i : Nat) (h : i < l.length), (rcells l)[i * 3]? = some (.int .i64 l[i].lo) ∧ (rcells l)[i * 3 + 1]? = some (.int .i64 l[i].hi) ∧ (rcells l)[i * 3 + 2]? = some (.string l[i].text) := by
  induction l with
  | nil => intro i h; simp at h
  | cons r rs ih =>
    intro i h
    cases i with
    | zero => simp [rcells]
    | succ i =>
      have h' := ih i (by simpa using h)
      rw [show (i + 1) * 3 = i * 3 + 3 from by omega]
      simpa [rcells] using h'

/-- a row of its own that holds replacements reads as they -/
theorem reps_own {w : World} {B : Nat} {v : Value} {l : List Rep} (h : w.ownsRow B 45 3 v l.length (rcells l)) : ∃ A c, v = .slice A l.length c ∧ RepsA w A l := by
  rcases Nat.eq_zero_or_pos l.length with h0 | h0
  · rcases h.2 with ⟨rfl, _⟩ | ⟨g, cap, cur, rfl, _⟩
    · exact ⟨none, 0, by rw [h0], fun hh => by omega⟩
    · exact ⟨_, _, rfl, fun hh => by omega⟩
  · obtain ⟨g, cap, hv, _, hlt⟩ := h.form h0
    refine ⟨some ⟨g, 0, none⟩, cap, hv, fun _ => ⟨g, 0, rfl, hlt, fun i hi => ?_⟩⟩
    have hc := h.cells (g := g) (by rw [hv]; rfl)
    obtain ⟨e1, e2, e3⟩ := rcells_get l i hi
    have key : ∀ k, (⟨g, 0, none⟩ : Addr).add k = ⟨g, 0 + k, none⟩ := by
      intro k
      unfold Addr.add
      by_cases hk : k = 0
      · simp [hk]
      · simp [hk]
    have a1 := hc _ _ e1
    have a2 := hc _ _ e2
    have a3 := hc _ _ e3
    rw [key] at a1 a2 a3
    exact ⟨a1, a2, a3⟩

theorem own_below3 {w w' : World} {B n : Nat} {E : TypeId} {v : Value} {xs : List Value} (h : w.ownsRow B E 3 v n xs) (hb : Below w.heap.size w w') : w'.ownsRow B E 3 v n xs :=
  h.kept (row := none) ⟨hb.os, hb.tape, hb.output, hb.size, fun k hk _ => hb.block k hk⟩ (by
    cases hv : v.ownBlock with
    | none => exact .inl rfl
    | some g => exact .inr (by simp))

set_option maxHeartbeats 400000 in
theorem invert_bad (s : ByteArray) (A : Option Addr) (c : Nat) (l : List Rep) (w : World) (hz : s.size ≤ 1000000) (hl : l.length ≤ 1000) (hs : Short l) (hr : RepsA w A l) (hbad : chk s.size l 0 s.size ≠ 0) :
    Calls Try.prog 22 #[.string s, .slice A l.length c] w fun e w' => e = .returned (.tuple #[.slice none 0 0, .int .i64 (chk s.size l 0 s.size)]) ∧ Below w.heap.size w w' := by
  have HC := Lib.hid (check_any s A c l w hz hl hs hr)
  have hne : (chk s.size l 0 s.size != 0) = true := by simpa using hbad
  have hne2 : (chk s.size l 0 s.size == 0) = false := by simpa using hbad
  clear hr hbad
  go_enter Try.func22, Try.ntmps22
  go_wp2_with (fail)
  refine (HC.out).mono ?_
  rintro e w1 ⟨rfl, hb1⟩
  go_wp2_with (fail)
  go_ret2
  exact ⟨rfl, hb1⟩

set_option maxRecDepth 100000 in
set_option maxHeartbeats 1000000 in
theorem invert_good (s : ByteArray) (A : Option Addr) (c : Nat) (l : List Rep) (w : World) (hz : s.size ≤ 1000000) (hl : l.length ≤ 1000) (hs : Short l) (hr : RepsA w A l) (hok : chk s.size l 0 s.size = 0) :
    Calls Try.prog 22 #[.string s, .slice A l.length c] w fun e w' => ∃ v, e = .returned (.tuple #[v, .int .i64 0]) ∧ w'.ownsRow w.heap.size 45 3 v l.length (rcells (inv s l 0)) ∧ Below w.heap.size w w' := by
  obtain ⟨i0, hi0, hz0, hz1, hz2⟩ := info_parts infoRep
  have HC := Lib.hid (check_any s A c l w hz hl hs hr)
  rw [hok] at HC
  have HR := Lib.hid hr
  have HS := Lib.hid hs
  have HK := Lib.hid hok
  have hmk := fun W => make_cap (P := Try.prog) 32 45 i0 _ Try.underlying32 hi0 hz0 l.length (by rw [hz2]; omega) (by omega) W
  have HIL := Lib.hid (inv_length s l 0)
  clear hr hs hok
  go_enter Try.func22, Try.ntmps22
  go_wp2_with (fail)
  refine (HC.out).mono ?_
  rintro e w1 ⟨rfl, hb1⟩
  have z1 := hb1.size
  go_wp2_with (fail)
  have HMK := Lib.hid hmk
  clear hmk
  have hsz0 : (madeCells #[Value.int .i64 0, Value.int .i64 0, Value.string ⟨#[]⟩] (l.length * 3)).size = l.length * 3 := size_madeCells _ _
  have HM0 := Lib.hid (World.ownsRow_made (base := w.heap.size) (e := 45) (size := 3) w1 _ l.length z1 (by unfold maxLen; omega) hsz0)
  clear hsz0
  go_loopw [7, 8, 23] (fun v x i wr => ∃ (k : Nat) (d last sz : Int) (acc : List Rep), k ≤ l.length ∧ i = .int .i64 (k : Int) ∧ x = .int .i64 d ∧ -((k : Int) * 1000000) ≤ d ∧ d ≤ (k : Int) * 1000000 ∧ 0 ≤ last ∧ acc.length ≤ k ∧ Hid (inv s l 0 = acc ++ inv s (l.drop k) d) ∧ Hid (chk s.size (l.drop k) last sz = 0) ∧ Hid (wr.ownsRow w.heap.size 45 3 v acc.length (rcells acc)) ∧ Below w.heap.size w wr) (fun _ _ i _ => l.length - (intOf i).toNat)
  case atStart => exact ⟨0, 0, 0, s.size, [], Nat.zero_le _, rfl, rfl, by omega, by omega, Int.le_refl _, Nat.le_refl _, rfl, HK, HM0, hb1.alloc z1 _⟩
  case round =>
    obtain ⟨k, d, last, sz, acc, hk, rfl, rfl, hd1, hd2, hlast, hacc, hinv, hchk, hown, hbw⟩ := hrel
    by_cases hlt : k < l.length
    · obtain ⟨b, off, rfl, hb, hr⟩ := (HR.out.below hbw) (by omega)
      obtain ⟨c1, c2, c3⟩ := hr k hlt
      obtain ⟨g1, g2, g3, g4, g5⟩ := chk_get s.size l k hlt last sz hchk.out
      have hts := HS.out k hlt
      have HV := Lib.hid (hinv.out.trans (inv_step s acc l k hlt d))
      have hgb := grow_bd2 l[k] g1 g3 (by omega) hts
      obtain ⟨p, hp⟩ := Int.eq_ofNat_of_zero_le g1
      obtain ⟨q, hq⟩ := Int.eq_ofNat_of_zero_le (show 0 ≤ l[k].hi by omega)
      have HN := Lib.hid g5
      have HG := Lib.hid (fun w1 => growth_any l[k] w1 (by omega) (by omega) (by omega) (by omega) hts)
      generalize hgr : grow l[k] = gr at *
      have htx : ∃ txt, l[k].text = txt := ⟨_, rfl⟩
      obtain ⟨txt, htx⟩ := htx
      rw [htx] at HV HG c3 hts
      rw [hp] at c1 g1 g2 g3 HV HG
      rw [hq] at c2 g3 g4 HV HG HN
      clear hp hq htx g5 hr hgr
      have hbz := hbw.size
      have o1 := hown.out.lt
      have hne : u7.ownBlock ≠ some wr.heap.size := fun e => by have := (o1 _ e).2; omega
      have HO := Lib.hid hown.out
      clear o1
      go_wp2_with (fail)
      have nO := heap_new1 wr (.cells #[.int .i64 (p : Int), .int .i64 (q : Int), .string txt] 45)
      have s0 : (wr.alloc (.cells #[.int .i64 (p : Int), .int .i64 (q : Int), .string txt] 45)).cell? ⟨wr.heap.size, 0, none⟩ = some (.int .i64 (p : Int)) := by rw [Lib.cell_of_heap nO]; rfl
      have s1 : (wr.alloc (.cells #[.int .i64 (p : Int), .int .i64 (q : Int), .string txt] 45)).cell? ⟨wr.heap.size, 1, none⟩ = some (.int .i64 (q : Int)) := by rw [Lib.cell_of_heap nO]; rfl
      have s2 : (wr.alloc (.cells #[.int .i64 (p : Int), .int .i64 (q : Int), .string txt] 45)).cell? ⟨wr.heap.size, 2, none⟩ = some (.string txt) := by rw [Lib.cell_of_heap nO]; rfl
      clear nO
      have f1 : p ≤ q := by omega
      have f2 : q ≤ s.size := by omega
      have hcap1 : acc.length + 1 ≤ maxLen := by unfold maxLen; omega
      have hcap2 : (acc.length + 1) * 32 ≤ 140737488355328 := by omega
      have m1 : IntKind.i64.wrap ((p : Int) + d + (txt.size : Int)) = (p : Int) + d + (txt.size : Int) := IntWalk.i64_in _ (by omega)
      go_region_held3 (fun w' => w'.cell? ⟨wr.heap.size, 0, none⟩ = some (.int .i64 (p : Int)) ∧ w'.cell? ⟨wr.heap.size, 1, none⟩ = some (.int .i64 (q : Int)) ∧ w'.cell? ⟨wr.heap.size, 2, none⟩ = some (.string txt)) (first | go_keep | (go_split_ands; (refine ⟨?_, ?_, ?_⟩ <;> (rw [hgrow.cell_far _ (by simp <;> omega) (Ne.symm hne)]; assumption)))) ((refine step_append_lies _ (by rfl) _ _ _ (by rfl) w.heap.size 45 i0 _ 3 32 Try.underlying32 hi0 hz0 hz1 hz2 rfl (by omega) u7 acc.length (rcells acc) (by rfl) (((HO.out.alloc _).alloc _).drew) ⟨wr.heap.size + 1, 0, none⟩ 1 1 [.int .i64 ((p : Int) + d), .int .i64 ((p : Int) + d + (txt.size : Int)), .string (s.extract p q)] (by rfl) (by rfl) (World.news_of_block (cs := #[.int .i64 ((p : Int) + d), .int .i64 ((p : Int) + d + (txt.size : Int)), .string (s.extract p q)]) (t := 45) (fr := (0, 0)) (heap_new2 wr _ _)) (by simp [Value.oneCell']) (by omega) hcap1 hcap2 (by simp; omega) (wr.heap.size + 2) (by simp) ?_; intro gg cap w2 hown1 hgrow hat hltg))
      have tO : w2.heap[wr.heap.size]? = some (.cells #[.int .i64 (p : Int), .int .i64 (q : Int), .string txt] 45) := (hgrow.block wr.heap.size (by simp <;> omega) (Ne.symm hne)).trans ((Lib.alloc_old _ _ _ (by simp)).trans (heap_new1 wr _))
      have t0 : w2.cell? ⟨wr.heap.size, 0, none⟩ = some (.int .i64 (p : Int)) := by rw [Lib.cell_of_heap tO]; rfl
      have t1 : w2.cell? ⟨wr.heap.size, 1, none⟩ = some (.int .i64 (q : Int)) := by rw [Lib.cell_of_heap tO]; rfl
      have t2 : w2.cell? ⟨wr.heap.size, 2, none⟩ = some (.string txt) := by rw [Lib.cell_of_heap tO]; rfl
      have B2 := Lib.hid ((((hbw.alloc hbz (.cells #[.int .i64 (p : Int), .int .i64 (q : Int), .string txt] 45)).alloc (by simp; omega) (.cells #[.int .i64 ((p : Int) + d), .int .i64 ((p : Int) + d + (txt.size : Int)), .string (s.extract p q)] 45)).drew).grown hgrow (by simp; omega) (fun g hg => (HO.out.lt g hg).1))
      have HO1 := Lib.hid hown1
      clear hgrow hat hltg hown1 tO m1 s0 s1 s2 hcap1 hcap2
      go_wp2_with (fail)
      refine (HG.out _).mono ?_
      rintro e w3 ⟨rfl, hb3⟩
      have z2 := B2.out.size
      have B3 := Lib.hid (B2.out.trans (hb3.mono z2))
      have O3 := Lib.hid (own_below3 HO1.out hb3)
      clear hb3
      go_wp2_with (fail)
      refine ⟨⟨k + 1, d + gr, q, sz + gr, acc ++ [⟨(p : Int) + d, (p : Int) + d + txt.size, s.extract p q⟩], by omega, by go_num, rfl, by omega, by omega, by omega, by simp; omega, HV, ?_, ?_, B3.out⟩, by simp [intOf]; omega⟩
      · exact HN
      · have h := O3.out
        rw [show rcells (acc ++ [⟨(p : Int) + d, (p : Int) + d + txt.size, s.extract p q⟩]) = rcells acc ++ [.int .i64 ((p : Int) + d), .int .i64 ((p : Int) + d + (txt.size : Int)), .string (s.extract p q)] from by rw [rcells_append]; rfl, show (acc ++ [(⟨(p : Int) + d, (p : Int) + d + txt.size, s.extract p q⟩ : Rep)]).length = acc.length + 1 from by simp]
        exact h
    · have HE := Lib.hid (hinv.out.trans (inv_end s acc l k hlt d))
      have HO := Lib.hid hown.out
      go_wp2_with (fail)
      go_ret2
      have h := HO.out
      have e1 := HE.out
      have e2 := HIL.out
      rw [← e1] at h
      rw [e2] at h
      exact ⟨_, rfl, h, hbw⟩

/-- what Invert gives: nothing at an error -/
def invList (s : ByteArray) (l : List Rep) : List Rep := if chk s.size l 0 s.size = 0 then inv s l 0 else []

theorem invert_any (s : ByteArray) (A : Option Addr) (c : Nat) (l : List Rep) (w : World) (hz : s.size ≤ 1000000) (hl : l.length ≤ 1000) (hs : Short l) (hr : RepsA w A l) :
    Calls Try.prog 22 #[.string s, .slice A l.length c] w fun e w' => ∃ A' c', e = .returned (.tuple #[.slice A' (invList s l).length c', .int .i64 (chk s.size l 0 s.size)]) ∧ RepsA w' A' (invList s l) ∧ Below w.heap.size w w' := by
  by_cases h : chk s.size l 0 s.size = 0
  · have e : invList s l = inv s l 0 := if_pos h
    rw [h, e]
    refine (invert_good s A c l w hz hl hs hr h).mono fun e w' he => ?_
    obtain ⟨v, h1, h2, h3⟩ := he
    rw [← inv_length s l 0] at h2
    obtain ⟨A', c', hv, hr'⟩ := reps_own h2
    exact ⟨A', c', by rw [h1, hv], hr', h3⟩
  · have e : invList s l = [] := if_neg h
    rw [e]
    exact (invert_bad s A c l w hz hl hs hr h).mono fun e w' he => ⟨none, 0, he.1, fun h0 => absurd h0 (by simp), he.2⟩
end Go.Proofs.Ytgihfnnffailiaa
