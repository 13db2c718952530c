/- What is proved: Words returns the texts of tokens, in new memory. -/
import Derived.Test.YtoopnddlcofhoaaGreatDoorLxFit
set_option linter.unusedVariables false
namespace Go.Proofs.YtoopnddlcofhoaaGreatDoor.Lx
open Go.RowKit

theorem infoStr : (Tryz.prog.info? 9).map (fun i => (i.zero, i.size, i.bytes)) = some (some (.string ⟨#[]⟩), 1, 16) := by kernel_rfl
theorem make_cap {P : Program} (t e : TypeId) (i : TypeInfo) (z : Value) (ht : P.underlying t = some (.slice e)) (hi : P.info? e = some i) (hz : i.zero = some z)
    (c : Nat) (hbytes : i.bytes * c ≤ 281474976710656) (h63 : c ≤ 9223372036854775807) (w : World) :
    (Instr.makeSlice t (.int .i64 0) (.int .i64 (c : Int))).run P w = .ok (.slice (some ⟨w.heap.size, 0, none⟩) 0 c) (w.alloc (.cells (madeCells z.cells (c * i.size)) e)) := by
  have hb : (i.bytes : Int) * (c : Int) ≤ 281474976710656 := by
    have h : ((i.bytes * c : Nat) : Int) ≤ 281474976710656 := by omega
    rwa [Int.natCast_mul] at h
  have hr := run_make (P := P) w t e i z ht hi hz .i64 .i64 ((0 : Nat) : Int) c (by omega) (by omega) hb (by omega)
  simp only [Int.toNat_natCast] at hr
  exact hr
theorem strs_own {w : World} {B : Nat} {v : Value} {l : List ByteArray} (h : w.ownsRow B 9 1 v l.length (scells l)) : ∃ A c, v = .slice A l.length c ∧ StrA w A l := by
  rcases Nat.eq_zero_or_pos l.length with h0 | h0
  · rcases h.2 with ⟨rfl, _⟩ | ⟨g, cap, cur, rfl, _⟩
    · exact ⟨none, 0, by rw [h0], fun hh => by omega⟩
    · exact ⟨_, _, rfl, fun hh => by omega⟩
  · obtain ⟨g, cap, hv, _, hlt⟩ := h.form h0
    refine ⟨some ⟨g, 0, none⟩, cap, hv, fun _ => ⟨g, 0, rfl, hlt, fun i hi => ?_⟩⟩
    have hc := h.cells (g := g) (by rw [hv]; rfl)
    have e1 : (scells l)[i]? = some (.string l[i]) := by unfold scells; rw [List.getElem?_map, List.getElem?_eq_getElem hi]; rfl
    have a1 := hc _ _ e1
    have key : (⟨g, 0, none⟩ : Addr).add i = ⟨g, 0 + i, none⟩ := by
      unfold Addr.add
      by_cases hk : i = 0
      · simp [hk]
      · simp [hk]
    rwa [key] at a1
/-- the text of a token without what stands before it -/
def word (s : ByteArray) (t : Tok) : ByteArray := s.extract t.at_.toNat t.hi.toNat
def words (s : ByteArray) (l : List Tok) : List ByteArray := if fitB s.size l then l.map (word s) else []
theorem words_step (s : ByteArray) (l : List Tok) (k : Nat) (hk : k < l.length) : (l.map (word s)).take (k + 1) = (l.map (word s)).take k ++ [word s l[k]] := by
  rw [List.take_succ_eq_append_getElem (by simpa using hk), List.getElem_map]
set_option maxRecDepth 100000 in
set_option maxHeartbeats 400000 in
theorem words_bad (s : ByteArray) (A : Option Addr) (c : Nat) (l : List Tok) (w : World) (hs : s.size ≤ 1000000) (hl : l.length ≤ 9223372036854775807) (hr : TokA w A l) (hf : fitB s.size l = false) :
    Calls Tryz.prog 72 #[.string s, .slice A l.length c] w fun e w' => e = .returned (.slice none 0 0) ∧ Below w.heap.size w w' := by
  have HF := Lib.hid (fit_any s A c l w hs hl hr)
  rw [hf] at HF
  clear hf hr
  go_enter Tryz.func72, Tryz.ntmps72
  go_wp2_with (fail)
  refine HF.out.mono ?_
  rintro e w1 ⟨rfl, hb⟩
  go_wp2_with (fail)
  go_ret
  exact ⟨rfl, hb⟩
set_option maxRecDepth 100000 in
set_option maxHeartbeats 1000000 in
theorem words_good (s : ByteArray) (A : Option Addr) (c : Nat) (l : List Tok) (w : World) (hs : s.size ≤ 1000000) (hr : TokA w A l) (hf : fitB s.size l = true) :
    Calls Tryz.prog 72 #[.string s, .slice A l.length c] w fun e w' => ∃ v, e = .returned v ∧ w'.ownsRow w.heap.size 9 1 v l.length (scells (l.map (word s))) ∧ Below w.heap.size w w' := by
  obtain ⟨i0, hi0, hz0, hz1, hz2⟩ := info_parts infoStr
  have hlen := fit_len _ _ hf
  have HG := Lib.hid (fit_get _ _ hf)
  have HF := Lib.hid (fit_any s A c l w hs (by omega) hr)
  rw [hf] at HF
  have HR := Lib.hid hr
  have hmk := fun W => make_cap (P := Tryz.prog) 38 9 i0 _ Tryz.underlying38 hi0 hz0 l.length (by rw [hz2]; omega) (by omega) W
  clear hf hr
  go_enter Tryz.func72, Tryz.ntmps72
  go_wp2_with (fail)
  refine HF.out.mono ?_
  rintro e w1 ⟨rfl, hb1⟩
  have z1 := hb1.size
  go_wp2_with (fail)
  have HMK := Lib.hid hmk
  clear hmk
  have hsz0 : (madeCells #[Value.string ⟨#[]⟩] l.length).size = l.length * 1 := by rw [size_madeCells]; omega
  have HM0 := Lib.hid (World.ownsRow_made (base := w.heap.size) (e := 9) (size := 1) w1 _ l.length z1 (by unfold maxLen; omega) hsz0)
  clear hsz0
  go_loopw [5, 17] (fun v i wr => ∃ k : Nat, k ≤ l.length ∧ i = .int .i64 (k : Int) ∧ Hid (wr.ownsRow w.heap.size 9 1 v k (scells ((l.map (word s)).take k))) ∧ Hid (Below w.heap.size w wr)) (fun _ i _ => l.length - (intOf i).toNat)
  case atStart => exact ⟨0, Nat.zero_le _, rfl, HM0, hb1.alloc z1 _⟩
  case round =>
    obtain ⟨k, hk, rfl, hown, hbw⟩ := hrel
    by_cases hlt : k < l.length
    · obtain ⟨b, off, rfl, hb, hr⟩ := (HR.out.below hbw.out) (by omega)
      obtain ⟨c1, c2, c3, c4⟩ := hr k hlt
      obtain ⟨g1, g2, g3, g4⟩ := HG.out k hlt
      have HW := Lib.hid (words_step s l k hlt)
      clear hr
      have hbz := hbw.out.size
      have hwd : word s l[k] = s.extract l[k].at_.toNat l[k].hi.toNat := rfl
      generalize l[k] = t at *
      obtain ⟨kd, lo, ta, th⟩ := t
      simp only at c1 c2 c3 c4 g1 g2 g3 g4 hwd
      obtain ⟨p, rfl⟩ := Int.eq_ofNat_of_zero_le (show 0 ≤ ta by omega)
      obtain ⟨q, rfl⟩ := Int.eq_ofNat_of_zero_le (show 0 ≤ th by omega)
      simp only [Int.toNat_natCast] at hwd
      have HD := Lib.hid hwd
      have HO := Lib.hid hown.out
      have o1 := hown.out.lt
      have x1 : p ≤ q := by omega
      have x2 : q ≤ s.size := by omega
      clear hwd g2 g3 g4
      go_wp2_with (at_builtin; refine wpList_append_own _ rfl _ _ 38 rfl w.heap.size 9 i0 _ 1 16 Tryz.underlying38 hi0 hz0 hz1 hz2 rfl (by decide) _ _ _ rfl ((HO.out.alloc _).alloc _) ⟨wr.heap.size + 1, 0, none⟩ 1 1 [.string (s.extract p q)] rfl rfl ?c1 ?c2 ?c3 ?c4 ?c5 ?_)
      case c1 => exact World.news_of_block (cs := #[.string (s.extract p q)]) (t := 9) (fr := (0, 0)) (heap_new2 wr _ _)
      case c2 => intro u hu; simp at hu; subst hu; rfl
      case c3 => unfold maxLen; omega
      case c4 => omega
      case c5 => simp; omega
      intro v' w3 hown' hgrow _
      have B3 := Lib.hid (((hbw.out.alloc hbz _).alloc (by simp; omega) _).grown hgrow (by simp; omega) (fun k hk => (o1 k hk).1))
      have O3 : Hid (w3.ownsRow w.heap.size 9 1 v' (k + 1) (scells ((l.map (word s)).take (k + 1)))) := by
        rw [HW.out, HD.out]
        unfold scells
        rw [List.map_append]
        exact hown'
      clear hown' hgrow o1
      go_wp2_with (fail)
      exact ⟨⟨k + 1, by omega, by go_num, O3, B3⟩, by simp [intOf]; omega⟩
    · have HO := Lib.hid hown.out
      obtain rfl : k = l.length := by omega
      go_wp2_with (fail)
      go_ret
      have h := HO.out
      rw [show (l.map (word s)).take l.length = l.map (word s) from List.take_of_length_le (by simp)] at h
      exact ⟨_, rfl, h, hbw.out⟩
theorem words_any (s : ByteArray) (A : Option Addr) (c : Nat) (l : List Tok) (w : World) (hs : s.size ≤ 1000000) (hl : l.length ≤ 9223372036854775807) (hr : TokA w A l) :
    Calls Tryz.prog 72 #[.string s, .slice A l.length c] w fun e w' => ∃ A' c', e = .returned (.slice A' (words s l).length c') ∧ StrA w' A' (words s l) ∧ Below w.heap.size w w' := by
  cases hf : fitB s.size l with
  | true =>
    refine (words_good s A c l w hs hr hf).mono fun e w' he => ?_
    obtain ⟨v, h1, h2, h3⟩ := he
    rw [← List.length_map (f := word s)] at h2
    obtain ⟨A', c', hv, hr'⟩ := strs_own h2
    have e : words s l = l.map (word s) := if_pos hf
    rw [e]
    exact ⟨A', c', by rw [h1, hv], hr', h3⟩
  | false =>
    have e : words s l = [] := if_neg (by simp [hf])
    rw [e]
    exact (words_bad s A c l w hs hl hr hf).mono fun e w' he => ⟨none, 0, he.1, StrA.nil _ _, he.2⟩
end Go.Proofs.YtoopnddlcofhoaaGreatDoor.Lx
