/- What is proved: Join (the program's and the reference's) returns the texts of tokens, one behind the other. -/
import Derived.Test.YtgihfnnffailiabWords
import Derived.Test.YtgihfnnffailiabBuilder
set_option linter.unusedVariables false
namespace Go.Proofs.Ytgihfnnffailiab
open Go.RowKit

theorem strCells_cut (s : ByteArray) (d e : Nat) : Lib.strCells (s.extract d e) = Lib.byteCells ((s.data.toList.take e).drop d) := by
  rw [Lib.strCells_eq]
  congr 1
  simp [ByteArray.data_extract, List.drop_take]
theorem builder_alloc {B b : Nat} {bs : List Value} {w : World} (h : Lib.IsBuilder 50 5 B b bs w) (o : Obj) : Lib.IsBuilder 50 5 B b bs (w.alloc o) := by
  have go : ∀ p, Lib.BuilderAt 50 5 B b p bs w → Lib.BuilderAt 50 5 B b p bs (w.alloc o) := by
    intro p hp
    have hlt := hp.lt
    obtain ⟨hB, v, hb, hown, hne⟩ := hp
    exact ⟨hB, v, (Lib.alloc_old w o b hlt).trans hb, hown.alloc o, hne⟩
  exact h.imp (go _) (go _)

/-- the bytes of a token, with what stands before it -/
def part (l : List UInt8) (t : Tok) : List UInt8 := (l.take t.hi.toNat).drop t.lo.toNat
def joinL (l : List UInt8) (ts : List Tok) : List UInt8 := ts.flatMap (part l)
def joinS (s : ByteArray) (l : List Tok) : ByteArray := if fitB s.size l then ⟨(joinL s.data.toList l).toArray⟩ else ⟨#[]⟩
theorem joinL_step (l : List UInt8) (ts : List Tok) (k : Nat) (hk : k < ts.length) : joinL l (ts.take (k + 1)) = joinL l (ts.take k) ++ part l ts[k] := by
  unfold joinL
  rw [List.take_succ_eq_append_getElem hk, List.flatMap_append]
  simp
theorem part_length (l : List UInt8) (t : Tok) : (part l t).length ≤ l.length := by
  unfold part
  simp
  omega
theorem joinL_length (l : List UInt8) (ts : List Tok) : (joinL l ts).length ≤ ts.length * l.length := by
  induction ts with
  | nil => simp [joinL]
  | cons t ts ih =>
    have h := part_length l t
    unfold joinL at ih ⊢
    rw [List.flatMap_cons, List.length_append, List.length_cons, Nat.succ_mul]
    omega

set_option maxHeartbeats 400000 in
theorem join_bad (s : ByteArray) (A : Option Addr) (c : Nat) (l : List Tok) (w : World) (hs : s.size ≤ 100000) (hl : l.length ≤ 9223372036854775807) (hr : TokA w A l) (hf : fitB s.size l = false) :
    Calls Try.prog 13 #[.string s, .slice A l.length c] w fun e w' => e = .returned (.string ⟨#[]⟩) ∧ Below w.heap.size w w' := by
  have HF := Lib.hid (fit_any s A c l w (by omega) hl hr)
  rw [hf] at HF
  clear hf hr
  go_enter Try.func13, Try.ntmps13
  go_wp2_with (fail)
  refine HF.out.mono ?_
  rintro e w1 ⟨rfl, hb⟩
  go_wp2_with (fail)
  go_ret
  exact ⟨rfl, hb⟩

set_option maxHeartbeats 1000000 in
theorem join_good (s : ByteArray) (A : Option Addr) (c : Nat) (l : List Tok) (w : World) (hs : s.size ≤ 100000) (hr : TokA w A l) (hf : fitB s.size l = true) :
    Calls Try.prog 13 #[.string s, .slice A l.length c] w fun e w' => e = .returned (.string ⟨(joinL s.data.toList l).toArray⟩) ∧ Below w.heap.size w w' := by
  have hlen := fit_len _ _ hf
  have HG := Lib.hid (fit_get _ _ hf)
  have HF := Lib.hid (fit_any s A c l w (by omega) (by omega) hr)
  rw [hf] at HF
  have HR := Lib.hid hr
  have hsz : s.data.toList.length = s.size := by simp
  have HSZ := Lib.hid hsz
  clear hf hr hsz
  go_enter Try.func13, Try.ntmps13
  go_wp2_with (fail)
  refine HF.out.mono ?_
  rintro e w1 ⟨rfl, hb1⟩
  have z1 := hb1.size
  have HB1 := Lib.hid hb1
  clear hb1
  go_wp2_with (fail)
  go_loopw [14] (fun i wr => ∃ k : Nat, k ≤ l.length ∧ i = .int .i64 (k : Int) ∧ Hid (Lib.IsBuilder 50 5 w1.heap.size w1.heap.size (Lib.byteCells (joinL s.data.toList (l.take k))) wr) ∧ Hid (Below w1.heap.size w1 wr)) (fun i _ => l.length - (intOf i).toNat)
  case atStart => exact ⟨0, Nat.zero_le _, rfl, Lib.fresh_isBuilder 50 5 w1, (Below.refl _ _).alloc (Nat.le_refl _) _⟩
  case round =>
    obtain ⟨k, hk, rfl, hbu, hbw⟩ := hrel
    have zr := hbw.out.size
    by_cases hlt : k < l.length
    · obtain ⟨b, off, rfl, hb, hr⟩ := (HR.out.below (HB1.out.trans (hbw.out.mono z1))) (by omega)
      obtain ⟨c1, c2, c3, c4⟩ := hr k hlt
      obtain ⟨g1, g2, g3, g4⟩ := HG.out k hlt
      have hjs := joinL_step s.data.toList l k hlt
      have hpl : part s.data.toList l[k] = (s.data.toList.take l[k].hi.toNat).drop l[k].lo.toNat := rfl
      have hjl := joinL_length s.data.toList (l.take k)
      rw [HSZ.out] at hjl
      have hjm : (joinL s.data.toList (l.take k)).length ≤ 4097 * 100000 := by
        refine Nat.le_trans hjl (Nat.mul_le_mul ?_ hs)
        simp
        omega
      have HJ := Lib.hid hjs
      have HP := Lib.hid hpl
      clear hr hjs hjl hpl
      generalize l[k] = t at *
      obtain ⟨kd, lo, ta, th⟩ := t
      simp only at c1 c2 c3 c4 g1 g2 g3 g4 HP
      obtain ⟨p, rfl⟩ := Int.eq_ofNat_of_zero_le g1
      obtain ⟨q, rfl⟩ := Int.eq_ofNat_of_zero_le (show 0 ≤ th by omega)
      simp only [Int.toNat_natCast] at HP
      have x1 : p ≤ q := by omega
      have x2 : q ≤ s.size := by omega
      have hxs : (s.extract p q).size ≤ 100000 := by simp [ByteArray.size_extract]; omega
      have HX := Lib.hid hxs
      have HW := Lib.hid (fun w2 hh hb => writeString_any w1.heap.size w1.heap.size (Lib.byteCells (joinL s.data.toList (l.take k))) (s.extract p q) w2 hh (by rw [Lib.byteCells_length]; omega) hb)
      have HM := Lib.hid hjm
      clear hxs hjm g2 g3 g4
      go_wp2_with (fail)
      refine (HW.out _ (builder_alloc hbu.out _) (by simp; omega)).mono ?_
      rintro e w2 ⟨rfl, hi1, hb2, _⟩
      have I2 : Hid (Lib.IsBuilder 50 5 w1.heap.size w1.heap.size (Lib.byteCells (joinL s.data.toList (l.take (k + 1)))) w2) := by
        refine .inr ?_
        rw [HJ.out, HP.out, Lib.byteCells_append, ← strCells_cut]
        exact hi1
      have B2 := Lib.hid ((hbw.out.alloc zr _).trans hb2)
      clear hi1 hb2
      go_wp2_with (fail)
      exact ⟨⟨k + 1, by omega, by go_num, I2, B2⟩, by simp [intOf]; omega⟩
    · have hT : l.take k = l := List.take_of_length_le (by omega)
      have HI := Lib.hid hbu.out
      rw [hT] at HI
      clear hT
      go_wp2_with (fail)
      refine (Try.Builder_String_any w1.heap.size w1.heap.size _ wr HI.out zr).mono ?_
      rintro e w2 ⟨rfl, hb2⟩
      go_wp2_with (fail)
      go_ret
      exact ⟨rfl, HB1.out.trans ((hbw.out.trans hb2).mono z1)⟩

theorem join_any (s : ByteArray) (A : Option Addr) (c : Nat) (l : List Tok) (w : World) (hs : s.size ≤ 100000) (hl : l.length ≤ 9223372036854775807) (hr : TokA w A l) :
    Calls Try.prog 13 #[.string s, .slice A l.length c] w fun e w' => e = .returned (.string (joinS s l)) ∧ Below w.heap.size w w' := by
  cases hf : fitB s.size l with
  | true =>
    have e : joinS s l = ⟨(joinL s.data.toList l).toArray⟩ := if_pos hf
    rw [e]
    exact join_good s A c l w hs hr hf
  | false =>
    have e : joinS s l = ⟨#[]⟩ := if_neg (by simp [hf])
    rw [e]
    exact join_bad s A c l w hs hl hr hf
end Go.Proofs.Ytgihfnnffailiab
