/- What is proved: Parse of the text of a value returns the value. -/
import Derived.Test.YtoopnddlcofhoaaGreatDoorVaFormat
import Derived.Test.YtoopnddlcofhoaaGreatDoorVaSplit
import Derived.Laws.EntriesVeiled
import Derived.Deep.RegionHeld3
set_option linter.unusedVariables false
namespace Go.Proofs.YtoopnddlcofhoaaGreatDoor
open Go.RowKit

theorem grown_trans {w w1 w2 : World} {r : Option Nat} (h : w.grownBy w1 r) (k : w1.grownBy w2 r) : w.grownBy w2 r :=
  ⟨k.os.trans h.os, k.tape.trans h.tape, k.output.trans h.output, Nat.le_trans h.size k.size, fun b hb hr => (k.block b (Nat.lt_of_lt_of_le hb h.size) hr).trans (h.block b hb hr)⟩
theorem grown_drew (w : World) (n : Nat) (r : Option Nat) : w.grownBy (w.drewN n) r := ⟨rfl, rfl, rfl, Nat.le_refl _, fun _ _ _ => rfl⟩
theorem grown_refl (w : World) (r : Option Nat) : w.grownBy w r := grown_drew w 0 r
/-- the reader stands at p, and nothing else has changed since w0 -/
structure Rr (w0 w : World) (P B T E : Nat) (A : Option Addr) (c : Nat) (W : List ByteArray) (p : Nat) : Prop where
  rd : Rd w P B A c W p
  rs : Rs w P B T E
  gr : w0.grownBy w (some P)
section
variable {w0 w : World} {P B T E : Nat} {A : Option Addr} {c : Nat} {W : List ByteArray} {p : Nat}
theorem Rr.alloc (h : Rr w0 w P B T E A c W p) (o : Obj) : Rr w0 (w.alloc o) P B T E A c W p :=
  ⟨h.rd.kept (World.grownBy_alloc w o none) (fun _ e => by cases e), h.rs.kept (World.grownBy_alloc w o none) (fun _ e => by cases e), grown_trans h.gr (World.grownBy_alloc w o (some P))⟩
theorem Rr.drew (h : Rr w0 w P B T E A c W p) (n : Nat) : Rr w0 (w.drewN n) P B T E A c W p :=
  ⟨h.rd.kept (grown_drew w n none) (fun _ e => by cases e), h.rs.kept (grown_drew w n none) (fun _ e => by cases e), grown_trans h.gr (grown_drew w n _)⟩
theorem lit_one (w : World) (s : ByteArray) : Lx.StrA (w.alloc (.cells #[.string s] 9)) (some ⟨w.heap.size, 0, none⟩) [s] := fun _ =>
  ⟨w.heap.size, 0, rfl, by simp, fun i hi => by
    obtain rfl : i = 0 := by simpa using hi
    exact cell_one (heap_alloc_new w _)⟩
theorem tk_no (h : Rr w0 w P B T E A c W p) (s x : ByteArray) (hx : W[p]? = some x) (hne : x ≠ s) :
    Calls Tryz.prog 74 #[.slice (some ⟨w.heap.size, 0, none⟩) 1 1, pA P, pA B] (w.alloc (.cells #[.string s] 9)) fun e w' => e = .returned (.bool false) ∧ Rr w0 w' P B T E A c W p := by
  have h1 := h.alloc (.cells #[.string s] 9)
  have hp : p < W.length := (List.getElem?_eq_some_iff.1 hx).1
  refine (take_no h1.rd (some ⟨w.heap.size, 0, none⟩) 1 [s] (lit_one w s) (by simp; omega) ?_).mono fun e w' ⟨he, q, hw⟩ => ⟨he, by rw [hw]; exact h1.drew q⟩
  intro e
  have e2 := congrArg List.head? e
  rw [List.length_singleton, List.head?_take, if_neg (by omega), List.head?_drop, hx] at e2
  simp at e2
  exact hne e2
theorem Rr.took (h : Rr w0 w P B T E A c W p) {w' : World} {q : Nat} (hr : Rd w' P B A c W q) (hg : w.grownBy w' (some P)) : Rr w0 w' P B T E A c W q :=
  ⟨hr, h.rs.kept hg (fun k e => by injection e with e; subst e; exact ⟨fun e => h.rs.tp e.symm, fun e => h.rs.ep e.symm⟩), grown_trans h.gr hg⟩
theorem tk_yes (h : Rr w0 w P B T E A c W p) (s : ByteArray) (hx : W[p]? = some s) :
    Calls Tryz.prog 74 #[.slice (some ⟨w.heap.size, 0, none⟩) 1 1, pA P, pA B] (w.alloc (.cells #[.string s] 9)) fun e w' => e = .returned (.bool true) ∧ Rr w0 w' P B T E A c W (p + 1) := by
  have h1 := h.alloc (.cells #[.string s] 9)
  have hp : p < W.length := (List.getElem?_eq_some_iff.1 hx).1
  refine (take_yes h1.rd (some ⟨w.heap.size, 0, none⟩) 1 [s] (lit_one w s) (by simp; omega) ?_).mono fun e w' ⟨he, hr, hg⟩ => ⟨he, h1.took hr hg⟩
  rw [List.length_singleton, List.take_one, List.head?_drop, hx]
  rfl
end
set_option maxHeartbeats 1000000 in
theorem scal_false {w0 w : World} {P B T E : Nat} {A : Option Addr} {c : Nat} {W : List ByteArray} {p : Nat} (h : Rr w0 w P B T E A c W p) (hx : W[p]? = some ⟨#[102, 97, 108, 115, 101]⟩) :
    Calls Tryz.prog 76 #[.bool true, pA T, pA E, pA B, pA P] w fun e w' => e = .returned (.tuple #[.int .i64 0, .bool true]) ∧ Rr w0 w' P B T E A c W (p + 1) := by
  have HT := Lib.hid (tk_yes h _ hx)
  have ct := cell_one h.rs.ht
  have eT := enterTake
  clear h hx
  go_enter Tryz.func76, Tryz.ntmps76
  go_wp2_with (fail)
  refine HT.out.mono ?_
  rintro e w1 ⟨rfl, h1⟩
  have H1 := Lib.hid h1
  clear h1
  go_wp2_with (fail)
  go_ret2
  exact ⟨rfl, H1.out⟩
set_option maxHeartbeats 1000000 in
theorem scal_true {w0 w : World} {P B T E : Nat} {A : Option Addr} {c : Nat} {W : List ByteArray} {p : Nat} (h : Rr w0 w P B T E A c W p) (hx : W[p]? = some ⟨#[116, 114, 117, 101]⟩) :
    Calls Tryz.prog 76 #[.bool true, pA T, pA E, pA B, pA P] w fun e w' => e = .returned (.tuple #[.int .i64 1, .bool true]) ∧ Rr w0 w' P B T E A c W (p + 1) := by
  have HT := Lib.hid (tk_no h ⟨#[102, 97, 108, 115, 101]⟩ _ hx (by decide))
  have HY := Lib.hid (fun (w1 : World) (h1 : Rr w0 w1 P B T E A c W p) => tk_yes h1 _ hx)
  have ct := cell_one h.rs.ht
  have eT := enterTake
  clear h hx
  go_enter Tryz.func76, Tryz.ntmps76
  go_wp2_with (fail)
  refine HT.out.mono ?_
  rintro e w1 ⟨rfl, h1⟩
  have H1 := Lib.hid h1
  clear ct
  have ct := cell_one h1.rs.ht
  clear h1
  go_wp2_with (fail)
  refine (HY.out w1 H1.out).mono ?_
  rintro e w2 ⟨rfl, h2⟩
  have H2 := Lib.hid h2
  clear h2 ct
  go_wp2_with (fail)
  go_ret2
  exact ⟨rfl, H2.out⟩
/-- the word at the place -/
theorem word_at {w0 w : World} {P B T E : Nat} {A : Option Addr} {c : Nat} {W : List ByteArray} {p : Nat} (h : Rr w0 w P B T E A c W p) {x : ByteArray} (hx : W[p]? = some x) : ∃ b off, A = some ⟨b, off, none⟩ ∧ w.cell? ⟨b, off + p, none⟩ = some (.string x) ∧ p < W.length := by
  obtain ⟨hp, e⟩ := List.getElem?_eq_some_iff.1 hx
  obtain ⟨b, off, hA, _, _, hc⟩ := h.rd.row (by omega)
  exact ⟨b, off, hA, by rw [← e]; exact hc p hp, hp⟩
set_option maxHeartbeats 2000000 in
theorem scal_num {w0 w : World} {P B T E : Nat} {A : Option Addr} {c : Nat} {W : List ByteArray} {p : Nat} (h : Rr w0 w P B T E A c W p) (x : ByteArray) (n : Nat) (hx : W[p]? = some x) (hne : x ≠ ⟨#[45]⟩) (hnum : ∀ W', Calls Tryz.prog 77 #[.string x] W' fun e w' => e = .returned (.tuple #[.int .i64 (n : Int), .bool true]) ∧ W' = w') (hn : n ≤ 1000) :
    Calls Tryz.prog 76 #[.bool false, pA T, pA E, pA B, pA P] w fun e w' => e = .returned (.tuple #[.int .i64 (n : Int), .bool true]) ∧ Rr w0 w' P B T E A c W (p + 1) := by
  have HT := Lib.hid (tk_no h ⟨#[45]⟩ _ hx hne)
  have HW := Lib.hid (fun (w1 : World) (h1 : Rr w0 w1 P B T E A c W p) => word_at h1 hx)
  have hpl : p < W.length := (word_at h hx).choose_spec.choose_spec.2.2
  have hfew := h.rd.few
  have HN := Lib.hid hnum
  have ct := cell_one h.rs.ht
  have eT := enterTake
  have eE := enterEnd
  clear h hx hne hnum
  go_enter Tryz.func76, Tryz.ntmps76
  go_wp2_with (fail)
  refine HT.out.mono ?_
  rintro e w1 ⟨rfl, h1⟩
  have H1 := Lib.hid h1
  clear ct
  have ce := cell_one h1.rs.he
  have HE := Lib.hid (ended_any h1.rd)
  rw [decide_eq_false (show ¬ p = W.length by omega)] at HE
  obtain ⟨b, off, rfl, hw, _⟩ := HW.out w1 h1
  have cp := h1.rd.cp
  have cb := h1.rd.cb
  have f0 := h1.rd.fz
  have k0 : (0 : Int) ≤ (p : Int) := by omega
  have k1 : (p : Int) < (W.length : Int) := by omega
  clear h1
  go_wp2_with (fail)
  refine HE.out.mono ?_
  rintro e w2 ⟨rfl, rfl⟩
  go_wp2_with (fail)
  refine (HN.out _).mono ?_
  rintro e w2 ⟨rfl, rfl⟩
  go_wp2_with (fail)
  go_ret2
  obtain ⟨s1, s2⟩ := H1.out.rd.set_ (p + 1)
  rw [show ((p + 1 : Nat) : Int) = (p : Int) + 1 by omega] at s1 s2
  exact ⟨by first | rfl | (simp; done), H1.out.took s1 s2⟩
set_option maxHeartbeats 2000000 in
theorem scal_neg {w0 w : World} {P B T E : Nat} {A : Option Addr} {c : Nat} {W : List ByteArray} {p : Nat} (h : Rr w0 w P B T E A c W p) (x : ByteArray) (n : Nat) (hx : W[p]? = some ⟨#[45]⟩) (hx2 : W[p + 1]? = some x) (hnum : ∀ W', Calls Tryz.prog 77 #[.string x] W' fun e w' => e = .returned (.tuple #[.int .i64 (n : Int), .bool true]) ∧ W' = w') (hn : n ≤ 1000) :
    Calls Tryz.prog 76 #[.bool false, pA T, pA E, pA B, pA P] w fun e w' => e = .returned (.tuple #[.int .i64 (-(n : Int)), .bool true]) ∧ Rr w0 w' P B T E A c W (p + 1 + 1) := by
  have HT := Lib.hid (tk_yes h ⟨#[45]⟩ hx)
  have HW := Lib.hid (fun (w1 : World) (h1 : Rr w0 w1 P B T E A c W (p + 1)) => word_at h1 hx2)
  have hpl : p + 1 < W.length := (List.getElem?_eq_some_iff.1 hx2).1
  have hfew := h.rd.few
  have HN := Lib.hid hnum
  have ct := cell_one h.rs.ht
  have eT := enterTake
  have eE := enterEnd
  clear h hx hnum hx2
  obtain ⟨q, HQ⟩ : ∃ q, Hid (p + 1 = q) := ⟨_, Lib.hid rfl⟩
  rw [HQ.out] at HT HW hpl ⊢
  go_enter Tryz.func76, Tryz.ntmps76
  go_wp2_with (fail)
  refine HT.out.mono ?_
  rintro e w1 ⟨rfl, h1⟩
  have H1 := Lib.hid h1
  clear ct
  have ce := cell_one h1.rs.he
  have HE := Lib.hid (ended_any h1.rd)
  rw [decide_eq_false (show ¬ q = W.length by omega)] at HE
  obtain ⟨b, off, rfl, hw, _⟩ := HW.out w1 h1
  have cp := h1.rd.cp
  have cb := h1.rd.cb
  have f0 := h1.rd.fz
  have k0 : (0 : Int) ≤ (q : Int) := by omega
  have k1 : (q : Int) < (W.length : Int) := by omega
  clear h1
  go_wp2_with (fail)
  refine HE.out.mono ?_
  rintro e w2 ⟨rfl, rfl⟩
  go_wp2_with (fail)
  refine (HN.out _).mono ?_
  rintro e w2 ⟨rfl, rfl⟩
  go_wp2_with (fail)
  go_ret2
  obtain ⟨s1, s2⟩ := H1.out.rd.set_ (q + 1)
  rw [show ((q + 1 : Nat) : Int) = (q : Int) + 1 by omega] at s1 s2
  exact ⟨by first | rfl | (simp; done), H1.out.took s1 s2⟩
end Go.Proofs.YtoopnddlcofhoaaGreatDoor
set_option linter.unusedVariables false
namespace Go.Proofs.YtoopnddlcofhoaaGreatDoor.Lx
open Go.RowKit

/-- the list ends, or goes on with a byte of no name -/
def Stp (r : List UInt8) : Prop := 0 < r.length → inName (at_ r 0) = false
theorem at_r0 (a r : List UInt8) : at_ (a ++ r) a.length = at_ r 0 := by
  have := at_right a r 0
  rwa [Nat.add_zero] at this
theorem digit_inName {b : UInt8} (h : inName b = false) : digit b = false := by
  unfold inName at h
  cases hd : digit b with
  | false => rfl
  | true => rw [hd] at h; simp at h
theorem letter_skip {b : UInt8} (h : letter b = true) : white b = false ∧ b ≠ 35 := letter_not b h
theorem digit_skip {b : UInt8} (h : digit b = true) : white b = false ∧ b ≠ 35 ∧ letter b = false := by
  have hb := digit_bd b h
  refine ⟨?_, ?_, ?_⟩
  · unfold white
    have : ∀ c : UInt8, c.toNat < 48 → (b == c) = false := fun c hc => by
      simp only [beq_eq_false_iff_ne, ne_eq]
      intro e; subst e; omega
    rw [this 9 (by decide), this 10 (by decide), this 13 (by decide), this 32 (by decide)]; rfl
  · intro e; subst e; exact absurd hb.1 (by decide)
  · unfold letter
    have : ¬ 97 ≤ b.toNat := by omega
    simp [this]
theorem cut_word (a r : List UInt8) (h0 : 0 < a.length) (hl : letter (at_ a 0) = true) (ha : ∀ j, j < a.length → inName (at_ a j) = true) (hr : Stp r) : Cut a r := by
  have e0 : at_ (a ++ r) 0 = at_ a 0 := at_left _ _ _ h0
  refine ⟨h0, cut_blank a r h0 (letter_skip hl), ?_⟩
  have hrun : run (a ++ r) inName 0 = a.length := run_is _ _ _ _ (Nat.zero_le _) (by simp) (fun j _ hj => by rw [at_left _ _ _ hj]; exact ha j hj) (fun hh => by rw [at_r0]; exact hr (by simp at hh; omega))
  unfold tokAt
  rw [if_neg (by simp; omega), e0, if_pos hl, hrun]
theorem cut_num (a r : List UInt8) (h0 : 0 < a.length) (ha : ∀ j, j < a.length → digit (at_ a j) = true) (hr : Stp r) : Cut a r := by
  have e0 : at_ (a ++ r) 0 = at_ a 0 := at_left _ _ _ h0
  have hd := ha 0 h0
  have hs := digit_skip hd
  refine ⟨h0, cut_blank a r h0 ⟨hs.1, hs.2.1⟩, ?_⟩
  have hrun : run (a ++ r) digit 0 = a.length := run_is _ _ _ _ (Nat.zero_le _) (by simp) (fun j _ hj => by rw [at_left _ _ _ hj]; exact ha j hj) (fun hh => by rw [at_r0]; exact digit_inName (hr (by simp at hh; omega)))
  unfold tokAt
  rw [if_neg (by simp; omega), e0, if_neg (by rw [hs.2.2]; simp), if_pos hd, hrun]
theorem cut_sym (b : UInt8) (r : List UInt8) (hb : b ∈ ([91, 93, 40, 41, 44, 45] : List UInt8)) : Cut [b] r := by
  have f : white b = false ∧ b ≠ 35 ∧ letter b = false ∧ digit b = false ∧ symB b = true ∧ (b == 61 || b == 33 || b == 60 || b == 62) = false := by
    simp only [List.mem_cons, List.not_mem_nil, or_false] at hb
    rcases hb with rfl | rfl | rfl | rfl | rfl | rfl <;> decide
  obtain ⟨f1, f2, f3, f4, f5, f6⟩ := f
  have e0 : at_ ([b] ++ r) 0 = b := rfl
  refine ⟨by simp, cut_blank [b] r (by simp) ⟨f1, f2⟩, ?_⟩
  have ht : two ([b] ++ r) 0 = false := by
    unfold two
    rw [e0, f6]
    simp
  have hs : sym ([b] ++ r) 0 = 1 := sym_one _ _ ht (by rw [e0]; exact f5)
  unfold tokAt
  rw [if_neg (by simp), e0, if_neg (by rw [f3]; simp), if_neg (by rw [f4]; simp), hs, if_pos (by omega)]
  rfl
theorem ws_sym (b : UInt8) (r : List UInt8) (hb : b ∈ ([91, 93, 40, 41, 44, 45] : List UInt8)) : Ws (b :: r) = [b] :: Ws r := ws_cut [b] r (cut_sym b r hb)

/-- numerals -/
theorem at_mem (l : List UInt8) (j : Nat) (h : j < l.length) : at_ l j ∈ l := by
  unfold at_
  rw [List.getD_eq_getElem?_getD, List.getElem?_eq_getElem h]
  exact List.getElem_mem h
theorem ofNat_digit (u : Nat) (h : u < 10) : digit (UInt8.ofNat (48 + u)) = true ∧ (UInt8.ofNat (48 + u)).toNat = 48 + u := by
  have : u = 0 ∨ u = 1 ∨ u = 2 ∨ u = 3 ∨ u = 4 ∨ u = 5 ∨ u = 6 ∨ u = 7 ∨ u = 8 ∨ u = 9 := by omega
  rcases this with rfl | rfl | rfl | rfl | rfl | rfl | rfl | rfl | rfl | rfl <;> decide
theorem dec_digits : ∀ (n : Nat), 0 < (Lib.decDigits n).length ∧ ∀ b ∈ Lib.decDigits n, digit b = true := by
  intro n
  induction n using Nat.strongRecOn with
  | _ n ih =>
    by_cases h : n < 10
    · rw [Lib.decDigits_one h]
      refine ⟨by simp, fun b hb => ?_⟩
      rw [List.mem_singleton.1 hb]
      exact (ofNat_digit n h).1
    · rw [Lib.decDigits, dif_neg h]
      have h1 := ih (n / 10) (by omega)
      refine ⟨by simp, fun b hb => ?_⟩
      rcases List.mem_append.1 hb with hb | hb
      · exact h1.2 b hb
      · rw [List.mem_singleton.1 hb]
        exact (ofNat_digit (n % 10) (by omega)).1
theorem num_app (d : UInt8) (hd : digit d = true) : ∀ (l : List UInt8) (a m : Nat), num l a = some m → num (l ++ [d]) a = some (10 * m + (d.toNat - 48)) := by
  intro l
  induction l with
  | nil => intro a m h; cases h; show (if digit d then _ else _) = _; rw [if_pos hd]; rfl
  | cons b bs ih =>
    intro a m h
    rw [num_cons] at h
    rw [List.cons_append, num_cons]
    split at h
    · rename_i hb
      rw [if_pos hb]
      exact ih _ _ h
    · cases h
theorem num_dec : ∀ n, num (Lib.decDigits n) 0 = some n := by
  intro n
  induction n using Nat.strongRecOn with
  | _ n ih =>
    by_cases h : n < 10
    · rw [Lib.decDigits_one h, num_cons, if_pos (ofNat_digit n h).1, (ofNat_digit n h).2]
      show some _ = some _
      congr 1
      omega
    · have hd := ofNat_digit (n % 10) (by omega)
      rw [Lib.decDigits, dif_neg h, num_app _ hd.1 _ _ _ (ih (n / 10) (by omega)), hd.2]
      congr 1
      omega
theorem dec_num (n : Nat) (h : n < 1000) : numOk ⟨(Lib.decDigits n).toArray⟩ = true ∧ numV ⟨(Lib.decDigits n).toArray⟩ = n := by
  have h1 := (dec_digits n).1
  have h2 := dec_len 2 n (by omega)
  refine numOk_some _ n ?_ ?_ (by simpa using num_dec n)
  · simp [ByteArray.size]; omega
  · simp [ByteArray.size]; omega
theorem cut_dec (n : Nat) (r : List UInt8) (hr : Stp r) : Cut (Lib.decDigits n) r :=
  cut_num _ r (dec_digits n).1 (fun j hj => (dec_digits n).2 _ (at_mem _ j hj)) hr

/-- the words of a scalar -/
def swl (q : Bool) (n : Int) : List (List UInt8) := if q then [if n = 0 then [102, 97, 108, 115, 101] else [116, 114, 117, 101]] else if n < 0 then [[45], Lib.decDigits n.natAbs] else [Lib.decDigits n.toNat]
theorem ws_scal (q : Bool) (n : Int) (r : List UInt8) (hr : Stp r) : Ws ((scS q n).data.toList ++ r) = swl q n ++ Ws r := by
  unfold scS swl
  cases q with
  | true =>
    rw [if_pos rfl, if_pos rfl]
    by_cases h : n = 0
    · rw [if_pos h, if_pos h]
      exact ws_cut [102, 97, 108, 115, 101] r (cut_word _ r (by decide) (by decide) (by decide) hr)
    · rw [if_neg h, if_neg h]
      exact ws_cut [116, 114, 117, 101] r (cut_word _ r (by decide) (by decide) (by decide) hr)
  | false =>
    rw [if_neg (by decide), if_neg (by decide)]
    unfold Lib.itoa
    by_cases h : n < 0
    · rw [if_pos h, if_pos h]
      show Ws (45 :: (Lib.decDigits n.natAbs ++ r)) = _
      rw [ws_sym 45 _ (by decide), ws_cut _ r (cut_dec _ r hr)]
      rfl
    · rw [if_neg h, if_neg h]
      exact ws_cut _ r (cut_dec _ r hr)
/-- the words of the scalars behind the first one, and of all -/
def lwT : List TyV → List Int → List (List UInt8)
  | t :: ts, n :: ns => [44] :: (swl (t.kind == 2) n ++ lwT ts ns)
  | _, _ => []
def lwL : List TyV → List Int → List (List UInt8)
  | t :: ts, n :: ns => swl (t.kind == 2) n ++ lwT ts ns
  | _, _ => []
theorem tail_cons (sep y : List UInt8) (r : List (List UInt8)) : Lib.joinTail sep (y :: r) = sep ++ (y ++ Lib.joinTail sep r) := by simp [Lib.joinTail]
theorem stp_tail (l : List (List UInt8)) (r : List UInt8) (hr : Stp r) : Stp (Lib.joinTail [44, 32] l ++ r) := by
  cases l with
  | nil => exact hr
  | cons a l => intro _; rw [tail_cons]; rfl
theorem ws_tail : ∀ (ts : List TyV) (m : List Int) (r : List UInt8), Stp r → Ws (Lib.joinTail [44, 32] ((scSs ts m).map (·.data.toList)) ++ r) = lwT ts m ++ Ws r
  | t :: ts, n :: ns, r, hr => by
    show Ws (Lib.joinTail [44, 32] ((scS (t.kind == 2) n).data.toList :: (scSs ts ns).map (·.data.toList)) ++ r) = _
    rw [tail_cons]
    show Ws (44 :: 32 :: (((scS (t.kind == 2) n).data.toList ++ Lib.joinTail [44, 32] ((scSs ts ns).map (·.data.toList))) ++ r)) = _
    rw [ws_sym 44 _ (by decide), ws_white 32 _ rfl, List.append_assoc, ws_scal _ _ _ (stp_tail _ _ hr), ws_tail ts ns r hr]
    simp [lwT]
  | [], _, r, _ => by simp [scSs, lwT, Lib.joinTail]
  | _ :: _, [], r, _ => by simp [scSs, lwT, Lib.joinTail]
theorem ws_list (ts : List TyV) (m : List Int) (r : List UInt8) (hr : Stp r) : Ws (fmtL ts m ++ r) = lwL ts m ++ Ws r := by
  unfold fmtL
  match ts, m with
  | t :: ts, n :: ns =>
    show Ws (Lib.join ((scS (t.kind == 2) n).data.toList :: (scSs ts ns).map (·.data.toList)) [44, 32] ++ r) = _
    rw [Lib.join_cons, List.append_assoc, ws_scal _ _ _ (stp_tail _ _ hr), ws_tail ts ns r hr]
    simp [lwL]
  | [], _ => simp [scSs, lwL, Lib.join_nil]
  | _ :: _, [] => simp [scSs, lwL, Lib.join_nil]
def opW (t : TyV) : List (List UInt8) := if t.kind = 3 then [[91]] else if t.kind = 4 then [t.nm.data.toList, [40]] else []
def clW (t : TyV) : List (List UInt8) := if t.kind = 3 then [[93]] else if t.kind = 4 then [[41]] else []
theorem ws_front (t : TyV) (hn : t.kind = 4 → nameB t.nm.data.toList = true) (r : List UInt8) : Ws ((frontS t).data.toList ++ r) = opW t ++ Ws r := by
  unfold frontS opW
  by_cases h3 : t.kind = 3
  · rw [if_pos h3, if_pos h3]; exact ws_sym 91 r (by decide)
  · rw [if_neg h3, if_neg h3]
    by_cases h4 : t.kind = 4
    · rw [if_pos h4, if_pos h4]
      have h := hn h4
      unfold nameB at h
      simp only [Bool.and_eq_true, decide_eq_true_eq, beq_iff_eq, Bool.not_eq_true'] at h
      obtain ⟨⟨⟨⟨h1, h2⟩, hl⟩, hk⟩, ht⟩ := h
      have hrun : run t.nm.data.toList inName 0 = t.nm.data.toList.length := by
        unfold tokAt at ht
        rw [if_neg (by omega), if_pos hl] at ht
        exact ht
      have hall : ∀ j, j < t.nm.data.toList.length → inName (at_ t.nm.data.toList j) = true := fun j hj => run_all _ _ 0 j (Nat.zero_le _) (by rw [hrun]; exact hj)
      have e : (t.nm ++ (⟨#[40]⟩ : ByteArray)).data.toList = t.nm.data.toList ++ [40] := by simp [ByteArray.data_append]
      rw [e, List.append_assoc]
      show Ws (t.nm.data.toList ++ (40 :: r)) = _
      rw [ws_cut _ _ (cut_word _ _ (by omega) hl hall (fun _ => rfl)), ws_sym 40 r (by decide)]
      rfl
    · rw [if_neg h4, if_neg h4]; rfl
theorem ws_back (t : TyV) : Ws (backS t).data.toList = clW t ++ [[]] := by
  unfold backS clW
  by_cases h3 : t.kind = 3
  · rw [if_pos h3, if_pos h3]; exact (ws_sym 93 [] (by decide)).trans (by rw [ws_nil]; rfl)
  · rw [if_neg h3, if_neg h3]
    by_cases h4 : t.kind = 4
    · rw [if_pos h4, if_pos h4]; exact (ws_sym 41 [] (by decide)).trans (by rw [ws_nil]; rfl)
    · rw [if_neg h4, if_neg h4]; exact ws_nil
theorem stp_back (t : TyV) : Stp (backS t).data.toList := by
  unfold backS
  by_cases h3 : t.kind = 3
  · rw [if_pos h3]; intro _; rfl
  · rw [if_neg h3]
    by_cases h4 : t.kind = 4
    · rw [if_pos h4]; intro _; rfl
    · rw [if_neg h4]; intro h; exact absurd h (by decide)
def vWl (t : TyV) (ts : List TyV) (m : List Int) : List (List UInt8) := opW t ++ (lwL ts m ++ clW t)
theorem ws_val (t : TyV) (ts : List TyV) (m : List Int) (hn : t.kind = 4 → nameB t.nm.data.toList = true) : Ws (frontS t ++ (⟨(fmtL ts m).toArray⟩ : ByteArray) ++ backS t).data.toList = vWl t ts m ++ [[]] := by
  have e : (frontS t ++ (⟨(fmtL ts m).toArray⟩ : ByteArray) ++ backS t).data.toList = (frontS t).data.toList ++ (fmtL ts m ++ (backS t).data.toList) := by
    simp [ByteArray.data_append]
  rw [e, ws_front t hn, ws_list ts m _ (stp_back t), ws_back]
  simp [vWl]

/-- with comments between them -/
theorem fol_words (p u : List UInt8) : ∀ (z y : List Tok), Fol p.length z y → (∀ t ∈ y, 0 ≤ t.at_ ∧ 0 ≤ t.hi) → z.map (wordL (p ++ u)) = y.map (wordL u)
  | [], [], _, _ => rfl
  | t :: z, s :: y, h, ho => by
    have h0 := h.2 0 (by simp) (by simp)
    simp only [List.getElem_cons_zero] at h0
    have hr : Fol p.length z y := ⟨by simpa using h.1, fun j a b => by
      have := h.2 (j + 1) (by simpa using a) (by simpa using b)
      simpa using this⟩
    have o := ho s (by simp)
    rw [List.map_cons, List.map_cons, fol_words p u z y hr (fun t ht => ho t (by simp [ht]))]
    congr 1
    have e : wordL (p ++ u) t = wordL (p ++ u) (shiftT p.length s) := by
      unfold wordL shiftT
      rw [h0.2.1, h0.2.2]
    rw [e, word_shift p u s o.1 o.2]
  | [], _ :: _, h, _ => by have := h.1; simp at this
  | _ :: _, [], h, _ => by have := h.1; simp at this
theorem ws_skip (a r : List UInt8) (e0 : (scan a).dropLast = []) : Ws (a ++ 10 :: r) = Ws r := by
  obtain ⟨z, hz, hf⟩ := scan_parts a r
  rw [e0, List.nil_append] at hz
  have e : a ++ 10 :: r = (a ++ [10]) ++ r := by simp
  have hf' : Fol (a ++ [10]).length z (scan r) := by rw [List.length_append]; exact hf
  have h := fol_words (a ++ [10]) r z (scan r) hf' (fun t ht => by
    have := scanTo_okTok r (r.length + 1) 0 (Nat.zero_le _) (by omega) t ht
    exact ⟨by omega, by omega⟩)
  unfold Ws
  rw [hz, e]
  exact h
theorem ws_hash (r : List UInt8) : Ws (32 :: 35 :: 32 :: 99 :: 10 :: r) = Ws r := ws_skip [32, 35, 32, 99] r (by decide)
def gap : List UInt8 := [32, 35, 32, 99, 10]
theorem ws_gaps : ∀ init : List (List UInt8), (∀ a ∈ init, Cut a []) → Ws (init.flatMap (· ++ gap)) = init ++ [[]] := by
  intro init
  induction init with
  | nil => intro _; exact ws_nil
  | cons a init ih =>
    intro h
    rw [List.flatMap_cons, List.append_assoc, ws_cut a _ (cut_white a _ (h a (by simp)) (fun _ => rfl))]
    show a :: Ws (32 :: 35 :: 32 :: 99 :: 10 :: init.flatMap (· ++ gap)) = _
    rw [ws_hash, ih (fun b hb => h b (by simp [hb]))]
    rfl
theorem join_gaps (sep : List UInt8) (init : List (List UInt8)) : Lib.join (init ++ [[]]) sep = init.flatMap (· ++ sep) := by
  induction init with
  | nil => rfl
  | cons a init ih =>
    have e : ∀ l : List (List UInt8), l ≠ [] → Lib.joinTail sep l = sep ++ Lib.join l sep := by
      intro l hl
      cases l with
      | nil => exact absurd rfl hl
      | cons b r => rw [Lib.join_cons, tail_cons]
    rw [List.cons_append, Lib.join_cons, e _ (by simp), ih, List.flatMap_cons, List.append_assoc]
theorem gaps_length (init : List (List UInt8)) : (init.flatMap (· ++ gap)).length = lens init + 5 * init.length := by
  induction init with
  | nil => rfl
  | cons a r ih => rw [List.flatMap_cons, List.length_append, ih, lens_cons]; simp [gap]; omega
/-- the text with comments -/
def gapS (W : List (List UInt8)) : ByteArray := ⟨(Lib.join (W ++ [[]]) gap).toArray⟩
theorem gap_facts (s : ByteArray) (W : List (List UInt8)) (hs : s.size ≤ 400) (hW : Ws s.data.toList = W ++ [[]]) : (gapS W).size ≤ 4096 ∧ Ws (gapS W).data.toList = W ++ [[]] ∧ W.length ≤ 400 := by
  obtain ⟨il, hil, hcut⟩ := ws_init s.data.toList
  have e : il = W := by
    rw [hW] at hil
    exact (List.append_inj_left' hil rfl).symm
  subst e
  have sl : s.data.toList.length = s.size := by simp
  have h1 := ws_lens s.data.toList
  have h2 := ws_length s.data.toList
  rw [hW, lens_app] at h1
  rw [hW, List.length_append, List.length_singleton] at h2
  have e2 : (gapS il).data.toList = il.flatMap (· ++ gap) := by
    unfold gapS
    rw [join_gaps]
  refine ⟨?_, by rw [e2]; exact ws_gaps il hcut, by omega⟩
  have e3 : (gapS il).size = (gapS il).data.toList.length := by simp
  rw [e3, e2, gaps_length]
  omega
/-- from the words as bytes to split's words -/
theorem wds_of (s : ByteArray) (W : List (List UInt8)) (hs : s.size ≤ 4096) (hW : Ws s.data.toList = W ++ [[]]) : wds s = W.map (fun x => ⟨x.toArray⟩) ∧ words s (scan s.data.toList) = W.map (fun x => (⟨x.toArray⟩ : ByteArray)) ++ [⟨#[]⟩] := by
  have h := words_lists s hs
  rw [hW] at h
  have e : words s (scan s.data.toList) = W.map (fun x => (⟨x.toArray⟩ : ByteArray)) ++ [⟨#[]⟩] := lists_inj _ _ (by rw [h]; simp [Function.comp_def])
  refine ⟨?_, e⟩
  have e2 : words s (scan s.data.toList) = (scan s.data.toList).map (word s) := if_pos (scan_fit s hs)
  unfold wds
  rw [List.map_dropLast, ← e2, e, List.dropLast_concat]
end Go.Proofs.YtoopnddlcofhoaaGreatDoor.Lx
set_option linter.unusedVariables false
namespace Go.Proofs.YtoopnddlcofhoaaGreatDoor
open Go.RowKit

theorem four (w : World) (o0 o1 o2 o3 : Obj) (n : Nat) (hn : w.heap.size = n) : ((((w.alloc o0).alloc o1).alloc o2).alloc o3).heap[n]? = some o0 ∧ ((((w.alloc o0).alloc o1).alloc o2).alloc o3).heap[n + 1]? = some o1 ∧ ((((w.alloc o0).alloc o1).alloc o2).alloc o3).heap[n + 1 + 1]? = some o2 ∧ ((((w.alloc o0).alloc o1).alloc o2).alloc o3).heap[n + 1 + 1 + 1]? = some o3 ∧ ((((w.alloc o0).alloc o1).alloc o2).alloc o3).heap.size = n + 4 := by
  subst hn
  have s1 : (w.alloc o0).heap.size = w.heap.size + 1 := by simp
  have s2 : ((w.alloc o0).alloc o1).heap.size = w.heap.size + 1 + 1 := by simp
  have s3 : (((w.alloc o0).alloc o1).alloc o2).heap.size = w.heap.size + 1 + 1 + 1 := by simp
  have h0 := heap_alloc_new w o0
  have h1 := heap_alloc_new (w.alloc o0) o1
  have h2 := heap_alloc_new ((w.alloc o0).alloc o1) o2
  have h3 := heap_alloc_new (((w.alloc o0).alloc o1).alloc o2) o3
  rw [s1] at h1
  rw [s2] at h2
  rw [s3] at h3
  refine ⟨?_, ?_, ?_, h3, by simp⟩
  · rw [heap_alloc_old _ _ (by omega), heap_alloc_old _ _ (by omega), heap_alloc_old _ _ (by omega)]; exact h0
  · rw [heap_alloc_old _ _ (by omega), heap_alloc_old _ _ (by omega)]; exact h1
  · rw [heap_alloc_old _ _ (by omega)]; exact h2
abbrev rdW (w : World) (A : Option Addr) (len c : Nat) : World := (((w.alloc (.cells #[.slice A len c] 38)).alloc (.cells #[.int .i64 0] 3)).alloc (.cells #[rdEnd (w.heap.size + 1) w.heap.size] 29)).alloc (.cells #[rdTake (w.heap.size + 1) w.heap.size] 91)
theorem rdr_mem (A : Option Addr) (c : Nat) (W : List ByteArray) (w : World) (hroom : W.length ≤ c) (hfew : W.length ≤ 5000) (hrow : Lx.StrA w A W) (nq : Nat) :
    Rr ((rdW w A W.length c).drewN nq) ((rdW w A W.length c).drewN nq) (w.heap.size + 1) w.heap.size (w.heap.size + 1 + 1 + 1) (w.heap.size + 1 + 1) A c W 0 ∧ Below w.heap.size w ((rdW w A W.length c).drewN nq) := by
  obtain ⟨f0, f1, f2, f3, f4⟩ := four w (.cells #[.slice A W.length c] 38) (.cells #[.int .i64 0] 3) (.cells #[rdEnd (w.heap.size + 1) w.heap.size] 29) (.cells #[rdTake (w.heap.size + 1) w.heap.size] 91) w.heap.size rfl
  have hb : Below w.heap.size w ((rdW w A W.length c).drewN nq) := below_drewN (((((Below.refl w.heap.size w).alloc (Nat.le_refl _) _).alloc (by simp) _).alloc (by simp; omega) _).alloc (by simp; omega) _) nq
  refine ⟨⟨⟨f1, f0, by omega, hroom, hfew, fun h0 => ?_⟩, ⟨f3, f2, by omega, by omega⟩, grown_refl _ _⟩, hb⟩
  obtain ⟨b, off, hA, hlt, hc⟩ := hrow h0
  exact ⟨b, off, hA, Nat.lt_of_lt_of_le hlt hb.size, by omega, fun i hi => (hb.cell (p := ⟨b, off + i, none⟩) hlt).trans (hc i hi)⟩

set_option maxHeartbeats 1000000 in
theorem reader_any (A : Option Addr) (c : Nat) (W : List ByteArray) (w : World) (hroom : W.length ≤ c) (hfew : W.length ≤ 5000) (hrow : Lx.StrA w A W) :
    Calls Tryz.prog 48 #[.slice A W.length c] w fun e w' => ∃ P B T E, e = .returned (.tuple #[rdTake P B, rdScal P B T E, rdEnd P B]) ∧ Rr w' w' P B T E A c W 0 ∧ Below w.heap.size w w' ∧ w.heap.size ≤ P := by
  have HR := Lib.hid (rdr_mem A c W w hroom hfew hrow)
  clear hrow
  go_enter Tryz.func48, Tryz.ntmps48
  go_wp2_with (fail)
  go_quiet (fail)
  go_wp2_with (fail)
  go_ret3
  exact ⟨_, _, _, _, rfl, (HR.out nq).1, (HR.out nq).2, by omega⟩

section
variable {w0 w w' : World} {P B T E : Nat} {A : Option Addr} {c : Nat} {W : List ByteArray} {p : Nat}
theorem Rr.here (h : Rr w0 w P B T E A c W p) : Rr w w P B T E A c W p := ⟨h.rd, h.rs, grown_refl _ _⟩
theorem Rr.join {q : Nat} (h : Rr w0 w P B T E A c W p) (k : Rr w w' P B T E A c W q) : Rr w0 w' P B T E A c W q := ⟨k.rd, k.rs, grown_trans h.gr k.gr⟩
theorem Rr.lim (h : Rr w0 w0 P B T E A c W p) : P < w0.heap.size ∧ B < w0.heap.size ∧ T < w0.heap.size ∧ E < w0.heap.size ∧ (0 < W.length → ∀ b off, A = some ⟨b, off, none⟩ → b < w0.heap.size) :=
  ⟨block_ltR h.rd.hp, block_ltR h.rd.hb, block_ltR h.rs.ht, block_ltR h.rs.he, fun h0 b off hA => by
    obtain ⟨b', off', hA', hb, _⟩ := h.rd.row h0
    rw [hA] at hA'
    injection hA' with e
    injection e with e1
    subst e1
    exact hb⟩
/-- an append onto a row that is newer than the reader -/
theorem Rr.app {row : Option Nat} (hl : P < w0.heap.size ∧ B < w0.heap.size ∧ T < w0.heap.size ∧ E < w0.heap.size ∧ (0 < W.length → ∀ b off, A = some ⟨b, off, none⟩ → b < w0.heap.size)) (h : Rr w0 w P B T E A c W p) (hg : w.grownBy w' row) (hrow : ∀ k, row = some k → w0.heap.size ≤ k) : Rr w0 w' P B T E A c W p := by
  obtain ⟨l1, l2, l3, l4, l5⟩ := hl
  refine ⟨h.rd.kept hg (fun k e => ?_), h.rs.kept hg (fun k e => ?_), ?_⟩
  · have := hrow k e
    exact ⟨by omega, by omega, fun h0 b off hA => by have := l5 h0 b off hA; omega⟩
  · have := hrow k e
    exact ⟨by omega, by omega⟩
  · exact ⟨hg.os.trans h.gr.os, hg.tape.trans h.gr.tape, hg.output.trans h.gr.output, Nat.le_trans h.gr.size hg.size, fun k hk hne => (hg.block k (Nat.lt_of_lt_of_le hk h.gr.size) (fun e => by have := hrow k e.symm; omega)).trans (h.gr.block k hk hne)⟩
end
theorem dec_not (n : Nat) : (⟨(Lib.decDigits n).toArray⟩ : ByteArray) ≠ ⟨#[45]⟩ := by
  intro e
  have h := (Lx.dec_digits n).2
  have e2 : Lib.decDigits n = [45] := by
    have := congrArg (fun x : ByteArray => x.data.toList) e
    simpa using this
  rw [e2] at h
  exact absurd (h 45 (by simp)) (by decide)
theorem dec_calls (n : Nat) (h : n < 1000) (W' : World) : Calls Tryz.prog 77 #[.string ⟨(Lib.decDigits n).toArray⟩] W' fun e w' => e = .returned (.tuple #[.int .i64 (n : Int), .bool true]) ∧ W' = w' := by
  have hd := Lx.dec_num n h
  have hc := Lx.number_any ⟨(Lib.decDigits n).toArray⟩ W'
  rw [hd.1, hd.2] at hc
  exact hc
theorem scal_any {w0 w : World} {P B T E : Nat} {A : Option Addr} {c : Nat} {W : List ByteArray} {p : Nat} (h : Rr w0 w P B T E A c W p) (wd : Int) (q : Bool) (n : Int) (hn : scB wd q n = true) (hw : ∀ j x, (Lx.swl q n)[j]? = some x → W[p + j]? = some ⟨x.toArray⟩) :
    Calls Tryz.prog 76 #[.bool q, pA T, pA E, pA B, pA P] w fun e w' => e = .returned (.tuple #[.int .i64 n, .bool true]) ∧ Rr w0 w' P B T E A c W (p + (Lx.swl q n).length) := by
  have hb := sc_bound hn
  cases q with
  | true =>
    have h01 : n = 0 ∨ n = 1 := by simpa [scB] using hn
    rcases h01 with rfl | rfl
    · exact scal_false h (hw 0 _ rfl)
    · exact scal_true h (hw 0 _ rfl)
  | false =>
    by_cases h0 : n < 0
    · have e : Lx.swl false n = [[45], Lib.decDigits n.natAbs] := by unfold Lx.swl; rw [if_neg (by decide), if_pos h0]
      rw [e] at hw ⊢
      have hr := scal_neg h _ n.natAbs (hw 0 _ rfl) (hw 1 _ rfl) (dec_calls n.natAbs (by omega)) (by omega)
      rw [show (-(n.natAbs : Int)) = n by omega] at hr
      exact hr
    · have e : Lx.swl false n = [Lib.decDigits n.toNat] := by unfold Lx.swl; rw [if_neg (by decide), if_neg h0]
      rw [e] at hw ⊢
      have hr := scal_num h _ n.toNat (hw 0 _ rfl) (dec_not _) (dec_calls n.toNat (by omega)) (by omega)
      rw [show ((n.toNat : Nat) : Int) = n by omega] at hr
      exact hr
end Go.Proofs.YtoopnddlcofhoaaGreatDoor
set_option linter.unusedVariables false
namespace Go.Proofs.YtoopnddlcofhoaaGreatDoor
open Go.RowKit

abbrev mkB (x : List UInt8) : ByteArray := ⟨x.toArray⟩
theorem lwT_succ : ∀ (ts : List TyV) (m : List Int) (k : Nat) (h1 : k < ts.length) (h2 : k < m.length), Lx.lwT (ts.take (k + 1)) (m.take (k + 1)) = Lx.lwT (ts.take k) (m.take k) ++ [44] :: Lx.swl (ts[k].kind == 2) m[k]
  | t :: ts, n :: ns, 0, _, _ => by simp [Lx.lwT]
  | t :: ts, n :: ns, k + 1, h1, h2 => by
    have h := lwT_succ ts ns k (by simpa using h1) (by simpa using h2)
    simp only [List.take_succ_cons, Lx.lwT, h, List.getElem_cons_succ]
    simp
  | [], _, _, h1, _ => by simp at h1
  | _ :: _, [], _, _, h2 => by simp at h2
theorem lwT_split : ∀ (ts : List TyV) (m : List Int) (k : Nat), Lx.lwT ts m = Lx.lwT (ts.take k) (m.take k) ++ Lx.lwT (ts.drop k) (m.drop k)
  | ts, m, 0 => by simp [Lx.lwT]
  | t :: ts, n :: ns, k + 1 => by
    have h := lwT_split ts ns k
    simp only [List.take_succ_cons, List.drop_succ_cons, Lx.lwT]
    rw [h]
    simp
  | [], _, k + 1 => by simp [Lx.lwT]
  | _ :: _, [], k + 1 => by simp [Lx.lwT]
theorem lwL_drop (ts : List TyV) (m : List Int) : Lx.lwL ts m = (Lx.lwT ts m).drop 1 := by
  match ts, m with
  | t :: ts, n :: ns => rfl
  | [], _ => simp [Lx.lwL, Lx.lwT]
  | _ :: _, [] => simp [Lx.lwL, Lx.lwT]
/-- where the reader stands ahead of the k-th scalar -/
def posK (t : TyV) (ts : List TyV) (m : List Int) (k : Nat) : Nat := (Lx.opW t).length + ((Lx.lwT (ts.take k) (m.take k)).length - 1)
theorem pos_zero (t : TyV) (ts : List TyV) (m : List Int) : posK t ts m 0 = (Lx.opW t).length := by simp [posK, Lx.lwT]
theorem lwT_pos (ts : List TyV) (m : List Int) (k : Nat) (hk : 0 < k) (h1 : k ≤ ts.length) (h2 : k ≤ m.length) : 0 < (Lx.lwT (ts.take k) (m.take k)).length := by
  obtain ⟨j, rfl⟩ : ∃ j, k = j + 1 := ⟨k - 1, by omega⟩
  rw [lwT_succ ts m j (by omega) (by omega), List.length_append, List.length_cons]
  omega
/-- where the scalar itself stands: behind the comma -/
def posS (t : TyV) (ts : List TyV) (m : List Int) (k : Nat) : Nat := (Lx.opW t).length + (Lx.lwT (ts.take k) (m.take k)).length
theorem vW_at (t : TyV) (ts : List TyV) (m : List Int) (i : Nat) (x : List UInt8) (h : (Lx.lwT ts m)[i + 1]? = some x) : (Lx.vWl t ts m)[(Lx.opW t).length + i]? = some x := by
  unfold Lx.vWl
  rw [List.getElem?_append_right (by omega), Nat.add_sub_cancel_left, lwL_drop]
  have hlt := (List.getElem?_eq_some_iff.1 h).1
  rw [List.getElem?_append_left (by rw [List.length_drop]; omega), List.getElem?_drop, Nat.add_comm 1 i]
  exact h
theorem pos_comma (t : TyV) (ts : List TyV) (m : List Int) (k : Nat) (hk : 0 < k) (h1 : k < ts.length) (h2 : k < m.length) : (Lx.vWl t ts m)[posK t ts m k]? = some [44] ∧ posK t ts m k + 1 = posS t ts m k := by
  have hp := lwT_pos ts m k hk (by omega) (by omega)
  unfold posK posS
  refine ⟨vW_at t ts m _ _ ?_, by omega⟩
  rw [Nat.sub_add_cancel hp]
  have hs := lwT_succ ts m k h1 h2
  rw [lwT_split ts m (k + 1), hs, List.append_assoc, List.getElem?_append_right (Nat.le_refl _), Nat.sub_self]
  rfl
theorem pos_first (t : TyV) (ts : List TyV) (m : List Int) : posK t ts m 0 = posS t ts m 0 := by simp [posK, posS, Lx.lwT]
theorem pos_scal (t : TyV) (ts : List TyV) (m : List Int) (k : Nat) (h1 : k < ts.length) (h2 : k < m.length) (j : Nat) (x : List UInt8) (hx : (Lx.swl (ts[k].kind == 2) m[k])[j]? = some x) : (Lx.vWl t ts m)[posS t ts m k + j]? = some x := by
  unfold posS
  rw [Nat.add_assoc]
  refine vW_at t ts m _ _ ?_
  have hs := lwT_succ ts m k h1 h2
  have hj := (List.getElem?_eq_some_iff.1 hx).1
  rw [lwT_split ts m (k + 1), hs, List.append_assoc, List.getElem?_append_right (by omega), show (Lx.lwT (ts.take k) (m.take k)).length + j + 1 - (Lx.lwT (ts.take k) (m.take k)).length = j + 1 by omega, List.cons_append, List.getElem?_cons_succ, List.getElem?_append_left hj]
  exact hx
theorem pos_next (t : TyV) (ts : List TyV) (m : List Int) (k : Nat) (h1 : k < ts.length) (h2 : k < m.length) : posS t ts m k + (Lx.swl (ts[k].kind == 2) m[k]).length = posK t ts m (k + 1) := by
  unfold posS posK
  rw [lwT_succ ts m k h1 h2]
  simp
  omega
theorem pos_end (t : TyV) (ts : List TyV) (m : List Int) (h : ts.length = m.length) : (Lx.vWl t ts m).drop (posK t ts m ts.length) = Lx.clW t ∧ posK t ts m ts.length + (Lx.clW t).length = (Lx.vWl t ts m).length := by
  have e : posK t ts m ts.length = (Lx.opW t).length + (Lx.lwL ts m).length := by
    unfold posK
    rw [List.take_length, h, List.take_length, lwL_drop, List.length_drop]
  rw [e]
  unfold Lx.vWl
  refine ⟨?_, by simp; omega⟩
  rw [← List.append_assoc, ← List.length_append, List.drop_left]
theorem vW_start (t : TyV) (ts : List TyV) (m : List Int) : (Lx.vWl t ts m).take (Lx.opW t).length = Lx.opW t := by
  unfold Lx.vWl
  exact List.take_left
theorem split_front (t : TyV) (hn : t.kind = 4 → Lx.nameB t.nm.data.toList = true) (hnm : t.nm.size ≤ 1000) : wds (frontS t) = (Lx.opW t).map mkB := by
  have h := Lx.ws_front t hn []
  rw [List.append_nil, Lx.ws_nil] at h
  exact (Lx.wds_of _ _ (by have := brk_front t 1000 hnm; omega) h).1
theorem split_back (t : TyV) : wds (backS t) = (Lx.clW t).map mkB :=
  (Lx.wds_of _ _ (by have := brk_back t; omega) (Lx.ws_back t)).1
theorem str_cap {w : World} {B : Nat} {v : Value} {l : List ByteArray} (h : w.ownsRow B 9 1 v l.length (scells l)) : ∃ A c, v = .slice A l.length c ∧ l.length ≤ c ∧ Lx.StrA w A l := by
  obtain ⟨A, c, hv, hr⟩ := Lx.strs_own h
  obtain ⟨A', c', hv', hc⟩ := own_form h
  rw [hv] at hv'
  injection hv' with e1 e2 e3
  subst e3
  exact ⟨A, c, hv, hc, hr⟩

set_option maxRecDepth 100000 in
set_option maxHeartbeats 8000000 in
theorem read_any (wd : Int) (t : TyV) (ts : List TyV) (m : List Int) (As : Option Addr) (cs : Nat) (s : ByteArray) (w : World) (hts : TRow w.heap.size w As ts) (hl : ts.length = m.length) (h20 : ts.length ≤ 20) (hfit : fitsZ wd ts m = true)
    (hn : t.kind = 4 → Lx.nameB t.nm.data.toList = true) (hnm : t.nm.size ≤ 1000) (hs : s.size ≤ 4096) (hW : Lx.Ws s.data.toList = Lx.vWl t ts m ++ [[]]) (hWl : (Lx.vWl t ts m).length ≤ 400) :
    Calls Tryz.prog 27 #[.agg #[.int .i64 t.kind, .int .i64 t.len, .string t.nm], .slice As ts.length cs, .string s] w fun e w' => ∃ v, e = .returned (.tuple #[v, .bool true]) ∧ w'.ownsRow w.heap.size 3 1 v m.length (zcells m) ∧ Below w.heap.size w w' := by
  obtain ⟨i0, hi0, hz0, hz1, hz2⟩ := info_parts infoInt
  have HTS := Lib.hid hts
  have HLM := Lib.hid hl
  have HFIT := Lib.hid hfit
  obtain ⟨Wd, HWd⟩ : ∃ Wd, Hid ((Lx.vWl t ts m).map mkB = Wd) := ⟨_, Lib.hid rfl⟩
  obtain ⟨O, HO⟩ : ∃ O, Hid ((Lx.opW t).map mkB = O) := ⟨_, Lib.hid rfl⟩
  obtain ⟨C, HC⟩ : ∃ C, Hid ((Lx.clW t).map mkB = C) := ⟨_, Lib.hid rfl⟩
  have hwl : Wd.length ≤ 400 := by rw [← HWd.out, List.length_map]; exact hWl
  have HF := Lib.hid (fun W' => split_any (frontS t) W' (by have := brk_front t 1000 hnm; omega))
  rw [split_front t hn hnm, HO.out] at HF
  have HK := Lib.hid (fun W' => split_any (backS t) W' (by have := brk_back t; omega))
  rw [split_back t, HC.out] at HK
  have HX := Lib.hid (fun W' => split_any s W' hs)
  rw [(Lx.wds_of s _ hs hW).1, HWd.out] at HX
  obtain ⟨W2, HW2, hb2, hz2', ht2⟩ := va_start t w
  have HB2 := Lib.hid hb2
  obtain ⟨c0, c1, c2⟩ := ht2.now
  have HBR := Lib.hid (fun W' => brackets_any t W' hnm)
  have HWS := Lib.hid (vW_start t ts m)
  have HPE := Lib.hid (pos_end t ts m hl)
  have eT := enterTake
  have eE := enterEnd
  have eS := enterScal
  obtain ⟨F, HFF⟩ : ∃ F, Hid (frontS t = F) := ⟨_, Lib.hid rfl⟩
  obtain ⟨K, HKK⟩ : ∃ K, Hid (backS t = K) := ⟨_, Lib.hid rfl⟩
  rw [HFF.out] at HF HBR
  rw [HKK.out] at HK HBR
  clear hts hl hfit hn hW hWl hb2 ht2
  go_enter Tryz.func27, Tryz.ntmps27
  go_wp2_with (fail)
  refine (HBR.out _).mono ?_
  rintro e w3 ⟨rfl, hb3⟩
  have HB3 := Lib.hid (HB2.out.trans (hb3.mono HB2.out.size))
  clear hb3 c0 c1 c2
  go_wp2_with (fail)
  refine (HF.out w3).mono ?_
  rintro e w4 ⟨v4, rfl, ho4, hb4⟩
  obtain ⟨Ao, co, rfl, _, so4⟩ := str_cap ho4
  have HB4 := Lib.hid (HB3.out.trans (hb4.mono HB3.out.size))
  have HSO := Lib.hid so4
  clear ho4 so4 hb4
  go_wp2_with (fail)
  refine (HK.out w4).mono ?_
  rintro e w5 ⟨v5, rfl, ho5, hb5⟩
  obtain ⟨Ac, cc, rfl, _, sc5⟩ := str_cap ho5
  have HB5 := Lib.hid (HB4.out.trans (hb5.mono HB4.out.size))
  have HSO5 := Lib.hid (HSO.out.below hb5)
  have HSC := Lib.hid sc5
  clear ho5 sc5 hb5 HSO
  go_wp2_with (fail)
  refine (HX.out w5).mono ?_
  rintro e w6 ⟨v6, rfl, ho6, hb6⟩
  obtain ⟨Aw, cw, rfl, hcw, sw6⟩ := str_cap ho6
  have HB6 := Lib.hid (HB5.out.trans (hb6.mono HB5.out.size))
  have HSO6 := Lib.hid (HSO5.out.below hb6)
  have HSC6 := Lib.hid (HSC.out.below hb6)
  have HRD := Lib.hid (reader_any Aw cw Wd w6 hcw (by omega) sw6)
  clear ho6 sw6 hb6 HSO5 HSC hcw
  go_wp2_with (fail)
  refine HRD.out.mono ?_
  rintro e w7 ⟨P, B, T, E, rfl, hr7, hb7, hP⟩
  have HR7 := Lib.hid hr7
  have HLIM := Lib.hid hr7.lim
  have HB7 := Lib.hid hb7
  have HP := Lib.hid hP
  have HTK := Lib.hid (take_yes hr7.rd Ao co O (HSO6.out.below hb7) (by
    have h := congrArg List.length HWS.out
    rw [List.length_take] at h
    rw [← HO.out, ← HWd.out, List.length_map, List.length_map]; omega) (by
    rw [List.drop_zero, ← HO.out, ← HWd.out, List.length_map, ← List.map_take, HWS.out]))
  clear hr7 hb7 hP HRD HSO6
  go_wp2_with (fail)
  refine HTK.out.mono ?_
  rintro e w8 ⟨rfl, hd8, hg8⟩
  have HR8 := Lib.hid (HR7.out.took hd8 hg8)
  clear hd8 hg8 HTK
  go_wp2_with (fail)
  go_loopw [19, 58] (fun v i wr => ∃ k : Nat, k ≤ ts.length ∧ i = .int .i64 (k : Int) ∧ Hid (Rr w7 wr P B T E Aw cw Wd (posK t ts m k)) ∧ Hid (wr.ownsRow w7.heap.size 3 1 v k (zcells (m.take k)))) (fun _ i _ => ts.length - (intOf i).toNat)
  case atStart => exact ⟨0, Nat.zero_le _, rfl, Lib.hid (by rw [pos_zero]; have h := HR8.out; rw [← HO.out, List.length_map, Nat.zero_add] at h; exact h), Lib.hid (World.ownsRow_nil _ _ _ _)⟩
  case round =>
    obtain ⟨k, hk, rfl, hrr, hown⟩ := hrel
    have HP7 := Lib.hid (show P < w7.heap.size from HLIM.out.1)
    have HBW := Lib.hid (show Below w6.heap.size w6 wr from HB7.out.grown hrr.out.gr HB7.out.size (fun b e => by injection e with e; have := HP.out; omega))
    have HBW0 := Lib.hid (HB6.out.trans (HBW.out.mono HB6.out.size))
    have HLT := Lib.hid (fun b e => hown.out.lt b e)
    have HNP := Lib.hid (show u19.ownBlock ≠ some P from fun e => by have := (HLT.out P e).1; have := HP7.out; omega)
    by_cases hlt : k < ts.length
    · have hlt2 : k < m.length := by have := HLM.out; omega
      obtain ⟨b, off, hA, hb, hcs⟩ := (HTS.out.below HBW0.out) (by omega)
      obtain ⟨c0, c1, c2⟩ := hcs k hlt
      have HPC := Lib.hid (fun h0 => pos_comma t ts m k h0 hlt hlt2)
      have HPF := Lib.hid (show k = 0 → posK t ts m k = posS t ts m k from fun h => by subst h; exact pos_first t ts m)
      have HPS := Lib.hid (show ∀ j x, (Lx.swl (ts[k].kind == 2) m[k])[j]? = some x → Wd[posS t ts m k + j]? = some ⟨x.toArray⟩ from fun j x hx => by
        rw [← HWd.out, List.getElem?_map, pos_scal t ts m k hlt hlt2 j x hx]; rfl)
      have HPN := Lib.hid (pos_next t ts m k hlt hlt2)
      have HSB := Lib.hid (fitsZ_get wd ts m HFIT.out k hlt hlt2)
      have HMT := Lib.hid (show m.take (k + 1) = m.take k ++ [m[k]] from List.take_succ_eq_append_getElem hlt2)
      clear hcs
      generalize ts[k] = x at *
      generalize m[k] = n at *
      obtain ⟨hal, hc0, hza⟩ := box_ty wr x
      obtain ⟨d0, d1, d2⟩ := hc0.now
      have HD0 := Lib.hid d0
      have HRA := Lib.hid (hrr.out.alloc (.cells #[.int .i64 x.kind, .int .i64 x.len, .string x.nm] 23))
      have HWZ := Lib.hid (show wr.heap.size ≠ P from fun e => by have := hrr.out.gr.size; have := HP7.out; omega)
      have HGA := Lib.hid (World.grownBy_alloc wr (.cells #[.int .i64 x.kind, .int .i64 x.len, .string x.nm] 23) (some P))
      rw [hA]
      clear hA hb hal hc0 hza d1 d2 d0
      rcases Nat.eq_zero_or_pos k with h0 | h0
      · have k1 : decide (0 < (k : Int)) = false := by simp; omega
        have k2 : decide (0 < k) = false := by simp; omega
        have HR10 := Lib.hid (show Rr w7 (wr.alloc (.cells #[.int .i64 x.kind, .int .i64 x.len, .string x.nm] 23)) P B T E Aw cw Wd (posS t ts m k) from by rw [← HPF.out h0]; exact HRA.out)
        clear h0
        have d0 := HD0.out
        go_wp2_with (fail)
        clear c0 c1 c2
        have HG10 := HGA
        generalize (wr.alloc (.cells #[.int .i64 x.kind, .int .i64 x.len, .string x.nm] 23)) = w10 at *
        refine (scal_any HR10.out.here wd (x.kind == 2) n HSB.out HPS.out).mono ?_
        rintro e w11 ⟨rfl, h11⟩
        rw [HPN.out] at h11
        have HG11 := Lib.hid h11.gr
        have HR11 := Lib.hid (HR10.out.join h11)
        clear h11
        have HO11 := Lib.hid (hown.out.kept (grown_trans HG10.out HG11.out) (.inr HNP.out))
        have HZ11 := Lib.hid (show w7.heap.size ≤ w11.heap.size from HR11.out.gr.size)
        clear d0
        go_wp2_with (at_builtin; refine wpList_append_lies _ rfl _ _ 25 rfl w7.heap.size 3 i0 _ 1 8 Tryz.underlying25 hi0 hz0 hz1 hz2 rfl (by decide) _ _ _ rfl (HO11.out.alloc _) ⟨w11.heap.size, 0, none⟩ 1 1 [.int .i64 n] rfl rfl (World.news_of_block (cs := #[.int .i64 n]) (heap_alloc_new w11 _)) (by simp [Value.oneCell']) (by decide) ?c3 ?c4 ?c5 (w11.heap.size + 1) (by simp) ?_)
        case c3 => unfold maxLen; omega
        case c4 => omega
        case c5 => have := HZ11.out; simp; omega
        intro g cap w12 hown12 hgr hsel hgl
        have HO12 := Lib.hid hown12
        have HR12 := Lib.hid (Rr.app HLIM.out (HR11.out.alloc (.cells #[.int .i64 n] 3)) hgr (fun b e => (HLT.out b e).1))
        clear hown12 hgr hsel hgl
        go_wp2_with (fail)
        exact ⟨⟨k + 1, by omega, by go_num, HR12, by rw [HMT.out, zcells_append]; exact HO12⟩, by simp [intOf]; omega⟩
      · have k1 : decide (0 < (k : Int)) = true := by simp; omega
        have k2 : decide (0 < k) = true := by simp; omega
        have hpc := HPC.out h0
        have htc := tk_yes HRA.out.here ⟨#[44]⟩ (by rw [← HWd.out, List.getElem?_map, hpc.1]; rfl)
        rw [hpc.2, show (wr.alloc (.cells #[.int .i64 x.kind, .int .i64 x.len, .string x.nm] 23)).heap.size = wr.heap.size + 1 by simp] at htc
        have HTC := Lib.hid htc
        clear hpc htc h0
        go_wp2_with (fail)
        clear c0 c1 c2
        refine HTC.out.mono ?_
        rintro e w10 ⟨rfl, h10⟩
        have HR10 := Lib.hid (HRA.out.join h10)
        have HG10 := Lib.hid (grown_trans HGA.out h10.gr)
        have d0 := h10.gr.cell HD0.out (fun e => by injection e with e; exact HWZ.out e)
        clear h10
        go_wp2_with (fail)
        refine (scal_any HR10.out.here wd (x.kind == 2) n HSB.out HPS.out).mono ?_
        rintro e w11 ⟨rfl, h11⟩
        rw [HPN.out] at h11
        have HG11 := Lib.hid h11.gr
        have HR11 := Lib.hid (HR10.out.join h11)
        clear h11
        have HO11 := Lib.hid (hown.out.kept (grown_trans HG10.out HG11.out) (.inr HNP.out))
        have HZ11 := Lib.hid (show w7.heap.size ≤ w11.heap.size from HR11.out.gr.size)
        clear d0
        go_wp2_with (at_builtin; refine wpList_append_lies _ rfl _ _ 25 rfl w7.heap.size 3 i0 _ 1 8 Tryz.underlying25 hi0 hz0 hz1 hz2 rfl (by decide) _ _ _ rfl (HO11.out.alloc _) ⟨w11.heap.size, 0, none⟩ 1 1 [.int .i64 n] rfl rfl (World.news_of_block (cs := #[.int .i64 n]) (heap_alloc_new w11 _)) (by simp [Value.oneCell']) (by decide) ?c3 ?c4 ?c5 (w11.heap.size + 1) (by simp) ?_)
        case c3 => unfold maxLen; omega
        case c4 => omega
        case c5 => have := HZ11.out; simp; omega
        intro g cap w12 hown12 hgr hsel hgl
        have HO12 := Lib.hid hown12
        have HR12 := Lib.hid (Rr.app HLIM.out (HR11.out.alloc (.cells #[.int .i64 n] 3)) hgr (fun b e => (HLT.out b e).1))
        clear hown12 hgr hsel hgl
        go_wp2_with (fail)
        exact ⟨⟨k + 1, by omega, by go_num, HR12, by rw [HMT.out, zcells_append]; exact HO12⟩, by simp [intOf]; omega⟩
    · obtain rfl : k = ts.length := by omega
      have HTK := Lib.hid (take_yes hrr.out.rd Ac cc C (HSC6.out.below HBW.out) (by
        rw [← HC.out, ← HWd.out, List.length_map, List.length_map, HPE.out.2]; exact Nat.le_refl _) (by
        rw [← HC.out, ← HWd.out, ← List.map_drop, HPE.out.1, List.take_length]))
      have HCL := Lib.hid (show posK t ts m ts.length + C.length = Wd.length from by rw [← HC.out, ← HWd.out, List.length_map, List.length_map]; exact HPE.out.2)
      go_wp2_with (fail)
      refine HTK.out.mono ?_
      rintro e w9 ⟨rfl, hd9, hg9⟩
      have HE := Lib.hid (ended_any hd9)
      rw [HCL.out, decide_eq_true rfl] at HE
      have HO9 := Lib.hid (hown.out.kept hg9 (.inr HNP.out))
      have HB9 := Lib.hid (HB6.out.trans ((HB7.out.grown (grown_trans hrr.out.gr hg9) HB7.out.size (fun b e => by injection e with e; have := HP.out; omega)).mono HB6.out.size))
      have HB7w := Lib.hid (HB6.out.trans (HB7.out.mono HB6.out.size))
      clear hd9 hg9
      go_wp2_with (fail)
      refine HE.out.mono ?_
      rintro e w10 ⟨rfl, rfl⟩
      go_wp2_with (fail)
      go_ret2
      refine ⟨_, rfl, ?_, HB9.out⟩
      have h := HO9.out.mono HB7w.out.size
      rw [HLM.out, List.take_length] at h
      exact h
end Go.Proofs.YtoopnddlcofhoaaGreatDoor
set_option linter.unusedVariables false
namespace Go.Proofs.YtoopnddlcofhoaaGreatDoor
open Go.RowKit

set_option maxRecDepth 100000 in
set_option maxHeartbeats 8000000 in
theorem parse_any (wd : Int) (t : TyV) (A : Option Addr) (c : Nat) (l : List RcV) (ts : List TyV) (m : List Int) (s : ByteArray) (w : World) (hwd : IntKind.i64.wrap wd = wd) (hr : RRow w.heap.size w A l) (hl : l.length ≤ 1000000000) (h20 : ∀ r ∈ l, r.flds.length ≤ 20)
    (hts : scalT [t] l = ts) (hv : vlB wd t l m = true) (hn : t.kind = 4 → Lx.nameB t.nm.data.toList = true) (hnm : t.nm.size ≤ 1000) (hs : s.size ≤ 4096) (hW : Lx.Ws s.data.toList = Lx.vWl t ts m ++ [[]]) (hWl : (Lx.vWl t ts m).length ≤ 400) :
    Calls Tryz.prog 9 #[.int .i64 wd, .agg #[.int .i64 t.kind, .int .i64 t.len, .string t.nm], .slice A l.length c, .string s] w fun e w' => ∃ v, e = .returned (.tuple #[v, .int .i64 0]) ∧ w'.ownsRow w.heap.size 3 1 v m.length (zcells m) ∧ Below w.heap.size w w' := by
  have hv1 : decide (2 ≤ wd ∧ wd ≤ 8) = true := by
    cases h : decide (2 ≤ wd ∧ wd ≤ 8) with
    | true => rfl
    | false => rw [vlB_width h] at hv; cases hv
  have hv2 : validB t l = true := by
    cases h : validB t l with
    | true => rfl
    | false => rw [vlB_type h] at hv; cases hv
  have hv3 : fitsZ wd ts m = true := by
    cases h : fitsZ wd ts m with
    | true => rfl
    | false => rw [← hts] at h; rw [vlB_fits h] at hv; cases hv
  have hlen := fitsZ_len wd ts m hv3
  have htl : ts.length ≤ 20 := by rw [← hts]; exact scalT_len t l h20
  have hml : m.length ≤ 20 := by omega
  have HR := Lib.hid hr
  have H20 := Lib.hid h20
  have HTS := Lib.hid hts
  have HV := Lib.hid hv
  obtain ⟨W2, HW2, hb2, hz2', ht2⟩ := va_start t w
  have HB2 := Lib.hid hb2
  have HZ2 := Lib.hid hz2'
  have HT2 := Lib.hid ht2
  have HPO := Lib.hid (possible_any wd W2)
  rw [hv1] at HPO
  have HVT := Lib.hid (ty_valid_f t A c l W2 true hv2 (HR.out.later HB2.out) hl)
  have hs64 : decide ((4096 : Int) < (s.size : Int)) = false := by simp; omega
  have HRE := Lib.hid (fun (As : Option Addr) (cs : Nat) (W' : World) (h : TRow W'.heap.size W' As ts) => read_any wd t ts m As cs s W' h hlen htl hv3 hn hnm hs hW hWl)
  have HVA := Lib.hid (fun (Am : Option Addr) (cm : Nat) (W' : World) (h1 : RRow W'.heap.size W' A l) (h2 : ZRow W'.heap.size W' Am m) => val_any wd t A Am c cm l m W' hwd h1 h2 hl h20 (by omega))
  rw [hv] at HVA
  obtain ⟨c0, c1, c2⟩ := ht2.now
  clear hr h20 hts hv hv1 hv2 hv3 hb2 ht2 hlen hn hnm hs hW hWl hz2'
  go_enter Tryz.func9, Tryz.ntmps9
  go_wp2_with (fail)
  refine HPO.out.mono ?_
  rintro e w3 ⟨rfl, rfl⟩
  go_wp2_with (fail)
  refine HVT.out.mono ?_
  rintro e w3 ⟨rfl, hb3⟩
  have HB3 := Lib.hid (HB2.out.trans (hb3.mono HB2.out.size))
  have HZ3 := Lib.hid (show w.heap.size < w3.heap.size from by have := hb3.size; have := HZ2.out; omega)
  have HT3 := Lib.hid (HT2.out.below hb3 (by have := HZ2.out; omega))
  clear hb3 c0 c1 c2
  obtain ⟨c0, c1, c2⟩ := HT3.out.now
  obtain ⟨hal, hc0, hza⟩ := box_ty w3 t
  have HBD := Lib.hid (show Below w3.heap.size w3 (w3.alloc (.cells #[.int .i64 t.kind, .int .i64 t.len, .string t.nm] 23)).drew from hal.drew)
  have HTD := Lib.hid (show TCells (w3.alloc (.cells #[.int .i64 t.kind, .int .i64 t.len, .string t.nm] 23)).drew w.heap.size 0 t from HT3.out.below (show Below w3.heap.size w3 (w3.alloc (.cells #[.int .i64 t.kind, .int .i64 t.len, .string t.nm] 23)).drew from hal.drew) HZ3.out)
  have hsc := scalars_any A (some ⟨w3.heap.size, 0, none⟩) c 1 l [t] (w3.alloc (.cells #[.int .i64 t.kind, .int .i64 t.len, .string t.nm] 23)).drew ((HR.out.later HB3.out).later HBD.out) (fun _ => ⟨w3.heap.size, 0, rfl, by show w3.heap.size < (w3.alloc (.cells #[.int .i64 t.kind, .int .i64 t.len, .string t.nm] 23)).heap.size; omega, fun i h => by
    obtain rfl : i = 0 := by simpa using h
    exact hc0⟩) hl H20.out (by simp)
  rw [HTS.out] at hsc
  have HSC := Lib.hid hsc
  have HKD := Lib.hid HTD.out.now
  clear hal hc0 hza hsc HT2 HPO HVT
  go_wp2_with (fail)
  go_region_held3 (fun w' => w'.cell? ⟨w.heap.size, 0, none⟩ = some (.int .i64 t.kind) ∧ w'.cell? ⟨w.heap.size, 1, none⟩ = some (.int .i64 t.len) ∧ w'.cell? ⟨w.heap.size, 2, none⟩ = some (.string t.nm)) (first | (with_reducible exact HK6.out) | (with_reducible exact HK5.out) | (with_reducible exact HKD.out) | go_keep) ((first | (go_at_call 27; refine (HRE.out A5 k5 w5 HROW.out).mono ?_; rintro e w6 ⟨v6, rfl, hown6, hb6⟩; have HO6 := Lib.hid hown6; have HB6 := Lib.hid (HB5.out.trans (hb6.mono HB5.out.size)); have HT6 := Lib.hid (HT5.out.below hb6 HZ5.out); have HK6 := Lib.hid HT6.out.now; clear hown6 hb6) | (go_at_call 16; refine HSC.out.mono ?_; rintro e w5 ⟨v5, rfl, hown5, hb5⟩; obtain ⟨A5, k5, rfl, hrow5⟩ := types_own hown5; have HROW := Lib.hid hrow5; have HB5 := Lib.hid (HB3.out.trans ((HBD.out.trans (hb5.mono HBD.out.size)).mono HB3.out.size)); have HT5 := Lib.hid (HTD.out.below hb5 (by have := HBD.out.size; have := HZ3.out; omega)); have HZ5 := Lib.hid (show w.heap.size < w5.heap.size from by have := hb5.size; have := HBD.out.size; have := HZ3.out; omega); have HK5 := Lib.hid HT5.out.now; clear hown5 hrow5 hb5)))
  obtain ⟨Am, cm, rfl, _, hz⟩ := z_row HO6.out
  have HZR := Lib.hid hz
  have HB5w := Lib.hid (show w.heap.size ≤ w5.heap.size from HB5.out.size)
  clear c0 c1 c2 hz
  obtain ⟨c0, c1, c2⟩ := HK6.out
  go_wp2_with (fail)
  refine (HVA.out Am cm w6 (HR.out.later HB6.out) HZR.out).mono ?_
  rintro e w7 ⟨rfl, hb7⟩
  have HB7 := Lib.hid (HB6.out.trans (hb7.mono HB6.out.size))
  have HO7 := Lib.hid (ty_own_below HO6.out hb7)
  clear hb7 c0 c1 c2
  go_wp2_with (fail)
  go_ret2
  exact ⟨_, rfl, HO7.out.mono HB5w.out, HB7.out⟩
end Go.Proofs.YtoopnddlcofhoaaGreatDoor
