/- What is proved: the reference's Size and Ints, the law's counting. -/
import Derived.Test.YtjgkcicgjnjepaaDoorBvRMarks
import Derived.Test.YtjgkcicgjnjepaaDoorBvInps
set_option linter.unusedVariables false
namespace Go.Proofs.YtjgkcicgjnjepaaDoor
open Go.RowKit Go.Maps

theorem prt_all {W : Int} {l : List Tm} (ht : TbOk W l) {i : Nat} (hi : i < l.length) : (List.range l.length).filter (mrk l i) = prt l i := by
  unfold prt
  rw [show l.length = (i + 1) + (l.length - (i + 1)) by omega, List.range_add, List.filter_append]
  have : ((List.range (l.length - (i + 1))).map (fun x => i + 1 + x)).filter (mrk l i) = [] := by
    rw [List.filter_eq_nil_iff]
    intro k hk hm
    obtain ⟨q, _, rfl⟩ := List.mem_map.1 hk
    have := mrk_le ht hi hm
    omega
  rw [this, List.append_nil]
theorem r_marks_any {w : World} {W : Int} {l : List Tm} (A : Option Addr) (c : Nat) (i : Int) (hr : TRow w A l) (ht : TbOk W l) (hl : l.length ≤ 1000) : Calls Tryd.prog 27 #[.agg #[.int .i64 W, .slice A l.length c], .int .i64 i] w fun e w' => ∃ b, e = .returned (.slice (some ⟨b, 0, none⟩) l.length l.length) ∧ BArr w' b l.length (mrkZ l i) ∧ Below w.heap.size w w' := by
  by_cases h : 0 ≤ i ∧ i < (l.length : Int)
  · obtain ⟨k, rfl⟩ : ∃ k : Nat, i = (k : Int) := ⟨i.toNat, by omega⟩
    have e : mrkZ l (k : Int) = mrk l k := by funext q; unfold mrkZ; rw [if_pos h, Int.toNat_natCast]
    rw [e]
    exact r_marks_in A c k hr ht hl (by omega)
  · have e : mrkZ l i = fun _ => false := by funext q; unfold mrkZ; rw [if_neg h]
    rw [e]
    exact r_marks_out A c i hl (by omega)
theorem mrkZ_filter {W : Int} {l : List Tm} (ht : TbOk W l) (i : Int) : (List.range l.length).filter (mrkZ l i) = prtZ l i := by
  unfold prtZ
  by_cases h : 0 ≤ i ∧ i < (l.length : Int)
  · rw [if_pos h, ← prt_all ht (show i.toNat < l.length by omega)]
    congr 1
    funext q
    unfold mrkZ
    rw [if_pos h]
  · rw [if_neg h, List.filter_eq_nil_iff]
    intro q _ hm
    unfold mrkZ at hm
    rw [if_neg h] at hm
    cases hm
def cntB (f : Nat → Bool) (k : Nat) : Nat := ((List.range k).filter f).length
theorem cntB_succ (f : Nat → Bool) (k : Nat) : cntB f (k + 1) = cntB f k + (if f k = true then 1 else 0) := by
  unfold cntB
  rw [List.range_succ, List.filter_append, List.length_append]
  cases h : f k <;> simp [h]
theorem cntB_le (f : Nat → Bool) (k : Nat) : cntB f k ≤ k := by
  unfold cntB
  have := List.length_filter_le f (List.range k)
  simpa using this
section
variable {w : World} {W : Int} {l : List Tm}
set_option maxRecDepth 100000 in
set_option maxHeartbeats 2000000 in
theorem r_size_any (A : Option Addr) (c : Nat) (i : Int) (hr : TRow w A l) (ht : TbOk W l) (hl : l.length ≤ 1000) : Calls Tryd.prog 15 #[.agg #[.int .i64 W, .slice A l.length c], .int .i64 i] w fun e w' => e = .returned (.int .i64 ((prtZ l i).length : Int)) ∧ Below w.heap.size w w' := by
  have HB1 := Lib.hid ((Below.refl w.heap.size w).alloc (Nat.le_refl _) (.cells #[.int .i64 W, .slice A l.length c] 29))
  have HRB := Lib.hid (show RBox (w.alloc (.cells #[.int .i64 W, .slice A l.length c] 29)) w.heap.size W A l.length c from heap_alloc_new w _)
  have HM := Lib.hid (fun w1 (hb : Below w.heap.size w w1) => r_marks_any (w := w1) A c i (hr.later hb) ht hl)
  have HE := Lib.hid (show cntB (mrkZ l i) l.length = (prtZ l i).length by unfold cntB; rw [mrkZ_filter ht])
  clear hr ht
  go_enter Tryd.func15, Tryd.ntmps15
  go_upto_region 1 with fail
  generalize w.alloc (.cells #[.int .i64 W, .slice A l.length c] 29) = w1 at *
  obtain ⟨r0, r1⟩ := HRB.out.cells
  go_wp2_with (fail)
  refine (HM.out _ HB1.out).mono ?_
  rintro e w2 ⟨b, rfl, hba, hb2⟩
  have HB2 := Lib.hid (HB1.out.trans (hb2.mono HB1.out.size))
  have HBA := Lib.hid hba
  clear hba hb2 r0 r1 HM HRB
  generalize mrkZ l i = f at *
  go_wp2_with (fail)
  go_loopw [5, 7] (fun nv jv wr => ∃ (k : Nat), k ≤ l.length ∧ jv = .int .i64 (k : Int) ∧ nv = .int .i64 ((cntB f k : Nat) : Int) ∧ Hid (wr = w2)) (fun _ jv _ => l.length - (intOf jv).toNat)
  case atStart => exact ⟨0, Nat.zero_le _, rfl, rfl, Lib.hid rfl⟩
  case round =>
    obtain ⟨k, hk, rfl, rfl, hw⟩ := hrel
    have hw2 := hw.out
    clear hw
    subst hw2
    have hc := cntB_le f k
    by_cases hlt : k < l.length
    · have q1 := HBA.out.cell hlt
      have HS := Lib.hid (cntB_succ f k)
      have hnl : ¬ l.length ≤ k := by omega
      have hw1 : IntKind.i64.wrap (((cntB f k : Nat) : Int) + 1) = ((cntB f k : Nat) : Int) + 1 := w64 (by omega)
      cases hf : f k with
      | false =>
        rw [hf] at q1 HS
        clear hf
        have HS := Lib.hid (show cntB f (k + 1) = cntB f k by have := HS.out; simpa using this)
        go_wp2_with (fail)
        exact ⟨⟨k + 1, by omega, by go_num, by rw [HS.out], Lib.hid trivial⟩, by simp [intOf]; omega⟩
      | true =>
        rw [hf] at q1 HS
        clear hf
        have HS := Lib.hid (show cntB f (k + 1) = cntB f k + 1 by have := HS.out; simpa using this)
        go_wp2_with (fail)
        exact ⟨⟨k + 1, by omega, by go_num, by rw [HS.out]; go_num, Lib.hid trivial⟩, by simp [intOf]; omega⟩
    · obtain rfl : k = l.length := by omega
      rw [HE.out]
      go_wp2_with (fail)
      go_ret
      exact ⟨rfl, HB2.out⟩
end
set_option maxRecDepth 100000 in
set_option maxHeartbeats 2000000 in
theorem counting_any (n : Nat) (w : World) (hn : n ≤ 1000) : Calls Tryd.prog 8 #[.int .i64 (n : Int)] w fun e w' => ∃ v, e = .returned v ∧ ZOwn w' w.heap.size v (zl (List.range n)) ∧ Below w.heap.size w w' := by
  have HNIL := Lib.hid (show ZOwn w w.heap.size (.slice none 0 0) (zl (List.range 0)) from World.ownsRow_nil _ _ _ _)
  have HBR := Lib.hid (Below.refl w.heap.size w)
  go_enter Tryd.func8, Tryd.ntmps8
  go_wp2_with (fail)
  go_loopw [3, 6] (fun v jv wr => ∃ (k : Nat), k ≤ n ∧ jv = .int .i64 (k : Int) ∧ Hid (ZOwn wr w.heap.size v (zl (List.range k))) ∧ Hid (Below w.heap.size w wr)) (fun _ jv _ => n - (intOf jv).toNat)
  case atStart => exact ⟨0, Nat.zero_le _, rfl, HNIL, HBR⟩
  case round =>
    obtain ⟨k, hk, rfl, hz, hbw⟩ := hrel
    by_cases hlt : k < n
    · obtain ⟨A, c, hv, _, _⟩ := hz.out.form
      have hlk : (zl (List.range k)).length = k := by rw [zl_len, List.length_range]
      rw [hlk] at hv
      subst hv
      obtain ⟨i0, hi0, hz0, hz1, hz2⟩ := info_parts infoInt
      have hsz := hbw.out.size
      have HOK := Lib.hid (show ∀ b, Value.ownBlock (.slice A k c) = some b → w.heap.size ≤ b from fun b e => (own_block' hz.out e).1)
      have HOA := Lib.hid (show (wr.alloc (.cells #[.int .i64 (k : Int)] 3)).ownsRow w.heap.size 3 1 (.slice A k c) k (zcells (zl (List.range k))) by have := hz.out; unfold ZOwn at this; rw [hlk] at this; exact World.ownsRow.alloc this _)
      have HNB2 := Lib.hid (show ∀ (j : Nat) (u : Value), ([.int .i64 (k : Int)] : List Value)[j]? = some u → (wr.alloc (.cells #[.int .i64 (k : Int)] 3)).cell? ((⟨wr.heap.size, 0, none⟩ : Addr).add j) = some u from World.news_of_block (cs := #[.int .i64 (k : Int)]) (heap_alloc_new wr _))
      have HCS := Lib.hid hsz
      clear hsz
      go_wp2_with (at_builtin; refine wpList_append_own _ rfl _ _ 23 rfl w.heap.size 3 i0 _ 1 8 Tryd.underlying23 hi0 hz0 hz1 hz2 rfl (by decide) _ _ _ rfl HOA.out ⟨wr.heap.size, 0, none⟩ 1 1 [.int .i64 (k : Int)] rfl rfl HNB2.out ?c2 ?c3 ?c4 ?c5 ?_)
      case c2 => intro u hu; simp at hu; subst hu; rfl
      case c3 => unfold maxLen; omega
      case c4 => omega
      case c5 => have := HCS.out; simp; omega
      intro v' w7 hown' hgrow _
      have HZ7 := Lib.hid (show ZOwn w7 w.heap.size v' (zl (List.range (k + 1))) by
        unfold ZOwn
        rw [List.range_succ, zl_append, zcells_append, List.length_append, hlk]
        exact hown')
      have HB7 := Lib.hid (hbw.out.trans (((Below.refl wr.heap.size wr).alloc (Nat.le_refl _) (.cells #[.int .i64 (k : Int)] 3)).mono HCS.out) |>.grown hgrow (by have := HCS.out; simp; omega) (fun b e => HOK.out b e))
      clear hown' hgrow
      go_wp2_with (fail)
      exact ⟨⟨k + 1, by omega, by go_num, HZ7, HB7⟩, by simp [intOf]; omega⟩
    · obtain rfl : k = n := by omega
      go_wp2_with (fail)
      go_ret
      exact ⟨_, rfl, hz.out, hbw.out⟩
set_option maxRecDepth 100000 in
set_option maxHeartbeats 2000000 in
theorem r_ints_same (A B : Option Addr) (c d : Nat) (xs : List Int) (w : World) (hl : xs.length ≤ 1000) (ha : ZRow w.heap.size w A xs) (hb : ZRow w.heap.size w B xs) : Calls Tryd.prog 11 #[.slice A xs.length c, .slice B xs.length d] w fun e w' => e = .returned (.bool true) ∧ Below w.heap.size w w' := by
  have HA := Lib.hid ha
  have HB := Lib.hid hb
  have HBR := Lib.hid (Below.refl w.heap.size w)
  clear ha hb
  go_enter Tryd.func11, Tryd.ntmps11
  go_wp2_with (fail)
  go_loopw [5] (fun jv wr => ∃ (k : Nat), k ≤ xs.length ∧ jv = .int .i64 (k : Int) ∧ Hid (Below w.heap.size w wr)) (fun jv _ => xs.length - (intOf jv).toNat)
  case atStart => exact ⟨0, Nat.zero_le _, rfl, HBR⟩
  case round =>
    obtain ⟨k, hk, rfl, hbw⟩ := hrel
    by_cases hlt : k < xs.length
    · obtain ⟨a, o, rfl, _, hc⟩ := (HA.out.later hbw.out) (by omega)
      obtain ⟨a2, o2, rfl, _, hc2⟩ := (HB.out.later hbw.out) (by omega)
      have q1 := hc k hlt
      have q2 := hc2 k hlt
      have hnl : ¬ xs.length ≤ k := by omega
      generalize xs[k] = y at *
      clear hc hc2
      go_wp2_with (fail)
      go_quiet (fail)
      go_wp2_with (fail)
      exact ⟨⟨k + 1, by omega, by go_num, Lib.hid (hbw.out.trans ((drewN_below wr nq).mono hbw.out.size))⟩, by simp [intOf]; omega⟩
    · obtain rfl : k = xs.length := by omega
      go_wp2_with (fail)
      go_ret
      exact ⟨rfl, hbw.out⟩
end Go.Proofs.YtjgkcicgjnjepaaDoor
