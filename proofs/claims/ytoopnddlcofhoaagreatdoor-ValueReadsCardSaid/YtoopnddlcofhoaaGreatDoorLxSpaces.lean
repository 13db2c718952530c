/- What is proved: plain facts: the words of words that are put together with line feeds are these words. -/
import Derived.Test.YtoopnddlcofhoaaGreatDoorLxRefToks
import Derived.Lib.Join
set_option linter.unusedVariables false
namespace Go.Proofs.YtoopnddlcofhoaaGreatDoor.Lx
open Go.RowKit

theorem fit_end2 (n : Int) (l : List Tok) (k : Nat) (hk : ¬ k < l.length) (h : (l.take k).all (okTok n) = true) : fitB n l = decide (l.length ≤ 4097) := by
  rw [List.take_of_length_le (by omega)] at h
  unfold fitB
  rw [h]
  rfl
set_option maxRecDepth 100000 in
set_option maxHeartbeats 1000000 in
theorem r_fits_any (s : ByteArray) (A : Option Addr) (c : Nat) (l : List Tok) (w : World) (hs : s.size ≤ 1000000) (hl : l.length ≤ 4097) (hr : TokA w A l) :
    Calls Tryz.prog 32 #[.string s, .slice A l.length c] w fun e w' => e = .returned (.bool (fitB s.size l)) ∧ ∃ n, w' = w.drewN n := by
  have HR := Lib.hid hr
  clear hr
  go_enter Tryz.func32, Tryz.ntmps32
  go_wp2_with (fail)
  go_loopw [5] (fun i wr => ∃ k n : Nat, k ≤ l.length ∧ i = .int .i64 (k : Int) ∧ Hid ((l.take k).all (okTok s.size) = true) ∧ wr = w.drewN n) (fun i _ => l.length - (intOf i).toNat)
  case atStart => exact ⟨0, 0, Nat.zero_le _, rfl, rfl, rfl⟩
  case round =>
    obtain ⟨k, n, hk, rfl, hal, rfl⟩ := hrel
    by_cases hlt : k < l.length
    · obtain ⟨b, off, rfl, _, hr⟩ := HR.out (by omega)
      obtain ⟨c1, c2, c3, c4⟩ := hr k hlt
      have HY := Lib.hid (ok_step s.size l k hlt hal.out)
      have HN := Lib.hid (ok_halt s.size l k hlt)
      have HI := Lib.hid (okTok_iff s.size l[k])
      generalize l[k] = t at *
      obtain ⟨kd, p, q, r⟩ := t
      simp only at c1 c2 c3 c4 HI
      clear hr
      by_cases g1 : p < 0
      · have HV := Lib.hid (HN.out (fun h => by have := HI.out.1 h; omega))
        have b1 : decide (p < 0) = true := by simpa using g1
        go_wp2_with (fail)
        go_quiet (fail)
        go_wp2_with (fail)
        go_ret
        exact ⟨ret_bool HV.out.symm, _, by first | rfl | exact World.drewN_drewN _ _ _⟩
      · have b1 : decide (p < 0) = false := by simpa using g1
        by_cases g2 : q < p
        · have HV := Lib.hid (HN.out (fun h => by have := HI.out.1 h; omega))
          have b2 : decide (q < p) = true := by simpa using g2
          go_wp2_with (fail)
          go_quiet (fail)
          go_wp2_with (fail)
          go_ret
          exact ⟨ret_bool HV.out.symm, _, by first | rfl | exact World.drewN_drewN _ _ _⟩
        · have b2 : decide (q < p) = false := by simpa using g2
          by_cases g3 : r < q
          · have HV := Lib.hid (HN.out (fun h => by have := HI.out.1 h; omega))
            have b3 : decide (r < q) = true := by simpa using g3
            go_wp2_with (fail)
            go_quiet (fail)
            go_wp2_with (fail)
            go_ret
            exact ⟨ret_bool HV.out.symm, _, by first | rfl | exact World.drewN_drewN _ _ _⟩
          · have b3 : decide (r < q) = false := by simpa using g3
            by_cases g4 : (s.size : Int) < r
            · have HV := Lib.hid (HN.out (fun h => by have := HI.out.1 h; omega))
              have b4 : decide ((s.size : Int) < r) = true := by simpa using g4
              go_wp2_with (fail)
              go_quiet (fail)
              go_wp2_with (fail)
              go_ret
              exact ⟨ret_bool HV.out.symm, _, by first | rfl | exact World.drewN_drewN _ _ _⟩
            · have HV := Lib.hid (HY.out (HI.out.2 (by omega)))
              have b4 : decide ((s.size : Int) < r) = false := by simpa using g4
              go_wp2_with (fail)
              go_quiet (fail)
              go_wp2_with (fail)
              exact ⟨⟨k + 1, _, by omega, by go_num, HV, by first | rfl | exact World.drewN_drewN _ _ _⟩, by simp [intOf]; omega⟩
    · have HV := Lib.hid (fit_end2 s.size l k hlt hal.out)
      have hd : decide (l.length ≤ 4097) = true := by simpa using hl
      rw [hd] at HV
      clear hd
      go_wp2_with (fail)
      go_ret
      exact ⟨ret_bool (by rw [HV.out]; simp <;> omega), _, rfl⟩
set_option maxRecDepth 100000 in
set_option maxHeartbeats 400000 in
theorem r_words_bad (s : ByteArray) (A : Option Addr) (c : Nat) (l : List Tok) (w : World) (hs : s.size ≤ 1000000) (hl : l.length ≤ 4097) (hr : TokA w A l) (hf : fitB s.size l = false) :
    Calls Tryz.prog 12 #[.string s, .slice A l.length c] w fun e w' => e = .returned (.slice none 0 0) ∧ Below w.heap.size w w' := by
  have HF := Lib.hid (r_fits_any s A c l w hs hl hr)
  rw [hf] at HF
  clear hf hr
  go_enter Tryz.func12, Tryz.ntmps12
  go_wp2_with (fail)
  refine HF.out.mono ?_
  rintro e w1 ⟨rfl, n, rfl⟩
  go_wp2_with (fail)
  go_ret
  exact ⟨rfl, below_drewN (Below.refl _ _) n⟩
set_option maxRecDepth 100000 in
set_option maxHeartbeats 1000000 in
theorem r_words_good (s : ByteArray) (A : Option Addr) (c : Nat) (l : List Tok) (w : World) (hs : s.size ≤ 1000000) (hr : TokA w A l) (hf : fitB s.size l = true) :
    Calls Tryz.prog 12 #[.string s, .slice A l.length c] w fun e w' => ∃ v, e = .returned v ∧ w'.ownsRow w.heap.size 9 1 v l.length (scells (l.map (word s))) ∧ Below w.heap.size w w' := by
  obtain ⟨i0, hi0, hz0, hz1, hz2⟩ := info_parts infoStr
  have hlen := fit_len _ _ hf
  have HG := Lib.hid (fit_get _ _ hf)
  have HF := Lib.hid (r_fits_any s A c l w hs hlen hr)
  rw [hf] at HF
  have HR := Lib.hid hr
  clear hf hr
  go_enter Tryz.func12, Tryz.ntmps12
  go_wp2_with (fail)
  refine HF.out.mono ?_
  rintro e w1 ⟨rfl, n0, rfl⟩
  go_wp2_with (fail)
  have HM0 := Lib.hid (World.ownsRow_made (base := w.heap.size) (e := 9) (size := 1) (w.drewN n0) #[] 0 (Nat.le_refl _) (by unfold maxLen; omega) rfl)
  have HB0 := Lib.hid ((below_drewN (Below.refl w.heap.size w) n0).alloc (Nat.le_refl _) (.cells #[] 9))
  go_loopw [5, 6] (fun v i wr => ∃ k : Nat, k ≤ l.length ∧ i = .int .i64 (k : Int) ∧ Hid (wr.ownsRow w.heap.size 9 1 v k (scells ((l.map (word s)).take k))) ∧ Hid (Below w.heap.size w wr)) (fun _ i _ => l.length - (intOf i).toNat)
  case atStart => exact ⟨0, Nat.zero_le _, rfl, HM0, HB0⟩
  case round =>
    obtain ⟨k, hk, rfl, hown, hbw⟩ := hrel
    by_cases hlt : k < l.length
    · obtain ⟨b, off, rfl, hb, hr0⟩ := HR.out (by omega)
      have hr := hr0.below hbw.out hb
      obtain ⟨c1, c2, c3, c4⟩ := hr k hlt
      obtain ⟨g1, g2, g3, g4⟩ := HG.out k hlt
      have HW := Lib.hid (words_step s l k hlt)
      clear hr hr0
      have hbz := hbw.out.size
      have hwd : word s l[k] = s.extract l[k].at_.toNat l[k].hi.toNat := rfl
      generalize l[k] = t at *
      obtain ⟨kd, lo, ta, th⟩ := t
      simp only at c1 c2 c3 c4 g1 g2 g3 g4 hwd
      obtain ⟨p, rfl⟩ := Int.eq_ofNat_of_zero_le (show 0 ≤ ta by omega)
      obtain ⟨q, rfl⟩ := Int.eq_ofNat_of_zero_le (show 0 ≤ th by omega)
      simp only [Int.toNat_natCast] at hwd
      have HD := Lib.hid hwd
      have HO := Lib.hid hown.out
      have o1 := hown.out.lt
      have hne : u5.ownBlock ≠ some b := fun e => by have := (o1 _ e).1; omega
      have x1 : p ≤ q := by omega
      have x2 : q ≤ s.size := by omega
      have k1 : (0 : Int) ≤ (k : Int) := by omega
      have k2 : (k : Int) < (l.length : Int) := by omega
      have hcap1 : k + 1 ≤ maxLen := by unfold maxLen; omega
      have hcap2 : (k + 1) * 16 ≤ 140737488355328 := by omega
      have HOL := Lib.hid o1
      clear hwd g2 g3 g4 o1
      go_wp2_with (fail)
      go_region_held3 (fun w' => w'.cell? ⟨b, off + k * 4 + 2, none⟩ = some (.int .i64 (p : Int)) ∧ w'.cell? ⟨b, off + k * 4 + 3, none⟩ = some (.int .i64 (q : Int))) (first | go_keep | (go_split_ands; (refine ⟨?_, ?_⟩ <;> (rw [hgrow.cell_far _ (by simp <;> omega) (Ne.symm hne)]; assumption)))) ((refine step_append_lies _ (by rfl) _ _ _ (by rfl) w.heap.size 9 i0 _ 1 16 Tryz.underlying38 hi0 hz0 hz1 hz2 rfl (by omega) u5 k (scells ((l.map (word s)).take k)) (by rfl) ((HO.out.alloc _).drew) ⟨wr.heap.size, 0, none⟩ 1 1 [.string (s.extract p q)] (by rfl) (by rfl) (World.news_of_block (cs := #[.string (s.extract p q)]) (t := 9) (fr := (0, 0)) (heap_new1 wr _)) (by simp [Value.oneCell']) (by omega) hcap1 hcap2 (by simp; omega) (wr.heap.size + 1) (by simp) ?_; intro gg cap w2 hown1 hgrow hat hltg))
      have B3 := Lib.hid (((hbw.out.alloc hbz (.cells #[.string (s.extract p q)] 9)).drew).grown hgrow (by simp; omega) (fun g hg => (HOL.out g hg).1))
      have O3 : Hid (w2.ownsRow w.heap.size 9 1 (.slice (some ⟨gg, 0, none⟩) (k + 1) cap) (k + 1) (scells ((l.map (word s)).take (k + 1)))) := by
        rw [HW.out, HD.out]
        unfold scells
        rw [List.map_append]
        exact hown1
      clear hown1 hgrow hat hltg hcap1 hcap2
      go_wp2_with (fail)
      exact ⟨⟨k + 1, by omega, by go_num, O3, B3⟩, by simp [intOf]; omega⟩
    · have HO := Lib.hid hown.out
      obtain rfl : k = l.length := by omega
      go_wp2_with (fail)
      go_ret
      have h := HO.out
      rw [show (l.map (word s)).take l.length = l.map (word s) from List.take_of_length_le (by simp)] at h
      exact ⟨_, rfl, h, hbw.out⟩
theorem r_words_any (s : ByteArray) (A : Option Addr) (c : Nat) (l : List Tok) (w : World) (hs : s.size ≤ 1000000) (hl : l.length ≤ 4097) (hr : TokA w A l) :
    Calls Tryz.prog 12 #[.string s, .slice A l.length c] w fun e w' => ∃ A' c', e = .returned (.slice A' (words s l).length c') ∧ StrA w' A' (words s l) ∧ Below w.heap.size w w' := by
  cases hf : fitB s.size l with
  | true =>
    refine (r_words_good s A c l w hs hr hf).mono fun e w' he => ?_
    obtain ⟨v, h1, h2, h3⟩ := he
    rw [← List.length_map (f := word s)] at h2
    obtain ⟨A', c', hv, hr'⟩ := strs_own h2
    have e : words s l = l.map (word s) := if_pos hf
    rw [e]
    exact ⟨A', c', by rw [h1, hv], hr', h3⟩
  | false =>
    have e : words s l = [] := if_neg (by simp [hf])
    rw [e]
    exact (r_words_bad s A c l w hs hl hr hf).mono fun e w' he => ⟨none, 0, he.1, StrA.nil _ _, he.2⟩
end Go.Proofs.YtoopnddlcofhoaaGreatDoor.Lx
set_option linter.unusedVariables false
namespace Go.Proofs.YtoopnddlcofhoaaGreatDoor.Lx
open Go.RowKit

theorem at_out (l : List UInt8) (i : Nat) (h : l.length ≤ i) : at_ l i = 0 := by
  unfold at_
  rw [List.getD_eq_getElem?_getD, List.getElem?_eq_none h]
  rfl
theorem at_left (l m : List UInt8) (i : Nat) (h : i < l.length) : at_ (l ++ m) i = at_ l i := by
  unfold at_
  rw [List.getD_eq_getElem?_getD, List.getD_eq_getElem?_getD, List.getElem?_append_left h]
theorem at_right (l m : List UInt8) (i : Nat) : at_ (l ++ m) (l.length + i) = at_ m i := by
  unfold at_
  rw [List.getD_eq_getElem?_getD, List.getD_eq_getElem?_getD, List.getElem?_append_right (by omega)]
  congr 2
  omega
/-- where a run ends, told by its bytes -/
theorem whl_is (p : Nat → Bool) : ∀ f i e, i ≤ e → e ≤ i + f → (∀ j, i ≤ j → j < e → p j = true) → (e < i + f → p e = false) → whl p f i = e := by
  intro f
  induction f with
  | zero => intro i e h1 h2 _ _; simp only [whl]; omega
  | succ f ih =>
    intro i e h1 h2 h3 h4
    unfold whl
    by_cases he : i = e
    · subst he
      rw [h4 (by omega)]
      rfl
    · rw [h3 i (Nat.le_refl _) (by omega), if_pos rfl]
      exact ih (i + 1) e (by omega) (by omega) (fun j a b => h3 j (by omega) b) (fun h => h4 (by omega))
theorem run_is (l : List UInt8) (p : UInt8 → Bool) (i e : Nat) (h1 : i ≤ e) (h2 : e ≤ l.length) (h3 : ∀ j, i ≤ j → j < e → p (at_ l j) = true) (h4 : e < l.length → p (at_ l e) = false) : run l p i = e :=
  whl_is _ _ _ _ h1 (by omega) h3 (fun h => h4 (by omega))
theorem run_all (l : List UInt8) (p : UInt8 → Bool) (i j : Nat) (h1 : i ≤ j) (h2 : j < run l p i) : p (at_ l j) = true := whl_all (fun j => p (at_ l j)) _ i j h1 h2
theorem run_stop (l : List UInt8) (p : UInt8 → Bool) (i : Nat) (hi : i ≤ l.length) (h : run l p i < l.length) : p (at_ l (run l p i)) = false := whl_stop (fun j => p (at_ l j)) _ i (by unfold run at h; omega)
theorem white_not (b : UInt8) (h : white b = true) : inName b = false ∧ digit b = false ∧ letter b = false ∧ b ≠ 61 ∧ symB b = false := by
  unfold white at h
  simp only [Bool.or_eq_true, beq_iff_eq] at h
  rcases h with ((h | h) | h) | h <;> subst h <;> decide
theorem wrong_white (l : List UInt8) (i : Nat) (h : white (at_ l i) = true) : wrongAt l i = false := by
  unfold wrongAt
  rw [h]
  rfl
/-- a token of l at i stands in m at i', if the same bytes stand there and what follows them ends it -/
theorem two_move (l m : List UInt8) (i i' : Nat) (h0 : at_ m i' = at_ l i) (h1 : at_ m (i' + 1) = 61 ↔ at_ l (i + 1) = 61) : two m i' = two l i := by
  have a : ∀ (x : List UInt8) (k : Nat), (at_ x (k + 1) = 61 ∧ k + 1 < x.length) ↔ at_ x (k + 1) = 61 := by
    intro x k
    constructor
    · exact fun h => h.1
    · intro h
      refine ⟨h, ?_⟩
      rcases Nat.lt_or_ge (k + 1) x.length with h' | h'
      · exact h'
      · rw [at_out x _ h'] at h
        exact absurd h (by decide)
  have b : ∀ (x : List UInt8) (k : Nat), two x k = (decide (at_ x (k + 1) = 61) && (at_ x k == 61 || at_ x k == 33 || at_ x k == 60 || at_ x k == 62)) := by
    intro x k
    have := a x k
    unfold two
    by_cases h : at_ x (k + 1) = 61
    · have h2 := (this.2 h).2
      simp [h, h2]
    · simp [h]
  rw [b, b, h0]
  congr 1
  exact decide_eq_decide.2 h1
theorem sym_move (l m : List UInt8) (i i' : Nat) (h0 : at_ m i' = at_ l i) (h1 : at_ m (i' + 1) = 61 ↔ at_ l (i + 1) = 61) : sym m i' = sym l i := by
  unfold sym
  rw [two_move l m i i' h0 h1, h0]
theorem wrong_move (l m : List UInt8) (i i' : Nat) (h0 : at_ m i' = at_ l i) (h1 : at_ m (i' + 1) = 61 ↔ at_ l (i + 1) = 61) : wrongAt m i' = wrongAt l i := by
  unfold wrongAt
  rw [sym_move l m i i' h0 h1, h0]
theorem wrong_sym0 (l : List UInt8) (i : Nat) (h : wrongAt l i = true) : sym l i = 0 := by
  unfold wrongAt at h
  simp at h
  exact h.2
theorem wrongTo_bd (l : List UInt8) (i : Nat) (hi : i ≤ l.length) : i ≤ wrongTo l i ∧ wrongTo l i ≤ l.length := by
  have := whl_bd (wrongAt l) (l.length - i) i
  unfold wrongTo
  omega
theorem take_drop_eq (l m : List UInt8) (i i' n : Nat) (hl : i + n ≤ l.length) (hm : i' + n ≤ m.length) (hag : ∀ j, j < n → at_ m (i' + j) = at_ l (i + j)) : (m.take (i' + n)).drop i' = (l.take (i + n)).drop i := by
  apply List.ext_getElem
  · simp
    omega
  · intro j h1 h2
    have hj : j < n := by simp at h1; omega
    have := hag j hj
    unfold at_ at this
    rw [List.getD_eq_getElem?_getD, List.getD_eq_getElem?_getD, List.getElem?_eq_getElem (by omega), List.getElem?_eq_getElem (by omega)] at this
    simpa using this
/-- what follows ends every token that it ended before -/
def Ends (l m : List UInt8) (e e' : Nat) : Prop := e' < m.length → white (at_ m e') = true ∨ (e < l.length ∧ at_ m e' = at_ l e ∧ (wrongAt l e = false → wrongAt m e' = false))
theorem tokAt_move (l m : List UInt8) (i i' n k : Nat) (h : tokAt l i = (k, i + n)) (hn : 0 < n) (hl : i + n ≤ l.length) (hm : i' + n ≤ m.length)
    (hag : ∀ j, j < n → at_ m (i' + j) = at_ l (i + j)) (hC : Ends l m (i + n) (i' + n)) : tokAt m i' = (k, i' + n) := by
  have hz : at_ m i' = at_ l i := hag 0 hn
  have eqm := take_drop_eq l m i i' n hl hm hag
  have go : ∀ (p : UInt8 → Bool), (∀ b, white b = true → p b = false) → run l p i = i + n → run m p i' = i' + n := by
    intro p hp hr
    refine run_is m p i' (i' + n) (by omega) hm ?_ ?_
    · intro j h1 h2
      have e := hag (j - i') (by omega)
      rw [show i' + (j - i') = j from by omega] at e
      rw [e]
      exact run_all l p i _ (by omega) (by omega)
    · intro hlt
      rcases hC hlt with hw | ⟨h1, h2, _⟩
      · exact hp _ hw
      · rw [h2, ← hr]
        exact run_stop l p i (by omega) (by omega)
  unfold tokAt at h ⊢
  rw [if_neg (by omega)] at h
  rw [if_neg (by omega), hz]
  by_cases c1 : letter (at_ l i) = true
  · rw [if_pos c1] at h ⊢
    have hr : run l inName i = i + n := (Prod.mk.inj h).2
    have hk := (Prod.mk.inj h).1
    rw [hr] at hk
    rw [go inName (fun b hb => (white_not b hb).1) hr, eqm, hk]
  · rw [if_neg c1] at h ⊢
    by_cases c2 : digit (at_ l i) = true
    · rw [if_pos c2] at h ⊢
      have hr : run l digit i = i + n := (Prod.mk.inj h).2
      have hk := (Prod.mk.inj h).1
      rw [go digit (fun b hb => (white_not b hb).2.1) hr, hk]
    · rw [if_neg c2] at h ⊢
      have nxt : n = 1 → (at_ m (i' + 1) = 61 → at_ l (i + 1) = 61) := by
        intro h1 h61
        have hlt : i' + n < m.length := by
          rcases Nat.lt_or_ge (i' + n) m.length with h' | h'
          · exact h'
          · rw [at_out m (i' + 1) (by omega)] at h61
            exact absurd h61 (by decide)
        subst h1
        rcases hC hlt with hw | ⟨_, h2, _⟩
        · rw [h61] at hw
          exact absurd hw (by decide)
        · rw [← h2]; exact h61
      by_cases c3 : 0 < sym l i
      · rw [if_pos c3] at h
        have hs : sym l i = n := by have := (Prod.mk.inj h).2; omega
        have hk := (Prod.mk.inj h).1
        have e : sym m i' = sym l i := by
          unfold sym at hs ⊢
          by_cases t : two l i = true
          · rw [if_pos t] at hs ⊢
            have t2 : two m i' = true := by
              unfold two at t ⊢
              have e1 := hag 1 (by omega)
              rw [e1, hz]
              simp only [Bool.and_eq_true, decide_eq_true_eq] at t ⊢
              exact ⟨t.1, by omega⟩
            rw [if_pos t2]
          · rw [if_neg t] at hs ⊢
            have n1 : n = 1 := by split at hs <;> omega
            have t2 : two m i' = false := by
              cases q : two m i' with
              | false => rfl
              | true =>
                refine absurd ?_ t
                unfold two at q ⊢
                simp only [Bool.and_eq_true, decide_eq_true_eq, beq_iff_eq] at q ⊢
                have x := nxt n1 q.1.1
                refine ⟨⟨x, by rw [← hz]; exact q.1.2⟩, ?_⟩
                rcases Nat.lt_or_ge (i + 1) l.length with h' | h'
                · exact h'
                · rw [at_out l _ h'] at x
                  exact absurd x (by decide)
            rw [t2, hz]
            rfl
        rw [e, if_pos c3, hs, hk]
      · rw [if_neg c3] at h
        have hw : wrongTo l i = i + n := (Prod.mk.inj h).2
        have hk := (Prod.mk.inj h).1
        have all : ∀ j, i ≤ j → j < i + n → wrongAt l j = true := fun j h1 h2 => whl_all (wrongAt l) (l.length - i) i j h1 (by unfold wrongTo at hw; omega)
        have each : ∀ j, j < n → wrongAt m (i' + j) = true := by
          intro j hj
          have hb := all (i + j) (by omega) (by omega)
          by_cases hj1 : j + 1 < n
          · rw [wrong_move l m (i + j) (i' + j) (hag j hj) (by rw [show i' + j + 1 = i' + (j + 1) from by omega, show i + j + 1 = i + (j + 1) from by omega, hag (j + 1) hj1])]
            exact hb
          · -- the last byte: what follows is no equals sign that was not there
            have hjn : j + 1 = n := by omega
            have s0 := wrong_sym0 l _ hb
            have sm : sym m (i' + j) = 0 := by
              unfold sym at s0 ⊢
              by_cases t : two l (i + j) = true
              · rw [if_pos t] at s0; omega
              · rw [if_neg t] at s0
                have t2 : two m (i' + j) = false := by
                  cases q : two m (i' + j) with
                  | false => rfl
                  | true =>
                    refine absurd ?_ t
                    unfold two at q ⊢
                    simp only [Bool.and_eq_true, decide_eq_true_eq, beq_iff_eq] at q ⊢
                    have hlt : i' + n < m.length := by omega
                    have q1 := q.1.1
                    rw [show i' + j + 1 = i' + n from by omega] at q1
                    rcases hC hlt with hw' | ⟨h1, h2, _⟩
                    · rw [q1] at hw'
                      exact absurd hw' (by decide)
                    · refine ⟨⟨by rw [show i + j + 1 = i + n from by omega, ← h2]; exact q1, by rw [← hag j hj]; exact q.1.2⟩, by omega⟩
                rw [t2, hag j hj]
                exact s0
            unfold wrongAt at hb ⊢
            rw [hag j hj, sm]
            rw [s0] at hb
            exact hb
        have sm0 : sym m i' = 0 := wrong_sym0 m i' (each 0 hn)
        rw [if_neg (by omega), hk]
        refine Prod.ext rfl ?_
        show whl (wrongAt m) (m.length - i') i' = i' + n
        refine whl_is _ _ _ _ (by omega) (by omega) ?_ ?_
        · intro j h1 h2
          have := each (j - i') (by omega)
          rwa [show i' + (j - i') = j from by omega] at this
        · intro hlt
          rcases hC (by omega) with hw' | ⟨h1, h2, h3⟩
          · exact wrong_white m _ hw'
          · apply h3
            rw [← hw]
            exact whl_stop (wrongAt l) (l.length - i) i (by unfold wrongTo at hw; omega)
/-- a front of bytes only moves the tokens -/
theorem run_shift (p u : List UInt8) (q : UInt8 → Bool) (i : Nat) (hi : i ≤ u.length) : run (p ++ u) q (p.length + i) = p.length + run u q i := by
  have b := run_bd u q i hi
  refine run_is _ _ _ _ (by omega) (by simp; omega) ?_ ?_
  · intro j h1 h2
    rw [show j = p.length + (j - p.length) from by omega, at_right]
    exact run_all u q i _ (by omega) (by omega)
  · intro h
    rw [at_right]
    exact run_stop u q i hi (by simp at h; omega)
theorem blk_shift (p u : List UInt8) : ∀ f i, i ≤ u.length → blk (p ++ u) f (p.length + i) = p.length + blk u f i := by
  intro f
  induction f with
  | zero => intro i _; rfl
  | succ f ih =>
    intro i hi
    have b := run_bd u white i hi
    have c := run_bd u notNl _ b.2
    rw [blk_step, blk_step, run_shift p u white i hi, at_right, run_shift p u notNl _ b.2]
    by_cases h : run u white i = u.length ∨ at_ u (run u white i) ≠ 35
    · rw [if_pos h, if_pos]
      rcases h with h | h
      · left; simp; omega
      · right; exact h
    · rw [if_neg h, if_neg, ih _ c.2]
      intro h'
      apply h
      rcases h' with h' | h'
      · left; simp at h'; omega
      · right; exact h'
theorem blank_shift (p u : List UInt8) (i : Nat) (hi : i ≤ u.length) : blank (p ++ u) (p.length + i) = p.length + blank u i := by
  unfold blank
  rw [← blk_more (p ++ u) (u.length + 1 + p.length) (p.length + i) (by simp; omega) (by simp; omega), blk_shift p u _ i hi, blk_more u _ i hi (by omega)]
theorem wrong_shift (p u : List UInt8) (i : Nat) : wrongAt (p ++ u) (p.length + i) = wrongAt u i :=
  wrong_move u (p ++ u) i (p.length + i) (at_right p u i) (by rw [show p.length + i + 1 = p.length + (i + 1) from by omega, at_right])
theorem tokAt_shift (p u : List UInt8) (i : Nat) (hi : i ≤ u.length) (hw : i < u.length → white (at_ u i) = false ∧ at_ u i ≠ 35) : tokAt (p ++ u) (p.length + i) = ((tokAt u i).1, p.length + (tokAt u i).2) := by
  by_cases h : i = u.length
  · unfold tokAt
    rw [if_pos (by simp; omega), if_pos h]
  · have hlt : i < u.length := by omega
    have hm := tokAt_more u i hlt (hw hlt).1 (hw hlt).2
    have hb := tokAt_bd u i hi
    have e := tokAt_move u (p ++ u) i (p.length + i) ((tokAt u i).2 - i) (tokAt u i).1 (by rw [show i + ((tokAt u i).2 - i) = (tokAt u i).2 from by omega]) (by omega) (by omega) (by simp; omega)
      (fun j hj => by rw [show p.length + i + j = p.length + (i + j) from by omega, at_right])
      (fun hh => .inr ⟨by simp at hh; omega, by rw [show p.length + i + ((tokAt u i).2 - i) = p.length + (i + ((tokAt u i).2 - i)) from by omega, at_right], fun hx => by rw [show p.length + i + ((tokAt u i).2 - i) = p.length + (i + ((tokAt u i).2 - i)) from by omega, wrong_shift]; exact hx⟩)
    rw [e]
    refine Prod.ext rfl ?_
    simp only
    omega
def shiftT (n : Nat) (t : Tok) : Tok := ⟨t.kind, t.lo + n, t.at_ + n, t.hi + n⟩
theorem nextTok_shift (p u : List UInt8) (i : Nat) (hi : i ≤ u.length) : nextTok (p ++ u) (p.length + i) = shiftT p.length (nextTok u i) := by
  have b := blank_bd u i hi
  unfold nextTok shiftT
  rw [blank_shift p u i hi, tokAt_shift p u (blank u i) b.2 (blank_stop u i hi)]
  simp only [Tok.mk.injEq, true_and]
  refine ⟨?_, ?_, ?_⟩ <;> omega
theorem scanTo_shift (p u : List UInt8) : ∀ f i, i ≤ u.length → scanTo (p ++ u) f (p.length + i) = (scanTo u f i).map (shiftT p.length) := by
  intro f
  induction f with
  | zero => intro i _; rfl
  | succ f ih =>
    intro i hi
    have b := nextTok_bd u i hi
    rw [scanTo_step, scanTo_step, nextTok_shift p u i hi, List.map_cons]
    congr 1
    have k : (shiftT p.length (nextTok u i)).kind = (nextTok u i).kind := rfl
    have e : (shiftT p.length (nextTok u i)).hi.toNat = p.length + (nextTok u i).hi.toNat := by
      show ((nextTok u i).hi + (p.length : Int)).toNat = _
      omega
    rw [k, e]
    split
    · rfl
    · exact ih _ (by omega)
theorem blank_here (l : List UInt8) (i : Nat) (h : i < l.length → white (at_ l i) = false ∧ at_ l i ≠ 35) (hi : i ≤ l.length) : blank l i = i := by
  have e : run l white i = i := run_is l white i i (Nat.le_refl _) hi (fun j a b => by omega) (fun a => (h a).1)
  unfold blank
  rw [blk_step, e, if_pos]
  by_cases hh : i = l.length
  · exact .inl hh
  · exact .inr (h (by omega)).2
/-- blanks of a, seen in a ++ line feed ++ b -/
theorem blk_parts (a b : List UInt8) : ∀ f i, i ≤ a.length → a.length - i < f → blank (a ++ 10 :: b) i = if blk a f i < a.length then blk a f i else blank (a ++ 10 :: b) (a.length + 1) := by
  intro f
  induction f with
  | zero => intro i h1 h2; omega
  | succ f ih =>
    intro i h1 h2
    have hc : (a ++ 10 :: b).length = a.length + 1 + b.length := by simp; omega
    have h10 : at_ (a ++ 10 :: b) a.length = 10 := at_right a (10 :: b) 0
    have r := run_bd a white i h1
    have re : run (a ++ 10 :: b) white i = if run a white i < a.length then run a white i else run (a ++ 10 :: b) white (a.length + 1) := by
      split
      · rename_i hlt
        refine run_is _ _ _ _ r.1 (by omega) ?_ ?_
        · intro j x y
          rw [at_left _ _ _ (by omega)]
          exact run_all a white i j x y
        · intro _
          rw [at_left _ _ _ hlt]
          exact run_stop a white i h1 hlt
      · rename_i hge
        have q := run_bd (a ++ 10 :: b) white (a.length + 1) (by omega)
        refine run_is _ _ _ _ (by omega) q.2 ?_ ?_
        · intro j x y
          by_cases jl : j < a.length
          · rw [at_left _ _ _ jl]
            exact run_all a white i j x (by omega)
          · by_cases je : j = a.length
            · rw [je, h10]; rfl
            · exact run_all _ white (a.length + 1) j (by omega) y
        · intro x
          exact run_stop _ white (a.length + 1) (by omega) x
    have bs := blk_step a f i
    by_cases hlt : run a white i < a.length
    · rw [if_pos hlt] at re
      have e35 : at_ (a ++ 10 :: b) (run a white i) = at_ a (run a white i) := at_left _ _ _ hlt
      by_cases h35 : at_ a (run a white i) = 35
      · have n35 : ¬ (run a white i = a.length ∨ at_ a (run a white i) ≠ 35) := by
          rintro (h | h)
          · omega
          · exact h h35
        have n35' : ¬ (run a white i = (a ++ 10 :: b).length ∨ at_ a (run a white i) ≠ 35) := by
          rintro (h | h)
          · omega
          · exact h h35
        rw [if_neg n35] at bs
        have y := run_yes a notNl (run a white i) hlt (by rw [h35]; rfl)
        have z := run_bd a notNl (run a white i) r.2
        have ne : run (a ++ 10 :: b) notNl (run a white i) = run a notNl (run a white i) := by
          refine run_is _ _ _ _ z.1 (by omega) ?_ ?_
          · intro j x x'
            rw [at_left _ _ _ (by omega)]
            exact run_all a notNl _ j x x'
          · intro _
            by_cases e : run a notNl (run a white i) < a.length
            · rw [at_left _ _ _ e]
              exact run_stop a notNl _ r.2 e
            · rw [show run a notNl (run a white i) = a.length from by omega, h10]
              rfl
        have := ih (run a notNl (run a white i)) z.2 (by omega)
        rw [bs, ← this]
        unfold blank
        rw [blk_step, re, e35, if_neg n35', ne]
        exact blk_more _ _ _ (by omega) (by omega)
      · have p35 : run a white i = a.length ∨ at_ a (run a white i) ≠ 35 := Or.inr h35
        have p35' : run a white i = (a ++ 10 :: b).length ∨ at_ a (run a white i) ≠ 35 := Or.inr h35
        rw [if_pos p35] at bs
        rw [bs, if_pos hlt]
        unfold blank
        rw [blk_step, re, e35, if_pos p35']
    · rw [if_neg hlt] at re
      have p35 : run a white i = a.length ∨ at_ a (run a white i) ≠ 35 := Or.inl (by omega)
      rw [if_pos p35] at bs
      rw [bs, if_neg hlt]
      unfold blank
      rw [blk_step, blk_step, re]
theorem tokAt_parts (a b : List UInt8) (i : Nat) (hi : i < a.length) (hw : white (at_ a i) = false) (h35 : at_ a i ≠ 35) : tokAt (a ++ 10 :: b) i = tokAt a i := by
  have hm := tokAt_more a i hi hw h35
  have hb := tokAt_bd a i (by omega)
  have h10 : at_ (a ++ 10 :: b) a.length = 10 := at_right a (10 :: b) 0
  have e := tokAt_move a (a ++ 10 :: b) i i ((tokAt a i).2 - i) (tokAt a i).1 (by rw [show i + ((tokAt a i).2 - i) = (tokAt a i).2 from by omega]) (by omega) (by omega) (by simp; omega)
    (fun j hj => at_left _ _ _ (by omega))
    (fun hh => by
      by_cases hq : i + ((tokAt a i).2 - i) < a.length
      · refine .inr ⟨hq, at_left _ _ _ hq, fun hx => ?_⟩
        rw [wrong_move a (a ++ 10 :: b) _ _ (at_left _ _ _ hq)]
        · exact hx
        · generalize i + ((tokAt a i).2 - i) = q at *
          by_cases q1 : q + 1 < a.length
          · rw [at_left _ _ _ q1]
          · have e1 : q + 1 = a.length := by omega
            rw [e1, h10, at_out a _ (Nat.le_refl _)]
            decide
      · left
        rw [show i + ((tokAt a i).2 - i) = a.length from by omega, h10]
        rfl)
  rw [e]
  refine Prod.ext rfl ?_
  simp only
  omega
/-- tokens with the same kinds and bytes, n places on -/
def Fol (n : Nat) (z y : List Tok) : Prop := z.length = y.length ∧ ∀ (j : Nat) (h1 : j < z.length) (h2 : j < y.length), z[j].kind = y[j].kind ∧ z[j].at_ = y[j].at_ + n ∧ z[j].hi = y[j].hi + n
theorem fol_map (n : Nat) (y : List Tok) : Fol n (y.map (shiftT n)) y := by
  refine ⟨by simp, fun j h1 h2 => ?_⟩
  rw [List.getElem_map]
  exact ⟨rfl, rfl, rfl⟩
theorem fol_head (n : Nat) (t t' : Tok) (z y : List Tok) (h : Fol n (t :: z) y) (h1 : t'.kind = t.kind) (h2 : t'.at_ = t.at_) (h3 : t'.hi = t.hi) : Fol n (t' :: z) y := by
  refine ⟨by simpa using h.1, fun j a b => ?_⟩
  cases j with
  | zero =>
    have := h.2 0 (by simp) b
    simp only [List.getElem_cons_zero] at this ⊢
    rw [h1, h2, h3]
    exact this
  | succ j =>
    have := h.2 (j + 1) (by simpa using a) b
    simpa using this
theorem scanTo_parts (a b : List UInt8) : ∀ f g i, i ≤ a.length → a.length - i < f → (a ++ 10 :: b).length - i < g → ∃ z, scanTo (a ++ 10 :: b) g i = (scanTo a f i).dropLast ++ z ∧ Fol (a.length + 1) z (scan b) := by
  have hc : (a ++ 10 :: b).length = a.length + 1 + b.length := by simp; omega
  have hsplit : a ++ 10 :: b = (a ++ [10]) ++ b := by simp
  have hl1 : (a ++ [10]).length = a.length + 1 := by simp
  intro f
  induction f with
  | zero => intro g i h1 h2; omega
  | succ f ih =>
    intro g i h1 h2 h3
    obtain ⟨g, rfl⟩ : ∃ g', g = g' + 1 := ⟨g - 1, by omega⟩
    have bd := blank_bd a i h1
    have bp : blank (a ++ 10 :: b) i = if blank a i < a.length then blank a i else blank (a ++ 10 :: b) (a.length + 1) := blk_parts a b (a.length + 1) i h1 (by omega)
    have nb := nextTok_bd a i h1
    have nm := nextTok_more a i h1
    have ne := nextTok_end a i h1
    rw [scanTo_step a]
    by_cases he : blank a i = a.length
    · -- the end of a: the tokens of b follow
      rw [if_pos (ne.2 he)]
      refine ⟨scanTo (a ++ 10 :: b) (g + 1) i, by simp, ?_⟩
      have e : blank (a ++ 10 :: b) i = blank (a ++ 10 :: b) (a.length + 1) := by
        rw [bp, if_neg (by omega)]
      have hsh : scanTo (a ++ 10 :: b) (g + 1) (a.length + 1) = (scanTo b (g + 1) 0).map (shiftT (a.length + 1)) := by
        have := scanTo_shift (a ++ [10]) b (g + 1) 0 (Nat.zero_le _)
        rw [← hsplit, hl1] at this
        simpa using this
      have hf : scanTo b (g + 1) 0 = scan b := scanTo_fuel b _ _ 0 (Nat.zero_le _) (by omega) (by omega)
      rw [hf] at hsh
      have F : Fol (a.length + 1) (scanTo (a ++ 10 :: b) (g + 1) (a.length + 1)) (scan b) := by
        rw [hsh]
        exact fol_map _ _
      have n1 : nextTok (a ++ 10 :: b) i = { nextTok (a ++ 10 :: b) (a.length + 1) with lo := i } := by
        unfold nextTok
        rw [e]
      rw [scanTo_step] at F
      rw [scanTo_step, n1]
      exact fol_head _ _ _ _ _ F rfl rfl rfl
    · have hlt : blank a i < a.length := by omega
      have hk : (nextTok a i).kind ≠ 5 := fun h => he (ne.1 h)
      have st := blank_stop a i h1 hlt
      have e : blank (a ++ 10 :: b) i = blank a i := by
        rw [bp, if_pos hlt]
      have n1 : nextTok (a ++ 10 :: b) i = nextTok a i := by
        unfold nextTok
        rw [e, tokAt_parts a b _ hlt st.1 st.2]
      have m := nm hk
      rw [if_neg hk, scanTo_step, n1, if_neg hk]
      obtain ⟨z, hz, hF⟩ := ih g (nextTok a i).hi.toNat (by omega) (by omega) (by omega)
      refine ⟨z, ?_, hF⟩
      rw [hz]
      obtain ⟨f', rfl⟩ : ∃ f', f = f' + 1 := ⟨f - 1, by omega⟩
      rw [scanTo_step a f']
      rfl
theorem scan_parts (a b : List UInt8) : ∃ z, scan (a ++ 10 :: b) = (scan a).dropLast ++ z ∧ Fol (a.length + 1) z (scan b) :=
  scanTo_parts a b _ _ 0 (Nat.zero_le _) (by omega) (by omega)
end Go.Proofs.YtoopnddlcofhoaaGreatDoor.Lx
set_option linter.unusedVariables false
namespace Go.Proofs.YtoopnddlcofhoaaGreatDoor.Lx
open Go.RowKit

theorem scanTo_length (l : List UInt8) : ∀ f i, i ≤ l.length → (scanTo l f i).length ≤ l.length - i + 1 := by
  intro f
  induction f with
  | zero => intro i _; simp [scanTo]
  | succ f ih =>
    intro i hi
    rw [scanTo_step]
    split
    · simp
    · rename_i h
      have a := nextTok_bd l i hi
      have b := nextTok_more l i hi h
      have c := blank_bd l i hi
      have := ih (nextTok l i).hi.toNat (by omega)
      rw [List.length_cons]
      omega
theorem scan_length (l : List UInt8) : (scan l).length ≤ l.length + 1 := by
  have := scanTo_length l (l.length + 1) 0 (Nat.zero_le _)
  unfold scan
  omega
/-- tokens that follow one another from a place to the end -/
def chain (n : Nat) : Nat → List Tok → Prop
  | i, [] => i = n
  | i, t :: ts => t.lo = i ∧ (i : Int) ≤ t.at_ ∧ t.at_ ≤ t.hi ∧ t.hi ≤ n ∧ (t.kind = 5 ↔ ts = []) ∧ (t.at_ = t.hi ↔ ts = []) ∧ chain n t.hi.toNat ts
theorem scanTo_ne (l : List UInt8) (f i : Nat) (h : 0 < f) : scanTo l f i ≠ [] := by
  cases f with
  | zero => omega
  | succ f => rw [scanTo_step]; simp
theorem scanTo_chain (l : List UInt8) : ∀ f i, i ≤ l.length → l.length - i < f → chain l.length i (scanTo l f i) := by
  intro f
  induction f with
  | zero => intro i h1 h2; omega
  | succ f ih =>
    intro i hi hf
    rw [scanTo_step]
    have a := nextTok_bd l i hi
    have b := nextTok_end l i hi
    have c : (nextTok l i).at_ = (blank l i : Nat) := rfl
    have d := blank_bd l i hi
    split
    · rename_i h
      have e := b.1 h
      have z : (nextTok l i).hi = (l.length : Int) := by omega
      refine ⟨a.2.2.2.2.2, a.1, a.2.1, a.2.2.1, by simp [h], ?_, ?_⟩
      · simp
        omega
      · show (nextTok l i).hi.toNat = l.length
        omega
    · rename_i h
      have m := nextTok_more l i hi h
      have ne := scanTo_ne l f (nextTok l i).hi.toNat (by omega)
      refine ⟨a.2.2.2.2.2, a.1, a.2.1, a.2.2.1, ?_, ?_, ih _ (by omega) (by omega)⟩
      · exact ⟨fun e => absurd e h, fun e => absurd e ne⟩
      · exact ⟨fun e => by omega, fun e => absurd e ne⟩
theorem scan_chain (l : List UInt8) : chain l.length 0 (scan l) := scanTo_chain l _ 0 (Nat.zero_le _) (by omega)
theorem scan_ne (l : List UInt8) : scan l ≠ [] := scanTo_ne l _ 0 (by omega)
theorem chain_ok (n : Nat) : ∀ (ts : List Tok) (i : Nat), chain n i ts → ts.all (okTok n) = true := by
  intro ts
  induction ts with
  | nil => intro i _; rfl
  | cons t ts ih =>
    rintro i ⟨h1, h2, h3, h4, _, _, h7⟩
    rw [List.all_cons, ih _ h7, Bool.and_true]
    exact (okTok_iff _ _).2 ⟨by omega, by omega, h3, h4⟩
theorem scan_fit (s : ByteArray) (h : s.size ≤ 4096) : fitB s.size (scan s.data.toList) = true := by
  have hl : s.data.toList.length = s.size := by simp
  have a := chain_ok _ _ _ (scan_chain s.data.toList)
  have b := scan_length s.data.toList
  unfold fitB
  rw [hl] at a b
  rw [a, decide_eq_true (show (scan s.data.toList).length ≤ 4097 by omega)]
  rfl
def wordL (l : List UInt8) (t : Tok) : List UInt8 := (l.take t.hi.toNat).drop t.at_.toNat
/-- the words of a list of bytes -/
def Ws (l : List UInt8) : List (List UInt8) := (scan l).map (wordL l)
theorem word_shift (p u : List UInt8) (t : Tok) (h1 : 0 ≤ t.at_) (h2 : 0 ≤ t.hi) : wordL (p ++ u) (shiftT p.length t) = wordL u t := by
  unfold wordL shiftT
  simp only
  rw [show (t.hi + (p.length : Int)).toNat = p.length + t.hi.toNat from by omega, show (t.at_ + (p.length : Int)).toNat = p.length + t.at_.toNat from by omega]
  rw [List.take_append, List.drop_append]
  simp [List.take_of_length_le, List.drop_of_length_le]
theorem scanTo_okTok (l : List UInt8) (f i : Nat) (hi : i ≤ l.length) (hf : l.length - i < f) (t : Tok) (h : t ∈ scanTo l f i) : 0 ≤ t.lo ∧ t.lo ≤ t.at_ ∧ t.at_ ≤ t.hi ∧ t.hi ≤ l.length := by
  have c := chain_ok _ _ _ (scanTo_chain l f i hi hf)
  rw [List.all_eq_true] at c
  exact (okTok_iff _ _).1 (c t h)
theorem ws_shift (p u : List UInt8) (f i : Nat) (hi : i ≤ u.length) (hf : u.length - i < f) : (scanTo (p ++ u) f (p.length + i)).map (wordL (p ++ u)) = (scanTo u f i).map (wordL u) := by
  rw [scanTo_shift p u f i hi, List.map_map]
  refine List.map_congr_left fun t ht => ?_
  have o := scanTo_okTok u f i hi hf t ht
  exact word_shift p u t (by omega) (by omega)
/-- a stands alone as the first token of a ++ r -/
def Cut (a r : List UInt8) : Prop := 0 < a.length ∧ blank (a ++ r) 0 = 0 ∧ (tokAt (a ++ r) 0).2 = a.length
theorem ws_cut (a r : List UInt8) (h : Cut a r) : Ws (a ++ r) = a :: Ws r := by
  obtain ⟨h1, h2, h3⟩ := h
  have hl : (a ++ r).length = a.length + r.length := by simp
  have ne := nextTok_end (a ++ r) 0 (Nat.zero_le _)
  have hk : (nextTok (a ++ r) 0).kind ≠ 5 := fun e => by have := ne.1 e; omega
  have hat : (nextTok (a ++ r) 0).at_ = 0 := by show ((blank (a ++ r) 0 : Nat) : Int) = 0; omega
  have hhi : (nextTok (a ++ r) 0).hi = a.length := by show (((tokAt (a ++ r) (blank (a ++ r) 0)).2 : Nat) : Int) = a.length; rw [h2, h3]
  unfold Ws scan
  rw [scanTo_step, if_neg hk, List.map_cons, hhi]
  congr 1
  · unfold wordL
    rw [hat, hhi]
    simp
  · have s := ws_shift a r ((a ++ r).length) 0 (Nat.zero_le _) (by omega)
    rw [Int.toNat_natCast, ← Nat.add_zero a.length, s]
    rw [scanTo_fuel r _ (r.length + 1) 0 (Nat.zero_le _) (by omega) (by omega)]
theorem ws_white (c : UInt8) (r : List UInt8) (hc : white c = true) : Ws (c :: r) = Ws r := by
  have hl : (c :: r).length = r.length + 1 := rfl
  have h0 : at_ (c :: r) 0 = c := rfl
  have hb := blank_white (c :: r) 0 (by omega) (by rw [h0]; exact hc)
  have n1 : nextTok (c :: r) 0 = { nextTok (c :: r) 1 with lo := 0 } := by
    unfold nextTok
    rw [hb]
    rfl
  have s := ws_shift [c] r (r.length + 2) 0 (Nat.zero_le _) (by omega)
  have e : (scanTo (c :: r) (r.length + 2) 0).map (wordL (c :: r)) = (scanTo (c :: r) (r.length + 2) 1).map (wordL (c :: r)) := by
    rw [scanTo_step, scanTo_step, n1]
    rfl
  unfold Ws scan
  rw [show (c :: r).length + 1 = r.length + 2 from rfl, e]
  refine s.trans ?_
  rw [scanTo_fuel r _ (r.length + 1) 0 (Nat.zero_le _) (by omega) (by omega)]
theorem ws_nil : Ws [] = [[]] := by decide
theorem cut_first (a r : List UInt8) (h : Cut a r) : white (at_ a 0) = false ∧ at_ a 0 ≠ 35 := by
  obtain ⟨h1, h2, h3⟩ := h
  have := blank_stop (a ++ r) 0 (Nat.zero_le _) (by rw [h2]; simp; omega)
  rw [h2, at_left _ _ _ h1] at this
  exact this
theorem cut_blank (a r : List UInt8) (h1 : 0 < a.length) (h : white (at_ a 0) = false ∧ at_ a 0 ≠ 35) : blank (a ++ r) 0 = 0 :=
  blank_here _ 0 (fun _ => by rw [at_left _ _ _ h1]; exact h) (Nat.zero_le _)
/-- what stands alone, stands so ahead of white space and of the end -/
theorem cut_white (a r : List UInt8) (h : Cut a []) (hr : 0 < r.length → white (at_ r 0) = true) : Cut a r := by
  have f := cut_first a [] h
  obtain ⟨h1, h2, h3⟩ := h
  rw [List.append_nil] at h2 h3
  refine ⟨h1, cut_blank a r h1 f, ?_⟩
  have e := tokAt_move a (a ++ r) 0 0 a.length (tokAt a 0).1 (by rw [← h3, Nat.zero_add]) h1 (by omega) (by simp)
    (fun j hj => by rw [at_left _ _ _ (by omega)])
    (fun hh => .inl (by
      have hh' : 0 < r.length := by simp at hh; omega
      rw [Nat.zero_add, ← Nat.add_zero a.length, at_right]
      exact hr hh'))
  rw [e]
  simp
/-- what stands alone ahead of b, stands so whatever follows b -/
theorem cut_more (a b r : List UInt8) (hb : 0 < b.length) (h : Cut a b) : Cut a (b ++ r) := by
  have f := cut_first a b h
  obtain ⟨h1, h2, h3⟩ := h
  have hl : (a ++ b).length = a.length + b.length := by simp
  refine ⟨h1, cut_blank a (b ++ r) h1 f, ?_⟩
  have ag : ∀ j, j < a.length + b.length → at_ (a ++ (b ++ r)) j = at_ (a ++ b) j := by
    intro j hj
    rw [← List.append_assoc]
    exact at_left _ _ _ (by omega)
  have e := tokAt_move (a ++ b) (a ++ (b ++ r)) 0 0 a.length (tokAt (a ++ b) 0).1 (by rw [← h3, Nat.zero_add]) h1 (by omega) (by simp)
    (fun j hj => ag _ (by omega))
    (fun hh => .inr ⟨by omega, ag _ (by omega), fun hw => by
      rw [Nat.zero_add] at hw ⊢
      have a0 := ag a.length (by omega)
      by_cases b2 : a.length + 1 < a.length + b.length
      · rw [wrong_move (a ++ b) _ a.length a.length a0 (by rw [ag _ b2])]
        exact hw
      · have o : at_ (a ++ b) (a.length + 1) = 0 := at_out _ _ (by omega)
        have t0 : two (a ++ b) a.length = false := by
          unfold two
          rw [o]
          rfl
        unfold wrongAt at hw ⊢
        rw [a0]
        by_cases s : sym (a ++ b) a.length = 0
        · rw [s] at hw
          have : (!white (at_ (a ++ b) a.length) && at_ (a ++ b) a.length != 35 && !letter (at_ (a ++ b) a.length) && !digit (at_ (a ++ b) a.length)) = false := by simpa using hw
          rw [this]
          rfl
        · have sb : symB (at_ (a ++ b) a.length) = true := by
            unfold sym at s
            rw [t0] at s
            cases q : symB (at_ (a ++ b) a.length) with
            | true => rfl
            | false => rw [q] at s; exact absurd rfl s
          have sm : sym (a ++ (b ++ r)) a.length ≠ 0 := by
            unfold sym
            rw [a0, sb]
            split <;> simp
          rw [show (sym (a ++ (b ++ r)) a.length == 0) = false from by simpa using sm]
          simp⟩)
  rw [e]
  simp
/-- all words but the last stand alone; the last is empty -/
theorem words_cut (s : List UInt8) : ∀ f i, i ≤ s.length → s.length - i < f → ∃ init, (scanTo s f i).map (wordL s) = init ++ [[]] ∧ ∀ a ∈ init, Cut a [] := by
  intro f
  induction f with
  | zero => intro i h1 h2; omega
  | succ f ih =>
    intro i h1 h2
    have nb := nextTok_bd s i h1
    have ne := nextTok_end s i h1
    have bd := blank_bd s i h1
    have hat : (nextTok s i).at_ = (blank s i : Nat) := rfl
    have hhi : (nextTok s i).hi = ((tokAt s (blank s i)).2 : Nat) := rfl
    rw [scanTo_step]
    by_cases he : (nextTok s i).kind = 5
    · rw [if_pos he]
      refine ⟨[], ?_, by simp⟩
      have := ne.1 he
      have e : wordL s (nextTok s i) = [] := by
        unfold wordL
        rw [List.drop_eq_nil_iff]
        simp
        omega
      rw [List.map_cons, e]
      rfl
    · rw [if_neg he]
      have m := nextTok_more s i h1 he
      have hlt : blank s i < s.length := by omega
      have st := blank_stop s i h1 hlt
      obtain ⟨init, hi, hc⟩ := ih (nextTok s i).hi.toNat (by omega) (by omega)
      refine ⟨wordL s (nextTok s i) :: init, by rw [List.map_cons, hi]; rfl, ?_⟩
      intro a ha
      rcases List.mem_cons.1 ha with rfl | ha
      · have tb := tokAt_bd s (blank s i) bd.2
        have tm := tokAt_more s (blank s i) hlt st.1 st.2
        have wl : (wordL s (nextTok s i)).length = (tokAt s (blank s i)).2 - blank s i := by
          unfold wordL
          rw [hhi, hat]
          simp
          omega
        have ag : ∀ j, j < (tokAt s (blank s i)).2 - blank s i → at_ (wordL s (nextTok s i)) (0 + j) = at_ s (blank s i + j) := by
          intro j hj
          unfold wordL at_
          rw [hhi, hat]
          simp only [Int.toNat_natCast, Nat.zero_add, List.getD_eq_getElem?_getD, List.getElem?_drop]
          rw [List.getElem?_take_of_lt (by omega)]
        have f0 : white (at_ (wordL s (nextTok s i)) 0) = false ∧ at_ (wordL s (nextTok s i)) 0 ≠ 35 := by
          have := ag 0 (by omega)
          simp only [Nat.add_zero] at this
          rw [this]
          exact st
        refine ⟨by omega, cut_blank _ [] (by omega) f0, ?_⟩
        rw [List.append_nil]
        have e := tokAt_move s (wordL s (nextTok s i)) (blank s i) 0 ((tokAt s (blank s i)).2 - blank s i) (tokAt s (blank s i)).1
          (by rw [show blank s i + ((tokAt s (blank s i)).2 - blank s i) = (tokAt s (blank s i)).2 from by omega]) (by omega) (by omega) (by omega) ag (fun hh => by omega)
        rw [e, wl]
        simp
      · exact hc a ha
theorem ws_init (s : List UInt8) : ∃ init, Ws s = init ++ [[]] ∧ ∀ a ∈ init, Cut a [] := words_cut s _ 0 (Nat.zero_le _) (by omega)
/-- how long they are -/
def lens (l : List (List UInt8)) : Nat := (l.map List.length).sum
theorem lens_cons (a : List UInt8) (l : List (List UInt8)) : lens (a :: l) = a.length + lens l := by simp [lens]
theorem lens_app (l m : List (List UInt8)) : lens (l ++ m) = lens l + lens m := by simp [lens]
theorem chain_lens (l : List UInt8) : ∀ (ts : List Tok) (i : Nat), i ≤ l.length → chain l.length i ts → lens (ts.map (wordL l)) + i ≤ l.length := by
  intro ts
  induction ts with
  | nil => intro i hi _; simpa [lens] using hi
  | cons t ts ih =>
    rintro i hi ⟨h1, h2, h3, h4, _, _, h7⟩
    have := ih _ (by omega) h7
    rw [List.map_cons, lens_cons]
    have wl : (wordL l t).length = t.hi.toNat - t.at_.toNat := by
      unfold wordL
      simp
      omega
    omega
theorem ws_lens (l : List UInt8) : lens (Ws l) ≤ l.length := by
  have := chain_lens l _ 0 (Nat.zero_le _) (scan_chain l)
  unfold Ws
  omega
theorem ws_length (l : List UInt8) : (Ws l).length ≤ l.length + 1 := by
  have := scan_length l
  unfold Ws
  rw [List.length_map]
  exact this
/-- the words as byte arrays -/
theorem words_lists (s : ByteArray) (h : s.size ≤ 4096) : (words s (scan s.data.toList)).map (·.data.toList) = Ws s.data.toList := by
  unfold words
  rw [scan_fit s h, if_pos rfl, List.map_map]
  unfold Ws
  refine List.map_congr_left fun t _ => ?_
  exact slice_list s _ _
theorem lists_inj (l m : List ByteArray) (h : l.map (·.data.toList) = m.map (·.data.toList)) : l = m := by
  refine (List.map_inj_right fun a b e => ?_).1 h
  exact ByteArray.ext (Array.ext' e)
end Go.Proofs.YtoopnddlcofhoaaGreatDoor.Lx
