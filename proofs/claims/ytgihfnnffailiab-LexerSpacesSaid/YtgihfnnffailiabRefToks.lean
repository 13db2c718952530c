/- What is proved: the reference's Scan returns the tokens of a text; Same compares lists of tokens. -/
import Derived.Test.YtgihfnnffailiabRefTok2
set_option linter.unusedVariables false
namespace Go.Proofs.Ytgihfnnffailiab
open Go.RowKit

theorem nextTok_fin (l : List UInt8) (i : Nat) (h : blank l i = l.length) : nextTok l i = ⟨5, i, l.length, l.length⟩ := by
  unfold nextTok
  rw [h]
  have e : tokAt l l.length = (5, l.length) := by unfold tokAt; rw [if_pos rfl]
  rw [e]
  rfl

set_option maxHeartbeats 1000000 in
theorem r_scan_good (s : ByteArray) (w : World) (hs : s.size ≤ 4096) :
    Calls Try.prog 11 #[.string s] w fun e w' => ∃ v, e = .returned (.tuple #[v, .int .i64 0]) ∧ w'.ownsRow w.heap.size 39 4 v (scan s.data.toList).length (tcells (scan s.data.toList)) ∧ Below w.heap.size w w' := by
  obtain ⟨i0, hi0, hz0, hz1, hz2⟩ := info_parts infoTok
  have hl : s.data.toList.length = s.size := by simp
  have HS := Lib.hid (fun (i : Nat) (h : i ≤ s.size) (w : World) => r_skip_any s i w (by omega) h)
  have HT := Lib.hid (fun (i : Nat) (h : i < s.size) (w : World) => r_token_any s i w (by omega) h)
  have HM0 := Lib.hid (World.ownsRow_made (base := w.heap.size) (e := 39) (size := 4) w #[] 0 (Nat.le_refl _) (by unfold maxLen; omega) rfl)
  go_enter Try.func11, Try.ntmps11
  go_wp2_with (fail)
  go_loopw [4, 5] (fun v x wr => ∃ (i f : Nat) (acc : List Tok), i ≤ s.size ∧ x = .int .i64 (i : Int) ∧ s.size - i < f ∧ Hid (wr.ownsRow w.heap.size 39 4 v acc.length (tcells acc)) ∧ acc.length ≤ i ∧ Hid (scan s.data.toList = acc ++ scanTo s.data.toList f i) ∧ Hid (Below w.heap.size w wr)) (fun _ x _ => s.size + 1 - (intOf x).toNat)
  case atStart => exact ⟨0, s.data.toList.length + 1, [], Nat.zero_le _, rfl, by omega, HM0, Nat.le_refl _, rfl, (Below.refl _ _).alloc (Nat.le_refl _) _⟩
  case round =>
    obtain ⟨i, f, acc, hi, rfl, hf, hown, hacc, hsq, hbw⟩ := hrel
    obtain ⟨f', rfl⟩ : ∃ f', f = f' + 1 := ⟨f - 1, by omega⟩
    have hstep := scanTo_step s.data.toList f' i
    have hend := nextTok_end s.data.toList i (by omega)
    have htm := nextTok_more s.data.toList i (by omega)
    have hbl := blank_bd s.data.toList i (by omega)
    have hfin := nextTok_fin s.data.toList i
    have hdef : nextTok s.data.toList i = ⟨((tokAt s.data.toList (blank s.data.toList i)).1 : Nat), i, (blank s.data.toList i : Nat), ((tokAt s.data.toList (blank s.data.toList i)).2 : Nat)⟩ := rfl
    have hsk := Lib.hid (HS.out i hi wr)
    have hto := Lib.hid (fun h w => HT.out (blank s.data.toList i) h w)
    have htb := tokAt_bd s.data.toList (blank s.data.toList i) hbl.2
    rw [hl] at hbl hend hfin htb
    have HO := Lib.hid hown.out
    have o1 := hown.out.lt
    have hzr := hbw.out.size
    generalize blank s.data.toList i = m at *
    by_cases hm : m = s.size
    · have hseq := hsq.out.trans (by rw [hstep, hfin hm, if_pos rfl])
      have HQ := Lib.hid hseq
      clear hstep hend htm hfin hdef htb hseq hto
      have hmb : ((m : Int) == (s.size : Int)) = true := by simp [hm]
      subst hm
      go_wp2_with (fail)
      refine hsk.out.mono ?_
      rintro e w' ⟨rfl, rfl⟩
      go_wp2_with (at_builtin; refine wpList_append_own _ rfl _ _ 23 rfl w.heap.size 39 i0 _ 4 32 Try.underlying23 hi0 hz0 hz1 hz2 rfl (by decide) _ _ _ rfl (HO.out.alloc _) ⟨wr.heap.size, 0, none⟩ 1 1 [.int .i64 5, .int .i64 (i : Int), .int .i64 (s.size : Int), .int .i64 (s.size : Int)] rfl rfl ?c1 ?c2 ?c3 ?c4 ?c5 ?_)
      case c1 => exact news_four _ _ _ _ _ _
      case c2 => intro u hu; simp at hu; rcases hu with rfl | rfl | rfl | rfl <;> rfl
      case c3 => unfold maxLen; omega
      case c4 => omega
      case c5 => simp; omega
      intro v' w3 hown' hgrow _
      have B3 := Lib.hid ((hbw.out.alloc hzr _).grown hgrow (by simp; omega) (fun k hk => (o1 k hk).1))
      have O3 : Hid (w3.ownsRow w.heap.size 39 4 v' (acc ++ [(⟨5, (i : Int), s.size, s.size⟩ : Tok)]).length (tcells (acc ++ [⟨5, (i : Int), s.size, s.size⟩]))) := by
        rw [tcells_append, show (acc ++ [(⟨5, (i : Int), s.size, s.size⟩ : Tok)]).length = acc.length + 1 from by simp]
        exact hown'
      clear hown' hgrow o1
      go_wp2_with (fail)
      go_ret2
      exact ⟨_, rfl, by rw [HQ.out]; exact O3.out, B3.out⟩
    · have hmb : ((m : Int) == (s.size : Int)) = false := by simp; omega
      have hk5 : (nextTok s.data.toList i).kind ≠ 5 := fun h => hm (hend.1 h)
      have htm' := htm hk5
      have HQ0 := Lib.hid (hsq.out.trans (by rw [hstep, if_neg hk5]))
      have hto2 := Lib.hid (hto.out (by omega))
      rw [hdef] at HQ0 htm'
      clear hstep hend htm hfin hdef hto hk5
      generalize tokAt s.data.toList m = z at *
      obtain ⟨kd, e⟩ := z
      simp only at htm' htb hto2 HQ0
      have htm2 : m < e := by omega
      have hee : ((e : Nat) : Int).toNat = e := by omega
      rw [hee] at HQ0
      clear htm' hee
      go_wp2_with (fail)
      refine hsk.out.mono ?_
      rintro e' w' ⟨rfl, rfl⟩
      go_wp2_with (fail)
      refine (hto2.out _).mono ?_
      rintro e' w2 ⟨rfl, hb2⟩
      have B2 := hbw.out.trans (hb2.mono hzr)
      have z2 := B2.size
      have O2 := own_below HO.out hb2
      have o2 := O2.lt
      go_wp2_with (at_builtin; refine wpList_append_own _ rfl _ _ 23 rfl w.heap.size 39 i0 _ 4 32 Try.underlying23 hi0 hz0 hz1 hz2 rfl (by decide) _ _ _ rfl (O2.alloc _) ⟨w2.heap.size, 0, none⟩ 1 1 [.int .i64 (kd : Int), .int .i64 (i : Int), .int .i64 (m : Int), .int .i64 (e : Int)] rfl rfl ?c1 ?c2 ?c3 ?c4 ?c5 ?_)
      case c1 => exact news_four _ _ _ _ _ _
      case c2 => intro u hu; simp at hu; rcases hu with rfl | rfl | rfl | rfl <;> rfl
      case c3 => unfold maxLen; omega
      case c4 => omega
      case c5 => simp; omega
      intro v' w3 hown' hgrow _
      have B3 := Lib.hid ((B2.alloc z2 _).grown hgrow (by simp; omega) (fun k hk => (o2 k hk).1))
      have O3 : Hid (w3.ownsRow w.heap.size 39 4 v' (acc ++ [(⟨kd, (i : Int), m, e⟩ : Tok)]).length (tcells (acc ++ [⟨kd, (i : Int), m, e⟩]))) := by
        rw [tcells_append, show (acc ++ [(⟨kd, (i : Int), m, e⟩ : Tok)]).length = acc.length + 1 from by simp]
        exact hown'
      clear hown' hgrow o1 o2 O2 B2 hb2
      go_wp2_with (fail)
      refine ⟨⟨e, f', acc ++ [⟨kd, (i : Int), m, e⟩], by omega, rfl, by omega, O3, by simp; omega, ?_, B3⟩, ?_⟩
      · show scan s.data.toList = acc ++ [⟨kd, (i : Int), m, e⟩] ++ scanTo s.data.toList f' e
        rw [HQ0.out, List.append_assoc]
        rfl
      · simp [intOf]
        omega

theorem r_scan_any (s : ByteArray) (w : World) (hs : s.size ≤ 4096) :
    Calls Try.prog 11 #[.string s] w fun e w' => ∃ A c, e = .returned (.tuple #[.slice A (scan s.data.toList).length c, .int .i64 0]) ∧ TokA w' A (scan s.data.toList) ∧ Below w.heap.size w w' := by
  refine (r_scan_good s w hs).mono fun e w' he => ?_
  obtain ⟨v, h1, h2, h3⟩ := he
  obtain ⟨A', c', hv, hr'⟩ := toks_own h2
  exact ⟨A', c', by rw [h1, hv], hr', h3⟩

set_option maxHeartbeats 400000 in
theorem same_any (A B : Option Addr) (c d : Nat) (l : List Tok) (w : World) (hl : l.length ≤ 1000000) (h1 : TokA w A l) (h2 : TokA w B l) :
    Calls Try.prog 12 #[.slice A l.length c, .slice B l.length d] w fun e w' => e = .returned (.bool true) ∧ ∃ n, w' = w.drewN n := by
  have H1 := Lib.hid h1
  have H2 := Lib.hid h2
  clear h1 h2
  go_enter Try.func12, Try.ntmps12
  go_wp2_with (fail)
  go_loopw [5] (fun i wr => ∃ k n : Nat, k ≤ l.length ∧ i = .int .i64 (k : Int) ∧ wr = w.drewN n) (fun i _ => l.length - (intOf i).toNat)
  case atStart => exact ⟨0, 0, Nat.zero_le _, rfl, rfl⟩
  case round =>
    obtain ⟨k, n, hk, rfl, rfl⟩ := hrel
    by_cases hlt : k < l.length
    · obtain ⟨b1, o1, rfl, _, r1⟩ := H1.out (by omega)
      obtain ⟨b2, o2, rfl, _, r2⟩ := H2.out (by omega)
      obtain ⟨q1, q2, q3, q4⟩ := r1 k hlt
      obtain ⟨p1, p2, p3, p4⟩ := r2 k hlt
      have hlt' : (k : Int) < (l.length : Int) := by omega
      clear r1 r2
      generalize l[k] = x at *
      go_wp2_with (fail)
      go_quiet (fail)
      go_wp2_with (fail)
      exact ⟨⟨k + 1, _, by omega, by go_num, by first | rfl | exact World.drewN_drewN _ _ _⟩, by simp [intOf]; omega⟩
    · go_wp2_with (fail)
      go_ret
      exact ⟨rfl, _, rfl⟩
end Go.Proofs.Ytgihfnnffailiab
