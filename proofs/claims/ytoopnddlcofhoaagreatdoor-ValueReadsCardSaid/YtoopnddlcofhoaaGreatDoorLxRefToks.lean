/- What is proved: the reference's Scan returns the tokens of a text. -/
import Derived.Test.YtoopnddlcofhoaaGreatDoorLxWords
set_option linter.unusedVariables false
namespace Go.Proofs.YtoopnddlcofhoaaGreatDoor.Lx
open Go.RowKit

set_option maxRecDepth 100000 in
set_option maxHeartbeats 1000000 in
theorem r_skip_any (s : ByteArray) (i : Nat) (w : World) (hs : s.size ≤ 1000000) (hi : i ≤ s.size) :
    Calls Tryz.prog 28 #[.string s, .int .i64 (i : Int)] w fun e w' => e = .returned (.int .i64 (blank s.data.toList i : Int)) ∧ w = w' := by
  have hl : s.data.toList.length = s.size := by simp
  have HW := Lib.hid (fun (k : Nat) (h : k < s.size) => r_blank_any s[k] w)
  have HL := Lib.hid hl
  clear hl
  go_enter Tryz.func28, Tryz.ntmps28
  go_wp2_with (fail)
  go_loop [1] (fun x => ∃ k : Nat, k ≤ s.size ∧ x = .int .i64 (k : Int) ∧ Hid (blank s.data.toList i = blank s.data.toList k)) (fun x => s.size - (intOf x).toNat)
  case atStart => exact ⟨i, hi, rfl, rfl⟩
  case round =>
    obtain ⟨k, hk, rfl, hq⟩ := hrel
    by_cases hlt : k < s.size
    · have hlt' : (k : Int) < (s.size : Int) := by omega
      have hat := at_get s k hlt
      have hl := HL.out
      have hw := Lib.hid (HW.out k hlt)
      cases hc : white s[k] with
      | true =>
        have HV := Lib.hid (hq.out.trans (blank_white s.data.toList k (by omega) (by rw [hat]; exact hc)))
        have h35 : ((s[k].toNat : Int) == 35) = false := by
          cases hx : ((s[k].toNat : Int) == 35) with
          | false => rfl
          | true =>
            rw [(u8_35 _).2 hx] at hc
            cases hc
        rw [hc] at hw
        clear hc hat hl
        go_wp2_with (fail)
        refine hw.out.mono ?_
        rintro e w' ⟨rfl, rfl⟩
        go_wp2_with (fail)
        exact ⟨⟨k + 1, by omega, by go_num, HV⟩, by simp [intOf]; omega⟩
      | false =>
        rw [hc] at hw
        cases h35 : ((s[k].toNat : Int) == 35) with
        | false =>
          have HV := Lib.hid (hq.out.trans (blank_none s.data.toList k (by omega) (by rw [hat]; exact hc) (by rw [hat]; intro e; rw [(u8_35 _).1 e] at h35; cases h35)))
          clear hc hat hl
          go_wp2_with (fail)
          refine hw.out.mono ?_
          rintro e w' ⟨rfl, rfl⟩
          go_wp2_with (fail)
          go_ret
          exact ⟨by rw [HV.out]; rfl, rfl⟩
        | true =>
          have HV := Lib.hid (hq.out.trans (blank_hash s.data.toList k (by omega) (by rw [hat]; exact (u8_35 _).2 h35)))
          have HY := Lib.hid (run_yes s.data.toList notNl k (by omega) (by rw [hat, (u8_35 _).2 h35]; rfl))
          have HB := Lib.hid (run_bd s.data.toList notNl k (by omega))
          clear hc hat hl
          go_wp2_with (fail)
          refine hw.out.mono ?_
          rintro e w' ⟨rfl, rfl⟩
          go_wp2_with (fail)
          go_loop [1] (fun x => ∃ j : Nat, j ≤ s.size ∧ x = .int .i64 (j : Int) ∧ Hid (run s.data.toList notNl k = run s.data.toList notNl j)) (fun x => s.size - (intOf x).toNat)
          case atStart => exact ⟨k, hk, rfl, rfl⟩
          case round =>
            obtain ⟨j, hj, rfl, hr⟩ := hrel
            by_cases hjl : j < s.size
            · have hjl' : (j : Int) < (s.size : Int) := by omega
              have hat := at_get s j hjl
              have hl := HL.out
              have hnn := notNl_eq s[j]
              cases h10 : ((s[j].toNat : Int) == 10) with
              | false =>
                have HR := Lib.hid (hr.out.trans (run_next s.data.toList notNl j (by omega) (by rw [hat, hnn, h10]; rfl)))
                have h10' : ((s[j].toNat : Int) != 10) = true := by unfold bne; rw [h10]; rfl
                clear hat hl hnn
                go_wp2_with (fail)
                exact ⟨⟨j + 1, by omega, by go_num, HR⟩, by simp [intOf]; omega⟩
              | true =>
                have HR := Lib.hid (hr.out.trans (run_halt s.data.toList notNl j (by rw [hat, hnn, h10]; rfl)))
                have h10' : ((s[j].toNat : Int) != 10) = false := by unfold bne; rw [h10]; rfl
                have hy := HY.out
                have e := HR.out
                clear hat hl hnn
                go_wp2_with (fail)
                have HF := Lib.hid (HV.out.trans (by rw [HR.out]))
                exact ⟨⟨j, by omega, rfl, HF⟩, by simp [intOf]; omega⟩
            · have hl := HL.out
              have HR := Lib.hid (hr.out.trans (run_out s.data.toList notNl j (by omega)))
              have hy := HY.out
              have e := HR.out
              have hjl' : (s.size : Int) ≤ (j : Int) := by omega
              clear hl
              go_wp2_with (fail)
              have HF := Lib.hid (HV.out.trans (by rw [HR.out]))
              exact ⟨⟨j, by omega, rfl, HF⟩, by simp [intOf]; omega⟩
    · have HV := Lib.hid (hq.out.trans (blank_out s.data.toList k (by rw [HL.out]; omega)))
      have hlt' : (s.size : Int) ≤ (k : Int) := by omega
      go_wp2_with (fail)
      go_ret
      exact ⟨by rw [HV.out]; rfl, rfl⟩
theorem nextTok_fin (l : List UInt8) (i : Nat) (h : blank l i = l.length) : nextTok l i = ⟨5, i, l.length, l.length⟩ := by
  unfold nextTok
  rw [h]
  have e : tokAt l l.length = (5, l.length) := by unfold tokAt; rw [if_pos rfl]
  rw [e]
  rfl
set_option maxRecDepth 100000 in
set_option maxHeartbeats 1000000 in
theorem r_scan_good (s : ByteArray) (w : World) (hs : s.size ≤ 4096) :
    Calls Tryz.prog 10 #[.string s] w fun e w' => ∃ v, e = .returned (.tuple #[v, .int .i64 0]) ∧ w'.ownsRow w.heap.size 66 4 v (scan s.data.toList).length (tcells (scan s.data.toList)) ∧ Below w.heap.size w w' := by
  obtain ⟨i0, hi0, hz0, hz1, hz2⟩ := info_parts infoTok
  have hl : s.data.toList.length = s.size := by simp
  have HS := Lib.hid (fun (i : Nat) (h : i ≤ s.size) (w : World) => r_skip_any s i w (by omega) h)
  have HT := Lib.hid (fun (i : Nat) (h : i < s.size) (w : World) => r_token_any s i w (by omega) h)
  have HM0 := Lib.hid (World.ownsRow_made (base := w.heap.size) (e := 66) (size := 4) w #[] 0 (Nat.le_refl _) (by unfold maxLen; omega) rfl)
  go_enter Tryz.func10, Tryz.ntmps10
  go_wp2_with (fail)
  go_loopw [4, 5] (fun v x wr => ∃ (i f : Nat) (acc : List Tok), i ≤ s.size ∧ x = .int .i64 (i : Int) ∧ s.size - i < f ∧ Hid (wr.ownsRow w.heap.size 66 4 v acc.length (tcells acc)) ∧ acc.length ≤ i ∧ Hid (scan s.data.toList = acc ++ scanTo s.data.toList f i) ∧ Hid (Below w.heap.size w wr)) (fun _ x _ => s.size + 1 - (intOf x).toNat)
  case atStart => exact ⟨0, s.data.toList.length + 1, [], Nat.zero_le _, rfl, by omega, HM0, Nat.le_refl _, rfl, (Below.refl _ _).alloc (Nat.le_refl _) _⟩
  case round =>
    obtain ⟨i, f, acc, hi, rfl, hf, hown, hacc, hsq, hbw⟩ := hrel
    obtain ⟨f', rfl⟩ : ∃ f', f = f' + 1 := ⟨f - 1, by omega⟩
    have hstep := scanTo_step s.data.toList f' i
    have hend := nextTok_end s.data.toList i (by omega)
    have htm := nextTok_more s.data.toList i (by omega)
    have hbl := blank_bd s.data.toList i (by omega)
    have hfin := nextTok_fin s.data.toList i
    have hdef : nextTok s.data.toList i = ⟨((tokAt s.data.toList (blank s.data.toList i)).1 : Nat), i, (blank s.data.toList i : Nat), ((tokAt s.data.toList (blank s.data.toList i)).2 : Nat)⟩ := rfl
    have hsk := Lib.hid (HS.out i hi wr)
    have hto := Lib.hid (fun h w => HT.out (blank s.data.toList i) h w)
    have htb := tokAt_bd s.data.toList (blank s.data.toList i) hbl.2
    rw [hl] at hbl hend hfin htb
    have HO := Lib.hid hown.out
    have o1 := hown.out.lt
    have hzr := hbw.out.size
    generalize blank s.data.toList i = m at *
    by_cases hm : m = s.size
    · have hseq := hsq.out.trans (by rw [hstep, hfin hm, if_pos rfl])
      have HQ := Lib.hid hseq
      clear hstep hend htm hfin hdef htb hseq hto
      have hmb : ((m : Int) == (s.size : Int)) = true := by simp [hm]
      subst hm
      go_wp2_with (fail)
      refine hsk.out.mono ?_
      rintro e w' ⟨rfl, rfl⟩
      go_wp2_with (at_builtin; refine wpList_append_own _ rfl _ _ 34 rfl w.heap.size 66 i0 _ 4 32 Tryz.underlying34 hi0 hz0 hz1 hz2 rfl (by decide) _ _ _ rfl (HO.out.alloc _) ⟨wr.heap.size, 0, none⟩ 1 1 [.int .i64 5, .int .i64 (i : Int), .int .i64 (s.size : Int), .int .i64 (s.size : Int)] rfl rfl ?c1 ?c2 ?c3 ?c4 ?c5 ?_)
      case c1 => exact news_four _ _ _ _ _ _
      case c2 => intro u hu; simp at hu; rcases hu with rfl | rfl | rfl | rfl <;> rfl
      case c3 => unfold maxLen; omega
      case c4 => omega
      case c5 => simp; omega
      intro v' w3 hown' hgrow _
      have B3 := Lib.hid ((hbw.out.alloc hzr _).grown hgrow (by simp; omega) (fun k hk => (o1 k hk).1))
      have O3 : Hid (w3.ownsRow w.heap.size 66 4 v' (acc ++ [(⟨5, (i : Int), s.size, s.size⟩ : Tok)]).length (tcells (acc ++ [⟨5, (i : Int), s.size, s.size⟩]))) := by
        rw [tcells_append, show (acc ++ [(⟨5, (i : Int), s.size, s.size⟩ : Tok)]).length = acc.length + 1 from by simp]
        exact hown'
      clear hown' hgrow o1
      go_wp2_with (fail)
      go_ret2
      exact ⟨_, rfl, by rw [HQ.out]; exact O3.out, B3.out⟩
    · have hmb : ((m : Int) == (s.size : Int)) = false := by simp; omega
      have hk5 : (nextTok s.data.toList i).kind ≠ 5 := fun h => hm (hend.1 h)
      have htm' := htm hk5
      have HQ0 := Lib.hid (hsq.out.trans (by rw [hstep, if_neg hk5]))
      have hto2 := Lib.hid (hto.out (by omega))
      rw [hdef] at HQ0 htm'
      clear hstep hend htm hfin hdef hto hk5
      generalize tokAt s.data.toList m = z at *
      obtain ⟨kd, e⟩ := z
      simp only at htm' htb hto2 HQ0
      have htm2 : m < e := by omega
      have hee : ((e : Nat) : Int).toNat = e := by omega
      rw [hee] at HQ0
      clear htm' hee
      go_wp2_with (fail)
      refine hsk.out.mono ?_
      rintro e' w' ⟨rfl, rfl⟩
      go_wp2_with (fail)
      refine (hto2.out _).mono ?_
      rintro e' w2 ⟨rfl, hb2⟩
      have B2 := hbw.out.trans (hb2.mono hzr)
      have z2 := B2.size
      have O2 := own_below HO.out hb2
      have o2 := O2.lt
      go_wp2_with (at_builtin; refine wpList_append_own _ rfl _ _ 34 rfl w.heap.size 66 i0 _ 4 32 Tryz.underlying34 hi0 hz0 hz1 hz2 rfl (by decide) _ _ _ rfl (O2.alloc _) ⟨w2.heap.size, 0, none⟩ 1 1 [.int .i64 (kd : Int), .int .i64 (i : Int), .int .i64 (m : Int), .int .i64 (e : Int)] rfl rfl ?c1 ?c2 ?c3 ?c4 ?c5 ?_)
      case c1 => exact news_four _ _ _ _ _ _
      case c2 => intro u hu; simp at hu; rcases hu with rfl | rfl | rfl | rfl <;> rfl
      case c3 => unfold maxLen; omega
      case c4 => omega
      case c5 => simp; omega
      intro v' w3 hown' hgrow _
      have B3 := Lib.hid ((B2.alloc z2 _).grown hgrow (by simp; omega) (fun k hk => (o2 k hk).1))
      have O3 : Hid (w3.ownsRow w.heap.size 66 4 v' (acc ++ [(⟨kd, (i : Int), m, e⟩ : Tok)]).length (tcells (acc ++ [⟨kd, (i : Int), m, e⟩]))) := by
        rw [tcells_append, show (acc ++ [(⟨kd, (i : Int), m, e⟩ : Tok)]).length = acc.length + 1 from by simp]
        exact hown'
      clear hown' hgrow o1 o2 O2 B2 hb2
      go_wp2_with (fail)
      refine ⟨⟨e, f', acc ++ [⟨kd, (i : Int), m, e⟩], by omega, rfl, by omega, O3, by simp; omega, ?_, B3⟩, ?_⟩
      · show scan s.data.toList = acc ++ [⟨kd, (i : Int), m, e⟩] ++ scanTo s.data.toList f' e
        rw [HQ0.out, List.append_assoc]
        rfl
      · simp [intOf]
        omega
theorem r_scan_any (s : ByteArray) (w : World) (hs : s.size ≤ 4096) :
    Calls Tryz.prog 10 #[.string s] w fun e w' => ∃ A c, e = .returned (.tuple #[.slice A (scan s.data.toList).length c, .int .i64 0]) ∧ TokA w' A (scan s.data.toList) ∧ Below w.heap.size w w' := by
  refine (r_scan_good s w hs).mono fun e w' he => ?_
  obtain ⟨v, h1, h2, h3⟩ := he
  obtain ⟨A', c', hv, hr'⟩ := toks_own h2
  exact ⟨A', c', by rw [h1, hv], hr', h3⟩
end Go.Proofs.YtoopnddlcofhoaaGreatDoor.Lx
