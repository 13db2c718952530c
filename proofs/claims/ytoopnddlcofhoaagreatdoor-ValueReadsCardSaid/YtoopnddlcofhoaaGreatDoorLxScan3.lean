/- What is proved: the scanner's methods wrong, blank, token and next return what the plain functions say. -/
import Derived.Test.YtoopnddlcofhoaaGreatDoorLxScan2
set_option linter.unusedVariables false
namespace Go.Proofs.YtoopnddlcofhoaaGreatDoor.Lx
open Go.RowKit

set_option maxHeartbeats 1000000 in
theorem wrong_any (s : ByteArray) (g i : Nat) (w : World) (hs : s.size ≤ 1000000) (hi : i < s.size) (h2 : w.cell? ⟨g, 0, none⟩ = some (.string s)) :
    Calls Tryz.prog 110 #[.pointer (some ⟨g, 0, none⟩), .int .i64 (i : Int)] w fun e w' => e = .returned (.bool (wrongAt s.data.toList i)) ∧ ∃ n, w' = w.drewN n := by
  have HV := Lib.hid (show wrongAt s.data.toList i = (!white s[i] && s[i] != 35 && !letter s[i] && !digit s[i] && sym s.data.toList i == 0) by unfold wrongAt; rw [at_get s i hi])
  have H1 := Lib.hid (white_any s[i] w)
  have H2 := Lib.hid (letter_any s[i] w)
  have H3 := Lib.hid (digit_any s[i] w)
  have H4 := Lib.hid (symbol_any s g i w hs hi h2)
  have h35 : (s[i] != 35) = ((s[i].toNat : Int) != 35) := by
    unfold bne
    rw [u8_eq s[i] 35]
    rfl
  have H35 := Lib.hid h35
  clear h35
  cases c1 : white s[i] with
  | true =>
    rw [c1] at H1 HV
    go_enter Tryz.func110, Tryz.ntmps110
    go_wp2_with (fail)
    refine H1.out.mono ?_
    rintro e w' ⟨rfl, rfl⟩
    go_wp2_with (fail)
    go_ret
    exact ⟨congrArg (fun x => Ending.returned (Value.bool x)) (by rw [HV.out]; rfl), 0, rfl⟩
  | false =>
    rw [c1] at H1 HV
    cases c2 : ((s[i].toNat : Int) != 35) with
    | false =>
      have HC := Lib.hid c2
      go_enter Tryz.func110, Tryz.ntmps110
      go_wp2_with (fail)
      refine H1.out.mono ?_
      rintro e w' ⟨rfl, rfl⟩
      go_wp2_with (fail)
      go_ret
      exact ⟨congrArg (fun x => Ending.returned (Value.bool x)) (by rw [HV.out, H35.out, HC.out]; rfl), 0, rfl⟩
    | true =>
      have HC := Lib.hid c2
      cases c3 : letter s[i] with
      | true =>
        rw [c3] at H2 HV
        go_enter Tryz.func110, Tryz.ntmps110
        go_wp2_with (fail)
        refine H1.out.mono ?_
        rintro e w' ⟨rfl, rfl⟩
        go_wp2_with (fail)
        refine H2.out.mono ?_
        rintro e w' ⟨rfl, rfl⟩
        go_wp2_with (fail)
        go_ret
        exact ⟨congrArg (fun x => Ending.returned (Value.bool x)) (by rw [HV.out, H35.out, HC.out]; rfl), 0, rfl⟩
      | false =>
        rw [c3] at H2 HV
        cases c4 : digit s[i] with
        | true =>
          rw [c4] at H3 HV
          go_enter Tryz.func110, Tryz.ntmps110
          go_wp2_with (fail)
          refine H1.out.mono ?_
          rintro e w' ⟨rfl, rfl⟩
          go_wp2_with (fail)
          refine H2.out.mono ?_
          rintro e w' ⟨rfl, rfl⟩
          go_wp2_with (fail)
          refine H3.out.mono ?_
          rintro e w' ⟨rfl, rfl⟩
          go_wp2_with (fail)
          go_ret
          exact ⟨congrArg (fun x => Ending.returned (Value.bool x)) (by rw [HV.out, H35.out, HC.out]; rfl), 0, rfl⟩
        | false =>
          rw [c4] at H3 HV
          have HS := Lib.hid (show (sym s.data.toList i == 0) = (((sym s.data.toList i : Nat) : Int) == 0) by
            rw [Bool.eq_iff_iff]
            simp only [beq_iff_eq]
            omega)
          generalize sym s.data.toList i = y at *
          go_enter Tryz.func110, Tryz.ntmps110
          go_wp2_with (fail)
          refine H1.out.mono ?_
          rintro e w' ⟨rfl, rfl⟩
          go_wp2_with (fail)
          refine H2.out.mono ?_
          rintro e w' ⟨rfl, rfl⟩
          go_wp2_with (fail)
          refine H3.out.mono ?_
          rintro e w' ⟨rfl, rfl⟩
          go_wp2_with (fail)
          refine H4.out.mono ?_
          rintro e w' ⟨rfl, n, rfl⟩
          go_wp2_with (fail)
          go_ret
          exact ⟨congrArg (fun x => Ending.returned (Value.bool x)) (by rw [HV.out, H35.out, HC.out, HS.out]; rfl), n, rfl⟩

/-- the scanner's struct in block g, its map in block b, its place at -/
def Sc (w : World) (g b : Nat) (s : ByteArray) (at_ : Int) : Prop := w.heap[g]? = some (.cells #[.string s, .map (some b), .int .i64 at_] 135 (0, 0)) ∧ KwMap w b
theorem Sc.c0 {w : World} {g b : Nat} {s : ByteArray} {a : Int} (h : Sc w g b s a) : w.cell? ⟨g, 0, none⟩ = some (.string s) := by simp [World.cell?, h.1]
theorem Sc.c1 {w : World} {g b : Nat} {s : ByteArray} {a : Int} (h : Sc w g b s a) : w.cell? ⟨g, 1, none⟩ = some (.map (some b)) := by simp [World.cell?, h.1]
theorem Sc.c2 {w : World} {g b : Nat} {s : ByteArray} {a : Int} (h : Sc w g b s a) : w.cell? ⟨g, 2, none⟩ = some (.int .i64 a) := by simp [World.cell?, h.1]
theorem Sc.fz {w : World} {g b : Nat} {s : ByteArray} {a : Int} (h : Sc w g b s a) : w.frozen? ⟨g, 2, none⟩ = false := by simp [World.frozen?, h.1]
theorem Sc.lt {w : World} {g b : Nat} {s : ByteArray} {a : Int} (h : Sc w g b s a) : g < w.heap.size := World.block_lt_of_cell? w _ h.c0
theorem Sc.below {w w' : World} {g b : Nat} {s : ByteArray} {a : Int} (h : Sc w g b s a) (hb : Below w.heap.size w w') : Sc w' g b s a := ⟨(hb.block g h.lt).trans h.1, h.2.below hb⟩
theorem Sc.drew {w : World} {g b : Nat} {s : ByteArray} {a : Int} (h : Sc w g b s a) (n : Nat) : Sc (w.drewN n) g b s a := h

theorem enterK50 : ∀ args w, (callFunc 102 args).run Tryz.prog w = .ok (.enter 102 args) w := enters_of Tryz.func102 (by kernel_rfl) rfl
theorem enterK52 : ∀ args w, (callFunc 104 args).run Tryz.prog w = .ok (.enter 104 args) w := enters_of Tryz.func104 (by kernel_rfl) rfl
theorem enterK54 : ∀ args w, (callFunc 106 args).run Tryz.prog w = .ok (.enter 106 args) w := enters_of Tryz.func106 (by kernel_rfl) rfl
theorem enterK56 : ∀ args w, (callFunc 108 args).run Tryz.prog w = .ok (.enter 108 args) w := enters_of Tryz.func108 (by kernel_rfl) rfl

theorem run_size (s : ByteArray) (p : UInt8 → Bool) (i : Nat) : whl (fun j => p (at_ s.data.toList j)) (s.size - i) i = run s.data.toList p i := by
  unfold run
  rw [show s.data.toList.length = s.size from by simp]

theorem while_white (s : ByteArray) (h g i : Nat) (w : World) (hs : s.size ≤ 1000000) (hi : i ≤ s.size) (h1 : w.cell? ⟨h, 0, none⟩ = some (.pointer (some ⟨g, 0, none⟩))) (h2 : w.cell? ⟨g, 0, none⟩ = some (.string s)) :
    Calls Tryz.prog 101 #[.pointer (some ⟨g, 0, none⟩), .int .i64 (i : Int), .func (.func 102) #[] #[.pointer (some ⟨h, 0, none⟩)]] w fun e w' => e = .returned (.int .i64 (run s.data.toList white i : Int)) ∧ w = w' := by
  have a := while_cap _ (.pointer (some ⟨h, 0, none⟩)) (fun j => white (at_ s.data.toList j)) s g i w hs hi h2 enterK50 (fun j hj => clo_white s h g j w hj h1 h2)
  rwa [run_size] at a
theorem while_notNl (s : ByteArray) (h g i : Nat) (w : World) (hs : s.size ≤ 1000000) (hi : i ≤ s.size) (h1 : w.cell? ⟨h, 0, none⟩ = some (.pointer (some ⟨g, 0, none⟩))) (h2 : w.cell? ⟨g, 0, none⟩ = some (.string s)) :
    Calls Tryz.prog 101 #[.pointer (some ⟨g, 0, none⟩), .int .i64 (i : Int), .func (.func 104) #[] #[.pointer (some ⟨h, 0, none⟩)]] w fun e w' => e = .returned (.int .i64 (run s.data.toList notNl i : Int)) ∧ w = w' := by
  have a := while_cap _ (.pointer (some ⟨h, 0, none⟩)) (fun j => notNl (at_ s.data.toList j)) s g i w hs hi h2 enterK52 (fun j hj => clo_notNl s h g j w hj h1 h2)
  rwa [run_size] at a
theorem while_inName (s : ByteArray) (h g i : Nat) (w : World) (hs : s.size ≤ 1000000) (hi : i ≤ s.size) (h1 : w.cell? ⟨h, 0, none⟩ = some (.pointer (some ⟨g, 0, none⟩))) (h2 : w.cell? ⟨g, 0, none⟩ = some (.string s)) :
    Calls Tryz.prog 101 #[.pointer (some ⟨g, 0, none⟩), .int .i64 (i : Int), .func (.func 106) #[] #[.pointer (some ⟨h, 0, none⟩)]] w fun e w' => e = .returned (.int .i64 (run s.data.toList inName i : Int)) ∧ w = w' := by
  have a := while_cap _ (.pointer (some ⟨h, 0, none⟩)) (fun j => inName (at_ s.data.toList j)) s g i w hs hi h2 enterK54 (fun j hj => clo_inName s h g j w hj h1 h2)
  rwa [run_size] at a
theorem while_digit (s : ByteArray) (h g i : Nat) (w : World) (hs : s.size ≤ 1000000) (hi : i ≤ s.size) (h1 : w.cell? ⟨h, 0, none⟩ = some (.pointer (some ⟨g, 0, none⟩))) (h2 : w.cell? ⟨g, 0, none⟩ = some (.string s)) :
    Calls Tryz.prog 101 #[.pointer (some ⟨g, 0, none⟩), .int .i64 (i : Int), .func (.func 108) #[] #[.pointer (some ⟨h, 0, none⟩)]] w fun e w' => e = .returned (.int .i64 (run s.data.toList digit i : Int)) ∧ w = w' := by
  have a := while_cap _ (.pointer (some ⟨h, 0, none⟩)) (fun j => digit (at_ s.data.toList j)) s g i w hs hi h2 enterK56 (fun j hj => clo_digit s h g j w hj h1 h2)
  rwa [run_size] at a

set_option maxHeartbeats 1000000 in
theorem blank_any (s : ByteArray) (g i : Nat) (w : World) (hs : s.size ≤ 1000000) (hi : i ≤ s.size) (h2 : w.cell? ⟨g, 0, none⟩ = some (.string s)) (hg : g < w.heap.size) :
    Calls Tryz.prog 97 #[.pointer (some ⟨g, 0, none⟩), .int .i64 (i : Int)] w fun e w' => e = .returned (.int .i64 (blank s.data.toList i : Int)) ∧ Below w.heap.size w w' := by
  have hmf : ∀ (fn : Fn) (first cap : Array Value) (w : World), (Instr.makeFunc fn first cap).run Tryz.prog w = .ok (.func fn first cap) w := fun _ _ _ _ => rfl
  have k1 : (w.alloc (.cells #[.pointer (some ⟨g, 0, none⟩)] 120)).cell? ⟨w.heap.size, 0, none⟩ = some (.pointer (some ⟨g, 0, none⟩)) := by
    rw [Lib.cell_of_heap (heap_alloc_new w _)]
    rfl
  have k2 : (w.alloc (.cells #[.pointer (some ⟨g, 0, none⟩)] 120)).cell? ⟨g, 0, none⟩ = some (.string s) := (World.cell?_alloc_lt w _ _ hg).trans h2
  have K1 := Lib.hid k1
  have K2 := Lib.hid k2
  have HB := Lib.hid ((Below.refl w.heap.size w).alloc (Nat.le_refl _) (.cells #[.pointer (some ⟨g, 0, none⟩)] 120))
  clear k1 k2 h2
  go_enter Tryz.func97, Tryz.ntmps97
  go_wp2_with (fail)
  have hsz : s.data.toList.length = s.size := by simp
  go_loop [1] (fun x => ∃ k f : Nat, k ≤ s.size ∧ x = .int .i64 (k : Int) ∧ s.size - k < f ∧ Hid (blank s.data.toList i = blk s.data.toList f k)) (fun x => s.size - (intOf x).toNat)
  case atStart => exact ⟨i, s.data.toList.length + 1, hi, rfl, by omega, rfl⟩
  case round =>
    obtain ⟨k, f, hk, rfl, hf, hbl⟩ := hrel
    obtain ⟨f', rfl⟩ : ∃ f', f = f' + 1 := ⟨f - 1, by omega⟩
    have hw := Lib.hid (while_white s w.heap.size g k _ hs hk K1.out K2.out)
    have hbd := run_bd s.data.toList white k (by omega)
    have hst := Lib.hid (hbl.out.trans (blk_step s.data.toList f' k))
    have hy := Lib.hid (run_yes s.data.toList notNl (run s.data.toList white k))
    have hb2 := Lib.hid (run_bd s.data.toList notNl (run s.data.toList white k))
    have hn := Lib.hid (fun h => while_notNl s w.heap.size g (run s.data.toList white k) _ hs h K1.out K2.out)
    rw [hsz] at hbd hst hy hb2
    generalize run s.data.toList white k = j at *
    have hk1 := K1.out
    have hk2 := K2.out
    by_cases hj : j = s.size
    · have HV := Lib.hid (hst.out.trans (if_pos (.inl hj)))
      have hjb : ((j : Int) == (s.size : Int)) = true := by simp [hj]
      clear hj
      go_wp2_with (fail)
      refine hw.out.mono ?_
      rintro e w' ⟨rfl, rfl⟩
      go_wp2_with (fail)
      go_ret
      exact ⟨by rw [HV.out]; rfl, HB.out⟩
    · have hjl : j < s.size := by omega
      have hjl' : (j : Int) < (s.size : Int) := by omega
      have hjb : ((j : Int) == (s.size : Int)) = false := by simp; omega
      have hat := at_get s j hjl
      have h35 : (s[j] != 35) = ((s[j].toNat : Int) != 35) := by
        unfold bne
        rw [u8_eq s[j] 35]
        rfl
      cases hc : ((s[j].toNat : Int) != 35) with
      | true =>
        have HV := Lib.hid (hst.out.trans (if_pos (.inr (by rw [hat]; intro e; rw [hc, e] at h35; cases h35))))
        clear hat h35 hj
        go_wp2_with (fail)
        refine hw.out.mono ?_
        rintro e w' ⟨rfl, rfl⟩
        go_wp2_with (fail)
        go_ret
        exact ⟨by rw [HV.out]; rfl, HB.out⟩
      | false =>
        have e35 : at_ s.data.toList j = 35 := by
          rw [hat]
          rw [hc] at h35
          simpa using h35
        have HV := Lib.hid (hst.out.trans (if_neg (by intro h; rcases h with h | h; exact hj h; exact h e35)))
        have hy2 := hy.out hjl (by rw [e35]; rfl)
        have hb3 := (hb2.out (by omega)).2
        have hn2 := Lib.hid (hn.out (by omega))
        generalize run s.data.toList notNl j = m at *
        clear hat h35 hj e35 hn hy hb2 hst
        go_wp2_with (fail)
        refine hw.out.mono ?_
        rintro e w' ⟨rfl, rfl⟩
        go_wp2_with (fail)
        refine hn2.out.mono ?_
        rintro e w' ⟨rfl, rfl⟩
        go_wp2_with (fail)
        exact ⟨⟨m, f', hb3, rfl, by omega, HV⟩, by simp [intOf]; omega⟩
end Go.Proofs.YtoopnddlcofhoaaGreatDoor.Lx
