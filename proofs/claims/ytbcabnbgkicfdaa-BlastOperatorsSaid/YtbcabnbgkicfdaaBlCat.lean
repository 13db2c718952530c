/- What is proved: slices.Grow of nil and slices.Concat of slices of numbers: the numbers of all, in new memory. -/
import Derived.Test.YtbcabnbgkicfdaaBlBlk
set_option linter.unusedVariables false
namespace Go.Proofs.Ytbcabnbgkicfdaa
open Go.RowKit Go.Maps

section
variable {P : Program} (w : World)
theorem run_append_made (t u ty e : TypeId) (i : TypeInfo) (z : Value) (ht : P.underlying t = some (.slice e)) (hu : P.underlying u = some (.int .i64)) (hi : P.info? e = some i) (hz : i.zero = some z)
    (m : Nat) (h0 : 0 < m) (hzs : z.cells.size = i.size) (hsz : 0 < i.size) (h63 : (m : Int) ≤ 140737488355328) (h48 : m * i.bytes ≤ 281474976710656) :
    (Builtin.append_ #[t, u] ty #[.slice none 0 0, .int .i64 (m : Int)]).run P w =
      .ok (.slice (some ⟨w.heap.size, 0, none⟩) m (grownCap w m 0 e))
        (w.drew.alloc (.cells (Builtin.zeroCells z.cells m ++ Builtin.zeroCells z.cells (grownCap w m 0 e - m)) e)) := by
  have hn : m ≠ 0 := by omega
  have hneg : ¬ ((m : Int) < 0) := by omega
  have hw : IntKind.i64.wrap (m : Int) = (m : Int) := IntWalk.i64_in _ (by omega)
  have h63' : ¬ (9223372036854775807 < (m : Int)) := by omega
  have hb : ((m * i.bytes : Nat) : Int) ≤ 281474976710656 := by omega
  rw [Int.natCast_mul] at hb
  have h48a : ¬ (281474976710656 < (m : Int) * (i.bytes : Int)) := by omega
  have h48' : ¬ (281474976710656 < Builtin.nextslicecap m 0 * i.bytes) := by rw [nextslicecap_zero h0]; omega
  simp [Builtin.append_, run_underlying ht, run_underlying hu, sizeOf, typeInfo, zeroValue, hi, hz, asInt, asIntOf, hw, hneg, hn, h63', h48', h48a, Builtin.firstCells, Question.forced, newRow, grownCap]
  intro h
  exfalso
  rcases Nat.mul_eq_zero.1 h with h | h <;> omega
end
set_option maxHeartbeats 1000000 in
theorem zgrow_any (m : Nat) (w : World) (hm : m ≤ 1000000) :
    Calls Try.prog 114 #[.slice none 0 0, .int .i64 (m : Int)] w fun e w' => ∃ v, e = .returned v ∧ ZOwn w' w.heap.size v [] ∧ Below w.heap.size w w' := by
  obtain ⟨i0, hi0, hz0, hz1, hz2⟩ := info_parts infoInt
  rcases Nat.eq_zero_or_pos m with h0 | h0
  · subst h0
    go_enter Try.func114, Try.ntmps114
    go_wp2_with (fail)
    go_ret
    exact ⟨_, rfl, World.ownsRow_nil _ _ _ _, Below.refl _ _⟩
  · have HAP := Lib.hid (fun W : World => run_append_made (P := Try.prog) W 47 3 47 3 i0 _ Try.underlying47 Try.underlying3 hi0 hz0 m h0 (by rw [hz1]; rfl) (by omega) (by omega) (by rw [hz2]; omega))
    clear hi0 hz0 hz1 hz2
    go_enter Try.func114, Try.ntmps114
    go_wp2_with (at_builtin; refine app_by rfl _ _ 47 3 rfl _ _ rfl rfl _ _ (HAP.out _) ?_; intro w9 hw9; obtain rfl := hw9.out)
    go_ret
    refine ⟨_, rfl, World.ownsRow_made w _ _ (Nat.le_refl _) (grownCap_le_maxLen w m 0 _ (by unfold maxLen; omega)) ?_, ((Below.refl w.heap.size w).alloc (Nat.le_refl _) _).drew⟩
    have h1 := grownCap_ge w m 0 3
    simp only [Array.size_append, size_zeroCells, List.size_toArray, List.length_cons, List.length_nil]
    omega
/-- a slice of numbers -/
structure Sz where
  A : Option Addr
  c : Nat
  l : List Int
def fl : List Sz → List Int
  | [] => []
  | s :: r => s.l ++ fl r
theorem fl_append (a b : List Sz) : fl (a ++ b) = fl a ++ fl b := by
  induction a with
  | nil => rfl
  | cons x xs ih => simp [fl, ih]
theorem fl_get {L : List Sz} {k : Nat} (h : k < L.length) : fl (L.take (k + 1)) = fl (L.take k) ++ L[k].l := by
  rw [List.take_succ_eq_append_getElem h, fl_append]; simp [fl]
theorem fl_take_le (L : List Sz) (k : Nat) : (fl (L.take k)).length ≤ (fl L).length := by
  have h := fl_append (L.take k) (L.drop k)
  rw [List.take_append_drop] at h
  rw [h, List.length_append]; omega
set_option maxHeartbeats 2000000 in
set_option maxRecDepth 100000 in
theorem zconcat_any (B : Nat) (L : List Sz) (w : World) (hB : B < w.heap.size) (hL : L.length ≤ 1000) (hcell : ∀ (k : Nat) (h : k < L.length), w.cell? ⟨B, k, none⟩ = some (.slice L[k].A L[k].l.length L[k].c)) (hrow : ∀ (k : Nat) (h : k < L.length), WRow w.heap.size w L[k].A L[k].l) (htot : (fl L).length ≤ 1000000) :
    Calls Try.prog 112 #[.slice (some ⟨B, 0, none⟩) L.length L.length] w fun e w' => ∃ A' c', e = .returned (.slice A' (fl L).length c') ∧ ZOwn w' w.heap.size (.slice A' (fl L).length c') (fl L) ∧ Below w.heap.size w w' := by
  have HCE := Lib.hid hcell
  have HRW := Lib.hid hrow
  clear hcell hrow
  go_enter Try.func112, Try.ntmps112
  go_wp2_with (fail)
  go_loop [3, 11] (fun x i => ∃ k : Nat, k ≤ L.length ∧ i = .int .i64 (k : Int) ∧ x = .int .i64 ((fl (L.take k)).length : Int)) (fun _ i => L.length - (intOf i).toNat)
  case atStart => exact ⟨0, Nat.zero_le _, rfl, rfl⟩
  case round =>
    obtain ⟨k, hk, rfl, rfl⟩ := hrel
    have hle := fl_take_le L k
    by_cases hlt : k < L.length
    · have ck := HCE.out k hlt
      have HG := Lib.hid (fl_get hlt)
      have hle2 := fl_take_le L (k + 1)
      have hg2 := congrArg List.length (fl_get hlt)
      rw [List.length_append] at hg2
      generalize L[k] = s at *
      go_wp2_with (fail)
      exact ⟨⟨k + 1, by omega, by go_num, by rw [hg2]; go_num⟩, by simp [intOf]; omega⟩
    · have e : L.take k = L := List.take_of_length_le (by omega)
      rw [e]
      clear e hle
      go_wp2_with (fail)
      refine (zgrow_any (fl L).length w htot).mono ?_
      rintro e w2 ⟨v, rfl, hown, hb2⟩
      have HB2 := Lib.hid hb2
      have HO2 := Lib.hid hown
      clear hown hb2
      go_wp2_with (fail)
      go_loopw [6, 27] (fun v i wq => ∃ (k : Nat), k ≤ L.length ∧ i = .int .i64 (k : Int) ∧ Hid (ZOwn wq w.heap.size v (fl (L.take k))) ∧ Hid (Below w.heap.size w wq)) (fun _ i _ => L.length - (intOf i).toNat)
      case atStart => exact ⟨0, Nat.zero_le _, rfl, HO2, HB2⟩
      case round =>
        obtain ⟨k, hk, rfl, hown, hbq⟩ := hrel
        have hle := fl_take_le L k
        have hzq := hbq.out.size
        by_cases hlt : k < L.length
        · have ck := (hbq.out.cell (p := ⟨B, k, none⟩) hB).trans (HCE.out k hlt)
          have HG := Lib.hid (fl_get hlt)
          have hle2 := fl_take_le L (k + 1)
          have hg2 := congrArg List.length (fl_get hlt)
          rw [List.length_append] at hg2
          have HRK := Lib.hid ((HRW.out k hlt).below hbq.out (Nat.le_refl _))
          generalize L[k] = s at *
          obtain ⟨X', cap', w8, hrun, hown8, hgr8⟩ := z_append (w := wr) w.heap.size (fl (L.take k)).length u6 _ hown.out rfl s.A s.c s.l.length s.l rfl (HRK.out.here.zrow) (by omega) (by omega)
          have HO8 := Lib.hid (show ZOwn w8 w.heap.size (.slice X' ((fl (L.take k)).length + s.l.length) cap') (fl (L.take (k + 1))) by rw [HG.out]; exact hown8)
          have HB8 := Lib.hid (hbq.out.trans (grown_below hgr8 (own_lo hown.out) hzq))
          clear hown8 hgr8 hown hg2 hle2 hle HRK
          go_wp2_with (at_builtin; refine app_by rfl _ _ 47 47 rfl _ _ rfl rfl _ _ hrun ?_; intro w9 hw9; obtain rfl := hw9.out)
          exact ⟨⟨k + 1, by omega, by go_num, HO8, HB8⟩, by simp [intOf]; omega⟩
        · have e : L.take k = L := List.take_of_length_le (by omega)
          rw [e] at hown
          clear e
          obtain ⟨A', c', hu, _, _⟩ := hown.out.form
          subst hu
          go_wp2_with (fail)
          go_ret
          exact ⟨A', c', rfl, hown.out, hbq.out⟩
/-- two slices put together -/
theorem zconcat2 (a : Nat) (A : Option Addr) (c : Nat) (l : List Int) (B : Option Addr) (d : Nat) (m : List Int) (w : World) (h : w.heap[a]? = some (.cells #[.slice A l.length c, .slice B m.length d] 47 (0, 0))) (hA : WRow w.heap.size w A l) (hB : WRow w.heap.size w B m) (hl : l.length + m.length ≤ 1000) :
    Calls Try.prog 112 #[.slice (some ⟨a, 0, none⟩) 2 2] w fun e w' => ∃ A' c', e = .returned (.slice A' (l.length + m.length) c') ∧ ZOwn w' w.heap.size (.slice A' (l.length + m.length) c') (l ++ m) ∧ Below w.heap.size w w' := by
  have e : fl [⟨A, c, l⟩, ⟨B, d, m⟩] = l ++ m := by simp [fl]
  have e2 : (fl [⟨A, c, l⟩, ⟨B, d, m⟩]).length = l.length + m.length := by rw [e]; simp
  have k := zconcat_any a [⟨A, c, l⟩, ⟨B, d, m⟩] w (hlt h) (by simp) (fun k hk => by
    have q := fun j => Lib.cell_of_heap h j
    have : k = 0 ∨ k = 1 := by simp at hk; omega
    rcases this with rfl | rfl
    · exact q 0
    · exact q 1) (fun k hk => by
    have : k = 0 ∨ k = 1 := by simp at hk; omega
    rcases this with rfl | rfl
    · exact hA
    · exact hB) (by rw [e2]; omega)
  rw [e2, e] at k
  exact k
end Go.Proofs.Ytbcabnbgkicfdaa
