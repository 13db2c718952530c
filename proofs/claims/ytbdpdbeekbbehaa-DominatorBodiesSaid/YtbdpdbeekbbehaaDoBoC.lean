/- What is proved: IsSorted of a sorted list, Contains, and the two functions that the law DominatorBodies makes. -/
import Derived.Test.YtbdpdbeekbbehaaDoBoP
import Derived.Test.YtbdpdbeekbbehaaShelf3
set_option linter.unusedVariables false
namespace Go.Proofs.Ytbdpdbeekbbehaa
open Go.RowKit Go.Shelf

set_option maxRecDepth 100000 in
set_option maxHeartbeats 2000000 in
theorem issorted_any (w : World) (A : Option Addr) (c : Nat) (xs : List Int) (hx : ZRow w.heap.size w A xs) (hs : ∀ i j (hi : i < xs.length) (hj : j < xs.length), i < j → xs[i] ≤ xs[j]) (hn : xs.length ≤ 1000000) (h0 : 0 < xs.length) :
    Calls Try.prog 36 #[.slice A xs.length c] w fun e W => e = .returned (.bool true) ∧ Below w.heap.size w W := by
  have HX := Lib.hid hx
  have HS := Lib.hid hs
  clear hx hs
  go_enter Try.func36, Try.ntmps36
  have h1 : (0 : Int) ≤ (xs.length : Int) - 1 := by omega
  go_wp2_with (fail)
  go_loopw [3] (fun i wr => ∃ k : Nat, i = .int .i64 (k : Int) ∧ k < xs.length ∧ Hid (Below w.heap.size w wr)) (fun i _ => (intOf i).toNat)
  case atStart => exact ⟨xs.length - 1, by congr 1; omega, by omega, Lib.hid (Below.refl _ _)⟩
  case round =>
    obtain ⟨k, rfl, hk, hbw⟩ := hrel
    by_cases hk0 : k = 0
    · subst hk0
      go_wp2_with (fail)
      go_ret
      exact ⟨rfl, hbw.out⟩
    · obtain ⟨b, o, rfl, hb, hcs⟩ := (HX.out.below hbw.out) (by omega)
      have hk1 : k - 1 < xs.length := by omega
      have r0 := hcs k hk
      have r1 := hcs (k - 1) hk1
      have hle := HS.out (k - 1) k hk1 hk (by omega)
      obtain ⟨x, HXX⟩ : ∃ x, Hid (xs[k] = x) := ⟨_, Lib.hid rfl⟩
      obtain ⟨y, HYY⟩ : ∃ y, Hid (xs[k - 1] = y) := ⟨_, Lib.hid rfl⟩
      rw [HXX.out] at r0 hle
      rw [HYY.out] at r1 hle
      have hbl : b < wr.heap.size := Nat.lt_of_lt_of_le hb hbw.out.size
      have HX0 := Lib.hid (show ∀ W, Below wr.heap.size wr W → W.cell? ⟨b, o + k, none⟩ = some (.int .i64 x) from fun W hW => (hW.cell (p := ⟨b, o + k, none⟩) hbl).trans r0)
      have HY0 := Lib.hid (show ∀ W, Below wr.heap.size wr W → W.cell? ⟨b, o + (k - 1), none⟩ = some (.int .i64 y) from fun W hW => (hW.cell (p := ⟨b, o + (k - 1), none⟩) hbl).trans r1)
      have HLE := Lib.hid (show decide (x < y) = false from decide_eq_false (by omega))
      clear hcs r0 r1 hle
      have hm1 : (0 : Int) ≤ (k : Int) - 1 := by omega
      have hm2 : (k : Int) - 1 < (xs.length : Int) := by omega
      have hm3 : ((k : Int) - 1).toNat = k - 1 := by omega
      have hm4 : ¬ (k : Int) < 1 := by omega
      have hm5 : IntKind.i64.wrap ((k : Int) - 1) = (k : Int) - 1 := IntWalk.i64_in _ (by omega)
      have hg : 0 < (k : Int) := by omega
      go_upto_region 4 with (fail)
      rename_i K hKK
      refine wp_region_noPanic ?_
      refine wp_region_held_drew (S := fun w' => Below wr.heap.size wr w') (by kernel_rfl) (Below.refl _ _).drew (fun _ => ?_)
      have HB5 := Lib.hid (show Below wr.heap.size wr wr.drew from (Below.refl _ _).drew)
      generalize wr.drew = w5 at *
      refine wpAnyH_take (i := 0) (oi := { dst := some 11, op := Op.move (Operand.tmp 0), type := 29, pos := "sort.go:44", after := #[], guard := none }) (v := .slice (some ⟨b, o, none⟩) xs.length c) rfl (by kernel_rfl) (by kernel_rfl) (by kernel_rfl) (fun _ _ _ h => h) (Or.inl ⟨by rfl, ?_⟩) HB5.out ?_
      · (intro w' hSw; go_simp)
      simp only [Act.put, List.setIfInBounds_toArray, List.set_cons_zero, List.set_cons_succ]
      refine wpAnyH_take (i := 1) (oi := { dst := some 12, op := Op.move (Operand.tmp 3), type := 3, pos := "sort.go:44", after := #[], guard := none }) (v := .int .i64 (k : Int)) rfl (by kernel_rfl) (by kernel_rfl) (by kernel_rfl) (fun _ _ _ h => h) (Or.inl ⟨by rfl, ?_⟩) HB5.out ?_
      · (intro w' hSw; go_simp)
      simp only [Act.put, List.setIfInBounds_toArray, List.set_cons_zero, List.set_cons_succ]
      refine wpAnyH_take (i := 2) (oi := { dst := some 13, op := Op.indexAddr 29 (Operand.tmp 11) (Operand.tmp 12), type := 0, pos := "sort.go:44", after := #[{ on := 0, ground := Ground.data }, { on := 1, ground := Ground.data }], guard := none }) (v := .pointer (some ⟨b, o + k, none⟩)) rfl (by kernel_rfl) (by kernel_rfl) (by kernel_rfl) (fun _ _ _ h => h) (Or.inl ⟨by rfl, ?_⟩) HB5.out ?_
      · (intro w' hSw; go_simp)
      simp only [Act.put, List.setIfInBounds_toArray, List.set_cons_zero, List.set_cons_succ]
      refine wpAnyH_take (i := 3) (oi := { dst := some 14, op := Op.load 3 (Operand.tmp 13), type := 3, pos := "sort.go:44", after := #[{ on := 2, ground := Ground.data }], guard := none }) (v := .int .i64 x) rfl (by kernel_rfl) (by kernel_rfl) (by kernel_rfl) (fun _ _ _ h => h) (Or.inl ⟨by rfl, ?_⟩) HB5.out ?_
      · (intro w' hSw; have z := HX0.out w' hSw; go_simp)
      simp only [Act.put, List.setIfInBounds_toArray, List.set_cons_zero, List.set_cons_succ]
      refine wpAnyH_take (i := 4) (oi := { dst := some 15, op := Op.move (Operand.tmp 0), type := 29, pos := "sort.go:44", after := #[], guard := none }) (v := .slice (some ⟨b, o, none⟩) xs.length c) rfl (by kernel_rfl) (by kernel_rfl) (by kernel_rfl) (fun _ _ _ h => h) (Or.inl ⟨by rfl, ?_⟩) HB5.out ?_
      · (intro w' hSw; go_simp)
      simp only [Act.put, List.setIfInBounds_toArray, List.set_cons_zero, List.set_cons_succ]
      refine wpAnyH_take (i := 5) (oi := { dst := some 16, op := Op.move (Operand.tmp 3), type := 3, pos := "sort.go:44", after := #[], guard := none }) (v := .int .i64 (k : Int)) rfl (by kernel_rfl) (by kernel_rfl) (by kernel_rfl) (fun _ _ _ h => h) (Or.inl ⟨by rfl, ?_⟩) HB5.out ?_
      · (intro w' hSw; go_simp)
      simp only [Act.put, List.setIfInBounds_toArray, List.set_cons_zero, List.set_cons_succ]
      refine wpAnyH_take (i := 6) (oi := { dst := some 17, op := Op.binOp BinOp.sub 3 (Operand.tmp 16) (Operand.const (Value.int IntKind.i64 1)) 3, type := 3, pos := "sort.go:44", after := #[{ on := 5, ground := Ground.data }], guard := none }) (v := .int .i64 ((k : Int) - 1)) rfl (by kernel_rfl) (by kernel_rfl) (by kernel_rfl) (fun _ _ _ h => h) (Or.inl ⟨by rfl, ?_⟩) HB5.out ?_
      · (intro w' hSw; go_simp)
      simp only [Act.put, List.setIfInBounds_toArray, List.set_cons_zero, List.set_cons_succ]
      refine wpAnyH_take (i := 7) (oi := { dst := some 18, op := Op.indexAddr 29 (Operand.tmp 15) (Operand.tmp 17), type := 0, pos := "sort.go:44", after := #[{ on := 4, ground := Ground.data }, { on := 6, ground := Ground.data }], guard := none }) (v := .pointer (some ⟨b, o + (k - 1), none⟩)) rfl (by kernel_rfl) (by kernel_rfl) (by kernel_rfl) (fun _ _ _ h => h) (Or.inl ⟨by rfl, ?_⟩) HB5.out ?_
      · (intro w' hSw; go_simp)
      simp only [Act.put, List.setIfInBounds_toArray, List.set_cons_zero, List.set_cons_succ]
      refine wpAnyH_take (i := 8) (oi := { dst := some 19, op := Op.load 3 (Operand.tmp 18), type := 3, pos := "sort.go:44", after := #[{ on := 7, ground := Ground.data }], guard := none }) (v := .int .i64 y) rfl (by kernel_rfl) (by kernel_rfl) (by kernel_rfl) (fun _ _ _ h => h) (Or.inl ⟨by rfl, ?_⟩) HB5.out ?_
      · (intro w' hSw; have z := HY0.out w' hSw; go_simp)
      simp only [Act.put, List.setIfInBounds_toArray, List.set_cons_zero, List.set_cons_succ]
      refine wpAnyH_ready (rs := [9]) (by kernel_rfl) (by simp) (AllReadyH.cons (o := { dst := some 20, op := Op.call { callee := Callee.value (Operand.func 62), args := #[Operand.tmp 14, Operand.tmp 19], argTypes := #[3, 3] }, type := 4, pos := "sort.go:44", after := #[{ on := 3, ground := Ground.data }, { on := 8, ground := Ground.data }], guard := none }) rfl (fun K hK => ?_) AllReadyH.nil)
      go_simp
      go_at_call 62
      refine (Try.cmp_Less_int2 x y w5).mono ?_
      rintro e w6 ⟨rfl, hw6⟩
      rw [HLE.out]
      obtain rfl := hw6.symm
      refine hK.out _ _ HB5.out (fun _ => ?_)
      clear hK K
      try simp only [Act.put, List.setIfInBounds_toArray, List.set_cons_zero, List.set_cons_succ]
      refine wpAnyH_done (by kernel_rfl) ?_ _
      refine NoPanic.normal ?_
      refine hKK _ _ ?_
      go_wp2_with (fail)
      exact ⟨⟨k - 1, by go_num, by omega, Lib.hid (hbw.out.trans (HB5.out.mono hbw.out.size))⟩, by simp [intOf]; omega⟩
theorem contains_gen (w : World) (A : Option Addr) (n c : Nat) (xs : List Int) (x : Int) (hn : n = xs.length) (hx : ZRow w.heap.size w A xs) (hb : xs.length ≤ 1000000) (T : Bool) (hT : T = true ↔ x ∈ xs) :
    Calls Try.prog 33 #[.slice A n c, .int .i64 x] w fun e W => e = .returned (.bool T) ∧ W = w := by
  subst hn
  by_cases h0 : 0 < xs.length
  · obtain ⟨b, o, rfl, _, g⟩ := hx h0
    refine (Try.slices_Contains_int b o xs.length c xs x w (Nat.le_refl _) (by omega) (fun j hj => by rw [g j hj]; simp [hj])).mono ?_
    rintro e W ⟨rfl, rfl⟩
    rw [List.take_length]
    refine ⟨?_, rfl⟩
    congr 2
    rw [Bool.eq_iff_iff, hT]
    simp
  · have e : xs = [] := List.length_eq_zero_iff.1 (by omega)
    subst e
    refine (Try.slices_Contains_int_empty A c x w).mono ?_
    rintro e W ⟨rfl, rfl⟩
    refine ⟨?_, rfl⟩
    congr 2
    cases T with
    | false => rfl
    | true => exact absurd (hT.1 rfl) (by simp)
theorem bo1_eK : ∀ args w, (callFunc 38 args).run Try.prog w = .ok (.enter 38 args) w := enters_of Try.func38 (by kernel_rfl) rfl
theorem bo2_eK : ∀ args w, (callFunc 39 args).run Try.prog w = .ok (.enter 39 args) w := enters_of Try.func39 (by kernel_rfl) rfl
/-- is a number in the body -/
theorem bo1_ok {w : World} {lb : Nat} {h : Int} {X : Option Addr} {c : Nat} {xs ys : List Int} {P : Int → Bool} (hb : w.heap[lb]? = some (.cells #[.int .i64 h, .slice X xs.length c] 36 (0, 0))) (hx : ZRow w.heap.size w X xs) (hn : xs.length ≤ 1000000) (hP : ∀ x, P x = true ↔ x ∈ xs) : PrOk P ys 38 #[.pointer (some ⟨lb, 0, none⟩)] w := fun W x hW _ => by
  have c1 : W.cell? ⟨lb, 1, none⟩ = some (.slice X xs.length c) := Lib.cell_of_heap ((hW.block lb (hlt hb)).trans hb) 1
  have HC := Lib.hid (contains_gen W X xs.length c xs x rfl ((hx.below hW).mono hW.size) hn (P x) (hP x))
  clear hb hx hP
  show Calls Try.prog 38 #[.int .i64 x, .pointer (some ⟨lb, 0, none⟩)] W _
  go_enter Try.func38, Try.ntmps38
  go_wp2_with (fail)
  refine HC.out.mono ?_
  rintro e w2 ⟨rfl, hw⟩
  obtain rfl := hw.symm
  go_wp2_with (fail)
  go_ret
  exact ⟨rfl, Below.refl _ _⟩
/-- is a number another one than the first -/
theorem bo2_ok {w : World} {nb : Nat} {X : Option Addr} {c : Nat} {xs ys : List Int} {s : Int} {P : Int → Bool} (hb : Bx w nb 29 (.slice X xs.length c)) (hx : ZRow w.heap.size w X xs) (h0 : 0 < xs.length) (hs : xs[0] = s) (hP : ∀ x, P x = (x != s)) : PrOk P ys 39 #[.pointer (some ⟨nb, 0, none⟩)] w := fun W x hW _ => by
  have c1 := (hb.later hW).cell
  obtain ⟨b, o, rfl, _, hcs⟩ := (hx.below hW) h0
  have c2 := hcs 0 h0
  rw [hs, Nat.add_zero] at c2
  have hP1 := hP x
  have h00 : ¬ xs.length = 0 := by omega
  clear hb hx hP hcs hs
  rw [hP1]
  clear hP1
  show Calls Try.prog 39 #[.int .i64 x, .pointer (some ⟨nb, 0, none⟩)] W _
  go_enter Try.func39, Try.ntmps39
  go_wp2_with (fail)
  go_ret
  exact ⟨rfl, Below.refl _ _⟩
end Go.Proofs.Ytbdpdbeekbbehaa
