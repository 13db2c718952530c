/- What is proved: what Solve answers, for any number of vertices and any constraints, and that it does not depend on their order. -/
import Derived.Test.YtmamajillkajoaaDoorCoAwake
import Derived.Test.YtmamajillkajoaaDoorCoMix2
set_option linter.unusedVariables false
namespace Go.Proofs.YtmamajillkajoaaDoor
open Go.RowKit Go.Shelf

/-- types, chains, and the error, as Solve returns them -/
def svOut (n : Int) (l : List Con) : List TyV × List (List Nat) × Int :=
  if n < 0 ∨ 4096 < n then ([], [], 2) else if l.all (posB n.toNat) then ((List.range n.toNat).map (tyL l (clss l n.toNat n.toNat)), slvC l n.toNat, 0) else ([], [], 1)
def SvRes (w : World) (o : List TyV × List (List Nat) × Int) (e : Ending) (w' : World) : Prop :=
  ∃ TA XA ct cx, e = .returned (.tuple #[.slice TA o.1.length ct, .slice XA o.2.1.length cx, .int .i64 o.2.2]) ∧ TRow w'.heap.size w' TA o.1 ∧ LRow w' XA o.2.1 ∧ Below w.heap.size w w'
theorem mkSum_le_mul (l : List Con) (n : Nat) : ∀ cs : List (List Nat), (∀ c ∈ cs, c.length ≤ n) → mkSum l cs ≤ cs.length * (n * (2 * l.length))
  | [], _ => by simp [mkSum]
  | c :: cs, h => by
    have ih := mkSum_le_mul l n cs (fun x hx => h x (List.mem_cons_of_mem _ hx))
    have h1 : (mks l c).length ≤ c.length * (2 * l.length) := by
      unfold mks
      rw [(srt_perm _).length_eq]
      clear ih h
      induction c with
      | nil => simp
      | cons v vs ihv =>
        rw [List.flatMap_cons, List.length_append, List.length_cons, Nat.add_mul, Nat.one_mul]
        have := mrk_len l v l.length
        omega
    have h2 := Nat.mul_le_mul_right (2 * l.length) (h c (List.mem_cons_self ..))
    show (((c :: cs).map (fun c => (mks l c).length)).sum) ≤ _
    rw [List.map_cons, List.sum_cons, List.length_cons, Nat.add_mul, Nat.one_mul]
    have ih' : (cs.map (fun c => (mks l c).length)).sum ≤ cs.length * (n * (2 * l.length)) := ih
    omega
theorem mkSum_small {l : List Con} {n : Nat} (hn : n ≤ 60) (hl : l.length ≤ 80) (hp : ∀ x ∈ l, posB n x = true) : (n : Int) + (mkSum l (clss l n n) : Int) < 1000000000 := by
  have h := mkSum_le_mul l n (clss l n n) (fun c hc => (clss_ok hp n (Nat.le_refl _) c hc).2.2)
  have h2 := clss_len l n n
  have h3 : (clss l n n).length * (n * (2 * l.length)) ≤ 60 * (60 * (2 * 80)) := Nat.mul_le_mul (by omega) (Nat.mul_le_mul hn (by omega))
  omega
theorem svOut_same {l l' : List Con} {n : Int} (h : Sub l l') (h' : Sub l' l) : (svOut n l).1 = (svOut n l').1 ∧ (svOut n l).2.1.map List.length = (svOut n l').2.1.map List.length ∧ (svOut n l).2.2 = (svOut n l').2.2 := by
  unfold svOut
  split
  · exact ⟨rfl, rfl, rfl⟩
  · have e : l.all (posB n.toNat) = l'.all (posB n.toNat) := by
      rw [Bool.eq_iff_iff, List.all_eq_true, List.all_eq_true]
      exact ⟨fun g x hx => g x (h' x hx), fun g x hx => g x (h x hx)⟩
    rw [← e]
    cases ha : l.all (posB n.toNat) with
    | false => exact ⟨rfl, rfl, rfl⟩
    | true =>
      rw [if_pos rfl, if_pos rfl]
      have hp := List.all_eq_true.1 ha
      have hp' := List.all_eq_true.1 (e ▸ ha)
      refine ⟨?_, slvC_same hp hp' h h', rfl⟩
      exact List.map_congr_left fun v _ => tyL_same hp hp' h h' v

theorem svOut_len (n : Int) (l : List Con) : (svOut n l).1.length ≤ 4096 ∧ (svOut n l).2.1.length ≤ 4096 := by
  unfold svOut
  split
  · exact ⟨by decide, by decide⟩
  · split
    · have h1 := chF_len l n.toNat (clss l n.toNat n.toNat)
      rw [chF_all] at h1
      have h2 := clss_len l n.toNat n.toNat
      refine ⟨by simp; omega, ?_⟩
      dsimp only
      omega
    · exact ⟨by decide, by decide⟩
set_option maxRecDepth 100000 in
set_option maxHeartbeats 1000000 in
theorem solve_range (n : Int) (A : Option Addr) (c : Nat) (l : List Con) (w : World) (hn : n < 0 ∨ 4096 < n) : Calls Tryd.prog 6 #[.int .i64 n, .slice A l.length c] w (SvRes w ([], [], 2)) := by
  have hba := (Below.refl w.heap.size w).alloc (Nat.le_refl _) (.cells #[.int .i64 n] 3)
  have v1 := Lib.cell_of_heap (heap_alloc_new w (.cells #[.int .i64 n] 3)) 0
  have HB := Lib.hid hba
  clear hba
  have HG := Lib.hid (show ∀ w' : World, Below w.heap.size w w' → SvRes w ([], [], 2) (.returned (.tuple #[.slice none 0 0, .slice none 0 0, .int .i64 2])) w' from fun w' h => ⟨none, none, 0, 0, rfl, fun h => by simp at h, fun h => by simp at h, h⟩)
  by_cases h0 : n < 0
  · go_enter Tryd.func6, Tryd.ntmps6
    go_wp2_with (fail)
    go_ret3
    exact HG.out _ HB.out
  · have h1 : 4096 < n := by omega
    go_enter Tryd.func6, Tryd.ntmps6
    go_wp2_with (fail)
    go_ret3
    exact HG.out _ HB.out
set_option maxRecDepth 100000 in
set_option maxHeartbeats 1000000 in
theorem solve_arg (n : Nat) (hn : n ≤ 4096) (A : Option Addr) (c : Nat) (l : List Con) (w : World) (hl : l.length ≤ 1000000) (hr : CRow w.heap.size w A l) (hps : l.all (posB n) = false) : Calls Tryd.prog 6 #[.int .i64 (n : Int), .slice A l.length c] w (SvRes w ([], [], 1)) := by
  have HR := Lib.hid hr
  have HPS := Lib.hid hps
  clear hr hps
  have hba := (Below.refl w.heap.size w).alloc (Nat.le_refl _) (.cells #[.int .i64 (n : Int)] 3)
  have hvn := heap_alloc_new w (.cells #[.int .i64 (n : Int)] 3)
  have HB1 := Lib.hid hba
  have HV1 := Lib.hid hvn
  clear hba hvn
  have h40 : ¬ (n : Int) < 0 := by omega
  have h41 : ¬ (4096 : Int) < (n : Int) := by omega
  have HG := Lib.hid (show ∀ w' : World, Below w.heap.size w w' → SvRes w ([], [], 1) (.returned (.tuple #[.slice none 0 0, .slice none 0 0, .int .i64 1])) w' from fun w' h => ⟨none, none, 0, 0, rfl, fun h => by simp at h, fun h => by simp at h, h⟩)
  go_enter Tryd.func6, Tryd.ntmps6
  go_wp2_with (fail)
  generalize w.alloc (.cells #[.int .i64 (n : Int)] 3) = w1 at *
  refine (conW_any w1 A c l n w.heap.size false HPS.out HV1.out ((HR.out.below HB1.out).up HB1.out.size) hl).mono ?_
  rintro e w2 ⟨rfl, hb2⟩
  have HB2 := Lib.hid (HB1.out.trans (hb2.mono HB1.out.size))
  clear hb2
  go_wp2_with (fail)
  go_ret3
  exact HG.out _ HB2.out
theorem solve_res (n : Int) (hn : n ≤ 60 ∨ 4096 < n) (A : Option Addr) (c : Nat) (l : List Con) (w : World) (hl : l.length ≤ 80) (hr : CRow w.heap.size w A l) (hok : ∀ x ∈ l, ConOk x) : Calls Tryd.prog 6 #[.int .i64 n, .slice A l.length c] w (SvRes w (svOut n l)) := by
  unfold svOut
  by_cases h0 : n < 0 ∨ 4096 < n
  · rw [if_pos h0]
    exact solve_range n A c l w h0
  · rw [if_neg h0]
    obtain ⟨m, rfl⟩ : ∃ m : Nat, n = (m : Int) := ⟨n.toNat, by omega⟩
    rw [Int.toNat_natCast]
    cases ha : l.all (posB m) with
    | false =>
      rw [if_neg (by decide)]
      exact solve_arg m (by omega) A c l w (by omega) hr ha
    | true =>
      rw [if_pos rfl]
      refine (solve_any m (by omega) A c l w (by omega) hr hok ha (mkSum_small (by omega) hl (List.all_eq_true.1 ha))).mono ?_
      rintro e w' ⟨tb, Y, d, g, B, rfl, h1, h2, h3, h4, h5⟩
      refine ⟨some ⟨tb, 0, none⟩, Y, m, d, by simp, h2.row _ (by simp) (fun i hi => by simp), h4.lrow, h5⟩
end Go.Proofs.YtmamajillkajoaaDoor
