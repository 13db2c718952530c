/- What is proved: Count and Levels return what the plain functions say. -/
import Derived.Test.YtlpoeflbnpbmgaaGreatDoorInS
import Derived.Test.YtlpoeflbnpbmgaaGreatDoorGives
import Derived.Shelf.Abstract
import Derived.Shelf.RegionOpen
import Derived.OwnWalkIn
import Derived.TacticsInMore
import Derived.LoopNIn
import Derived.LoopIn
set_option linter.unusedVariables false
namespace Go.Proofs.YtlpoeflbnpbmgaaGreatDoor
open Go.RowKit Go.Shelf
attribute [local go_sem] Oper.semAt_some

theorem YieldAt.depth {F : Fence} (hd : F.depth = none) {m : Nat} (m' : Nat) {P : Program} {l : Nat} {args : Array Value} {W : World} {R : Ending → World → Prop} (h : YieldAt F m P l args W R) : YieldAt F m' P l args W R := by
  obtain ⟨fn, tmps, assign, body, hy, hR⟩ := h
  exact ⟨fn, tmps, assign, body, hy, hR.1, fun c cs _ => hR.2 c cs (fun d h => by rw [hd] at h; cases h)⟩

/-- a round's word, with what lies in front of it -/
abbrev Rounds (F : Fence) (m : Nat) (l n₀ : Nat) (L : List (Nat × NT)) (J : List (Nat × NT) × Nat → World → Prop) (Jx : List (Nat × NT) → World → Prop) : Prop :=
  ∀ pre x post M W1, L = pre ++ x :: post → J (pre, M) W1 → M ≤ W1.heap.size → YieldAt F m Tryz.prog l #[.int .i64 ((x.1 : Nat) : Int), .agg #[.int .i64 (x.2).kind, .string (x.2).text, .int .i64 (x.2).lo, .int .i64 (x.2).hi, .slice (x.2).A (x.2).kids.length (x.2).c]] W1 fun e W' =>
    (e = .returned (.bool true) ∧ J (pre ++ [x], W'.heap.size) W' ∧ Below n₀ W1 W' ∧ Stays M W1 W') ∨ (e = .returned (.bool false) ∧ Jx (pre ++ [x]) W')

set_option maxRecDepth 100000 in
set_option maxHeartbeats 2000000 in
theorem visit_in (F : Fence) (hd : F.depth = none) (hv : F.fn 63) (hro : F.round = none) (l n₀ B : Nat) (L : List (Nat × NT)) (J : List (Nat × NT) × Nat → World → Prop) (Jx : List (Nat × NT) → World → Prop)
    (hJ : AbidesFrom B J) (hY : ∀ m, Rounds F m l n₀ L J Jx) :
    ∀ (T : NT) (v n : Nat) (pre post : List (Nat × NT)) (M : Nat) (W : World), InT n₀ W T → J (pre, M) W → L = pre ++ (NT.wlk T v ++ post) → v + NT.cnt T ≤ 2000000000 → n₀ ≤ M → M ≤ W.heap.size → B ≤ W.heap.size →
      CallsIn F n Tryz.prog 63 #[.agg #[.int .i64 T.kind, .string T.text, .int .i64 T.lo, .int .i64 T.hi, .slice T.A T.kids.length T.c], .int .i64 (v : Int), .func (.yield l) #[] #[]] W fun e W' =>
        (e = .returned (.bool true) ∧ (∃ M', J (pre ++ NT.wlk T v, M') W' ∧ n₀ ≤ M' ∧ M' ≤ W'.heap.size) ∧ Below n₀ W W') ∨ (e = .returned (.bool false) ∧ ∃ q, q <+: NT.wlk T v ∧ Jx (pre ++ q) W') := NT.ind fun T ih v n pre post M W hin hj hL hlv hnM hM hB => by
  have hdd : ∀ k : Nat, (F.depth.isSome = true → 1 ≤ k) := fun k h => by rw [hd] at h; cases h
  have hW0 : J (pre, M) (W.alloc (.cells #[.int .i64 T.kind, .string T.text, .int .i64 T.lo, .int .i64 T.hi, .slice T.A T.kids.length T.c] 24)) := hJ _ _ _ none hj (World.grownBy_alloc W _ none) (fun r e => by cases e)
  rw [NT.wlk_eq] at hL
  obtain ⟨fn, tmps, assign, body, hy, hR⟩ := hY (n - 1) pre (v, T) _ M _ hL hW0 (by simp; omega)
  have HR := Lib.hid hR
  have HI := Lib.hid hin
  have HW := Lib.hid hin.row
  have hkl := NT.kids_len T
  have HJ := Lib.hid hJ
  have HL := Lib.hid hL
  have HY := Lib.hid hY
  have IH := Lib.hid ih
  have HE := Lib.hid (NT.wlk_eq T v)
  clear hR hin hJ hL ih hY hW0 hj
  dsimp only at hy
  generalize T.A = A at *
  refine callsIn_of_wp Tryz.func63 rfl hv ?_ hro
  simp only [Tryz.ntmps63, List.size_toArray, List.length_cons, List.length_nil, Nat.reduceAdd, Nat.reduceSub, Array.replicate_succ, Array.replicate_zero, List.push_toArray, List.append_toArray, List.nil_append, List.cons_append]
  gi_wp2_with (fail)
  refine HR.out.mono ?_
  have hz : (W.alloc (.cells #[.int .i64 T.kind, .string T.text, .int .i64 T.lo, .int .i64 T.hi, .slice A T.kids.length T.c] 24)).heap.size = W.heap.size + 1 := by simp
  have hbw0 := Lib.hid ((Below.refl W.heap.size W).alloc (Nat.le_refl _) (.cells #[.int .i64 T.kind, .string T.text, .int .i64 T.lo, .int .i64 T.hi, .slice A T.kids.length T.c] 24))
  have hbox : (W.alloc (.cells #[.int .i64 T.kind, .string T.text, .int .i64 T.lo, .int .i64 T.hi, .slice A T.kids.length T.c] 24)).heap[W.heap.size]? = some (.cells #[.int .i64 T.kind, .string T.text, .int .i64 T.lo, .int .i64 T.hi, .slice A T.kids.length T.c] 24 (0, 0)) := heap_alloc_new W _
  have HX := Lib.hid hbox
  clear hbox
  generalize (W.alloc (.cells #[.int .i64 T.kind, .string T.text, .int .i64 T.lo, .int .i64 T.hi, .slice A T.kids.length T.c] 24)) = W0 at *
  rintro e W2 (⟨rfl, hj2, hb2, hs2⟩ | ⟨rfl, hx⟩)
  · have hz2 := hb2.size
    have b4 : W2.cell? ⟨W.heap.size, 4, none⟩ = some (.slice A T.kids.length T.c) := Lib.cell_of_heap ((hs2 W.heap.size hM (by omega)).trans HX.out) 4
    have HB := Lib.hid ((hbw0.out.mono (by omega)).trans hb2)
    have HJ2 := Lib.hid hj2
    clear hj2 hb2 hs2 HR hy HX
    gi_wp2_with (fail)
    gi_loopw [17] (fun i wr => ∃ (k M' : Nat), k ≤ T.kids.length ∧ i = .int .i64 (k : Int) ∧ Hid (J (pre ++ [(v, T)] ++ NT.wlks (T.kids.take k) (v + 1), M') wr) ∧ n₀ ≤ M' ∧ M' ≤ wr.heap.size ∧ Hid (Below n₀ W wr)) (fun i _ => T.kids.length - (intOf i).toNat)
    case atStart => exact ⟨0, _, Nat.zero_le _, rfl, by simpa [NT.wlks] using HJ2, by omega, Nat.le_refl _, HB⟩
    case round =>
      obtain ⟨k, M', hk, rfl, hjk, hnM', hM', hbw⟩ := hrel
      have hzw := hbw.out.size
      by_cases hlt : k < T.kids.length
      · obtain ⟨b, off, rfl, hb, hcs⟩ := (HW.out.below hbw.out) (by omega)
        obtain ⟨c0, c1, c2, c3, c4⟩ := hcs k hlt
        clear hcs
        have hlt' : (k : Int) < (T.kids.length : Int) := by omega
        have hcx := NT.cnt_kid (List.getElem_mem hlt)
        have hsplit : T.kids = T.kids.take k ++ (T.kids[k] :: T.kids.drop (k + 1)) := by rw [List.getElem_cons_drop, List.take_append_drop]
        have HIx := Lib.hid (InT.below hbw.out _ (InT.kidAt HI.out hlt))
        have hL2 : L = (pre ++ [(v, T)] ++ NT.wlks (T.kids.take k) (v + 1)) ++ (NT.wlk T.kids[k] (v + 1) ++ (NT.wlks (T.kids.drop (k + 1)) (v + 1) ++ post)) := by
          have e : NT.wlks T.kids (v + 1) = NT.wlks (T.kids.take k) (v + 1) ++ (NT.wlk T.kids[k] (v + 1) ++ NT.wlks (T.kids.drop (k + 1)) (v + 1)) := by
            conv => lhs; rw [hsplit]
            rw [NT.wlks_append]; rfl
          rw [HL.out, e]; simp
        have hpre : NT.wlks (T.kids.take k) (v + 1) ++ NT.wlk T.kids[k] (v + 1) <+: NT.wlks T.kids (v + 1) := ⟨NT.wlks (T.kids.drop (k + 1)) (v + 1), by
            conv => rhs; rw [hsplit]
            rw [NT.wlks_append]; simp [NT.wlks]⟩
        have hG := NT.wlks_get hlt (v + 1)
        have HP := Lib.hid hpre
        have HG := Lib.hid hG
        have HR2 := Lib.hid (fun W4 h1 h2 h3 h4 => IH.out _ (List.getElem_mem hlt) (v + 1) (n - 1) (pre ++ [(v, T)] ++ NT.wlks (T.kids.take k) (v + 1)) (NT.wlks (T.kids.drop (k + 1)) (v + 1) ++ post) M' W4 h1 h2 hL2 (by omega) hnM' h3 h4)
        clear hL2 hpre hG hsplit
        generalize T.kids[k] = x at *
        gi_wp2_with (fail)
        have hba := (Below.refl n₀ wr).alloc (by omega) (.cells #[.int .i64 x.kind, .string x.text, .int .i64 x.lo, .int .i64 x.hi, .slice x.A x.kids.length x.c] 24)
        have hj4 := HJ.out _ _ _ none hjk.out (World.grownBy_alloc wr (.cells #[.int .i64 x.kind, .string x.text, .int .i64 x.lo, .int .i64 x.hi, .slice x.A x.kids.length x.c] 24) none) (fun r e => by cases e)
        refine (HR2.out _ (InT.below hba x HIx.out) hj4 (by simp; omega) (by simp; omega)).mono ?_
        rintro e W5 (⟨rfl, ⟨M5, hj5, hn5, hm5⟩, hb5⟩ | ⟨rfl, q, hq, hx5⟩)
        · have HB5 := Lib.hid ((hbw.out.trans hba).trans hb5)
          have HJ5 := Lib.hid hj5
          clear hba hj4 hj5 hb5
          gi_wp2_with (fail)
          exact ⟨⟨k + 1, M5, by omega, by go_num, by rw [HG.out, ← List.append_assoc]; exact HJ5, hn5, hm5, HB5⟩, by simp [intOf]; omega⟩
        · have HX5 := Lib.hid hx5
          clear hba hj4 hx5
          gi_wp2_with (fail)
          go_ret
          refine .inr ⟨rfl, (v, T) :: (NT.wlks (T.kids.take k) (v + 1) ++ q), ?_, by simpa using HX5.out⟩
          rw [HE.out, List.cons_prefix_cons]
          exact ⟨rfl, ((List.prefix_append_right_inj _).2 hq).trans HP.out⟩
      · have e : T.kids.take k = T.kids := List.take_of_length_le (by omega)
        rw [e] at hjk
        clear e
        gi_wp2_with (fail)
        go_ret
        exact .inl ⟨rfl, ⟨M', by rw [HE.out]; simpa using hjk.out, hnM', hM'⟩, hbw.out⟩
  · have HX2 := Lib.hid hx
    clear hx
    gi_wp2_with (fail)
    go_ret
    exact .inr ⟨rfl, [(v, T)], by rw [HE.out]; exact ⟨NT.wlks T.kids (v + 1), rfl⟩, HX2.out⟩

/-- the iterator that walk returns -/
theorem walk1_in (F : Fence) (hd : F.depth = none) (n : Nat) (h1 : F.fn 62) (hv : F.fn 63) (hro : F.round = none) (Bn n₀ : Nat) (T : NT) (w : World) (hBn : Bn < w.heap.size) (hn : n₀ ≤ w.heap.size) (hT : InT n₀ w T) (hc : NT.cnt T ≤ 1000000000)
    (hb : w.heap[Bn]? = some (.cells #[.int .i64 T.kind, .string T.text, .int .i64 T.lo, .int .i64 T.hi, .slice T.A T.kids.length T.c] 24 (0, 0))) :
    Gives F n Tryz.prog 62 #[.pointer (some ⟨Bn, 0, none⟩)] (fun x : Nat × NT => #[.int .i64 (x.1 : Int), .agg #[.int .i64 (x.2).kind, .string (x.2).text, .int .i64 (x.2).lo, .int .i64 (x.2).hi, .slice (x.2).A (x.2).kids.length (x.2).c]]) n₀ (NT.wlk T 1) w := fun l J Jx W hW hJ hJx hY h0 => by
  have hdd : ∀ k : Nat, (F.depth.isSome = true → 1 ≤ k) := fun k h => by rw [hd] at h; cases h
  have hz := hW.size
  have HV := Lib.hid (visit_in F hd hv hro l n₀ W.heap.size (NT.wlk T 1) J Jx hJ (fun m pre x post M W1 h1 h2 h3 => YieldAt.depth hd m (hY pre x post M W1 h1 h2 h3)) T 1 (n - 1) [] [] W.heap.size W (InT.below (hW.mono hn) T hT) h0 (by simp) (by omega) (by omega) (Nat.le_refl _) (Nat.le_refl _))
  have hbx : W.heap[Bn]? = some (.cells #[.int .i64 T.kind, .string T.text, .int .i64 T.lo, .int .i64 T.hi, .slice T.A T.kids.length T.c] 24 (0, 0)) := (hW.block Bn hBn).trans hb
  have c0 : W.cell? ⟨Bn, 0, none⟩ = some (.int .i64 T.kind) := Lib.cell_of_heap hbx 0
  have c1 : W.cell? ⟨Bn, 1, none⟩ = some (.string T.text) := Lib.cell_of_heap hbx 1
  have c2 : W.cell? ⟨Bn, 2, none⟩ = some (.int .i64 T.lo) := Lib.cell_of_heap hbx 2
  have c3 : W.cell? ⟨Bn, 3, none⟩ = some (.int .i64 T.hi) := Lib.cell_of_heap hbx 3
  have c4 : W.cell? ⟨Bn, 4, none⟩ = some (.slice T.A T.kids.length T.c) := Lib.cell_of_heap hbx 4
  have HJ := Lib.hid hJ
  clear hY h0 hb hbx hJ hJx hT
  refine callsIn_of_wp Tryz.func62 rfl h1 ?_ hro
  simp only [Tryz.ntmps62, List.size_toArray, List.length_cons, List.length_nil, Nat.reduceAdd, Nat.reduceSub, Array.replicate_succ, Array.replicate_zero, List.push_toArray, List.append_toArray, List.nil_append, List.cons_append]
  gi_wp2_with (fail)
  refine HV.out.mono ?_
  rintro e W1 (⟨rfl, ⟨M1, hj1, _, _⟩, _⟩ | ⟨rfl, q, hq, hx⟩)
  · gi_wp2_with (fail)
    go_end0
    exact ⟨⟨_, rfl⟩, .inl ⟨M1, by simpa using hj1⟩⟩
  · gi_wp2_with (fail)
    go_end0
    exact ⟨⟨_, rfl⟩, .inr ⟨q, hq, by simpa using hx⟩⟩

theorem walk_any (T : NT) (w : World) : Calls Tryz.prog 47 #[.agg #[.int .i64 T.kind, .string T.text, .int .i64 T.lo, .int .i64 T.hi, .slice T.A T.kids.length T.c]] w fun e w' => e = .returned (.func (.func 62) #[] #[.pointer (some ⟨w.heap.size, 0, none⟩)]) ∧ w' = w.alloc (.cells #[.int .i64 T.kind, .string T.text, .int .i64 T.lo, .int .i64 T.hi, .slice T.A T.kids.length T.c] 24) := by
  go_enter Tryz.func47, Tryz.ntmps47
  go_wp2_with (fail)
  go_ret
  exact ⟨rfl, rfl⟩
end Go.Proofs.YtlpoeflbnpbmgaaGreatDoor
set_option linter.unusedVariables false
namespace Go.Proofs.YtlpoeflbnpbmgaaGreatDoor
open Go.RowKit Go.Shelf
attribute [local go_sem] Oper.semAt_some

theorem Stays.set {M : Nat} {A B : World} (h : Stays M A B) (b o : Nat) (v : Value) (hb : b < M) : Stays M A (B.setCell ⟨b, o, none⟩ v) := fun k h1 h2 =>
  (Below.heap_setCell B ⟨b, o, none⟩ v k (by show k ≠ b; omega)).trans (h k h1 h2)

/-- the greatest level that has come -/
def mxl (l : List (Nat × NT)) : Nat := l.foldl (fun m x => max m x.1) 0
theorem mxl_snoc (l : List (Nat × NT)) (x : Nat × NT) : mxl (l ++ [x]) = max (mxl l) x.1 := by simp [mxl]
theorem foldl_max (l : List (Nat × NT)) : ∀ m : Nat, l.foldl (fun m x => max m x.1) m = max m (mxl l) := by
  unfold mxl
  induction l with
  | nil => intro m; simp
  | cons x xs ih => intro m; simp only [List.foldl_cons]; rw [ih, ih (max 0 x.1)]; omega
theorem mxl_append (l m : List (Nat × NT)) : mxl (l ++ m) = max (mxl l) (mxl m) := by
  rw [← foldl_max m (mxl l)]; simp [mxl]
theorem mxl_wlks (l : List NT) (h : ∀ k ∈ l, ∀ v, mxl (NT.wlk k (v + 1)) = v + NT.lev k) : ∀ v, mxl (NT.wlks l (v + 1)) = if l = [] then 0 else v + NT.levs l := by
  induction l with
  | nil => intro v; simp [NT.wlks, mxl]
  | cons x xs ih =>
    intro v
    simp only [NT.wlks, mxl_append, h x (by simp) v, ih (fun k hk => h k (by simp [hk])) v, NT.levs]
    split
    · rename_i e; simp [e, NT.levs]
    · simp [Nat.add_max_add_left]
theorem mxl_wlk' : ∀ (n : NT) (v : Nat), mxl (NT.wlk n (v + 1)) = v + NT.lev n := NT.ind fun n ih v => by
  rw [NT.wlk_eq, NT.lev_eq, show (v + 1, n) :: NT.wlks n.kids (v + 1 + 1) = [(v + 1, n)] ++ NT.wlks n.kids (v + 1 + 1) from rfl, mxl_append, mxl_wlks n.kids ih (v + 1)]
  split
  · rename_i e; simp [e, NT.levs, mxl]
  · simp [mxl]; omega
theorem mxl_wlk (n : NT) : mxl (NT.wlk n 1) = NT.lev n := by have := mxl_wlk' n 0; simpa using this

end Go.Proofs.YtlpoeflbnpbmgaaGreatDoor
