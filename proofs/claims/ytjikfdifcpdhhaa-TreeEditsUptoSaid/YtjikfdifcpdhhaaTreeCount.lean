/- What is proved: Count and Levels return what the plain functions say. -/
import Derived.Test.YtjikfdifcpdhhaaVisit
set_option linter.unusedVariables false
namespace Go.Proofs.Ytjikfdifcpdhhaa
open Go.RowKit Go.Shelf
attribute [local go_sem] Oper.semAt_some

theorem Stays.set {M : Nat} {A B : World} (h : Stays M A B) (b o : Nat) (v : Value) (hb : b < M) : Stays M A (B.setCell ⟨b, o, none⟩ v) := fun k h1 h2 =>
  (Below.heap_setCell B ⟨b, o, none⟩ v k (by show k ≠ b; omega)).trans (h k h1 h2)

set_option maxRecDepth 100000 in
set_option maxHeartbeats 2000000 in
theorem count_any (T : NT) (w : World) (hin : InT w.heap.size w T) (hc : NT.cnt T ≤ 1000000000) :
    Calls Try.prog 28 #[.agg #[.int .i64 T.kind, .string T.text, .int .i64 T.lo, .int .i64 T.hi, .slice T.A T.kids.length T.c]] w fun e w' => e = .returned (.int .i64 (NT.cnt T)) ∧ Below w.heap.size w w' := by
  have HI := Lib.hid hin
  have HL := Lib.hid (NT.wlk_len T 1)
  clear hin
  refine (callsIn_wide (n := 9)).1 ?_
  refine callsIn_of_wp_marks Try.func28 rfl trivial ?_ rfl
  simp only [Try.ntmps28, List.size_toArray, List.length_cons, List.length_nil, Nat.reduceAdd, Nat.reduceSub, Array.replicate_succ, Array.replicate_zero, List.push_toArray, List.append_toArray, List.nil_append, List.cons_append]
  gi_wp2_with (fail)
  refine ⟨trivial, (callsIn_wide.2 (walk_any T _)).mono ?_⟩
  rintro e w' ⟨rfl, rfl⟩
  gi_wp2_with (fail)
  have hb1 := (Below.refl w.heap.size w).alloc (Nat.le_refl _) (.cells #[.int .i64 T.kind, .string T.text, .int .i64 T.lo, .int .i64 T.hi, .slice T.A T.kids.length T.c] 24)
  have hz1 : (w.alloc (.cells #[.int .i64 T.kind, .string T.text, .int .i64 T.lo, .int .i64 T.hi, .slice T.A T.kids.length T.c] 24)).heap.size = w.heap.size + 1 := by simp
  generalize w.alloc (.cells #[.int .i64 T.kind, .string T.text, .int .i64 T.lo, .int .i64 T.hi, .slice T.A T.kids.length T.c] 24) = w1 at *
  have hc1 := Boxed.new w1 3 (.int .i64 0)
  have hb2 := hb1.alloc (by omega) (.cells #[.int .i64 0] 3)
  have hz2 : (w1.alloc (.cells #[.int .i64 0] 3)).heap.size = w.heap.size + 1 + 1 := by simp; omega
  rw [hz1] at hc1
  generalize w1.alloc (.cells #[.int .i64 0] 3) = w2 at *
  have hk := heap_alloc_new w2 (.cells #[.int .i64 T.kind, .string T.text, .int .i64 T.lo, .int .i64 T.hi, .slice T.A T.kids.length T.c] 24)
  have hb3 := hb2.alloc (by omega) (.cells #[.int .i64 T.kind, .string T.text, .int .i64 T.lo, .int .i64 T.hi, .slice T.A T.kids.length T.c] 24)
  have hz3 : (w2.alloc (.cells #[.int .i64 T.kind, .string T.text, .int .i64 T.lo, .int .i64 T.hi, .slice T.A T.kids.length T.c] 24)).heap.size = w.heap.size + 3 := by simp; omega
  have hc2 := hc1.alloc (.cells #[.int .i64 T.kind, .string T.text, .int .i64 T.lo, .int .i64 T.hi, .slice T.A T.kids.length T.c] 24)
  rw [hz2] at hk
  generalize w2.alloc (.cells #[.int .i64 T.kind, .string T.text, .int .i64 T.lo, .int .i64 T.hi, .slice T.A T.kids.length T.c] 24) = w3 at *
  refine wpIn_gives rfl (by decide) (gf := 66) (lb := #[.pointer (some ⟨w.heap.size + 1 + 1, 0, none⟩)]) rfl trivial (enters_of Try.func66 (by kernel_rfl) rfl)
    (walk1_in Fence.wide rfl _ trivial trivial rfl (w.heap.size + 1 + 1) w.heap.size T w3 (by omega) (by omega) (InT.below hb3 T HI.out) hc hk) (by omega) (Below.refl _ _) (fun _ => rfl)
    (fun s W => Boxed W (w.heap.size + 1) 3 (.int .i64 (s.1.length : Int)) ∧ Below w.heap.size w W)
    (fun _ _ _ => False) ?own (fun _ _ _ _ _ h _ _ => h) ⟨hc2, hb3⟩
    (fun x a' W => a' = { tmps := #[.agg #[.int .i64 T.kind, .string T.text, .int .i64 T.lo, .int .i64 T.hi, .slice T.A T.kids.length T.c], .pointer (some ⟨w.heap.size, 0, none⟩), .int .i64 0, .pointer (some ⟨w.heap.size + 1, 0, none⟩), .agg #[.int .i64 T.kind, .string T.text, .int .i64 T.lo, .int .i64 T.hi, .slice T.A T.kids.length T.c], .func (.func 66) #[] #[.pointer (some ⟨w.heap.size + 1 + 1, 0, none⟩)], .int .i64 (x.1 : Int), .agg #[.int .i64 (x.2).kind, .string (x.2).text, .int .i64 (x.2).lo, .int .i64 (x.2).hi, .slice (x.2).A (x.2).kids.length (x.2).c], undef, undef, undef], defers := [] })
    (fun _ _ _ _ _ _ h _ _ => h) ?assign ?body ?done ?stop
  case own =>
    intro s A B row hs hg hr
    refine ⟨hs.1.kept hg (fun e => ?_), hs.2.grown hg hs.2.size (fun k e => ?_)⟩
    · have := (hr _ e.symm).1
      omega
    · have := (hr k e).1
      omega
  case assign =>
    intro l pre x post M W K hL hi hM hK
    gi_wp2
    exact hK _ _ ⟨Nat.le_refl _, fun _ _ _ h _ => h⟩ (Below.refl _ _) (Stays.refl _ _) (Nat.le_refl _) hi rfl
  case body =>
    rintro l pre x post M a' W hL ⟨i1, i3⟩ hM hM2 rfl
    have hlen : pre.length < 1000000000 := by
      have := HL.out
      rw [hL] at this
      simp at this
      omega
    have HL2 := Lib.hid hL
    clear hL
    have g1 := i1.cell
    have g2 := i1.frozen
    have HI1 := Lib.hid i1
    clear i1
    gi_wp2
    exact ⟨(KeepsOthers.setCell _ _ _).from _, (Below.refl _ W).setCell (p := ⟨w.heap.size + 1, 0, none⟩) (by simp) _, Stays.set (Stays.refl _ _) _ _ _ (by omega), by simpa using HI1.out.set _, i3.setCell (p := ⟨w.heap.size + 1, 0, none⟩) (by simp) _⟩
  case done =>
    rintro D M W hD ⟨i1, i3⟩ hK
    have hl := HL.out
    rw [hl] at i1
    have g1 := i1.cell
    clear i1
    gi_wp2
    refine ⟨by simp, .inl ⟨_, _, rfl, run_takeDeferred hK, ?_⟩⟩
    exact ⟨_, results_tmp rfl _ _ _, rfl, i3.trans (put_below _ (by omega) hK)⟩
  case stop =>
    rintro D c pre W hD _ h _
    exact h.elim
/-- the greatest level that has come -/
def mxl (l : List (Nat × NT)) : Nat := l.foldl (fun m x => max m x.1) 0
theorem mxl_snoc (l : List (Nat × NT)) (x : Nat × NT) : mxl (l ++ [x]) = max (mxl l) x.1 := by simp [mxl]
theorem foldl_max (l : List (Nat × NT)) : ∀ m : Nat, l.foldl (fun m x => max m x.1) m = max m (mxl l) := by
  unfold mxl
  induction l with
  | nil => intro m; simp
  | cons x xs ih => intro m; simp only [List.foldl_cons]; rw [ih, ih (max 0 x.1)]; omega
theorem mxl_append (l m : List (Nat × NT)) : mxl (l ++ m) = max (mxl l) (mxl m) := by
  rw [← foldl_max m (mxl l)]; simp [mxl]
theorem mxl_wlks (l : List NT) (h : ∀ k ∈ l, ∀ v, mxl (NT.wlk k (v + 1)) = v + NT.lev k) : ∀ v, mxl (NT.wlks l (v + 1)) = if l = [] then 0 else v + NT.levs l := by
  induction l with
  | nil => intro v; simp [NT.wlks, mxl]
  | cons x xs ih =>
    intro v
    simp only [NT.wlks, mxl_append, h x (by simp) v, ih (fun k hk => h k (by simp [hk])) v, NT.levs]
    split
    · rename_i e; simp [e, NT.levs]
    · simp [Nat.add_max_add_left]
theorem mxl_wlk' : ∀ (n : NT) (v : Nat), mxl (NT.wlk n (v + 1)) = v + NT.lev n := NT.ind fun n ih v => by
  rw [NT.wlk_eq, NT.lev_eq, show (v + 1, n) :: NT.wlks n.kids (v + 1 + 1) = [(v + 1, n)] ++ NT.wlks n.kids (v + 1 + 1) from rfl, mxl_append, mxl_wlks n.kids ih (v + 1)]
  split
  · rename_i e; simp [e, NT.levs, mxl]
  · simp [mxl]; omega
theorem mxl_wlk (n : NT) : mxl (NT.wlk n 1) = NT.lev n := by have := mxl_wlk' n 0; simpa using this

set_option maxRecDepth 100000 in
set_option maxHeartbeats 2000000 in
theorem levels_any (T : NT) (w : World) (hin : InT w.heap.size w T) (hc : NT.cnt T ≤ 1000000000) :
    Calls Try.prog 30 #[.agg #[.int .i64 T.kind, .string T.text, .int .i64 T.lo, .int .i64 T.hi, .slice T.A T.kids.length T.c]] w fun e w' => e = .returned (.int .i64 (NT.lev T)) ∧ Below w.heap.size w w' := by
  have HI := Lib.hid hin
  have HL := Lib.hid (mxl_wlk T)
  clear hin
  refine (callsIn_wide (n := 9)).1 ?_
  refine callsIn_of_wp_marks Try.func30 rfl trivial ?_ rfl
  simp only [Try.ntmps30, List.size_toArray, List.length_cons, List.length_nil, Nat.reduceAdd, Nat.reduceSub, Array.replicate_succ, Array.replicate_zero, List.push_toArray, List.append_toArray, List.nil_append, List.cons_append]
  gi_wp2_with (fail)
  refine ⟨trivial, (callsIn_wide.2 (walk_any T _)).mono ?_⟩
  rintro e w' ⟨rfl, rfl⟩
  gi_wp2_with (fail)
  have hb1 := (Below.refl w.heap.size w).alloc (Nat.le_refl _) (.cells #[.int .i64 T.kind, .string T.text, .int .i64 T.lo, .int .i64 T.hi, .slice T.A T.kids.length T.c] 24)
  have hz1 : (w.alloc (.cells #[.int .i64 T.kind, .string T.text, .int .i64 T.lo, .int .i64 T.hi, .slice T.A T.kids.length T.c] 24)).heap.size = w.heap.size + 1 := by simp
  generalize w.alloc (.cells #[.int .i64 T.kind, .string T.text, .int .i64 T.lo, .int .i64 T.hi, .slice T.A T.kids.length T.c] 24) = w1 at *
  have hc1 := Boxed.new w1 3 (.int .i64 0)
  have hb2 := hb1.alloc (by omega) (.cells #[.int .i64 0] 3)
  have hz2 : (w1.alloc (.cells #[.int .i64 0] 3)).heap.size = w.heap.size + 1 + 1 := by simp; omega
  rw [hz1] at hc1
  generalize w1.alloc (.cells #[.int .i64 0] 3) = w2 at *
  have hk := heap_alloc_new w2 (.cells #[.int .i64 T.kind, .string T.text, .int .i64 T.lo, .int .i64 T.hi, .slice T.A T.kids.length T.c] 24)
  have hb3 := hb2.alloc (by omega) (.cells #[.int .i64 T.kind, .string T.text, .int .i64 T.lo, .int .i64 T.hi, .slice T.A T.kids.length T.c] 24)
  have hz3 : (w2.alloc (.cells #[.int .i64 T.kind, .string T.text, .int .i64 T.lo, .int .i64 T.hi, .slice T.A T.kids.length T.c] 24)).heap.size = w.heap.size + 3 := by simp; omega
  have hc2 := hc1.alloc (.cells #[.int .i64 T.kind, .string T.text, .int .i64 T.lo, .int .i64 T.hi, .slice T.A T.kids.length T.c] 24)
  rw [hz2] at hk
  generalize w2.alloc (.cells #[.int .i64 T.kind, .string T.text, .int .i64 T.lo, .int .i64 T.hi, .slice T.A T.kids.length T.c] 24) = w3 at *
  refine wpIn_gives rfl (by decide) (gf := 66) (lb := #[.pointer (some ⟨w.heap.size + 1 + 1, 0, none⟩)]) rfl trivial (enters_of Try.func66 (by kernel_rfl) rfl)
    (walk1_in Fence.wide rfl _ trivial trivial rfl (w.heap.size + 1 + 1) w.heap.size T w3 (by omega) (by omega) (InT.below hb3 T HI.out) hc hk) (by omega) (Below.refl _ _) (fun _ => rfl)
    (fun s W => Boxed W (w.heap.size + 1) 3 (.int .i64 (mxl s.1 : Int)) ∧ Below w.heap.size w W)
    (fun _ _ _ => False) ?own (fun _ _ _ _ _ h _ _ => h) ⟨hc2, hb3⟩
    (fun x a' W => a' = { tmps := #[.agg #[.int .i64 T.kind, .string T.text, .int .i64 T.lo, .int .i64 T.hi, .slice T.A T.kids.length T.c], .pointer (some ⟨w.heap.size, 0, none⟩), .int .i64 0, .pointer (some ⟨w.heap.size + 1, 0, none⟩), (.int .i64 (x.1 : Int)), .agg #[.int .i64 T.kind, .string T.text, .int .i64 T.lo, .int .i64 T.hi, .slice T.A T.kids.length T.c], .func (.func 66) #[] #[.pointer (some ⟨w.heap.size + 1 + 1, 0, none⟩)], .int .i64 (x.1 : Int), .agg #[.int .i64 (x.2).kind, .string (x.2).text, .int .i64 (x.2).lo, .int .i64 (x.2).hi, .slice (x.2).A (x.2).kids.length (x.2).c], undef, undef, undef, undef], defers := [] })
    (fun _ _ _ _ _ _ h _ _ => h) ?assign ?body ?done ?stop
  case own =>
    intro s A B row hs hg hr
    refine ⟨hs.1.kept hg (fun e => ?_), hs.2.grown hg hs.2.size (fun k e => ?_)⟩
    · have := (hr _ e.symm).1
      omega
    · have := (hr k e).1
      omega
  case assign =>
    intro l pre x post M W K hL hi hM hK
    gi_wp2
    exact hK _ _ ⟨Nat.le_refl _, fun _ _ _ h _ => h⟩ (Below.refl _ _) (Stays.refl _ _) (Nat.le_refl _) hi rfl
  case body =>
    rintro l pre x post M a' W hL ⟨i1, i3⟩ hM hM2 rfl
    have HX := Lib.hid (mxl_snoc pre x)
    clear hL
    have g1 := i1.cell
    have g2 := i1.frozen
    have HI1 := Lib.hid i1
    clear i1
    gi_wp2
    all_goals exact ⟨(KeepsOthers.setCell _ _ _).from _, (Below.refl _ W).setCell (p := ⟨w.heap.size + 1, 0, none⟩) (by simp) _, Stays.set (Stays.refl _ _) _ _ _ (by omega), by (rw [show mxl (pre ++ [x]) = _ from HX.out]; first | (rw [Nat.max_eq_right (by omega)]; exact HI1.out.set _) | (rw [Nat.max_eq_left (by omega)]; exact HI1.out.set _)), i3.setCell (p := ⟨w.heap.size + 1, 0, none⟩) (by simp) _⟩
  case done =>
    rintro D M W hD ⟨i1, i3⟩ hK
    rw [show mxl (NT.wlk T 1) = NT.lev T from HL.out] at i1
    have g1 := i1.cell
    clear i1
    gi_wp2
    refine ⟨by simp, .inl ⟨_, _, rfl, run_takeDeferred hK, ?_⟩⟩
    exact ⟨_, results_tmp rfl _ _ _, rfl, i3.trans (put_below _ (by omega) hK)⟩
  case stop =>
    rintro D c pre W hD _ h _
    exact h.elim
end Go.Proofs.Ytjikfdifcpdhhaa
