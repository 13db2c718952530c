/- What is proved: shaped says whether the root of a tree is of a class and all its nodes have the shapes of their kinds. -/
import Derived.Test.YtlpoeflbnpbmgaaGreatDoorShapes
import Derived.Test.YtlpoeflbnpbmgaaGreatDoorTextFits
import Derived.Test.YtlpoeflbnpbmgaaGreatDoorTreeCount
set_option linter.unusedVariables false
namespace Go.Proofs.YtlpoeflbnpbmgaaGreatDoor
open Go.RowKit Go.Shelf Go.Maps
attribute [local go_sem] Oper.semAt_some

def kindOk (k : Int) : Bool := decide (k = 0 ∨ 2 ≤ k ∧ k ≤ 29)
/-- a node has the shape of its kind -/
def nodeB (n : NT) : Bool := kindOk n.kind && textB n.kind n.text && kidsB n.kind n.kids
def shapedB (root : NT → Bool) (n : NT) : Bool := root n && (NT.nds n).all nodeB
/-- kinds are numbers of the machine -/
def I64 (a : Int) : Prop := (Lit.int .i64 a).wf = true

theorem chk_row {w : World} {B D : Nat} {P : List NT → Bool} (h : Chk w (.func (.func 82) #[] #[.pointer (some ⟨B, 0, none⟩), .pointer (some ⟨D, 0, none⟩)]) P) (A : Option Addr) (c : Nat) (l : List NT) (hr : Row w.heap.size w A l) (hl : l.length ≤ 1000000000) :
    Calls Tryz.prog 82 #[.slice A l.length c, .pointer (some ⟨B, 0, none⟩), .pointer (some ⟨D, 0, none⟩)] w fun e w' => e = .returned (.bool (P l)) ∧ Below w.heap.size w w' := by
  rcases h with ⟨B', D', C, d, ps, h1, h2, h3, h4, h5, rfl⟩ | ⟨B', C, D', m, u, p, h1, _⟩
  · simp only [Value.func.injEq, true_and, Array.mk.injEq, List.cons.injEq, Value.pointer.injEq, Option.some.injEq, Addr.mk.injEq, and_true] at h1
    obtain ⟨rfl, rfl⟩ := h1
    exact rowKids_any A C c d l B D ps w h2 h3 h4 hr hl h5
  · simp at h1
theorem chk_many {w : World} {B C : Nat} {P : List NT → Bool} (h : Chk w (.func (.func 85) #[] #[.pointer (some ⟨B, 0, none⟩), .pointer (some ⟨C, 0, none⟩)]) P) (A : Option Addr) (c : Nat) (l : List NT) (hr : Row w.heap.size w A l) (hl : l.length ≤ 1000000000) :
    Calls Tryz.prog 85 #[.slice A l.length c, .pointer (some ⟨B, 0, none⟩), .pointer (some ⟨C, 0, none⟩)] w fun e w' => e = .returned (.bool (P l)) ∧ Below w.heap.size w w' := by
  rcases h with ⟨B', D', C', d, ps, h1, _⟩ | ⟨B', C', D', m, u, p, h1, h2, h3, h4, h5, rfl⟩
  · simp at h1
  · simp only [Value.func.injEq, true_and, Array.mk.injEq, List.cons.injEq, Value.pointer.injEq, Option.some.injEq, Addr.mk.injEq, and_true] at h1
    obtain ⟨rfl, rfl⟩ := h1
    exact manyKids_any A c l B C D' m u p w (World.block_lt_of_cell? w _ h2) h2 (World.block_lt_of_cell? w _ h3) h3 (World.block_lt_of_cell? w _ h4) h4 h5 hr hl
theorem Chk.form {w : World} {v : Value} {P : List NT → Bool} (h : Chk w v P) : (∃ B D, v = .func (.func 82) #[] #[.pointer (some ⟨B, 0, none⟩), .pointer (some ⟨D, 0, none⟩)]) ∨ ∃ B D, v = .func (.func 85) #[] #[.pointer (some ⟨B, 0, none⟩), .pointer (some ⟨D, 0, none⟩)] := by
  rcases h with ⟨B, D, C, d, ps, h1, _⟩ | ⟨B, C, D, m, u, p, h1, _⟩
  · exact .inl ⟨B, D, h1⟩
  · exact .inr ⟨B, C, h1⟩
/-- what the map answers -/
theorem Tab.look {w : World} {b n : Nat} {S : Int → Bool} (h : Tab w b n S) (k : Int) (hk : I64 k) : ∃ v, (Instr.lookup 77 (.map (some b)) (.int .i64 k) true).run Tryz.prog w = .ok (.tuple #[v, .bool (S k)]) w ∧ (S k = true → Chk w v (kidsB k)) := by
  obtain ⟨D, h1, h2, h3⟩ := h
  obtain ⟨v, ps, hrun, hv⟩ := h2.look_ok kindLaw Tryz.underlying77 (z := .nilFunc) (by kernel_rfl) (zd := .held .nilFunc) (zp := []) rfl (keyOf_int_mk Tryz.underlying3 hk)
  simp only [fnR, Option.some.injEq, Prod.mk.injEq] at hv
  cases hs : S k with
  | true =>
    obtain ⟨u, g1, g2, g3⟩ := (h3 k).1 hs
    rw [g1] at hv
    simp only [DataW.held.injEq] at hv
    rw [g3] at hrun
    exact ⟨v, hrun, fun _ => by rw [hv.1]; exact g2⟩
  | false =>
    have g := (h3 k).2 hs
    rw [g] at hrun
    exact ⟨v, hrun, (fun h => by cases h)⟩
theorem Tab.grown {w w' : World} {b n : Nat} {S : Int → Bool} {row : Option Nat} (h : Tab w b n S) (hg : w.grownBy w' row) (hr : ∀ r, row = some r → b ≠ r ∧ ∃ o : Obj, w.heap[r]? = some o ∧ o.isCells = false) : Tab w' b n S := by
  obtain ⟨D, h1, h2, h3⟩ := h
  refine ⟨D, h1, h2.kept hg (fun e => (hr b e.symm).1 rfl), fun k => ⟨fun hs => ?_, (h3 k).2⟩⟩
  obtain ⟨v, g1, g2, g3⟩ := (h3 k).1 hs
  exact ⟨v, g1, g2.keeps ⟨hg.size, fun p u hp => cell_kept hp hg (fun r e => (hr r e).2)⟩, g3⟩
theorem cls_call {w : World} {v : Value} {p : NT → Bool} (h : Cls w v p) : ∃ g lb, v = .func (.func g) #[] lb ∧ ∀ (n : NT) (W : World), Below w.heap.size w W → Calls Tryz.prog g (#[.agg #[.int .i64 n.kind, .string n.text, .int .i64 n.lo, .int .i64 n.hi, .slice n.A n.kids.length n.c]] ++ lb) W fun e w' => e = .returned (.bool (p n)) ∧ Below W.heap.size W w' := by
  rcases h with ⟨B, A, c, ks, rfl, h2, h3, h4, h5, rfl⟩ | ⟨rfl, rfl⟩ | ⟨rfl, rfl⟩ | ⟨rfl, rfl⟩ | ⟨rfl, rfl⟩
  · exact ⟨_, _, rfl, fun n W hW => kinds_any n B A c ks W (by have := hW.size; omega) ((hW.cell (p := ⟨B, 0, none⟩) h2).trans h3) (h4.later hW) h5⟩
  · exact ⟨_, _, rfl, fun n W _ => expression_any n W⟩
  · exact ⟨_, _, rfl, fun n W _ => statement_any n W⟩
  · exact ⟨_, _, rfl, fun n W _ => basic_any n W⟩
  · exact ⟨_, _, rfl, fun n W _ => retOk_any n W⟩

theorem nbox_own {x : NT} {Bx B : Nat} {X Y : World} {row : Option Nat} (h : NBox X Bx x) (hg : X.grownBy Y row) (hr : ∀ r, row = some r → B ≤ r ∧ ∃ o : Obj, X.heap[r]? = some o ∧ o.isCells = false) : NBox Y Bx x := by
  have hlt : Bx < X.heap.size := (Array.getElem?_eq_some_iff.1 h).1
  refine (hg.block Bx hlt (fun e => ?_)).trans h
  obtain ⟨_, o, ho, hc⟩ := hr Bx e.symm
  rw [show X.heap[Bx]? = _ from h] at ho
  cases ho
  cases hc

theorem cnt_le_mems {x : NT} : ∀ (l : List NT), (∀ k ∈ l, x ∈ NT.nds k → NT.cnt x ≤ NT.cnt k) → x ∈ NT.ndss l → NT.cnt x ≤ NT.cnts l
  | [], _, h => by simp [NT.ndss] at h
  | k :: l, ih, h => by
    simp only [NT.ndss, List.mem_append] at h
    simp only [NT.cnts]
    rcases h with h | h
    · have := ih k (by simp) h; omega
    · have := cnt_le_mems l (fun k hk => ih k (by simp [hk])) h; omega
theorem cnt_le_mem {x : NT} : ∀ (T : NT), x ∈ NT.nds T → NT.cnt x ≤ NT.cnt T := NT.ind fun n ih h => by
  rw [NT.nds_eq, List.mem_cons] at h
  rcases h with rfl | h
  · exact Nat.le_refl _
  · have := cnt_le_mems n.kids ih h
    rw [NT.cnt_eq n]
    omega
theorem nbox_own' {x : NT} {Bx : Nat} {X Y : World} {row : Option Nat} (h : NBox X Bx x) (hg : X.grownBy Y row) (hr : ∀ r, row = some r → ∃ o : Obj, X.heap[r]? = some o ∧ o.isCells = false) : NBox Y Bx x :=
  nbox_own (B := 0) h hg (fun r e => ⟨Nat.zero_le _, hr r e⟩)
theorem below_keeps {W W' : World} (h : Below W.heap.size W W') (B : Nat) : KeepsFrom B W W' :=
  ⟨h.size, fun i o _ hk _ => (h.block i (Array.getElem?_eq_some_iff.1 hk).1).trans hk⟩
/-- what stays true from round to round -/
structure ShI (w w4 : World) (b nn : Nat) (S : Int → Bool) (pre : List (Nat × NT)) (W : World) : Prop where
  map : Boxed W w4.heap.size 77 (.map (some b))
  res : Boxed W (w.heap.size + 1) 4 (.bool false)
  tab : Tab W b nn S
  all : (pre.map (·.2)).all nodeB = true
  below : Below w.heap.size w W
/-- what is known when a round leaves the loop -/
structure ShX (root : NT → Bool) (T : NT) (w W : World) : Prop where
  res : Boxed W (w.heap.size + 1) 4 (.bool false)
  no : shapedB root T = false
  below : Below w.heap.size w W
theorem ShI.later {w w4 : World} {b nn : Nat} {S : Int → Bool} {pre : List (Nat × NT)} {W W' : World} (h : ShI w w4 b nn S pre W) (hz : w4.heap.size < W.heap.size) (hz2 : w.heap.size + 1 < W.heap.size) (hb : Below W.heap.size W W') : ShI w w4 b nn S pre W' :=
  ⟨(hb.block _ hz).trans h.map, (hb.block _ hz2).trans h.res, h.tab.below hb, h.all, h.below.trans (hb.mono h.below.size)⟩
theorem ShI.no {w w4 : World} {b nn : Nat} {S : Int → Bool} {pre : List (Nat × NT)} {W : World} {root : NT → Bool} {T x : NT} {B M n₀ : Nat} {W0 : World} (h : ShI w w4 b nn S pre W) (hb : Below W0.heap.size W0 W) (hm : x ∈ NT.nds T) (hno : nodeB x = false) : KeepsFrom B W0 (W.setCell ⟨w.heap.size + 1, 0, none⟩ (.bool false)) ∧ Code.ret = Code.ret ∧ ShX root T w (W.setCell ⟨w.heap.size + 1, 0, none⟩ (.bool false)) :=
  ⟨(below_keeps hb B).trans ((KeepsOthers.setCell _ _ _).from _), rfl, h.res.set _, by
    unfold shapedB
    rw [show (NT.nds T).all nodeB = false from by rw [List.all_eq_false]; exact ⟨x, hm, by rw [hno]; decide⟩, Bool.and_false], h.below.setCell (p := ⟨w.heap.size + 1, 0, none⟩) (by simp) _⟩
theorem ShI.go {w w4 : World} {b nn : Nat} {S : Int → Bool} {pre : List (Nat × NT)} {W W0 : World} {x : NT} {lv B M : Nat} (h : ShI w w4 b nn S pre W) (hb : Below W0.heap.size W0 W) (hw : w.heap.size ≤ W0.heap.size) (hok : nodeB x = true) : KeepsFrom B W0 W ∧ Below w.heap.size W0 W ∧ Stays M W0 W ∧ ShI w w4 b nn S (pre ++ [(lv, x)]) W :=
  ⟨below_keeps hb B, hb.mono hw, Stays.of_below hb (Nat.le_refl _), h.map, h.res, h.tab, by simpa [hok] using h.all, h.below⟩

-- GEN
set_option maxRecDepth 100000 in
set_option maxHeartbeats 8000000 in
theorem shaped_expr (T : NT) (w : World) (hin : InT w.heap.size w T) (hc : NT.cnt T ≤ 1000000000) (hwf : ∀ x ∈ NT.nds T, I64 x.kind) :
    Calls Tryz.prog 35 #[.agg #[.int .i64 T.kind, .string T.text, .int .i64 T.lo, .int .i64 T.hi, .slice T.A T.kids.length T.c], .func (.func 60) #[] #[]] w fun e w' => e = .returned (.bool (shapedB exprB T)) ∧ Below w.heap.size w w' := by
  have HI := Lib.hid hin
  have HF := Lib.hid hwf
  have HR := Lib.hid (fun (W : World) (_ : Below w.heap.size w W) => expression_any T W)
  have HL := Lib.hid (NT.wlk_snd T 1)
  clear hin hwf
  refine (callsIn_wide (n := 9)).1 ?_
  refine callsIn_of_wp_marks Tryz.func35 rfl trivial ?_ rfl
  simp only [Tryz.ntmps35, List.size_toArray, List.length_cons, List.length_nil, Nat.reduceAdd, Nat.reduceSub, Array.replicate_succ, Array.replicate_zero, List.push_toArray, List.append_toArray, List.nil_append, List.cons_append]
  gi_wp2_with (fail)
  have hb2 := ((Below.refl w.heap.size w).alloc (Nat.le_refl _) (.cells #[.int .i64 T.kind, .string T.text, .int .i64 T.lo, .int .i64 T.hi, .slice T.A T.kids.length T.c] 24)).alloc (by simp) (.cells #[.bool false] 4)
  have hn2 : NBox ((w.alloc (.cells #[.int .i64 T.kind, .string T.text, .int .i64 T.lo, .int .i64 T.hi, .slice T.A T.kids.length T.c] 24)).alloc (.cells #[.bool false] 4)) w.heap.size T := (heap_alloc_old _ _ (by simp)).trans (NBox.new w T)
  have hr2 : Boxed ((w.alloc (.cells #[.int .i64 T.kind, .string T.text, .int .i64 T.lo, .int .i64 T.hi, .slice T.A T.kids.length T.c] 24)).alloc (.cells #[.bool false] 4)) (w.heap.size + 1) 4 (.bool false) := by
    have h := Boxed.new (w.alloc (.cells #[.int .i64 T.kind, .string T.text, .int .i64 T.lo, .int .i64 T.hi, .slice T.A T.kids.length T.c] 24)) 4 (.bool false)
    rwa [World.size_alloc] at h
  have hz2 : ((w.alloc (.cells #[.int .i64 T.kind, .string T.text, .int .i64 T.lo, .int .i64 T.hi, .slice T.A T.kids.length T.c] 24)).alloc (.cells #[.bool false] 4)).heap.size = w.heap.size + 1 + 1 := by simp
  generalize ((w.alloc (.cells #[.int .i64 T.kind, .string T.text, .int .i64 T.lo, .int .i64 T.hi, .slice T.A T.kids.length T.c] 24)).alloc (.cells #[.bool false] 4)) = w2 at *
  refine ⟨trivial, (callsIn_wide.2 (HR.out w2 hb2)).mono ?_⟩
  rintro e w3 ⟨rfl, hb3⟩
  have hz3 := hb3.size
  have hn3 := hn2.below hb3 (by omega)
  have hr3 : Boxed w3 (w.heap.size + 1) 4 (.bool false) := (hb3.block _ (by omega)).trans hr2
  have HB3 := Lib.hid (hb2.trans (hb3.mono (by omega)))
  have HN3 := Lib.hid hn3
  have HR3 := Lib.hid hr3
  have c3 := hr3.cell
  have f3 := hr3.frozen
  clear hb2 hb3 hn2 hr2 hn3 hr3 HR
  cases hp : exprB T with
  | false =>
    have HV := Lib.hid (show shapedB exprB T = false by unfold shapedB; rw [hp]; rfl)
    clear hp
    gi_wp2_with (fail)
    have c4 := ((HR3.out.set (.bool false))).cell
    exact ⟨.bool false, by simp [results, Tryz.results35, go_sem, c4], retB HV.out, HB3.out.setCell (p := ⟨w.heap.size + 1, 0, none⟩) (by simp) _⟩
  | true =>
    have HP := Lib.hid hp
    clear hp
    gi_wp2_with (fail)
    refine ⟨trivial, (callsIn_wide.2 (shapes_any w3)).mono ?_⟩
    rintro e w4 ⟨b, nn, S, rfl, htab, hS, hbw, hb4⟩
    have hz4 := hb4.size
    have hn4 := HN3.out.below hb4 (by omega)
    obtain ⟨a0, a1, a2, a3, a4⟩ := hn4.cells
    have HR4 : Hid (Boxed w4 (w.heap.size + 1) 4 (.bool false)) := (hb4.block _ (by omega)).trans HR3.out
    have HB4 := Lib.hid (HB3.out.trans (hb4.mono (by omega)))
    have HT4 := Lib.hid htab
    have HS := Lib.hid hS
    have hwz : w.heap.size < w4.heap.size := by omega
    have hblt : b < w4.heap.size := by obtain ⟨D, _, h2, _⟩ := htab; exact h2.lt
    clear hb4 hn4 htab hS c3 f3
    gi_wp2_with (fail)
    refine ⟨trivial, (callsIn_wide.2 (walk_any T _)).mono ?_⟩
    rintro e w' ⟨rfl, rfl⟩
    gi_wp2_with (fail)
    have HB5 := Lib.hid (HB4.out.alloc (by omega) (.cells #[.map (some b)] 77))
    have hq5 := Boxed.new w4 77 (.map (some b))
    have HR5 := Lib.hid (HR4.out.alloc (.cells #[.map (some b)] 77))
    have HT5 := Lib.hid (HT4.out.below ((Below.refl w4.heap.size w4).alloc (Nat.le_refl _) (.cells #[.map (some b)] 77)))
    have hz5 : (w4.alloc (.cells #[.map (some b)] 77)).heap.size = w4.heap.size + 1 := by simp
    generalize w4.alloc (.cells #[.map (some b)] 77) = w5 at *
    have hk := heap_alloc_new w5 (.cells #[.int .i64 T.kind, .string T.text, .int .i64 T.lo, .int .i64 T.hi, .slice T.A T.kids.length T.c] 24)
    have HB6 := Lib.hid (HB5.out.alloc (by omega) (.cells #[.int .i64 T.kind, .string T.text, .int .i64 T.lo, .int .i64 T.hi, .slice T.A T.kids.length T.c] 24))
    have HQ6 := Lib.hid (hq5.alloc (.cells #[.int .i64 T.kind, .string T.text, .int .i64 T.lo, .int .i64 T.hi, .slice T.A T.kids.length T.c] 24))
    have HR6 := Lib.hid (HR5.out.alloc (.cells #[.int .i64 T.kind, .string T.text, .int .i64 T.lo, .int .i64 T.hi, .slice T.A T.kids.length T.c] 24))
    have HT6 := Lib.hid (HT5.out.below ((Below.refl w5.heap.size w5).alloc (Nat.le_refl _) (.cells #[.int .i64 T.kind, .string T.text, .int .i64 T.lo, .int .i64 T.hi, .slice T.A T.kids.length T.c] 24)))
    have hz6 : (w5.alloc (.cells #[.int .i64 T.kind, .string T.text, .int .i64 T.lo, .int .i64 T.hi, .slice T.A T.kids.length T.c] 24)).heap.size = w4.heap.size + 2 := by simp; omega
    rw [hz5] at hk
    generalize w5.alloc (.cells #[.int .i64 T.kind, .string T.text, .int .i64 T.lo, .int .i64 T.hi, .slice T.A T.kids.length T.c] 24) = w6 at *
    clear a0 a1 a2 a3 a4 hq5 HR3 HB3 HN3 HB4 HR4 HT4 HR5 HT5 HB5
    have HE := Lib.hid (show ∀ (pre : List (Nat × NT)) (x : Nat × NT) (post : List (Nat × NT)), NT.wlk T 1 = pre ++ x :: post → x.2 ∈ NT.nds T from fun pre x post h => by rw [← HL.out, h]; simp)
    have HA := Lib.hid (show (NT.wlk T 1).map (·.2) = NT.nds T from HL.out)
    clear HL
    refine wpIn_gives rfl (by decide) (gf := 62) (lb := #[.pointer (some ⟨w4.heap.size + 1, 0, none⟩)]) rfl trivial (enters_of Tryz.func62 (by kernel_rfl) rfl)
      (walk1_in Fence.wide rfl _ trivial trivial rfl (w4.heap.size + 1) w.heap.size T w6 (by omega) (by omega) (InT.below HB6.out T HI.out) hc hk) (by omega) (Below.refl _ _) (fun _ => rfl)
      (fun s W => ShI w w4 b nn S s.1 W)
      (fun c s W => c = .ret ∧ ShX exprB T w W) ?own ?ownx ⟨HQ6.out, HR6.out, HT6.out, rfl, HB6.out⟩
      (fun x a' W => ∃ Bx, NBox W Bx x.2 ∧ a' = { tmps := #[.agg #[.int .i64 T.kind, .string T.text, .int .i64 T.lo, .int .i64 T.hi, .slice T.A T.kids.length T.c], .func (.func 60) #[] #[], .pointer (some ⟨w.heap.size, 0, none⟩), undef, .pointer (some ⟨w.heap.size + 1, 0, none⟩), .pointer (some ⟨w4.heap.size, 0, none⟩), undef, .pointer (some ⟨Bx, 0, none⟩), undef, undef, .func (.func 60) #[] #[], .agg #[.int .i64 T.kind, .string T.text, .int .i64 T.lo, .int .i64 T.hi, .slice T.A T.kids.length T.c], .bool true, .bool false, .map (some b), .agg #[.int .i64 T.kind, .string T.text, .int .i64 T.lo, .int .i64 T.hi, .slice T.A T.kids.length T.c], .func (.func 62) #[] #[.pointer (some ⟨w4.heap.size + 1, 0, none⟩)], .int .i64 (x.1 : Int), .agg #[.int .i64 (x.2).kind, .string (x.2).text, .int .i64 (x.2).lo, .int .i64 (x.2).hi, .slice (x.2).A (x.2).kids.length (x.2).c], undef, undef, undef, undef, undef, undef, undef, undef, undef, undef, undef, undef, undef, undef, undef, undef, undef, undef, undef, undef, undef], defers := [] })
      ?ax ?assign ?body ?done ?stop
    case own =>
      rintro s A B row ⟨q1, q2, q3, q4, q5⟩ hg hr
      have far : ∀ k, k < w6.heap.size → some k ≠ row := fun k hk e => by have := (hr k e.symm).1; omega
      exact ⟨q1.kept hg (far _ (by omega)), q2.kept hg (far _ (by omega)), q3.grown hg (fun r e => ⟨by have := (hr r e).1; omega, (hr r e).2⟩), q4, q5.grown hg q5.size (fun r e => by have := (hr r e).1; omega)⟩
    case ownx =>
      rintro c s A B row ⟨h0, q2, q4, q5⟩ hg hr
      have far : ∀ k, k < w6.heap.size → some k ≠ row := fun k hk e => by have := (hr k e.symm).1; omega
      exact ⟨h0, q2.kept hg (far _ (by omega)), q4, q5.grown hg q5.size (fun r e => by have := (hr r e).1; omega)⟩
    case ax =>
      rintro x a' s A B row ⟨Bx, h1, h2⟩ hg hr
      exact ⟨Bx, nbox_own' h1 hg (fun r e => (hr r e).2), h2⟩
    case assign =>
      intro l pre x post M W K hL hi hM hK
      obtain ⟨lv, x⟩ := x
      gi_wp2
      have h1 := (Below.refl W.heap.size W).alloc (Nat.le_refl _) (.cells #[.int .i64 x.kind, .string x.text, .int .i64 x.lo, .int .i64 x.hi, .slice x.A x.kids.length x.c] 24)
      have hz1 : w4.heap.size < W.heap.size := (Array.getElem?_eq_some_iff.1 hi.map).1
      have hz2 : w.heap.size + 1 < W.heap.size := (Array.getElem?_eq_some_iff.1 hi.res).1
      exact hK _ _ (below_keeps h1 _) (h1.mono (by omega)) (Stays.of_below h1 (Nat.le_refl _)) h1.size (hi.later hz1 hz2 h1) ⟨W.heap.size, NBox.new W x, rfl⟩
    case body =>
      rintro l pre x post M a' W hL hi hM1 hM2 ⟨Bx, hx, rfl⟩
      have hbx : Bx < W.heap.size := (Array.getElem?_eq_some_iff.1 hx).1
      have hmem := HE.out pre x post hL
      obtain ⟨lv, x⟩ := x
      simp only at hx hmem
      obtain ⟨n0, n1, n2, n3, n4⟩ := hx.cells
      have f0 := hx.frozen 0
      have f1 := hx.frozen 1
      have f2 := hx.frozen 2
      have f3 := hx.frozen 3
      have f4 := hx.frozen 4
      have m0 := hi.map.cell
      have m1 := hi.map.frozen
      have r0 := hi.res.cell
      have r1 := hi.res.frozen
      have HIN := Lib.hid (InT.below hi.below x (InT.nds T HI.out x hmem))
      have HXC := Lib.hid (show NT.cnt x ≤ 1000000000 from Nat.le_trans (cnt_le_mem T hmem) hc)
      obtain ⟨v, hrun, hv⟩ := hi.tab.look x.kind (HF.out x hmem)
      have HSH := Lib.hid hi
      have HSX := Lib.hid (HS.out x.kind)
      have HMEM := Lib.hid hmem
      have HXB := Lib.hid hx
      clear hi hx hmem hL
      cases hs : S x.kind with
      | false =>
        rw [hs] at hrun
        have HNO := Lib.hid (show nodeB x = false by unfold nodeB; rw [show kindOk x.kind = false from HSX.out.symm.trans hs]; rfl)
        clear hs hv
        gi_wp2_with (fail)
        refine ⟨trivial, ?_⟩
        gi_wp2_with (fail)
        refine ⟨(fun f h => by cases h), ?_⟩
        gi_wp2_with (fail)
        exact HSH.out.no (M := M) (n₀ := 0) (Below.refl _ _) HMEM.out HNO.out
      | true =>
        rw [hs] at hrun
        have HCHK := Lib.hid (hv hs)
        have HKO := Lib.hid (show kindOk x.kind = true from HSX.out.symm.trans hs)
        rcases (hv hs).form with ⟨B1, D1, rfl⟩ | ⟨B1, D1, rfl⟩
        · clear hs hv
          gi_wp2_with (fail)
          refine ⟨trivial, (CallsIn.inRound l (callsIn_wide.2 (textFits_any x W))).mono ?_⟩
          rintro e W2 ⟨rfl, hb2⟩
          have hzz := hb2.size
          have HSH2 := Lib.hid (HSH.out.later (by omega) (by omega) hb2)
          have hx2 := HXB.out.below hb2 hbx
          obtain ⟨n0', n1', n2', n3', n4'⟩ := hx2.cells
          have f4' := hx2.frozen 4
          have r0' := HSH2.out.res.cell
          have r1' := HSH2.out.res.frozen
          have HB2 := Lib.hid hb2
          have HC2 := Lib.hid (HCHK.out.keeps ⟨hb2.size, fun p u hp => (hb2.cell (World.block_lt_of_cell? _ _ hp)).trans hp⟩)
          have HIN2 := Lib.hid (InT.mono (Nat.le_trans HSH.out.below.size hb2.size) x (InT.below (hb2.mono HSH.out.below.size) x HIN.out))
          clear hb2 hx2 n0 n1 n2 n3 n4 f0 f1 f2 f3 f4 m0 m1 r0 r1 hrun
          cases ht : textB x.kind x.text with
          | false =>
            have HNO := Lib.hid (show nodeB x = false by unfold nodeB; rw [ht, Bool.and_false]; rfl)
            clear ht
            gi_wp2_with (fail)
            refine ⟨(fun f h => by cases h), ?_⟩
            gi_wp2_with (fail)
            exact HSH2.out.no (M := M) (n₀ := 0) HB2.out HMEM.out HNO.out
          | true =>
            have HTX := Lib.hid ht
            clear ht
            gi_wp2_with (fail)
            refine ⟨trivial, (CallsIn.inRound l (callsIn_wide.2 (chk_row HC2.out x.A x.c x.kids HIN2.out.row (by have := NT.kids_len x; have := HXC.out; omega)))).mono ?_⟩
            rintro e W3 ⟨rfl, hb3⟩
            have hzy := hb3.size
            have HSH3 := Lib.hid (HSH2.out.later (by omega) (by omega) hb3)
            have HB3 := Lib.hid (HB2.out.trans (hb3.mono (by omega)))
            have r0'' := HSH3.out.res.cell
            have r1'' := HSH3.out.res.frozen
            clear hb3
            cases hq : kidsB x.kind x.kids with
            | false =>
              have HNO := Lib.hid (show nodeB x = false by unfold nodeB; rw [hq, Bool.and_false])
              clear hq
              gi_wp2_with (fail)
              exact HSH3.out.no (M := M) (n₀ := 0) HB3.out HMEM.out HNO.out
            | true =>
              have HOK := Lib.hid (show nodeB x = true by unfold nodeB; rw [hq, HTX.out, HKO.out]; rfl)
              clear hq
              gi_wp2_with (fail)
              exact HSH3.out.go HB3.out HSH.out.below.size HOK.out
        · clear hs hv
          gi_wp2_with (fail)
          refine ⟨trivial, (CallsIn.inRound l (callsIn_wide.2 (textFits_any x W))).mono ?_⟩
          rintro e W2 ⟨rfl, hb2⟩
          have hzz := hb2.size
          have HSH2 := Lib.hid (HSH.out.later (by omega) (by omega) hb2)
          have hx2 := HXB.out.below hb2 hbx
          obtain ⟨n0', n1', n2', n3', n4'⟩ := hx2.cells
          have f4' := hx2.frozen 4
          have r0' := HSH2.out.res.cell
          have r1' := HSH2.out.res.frozen
          have HB2 := Lib.hid hb2
          have HC2 := Lib.hid (HCHK.out.keeps ⟨hb2.size, fun p u hp => (hb2.cell (World.block_lt_of_cell? _ _ hp)).trans hp⟩)
          have HIN2 := Lib.hid (InT.mono (Nat.le_trans HSH.out.below.size hb2.size) x (InT.below (hb2.mono HSH.out.below.size) x HIN.out))
          clear hb2 hx2 n0 n1 n2 n3 n4 f0 f1 f2 f3 f4 m0 m1 r0 r1 hrun
          cases ht : textB x.kind x.text with
          | false =>
            have HNO := Lib.hid (show nodeB x = false by unfold nodeB; rw [ht, Bool.and_false]; rfl)
            clear ht
            gi_wp2_with (fail)
            refine ⟨(fun f h => by cases h), ?_⟩
            gi_wp2_with (fail)
            exact HSH2.out.no (M := M) (n₀ := 0) HB2.out HMEM.out HNO.out
          | true =>
            have HTX := Lib.hid ht
            clear ht
            gi_wp2_with (fail)
            refine ⟨trivial, (CallsIn.inRound l (callsIn_wide.2 (chk_many HC2.out x.A x.c x.kids HIN2.out.row (by have := NT.kids_len x; have := HXC.out; omega)))).mono ?_⟩
            rintro e W3 ⟨rfl, hb3⟩
            have hzy := hb3.size
            have HSH3 := Lib.hid (HSH2.out.later (by omega) (by omega) hb3)
            have HB3 := Lib.hid (HB2.out.trans (hb3.mono (by omega)))
            have r0'' := HSH3.out.res.cell
            have r1'' := HSH3.out.res.frozen
            clear hb3
            cases hq : kidsB x.kind x.kids with
            | false =>
              have HNO := Lib.hid (show nodeB x = false by unfold nodeB; rw [hq, Bool.and_false])
              clear hq
              gi_wp2_with (fail)
              exact HSH3.out.no (M := M) (n₀ := 0) HB3.out HMEM.out HNO.out
            | true =>
              have HOK := Lib.hid (show nodeB x = true by unfold nodeB; rw [hq, HTX.out, HKO.out]; rfl)
              clear hq
              gi_wp2_with (fail)
              exact HSH3.out.go HB3.out HSH.out.below.size HOK.out
    case done =>
      rintro D M W hD hi hK
      have HSH := Lib.hid hi
      have r0 := hi.res.cell
      have r1 := hi.res.frozen
      have HZ := Lib.hid (show w.heap.size + 1 < D by omega)
      clear hi
      gi_wp2
      have hK2 : (W.setCell ⟨w.heap.size + 1, 0, none⟩ (.bool true)).heap[D]? = some (.deferred (some [])) := (Below.heap_setCell _ ⟨w.heap.size + 1, 0, none⟩ _ D (by show D ≠ w.heap.size + 1; have := HZ.out; omega)).trans hK
      refine ⟨by simp, .inl ⟨_, _, rfl, run_takeDeferred hK2, ?_⟩⟩
      have v1 := ((HSH.out.res.set (.bool true)).kept (grownBy_putObj' _ D (.deferred none)) (by simp; have := HZ.out; omega)).cell
      have v2 := (HSH.out.below.setCell (p := ⟨w.heap.size + 1, 0, none⟩) (by simp) (.bool true)).trans (put_below (.deferred none) (by have := HZ.out; omega) hK2)
      exact ⟨.bool true, by simp [results, Tryz.results35, go_sem, v1], by unfold shapedB; rw [HP.out, ← HA.out, HSH.out.all]; rfl, v2⟩
    case stop =>
      rintro D c pre W hD hpre ⟨rfl, hi⟩ hK
      have HSH := Lib.hid hi
      have r0 := hi.res.cell
      have r1 := hi.res.frozen
      clear hi
      gi_wp2
      refine ⟨by simp, .inl ⟨_, _, rfl, run_takeDeferred hK, ?_⟩⟩
      have v1 := (HSH.out.res.kept (grownBy_putObj' _ D (.deferred none)) (by simp; omega)).cell
      have v2 := HSH.out.below.trans (put_below (.deferred none) (by omega) hK)
      exact ⟨.bool false, by simp [results, Tryz.results35, go_sem, v1], by rw [HSH.out.no], v2⟩

end Go.Proofs.YtlpoeflbnpbmgaaGreatDoor
