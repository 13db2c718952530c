/- What is proved: the search of the graph, from a vertex on, until a function says that it stops: it gives the visits of the plain search. -/
import Derived.Test.YtmamajillkajoaaDoorCoGraph
set_option linter.unusedVariables false
namespace Go.Proofs.YtmamajillkajoaaDoor
open Go.RowKit

theorem infoVi : (Tryd.prog.info? 70).map (fun i => (i.zero, i.size, i.bytes)) = some (some (.agg #[.int .i64 0, .int .i64 0, .int .i64 0, .int .i64 0]), 4, 32) := by kernel_rfl
/-- the visits of a search under way -/
structure VsOk (g : Gp) (s : Int) (Q Q' : Nat → Int) (vs : List Vis) : Prop where
  lt : ∀ x ∈ vs, x.v < g.n
  nd : (vs.map (·.v)).Nodup
  q : ∀ v, v < g.n → Q' v = if inV vs v then s + 1 else Q v
  st : ∀ (i : Nat) (h : i < vs.length), vs[i].st ≤ i
/-- what a search gives -/
structure SrRes (g : Gp) (p : Vis → Bool) (Z : Nat → Prop) (J : World → Prop) (JT : Vis → World → Prop) (start : Nat) (s : Int) (Q : Nat → Int) (w : World) (X : Option Addr) (k : List Vis) (W : World) : Prop where
  gd : ∃ cX vs Q', GD g (s + 1) Q' X cX vs W ∧ bfs g.l p (g.n + 1) 0 [⟨start, -1, -1, 0⟩] = (k, vs) ∧ VsOk g s Q Q' vs
  row : VRow W.heap.size W X k
  fr : FrZ g Z w W
  below : Below g.N w W
  fin : (∃ x, k.getLast? = some x ∧ p x = true ∧ JT x W) ∨ (J W ∧ ∀ y ∈ k, p y = false)
def SrEnd (g : Gp) (p : Vis → Bool) (Z : Nat → Prop) (J : World → Prop) (JT : Vis → World → Prop) (start : Nat) (s : Int) (Q : Nat → Int) (w : World) (e : Ending) (w' : World) : Prop :=
  ∃ X k c, e = .returned (.slice X k.length c) ∧ SrRes g p Z J JT start s Q w X k w'
/-- what a function that says whether a search stops must do -/
def Lst (g : Gp) (f : Nat) (caps : Array Value) (p : Vis → Bool) (Z : Nat → Prop) (J : World → Prop) (JT : Vis → World → Prop) : Prop :=
  ∀ (W : World) (x : Vis) (s : Int) (Q : Nat → Int) (X : Option Addr) (cX : Nat) (vs : List Vis), GD g s Q X cX vs W → J W → x.v < g.n → x.st ≤ 1000000 →
    Calls Tryd.prog f (#[.agg #[.int .i64 (x.v : Int), .int .i64 x.fr, .int .i64 x.by_, .int .i64 (x.st : Int)]] ++ caps) W fun e W' => e = .returned (.bool (p x)) ∧ W.heap.size ≤ W'.heap.size ∧ (∀ b, b < W.heap.size → ¬ Z b → W'.heap[b]? = W.heap[b]?) ∧ Below g.N W W' ∧ (p x = false → J W') ∧ (p x = true → JT x W')

/-- the visits that stand stay -/
theorem expand_pre (l : List Con) (i : Nat) (x : Vis) : ∀ (es : List Nat) (vs : List Vis), ∃ t, expand l i x es vs = vs ++ t
  | [], vs => ⟨[], by simp [expand]⟩
  | e :: es, vs => by
    rw [expand]
    split
    · exact expand_pre l i x es vs
    · obtain ⟨t, ht⟩ := expand_pre l i x es (vs ++ [⟨oth l e x.v, i, e, x.st + 1⟩])
      exact ⟨_, by rw [ht, List.append_assoc]⟩
theorem expand_false {p : Vis → Bool} {k : Nat} {vs : List Vis} {l : List Con} {x : Vis} {es : List Nat} (h : ∀ y ∈ vs.take k, p y = false) (hk : k < vs.length) {x' : Vis} (hx : vs[k]? = some x') (hp : p x' = false) : ∀ y ∈ (expand l k x es vs).take (k + 1), p y = false := by
  obtain ⟨t, ht⟩ := expand_pre l k x es vs
  rw [ht, List.take_append_of_le_length (by omega)]
  intro y hy
  rw [List.take_add_one, hx] at hy
  rcases List.mem_append.1 hy with hy | hy
  · exact h y hy
  · have : y = x' := by simpa using hy
    rw [this]; exact hp

/-- the box's cells -/
theorem GBox.cells {W : World} {gb : Nat} {A : Option Addr} {len c mb eb n : Nat} {s : Int} {rb : Nat} {V : Value} (h : GBox W gb A len c mb eb n s rb V) : W.cell? ⟨gb, 0, none⟩ = some (.slice A len c) ∧ W.cell? ⟨gb, 1, none⟩ = some (.slice (some ⟨mb, 0, none⟩) n n) ∧ W.cell? ⟨gb, 2, none⟩ = some (.slice (some ⟨eb, 0, none⟩) n n) ∧ W.cell? ⟨gb, 3, none⟩ = some (.int .i64 s) ∧ W.cell? ⟨gb, 4, none⟩ = some (.slice (some ⟨rb, 0, none⟩) n n) ∧ W.cell? ⟨gb, 5, none⟩ = some V :=
  ⟨Lib.cell_of_heap h 0, Lib.cell_of_heap h 1, Lib.cell_of_heap h 2, Lib.cell_of_heap h 3, Lib.cell_of_heap h 4, Lib.cell_of_heap h 5⟩
theorem GBox.frz {W : World} {gb : Nat} {A : Option Addr} {len c mb eb n : Nat} {s : Int} {rb : Nat} {V : Value} (h : GBox W gb A len c mb eb n s rb V) (i : Nat) : W.frozen? ⟨gb, i, none⟩ = false := hfrz h i
theorem GBox.set3 {W : World} {gb : Nat} {A : Option Addr} {len c mb eb n : Nat} {s : Int} {rb : Nat} {V : Value} (h : GBox W gb A len c mb eb n s rb V) (s' : Int) : GBox (W.setCell ⟨gb, 3, none⟩ (.int .i64 s')) gb A len c mb eb n s' rb V := hset h _
theorem GBox.set5 {W : World} {gb : Nat} {A : Option Addr} {len c mb eb n : Nat} {s : Int} {rb : Nat} {V : Value} (h : GBox W gb A len c mb eb n s rb V) (V' : Value) : GBox (W.setCell ⟨gb, 5, none⟩ V') gb A len c mb eb n s rb V' := hset h _
theorem own_trunc {w : World} {B E s n c : Nat} {X : Option Addr} {xs : List Value} (h : w.ownsRow B E s (.slice X n c) n xs) : w.ownsRow B E s (.slice X 0 c) 0 [] := by
  refine ⟨by simp, ?_⟩
  rcases h.2 with ⟨h1, h2⟩ | ⟨g, cap, cur, h1, h2, h3, h4, h5, h6, h7⟩
  · left
    cases h1
    exact ⟨rfl, rfl⟩
  · right
    cases h1
    exact ⟨g, c, cur, rfl, h2, h3, Nat.zero_le _, h5, h6, by simp⟩
theorem VsOk.start {g : Gp} {s : Int} {Q : Nat → Int} {start : Nat} (h : start < g.n) : VsOk g s Q (fun u => if u = start then s + 1 else Q u) [⟨start, -1, -1, 0⟩] :=
  ⟨by simpa using h, by simp, fun v _ => by
    by_cases e : v = start
    · subst e; simp [inV]
    · have e2 : (start == v) = false := by simp; omega
      simp [inV, e, e2],
    fun i h => by have e : i = 0 := by simpa using h
                  subst e; exact Nat.le_refl _⟩
theorem VsOk.push {g : Gp} {s : Int} {Q Q' : Nat → Int} {vs : List Vis} (h : VsOk g s Q Q' vs) {o : Nat} (hin : inV vs o = false) (ho : o < g.n) (f b : Int) (t : Nat) (ht : t ≤ vs.length) : VsOk g s Q (fun u => if u = o then s + 1 else Q' u) (vs ++ [⟨o, f, b, t⟩]) := by
  have hno : ∀ x ∈ vs, x.v ≠ o := fun x hx e => by
    have : inV vs o = true := List.any_eq_true.2 ⟨x, hx, by simp [e]⟩
    rw [hin] at this
    cases this
  refine ⟨fun x hx => ?_, ?_, fun v hv => ?_, fun i hi => ?_⟩
  · rcases List.mem_append.1 hx with hx | hx
    · exact h.lt x hx
    · have : x = ⟨o, f, b, t⟩ := by simpa using hx
      rw [this]; exact ho
  · rw [List.map_append, List.nodup_append]
    refine ⟨h.nd, by simp, fun a ha c hc => ?_⟩
    obtain ⟨x, hx, rfl⟩ := List.mem_map.1 ha
    have : c = o := by simpa using hc
    rw [this]
    exact hno x hx
  · have e : inV (vs ++ [⟨o, f, b, t⟩]) v = (inV vs v || (o == v)) := by simp [inV, List.any_append]
    rw [e]
    by_cases e1 : v = o
    · subst e1; simp
    · have e2 : (o == v) = false := by simp; omega
      rw [if_neg e1, e2, Bool.or_false]
      exact h.q v hv
  · rw [List.getElem_append]
    split
    · exact h.st i (by assumption)
    · have : i = vs.length := by simp at hi; omega
      simp [this]
      exact ht
theorem nodup_len {n : Nat} {l : List Nat} (hn : l.Nodup) (hl : ∀ x ∈ l, x < n) : l.length ≤ n := by
  induction n generalizing l with
  | zero => cases l with
    | nil => simp
    | cons a t => exact absurd (hl a (by simp)) (by omega)
  | succ n ih =>
    have h1 : (l.filter (· != n)).Nodup := hn.filter _
    have h2 := ih h1 (fun x hx => by
      have := List.mem_filter.1 hx
      have h3 := hl x this.1
      have h4 : x ≠ n := by simpa using this.2
      omega)
    have h3 : l.length ≤ (l.filter (· != n)).length + 1 := by
      clear ih h1 h2 hl
      induction l with
      | nil => simp
      | cons a t ih =>
        rw [List.nodup_cons] at hn
        by_cases e : a = n
        · subst e
          have : t.filter (· != a) = t := List.filter_eq_self.2 fun x hx => by
            have : x ≠ a := fun e => hn.1 (e ▸ hx)
            simpa using this
          simp [this]
        · have := ih hn.2
          simp [e]
          omega
    omega
theorem VsOk.len {g : Gp} {s : Int} {Q Q' : Nat → Int} {vs : List Vis} (h : VsOk g s Q Q' vs) : vs.length ≤ g.n := by
  have e := nodup_len (n := g.n) h.nd (fun x hx => by obtain ⟨y, hy, rfl⟩ := List.mem_map.1 hx; exact h.lt y hy)
  simpa using e
theorem own_cap4 {w : World} {B n c : Nat} {X : Option Addr} {xs : List Value} (h : w.ownsRow B 70 4 (.slice X n c) n xs) : n ≤ c := by
  rcases h.2 with ⟨h1, h2⟩ | ⟨g, cap, cur, h1, h2, h3, h4, h5, h6, h7⟩
  · omega
  · cases h1
    exact h4
theorem vrow_take {n₀ : Nat} {w : World} {A : Option Addr} {l : List Vis} (h : VRow n₀ w A l) (F : Nat) : VRow n₀ w A (l.take F) := fun h0 => by
  rw [List.length_take] at h0
  obtain ⟨b, hA, hlt, hc⟩ := h (by omega)
  exact ⟨b, hA, hlt, fun i hi => by rw [List.getElem_take]; exact hc i (by rw [List.length_take] at hi; omega)⟩
theorem eqs_mem {l : List Con} {v k e : Nat} (h : e ∈ eqs l v k) : e < k ∧ ∃ c, l[e]? = some c ∧ (c.kind == 0) = false ∧ (c.a = (v : Int) ∨ c.b = (v : Int)) := by
  induction k with
  | zero => simp [eqs] at h
  | succ k ih =>
    rw [eqs_succ, List.mem_append] at h
    rcases h with h | h
    · have := ih h
      exact ⟨by omega, this.2⟩
    · unfold est at h
      split at h
      · rename_i c hc
        split at h
        · simp at h
        · split at h
          · simp at h
          · rename_i hk
            rw [List.mem_append] at h
            rcases h with h | h
            · split at h
              · rename_i ha
                have e1 : e = k := by simpa using h
                exact ⟨by omega, c, by rw [e1]; exact hc, by simpa using hk, .inl (by simpa using ha)⟩
              · simp at h
            · split at h
              · rename_i hb
                have e1 : e = k := by simpa using h
                exact ⟨by omega, c, by rw [e1]; exact hc, by simpa using hk, .inr (by simpa using hb)⟩
              · simp at h
      · simp at h
theorem eqs_len (l : List Con) (v k : Nat) : (eqs l v k).length ≤ 2 * k := by
  induction k with
  | zero => exact Nat.le_refl _
  | succ k ih =>
    rw [eqs_succ, List.length_append]
    have := est_len l v k
    omega
theorem co_add0 (a : Addr) : a.add 0 = a := by unfold Addr.add; simp
theorem run_vis_to (A : Option Addr) (len c F : Nat) (h : F ≤ c) (W : World) : (Instr.slice 63 (.slice A len c) none (some (.int .i64 (F : Int))) none).run Tryd.prog W = .ok (.slice A F c) W := by
  obtain ⟨i0, hi0, hz0, hz1, hz2⟩ := info_parts infoVi
  have e : (if c = 0 then A else Option.map (fun a => a.add 0) A) = A := by
    split
    · rfl
    · cases A <;> simp [co_add0]
  simp [Instr.slice, run_underlying Tryd.underlying63, Instr.sliceBounds, Instr.sliceBound, asIntOf, h, sizeOf, typeInfo, hi0, e]
theorem run_vis_zero (A : Option Addr) (len c : Nat) (W : World) : (Instr.slice 63 (.slice A len c) none (some (.int .i64 0)) none).run Tryd.prog W = .ok (.slice A 0 c) W := run_vis_to A len c 0 (Nat.zero_le _) W

set_option maxRecDepth 100000 in
set_option maxHeartbeats 8000000 in
theorem search_any (g : Gp) (ho : GpOk g) (start : Nat) (hst : start < g.n) (f : Nat) (caps : Array Value) (p : Vis → Bool) (Z : Nat → Prop) (J : World → Prop) (JT : Vis → World → Prop) (s : Int) (Q : Nat → Int) (X : Option Addr) (cX : Nat) (vs0 : List Vis) (w : World)
    (hs : 0 ≤ s ∧ s < 1000000000) (hQ : ∀ v, v < g.n → Q v ≤ s) (hg : GD g s Q X cX vs0 w) (hJ : J w) (hJZ : ∀ W, J W → ∀ b, Z b → g.B ≤ b ∧ ∀ cs, W.heap[b]? ≠ some (.cells cs 70 (0, 0))) (hJF : ∀ W W', J W → FrZ g (fun _ => False) W W' → J W') (hcl : Lst g f caps p Z J JT) (eK : ∀ args w, (callFunc f args).run Tryd.prog w = .ok (.enter f args) w) :
    Calls Tryd.prog 33 #[.pointer (some ⟨g.gb, 0, none⟩), .int .i64 (start : Int), .func (.func f) #[] caps] w (SrEnd g p Z J JT start s Q w) := by
  obtain ⟨i0, hi0, hz0, hz1, hz2⟩ := info_parts infoVi
  have HG := Lib.hid hg
  have HO := Lib.hid ho
  have HQ := Lib.hid hQ
  have HJ := Lib.hid hJ
  have HJZ := Lib.hid hJZ
  have HJF := Lib.hid hJF
  have HCL := Lib.hid hcl
  clear hg ho hQ hJ hJZ hJF hcl
  obtain ⟨s0, s1⟩ := hs
  obtain ⟨c0, c1, c2, c3, c4, c5⟩ := HG.out.box.cells
  have z3 := HG.out.box.frz 3
  go_enter Tryd.func33, Tryd.ntmps33
  have hsw : IntKind.i64.wrap (s + 1) = s + 1 := IntWalk.i64_in _ (by omega)
  go_upto_region 2 with fail
  have HG1 := Lib.hid (HG.out.setS HO.out (s + 1))
  have HF1 := Lib.hid (show FrZ g (fun _ => False) w (w.setCell ⟨g.gb, 3, none⟩ (.int .i64 (s + 1))) from (FrZ.refl _ _ _).setG _ _)
  have HB1 := Lib.hid (show Below g.N w (w.setCell ⟨g.gb, 3, none⟩ (.int .i64 (s + 1))) from (Below.refl g.N w).setCell (p := ⟨g.gb, 3, none⟩) (by have := HO.out.lo; simp; omega) _)
  generalize (w.setCell ⟨g.gb, 3, none⟩ (.int .i64 (s + 1))) = w1 at *
  clear c0 c1 c2 c3 c4 c5 z3
  obtain ⟨c0, c1, c2, c3, c4, c5⟩ := HG1.out.box.cells
  have hrun := run_vis_zero X vs0.length cX
  have hgl1 : g.gb < w1.heap.size := (Array.getElem?_eq_some_iff.1 HG1.out.box).1
  have HT := Lib.hid ((own_trunc HG1.out.vis).alloc (.cells #[.int .i64 (start : Int), .int .i64 (-1), .int .i64 (-1), .int .i64 0] 70))
  have HOV := Lib.hid (own_vis (m := 0) HG1.out.vis)
  have hNb : g.N + 5 ≤ w1.heap.size := by have := HO.out.b; have := HG1.out.size; omega
  have HHI := Lib.hid HO.out.hi
  go_upto_region 3 with (at_builtin; refine wpList_append_lies _ rfl _ _ 63 rfl (g.N + 5) 70 i0 _ 4 32 Tryd.underlying63 hi0 hz0 hz1 hz2 rfl (by decide) (.slice X 0 cX) 0 [] rfl HT.out ⟨w1.heap.size, 0, none⟩ 1 1 (vcs [⟨start, -1, -1, 0⟩]) rfl rfl (World.news_of_block (cs := #[.int .i64 (start : Int), .int .i64 (-1), .int .i64 (-1), .int .i64 0]) (heap_alloc_new w1 _)) (vcs_one _) (by decide) (by decide) (by decide) (by simp; omega) (w1.heap.size + 1) (by simp) ?_; intro gv cap w4 hown hgr hsel hgl; have hgb4 := (hgr.block g.gb (by simp; omega) (fun e => by have := (HOV.out _ e.symm).1; have := HHI.out; omega)).trans ((heap_alloc_old _ _ hgl1).trans HG1.out.box); have y5 := hfrz hgb4 5; have x5 := Lib.cell_of_heap hgb4 5)
  have HG6 := Lib.hid (HG1.out.setV (vs' := [⟨start, -1, -1, 0⟩]) HO.out (w2 := w1.alloc (.cells #[.int .i64 (start : Int), .int .i64 (-1), .int .i64 (-1), .int .i64 0] 70)) (by simp) (fun b hb => heap_alloc_old _ _ hb) hgr hown)
  have HF6 := Lib.hid ((HF1.out.grown (c := w1.alloc (.cells #[.int .i64 (start : Int), .int .i64 (-1), .int .i64 (-1), .int .i64 0] 70)) (by simp) (fun b hb => heap_alloc_old _ _ hb) (fun x e => (HOV.out x e).2) hgr).setG 5 (.slice (some ⟨gv, 0, none⟩) 1 cap))
  have HB6 := Lib.hid (((HB1.out.alloc (by have := HB1.out.size; omega) (.cells #[.int .i64 (start : Int), .int .i64 (-1), .int .i64 (-1), .int .i64 0] 70)).grown hgr (by simp; omega) (fun b e => by have := (HOV.out b e).1; omega)).setCell (p := ⟨g.gb, 5, none⟩) (by have := HO.out.lo; simp; omega) (.slice (some ⟨gv, 0, none⟩) 1 cap))
  simp only [List.length_cons, List.length_nil, Nat.zero_add] at HG6
  generalize (w4.setCell ⟨g.gb, 5, none⟩ (.slice (some ⟨gv, 0, none⟩) 1 cap)) = w6 at *
  clear c0 c1 c2 c3 c4 c5 hown hgr hsel hgl hgb4 y5 x5 HT HOV
  obtain ⟨c0, c1, c2, c3, c4, c5⟩ := HG6.out.box.cells
  have d3 := c3
  have r0 := hfrz HG6.out.rh start
  have r1 : w6.cell? ⟨g.rb, start, none⟩ = some (.int .i64 (Q start)) := by have h := Lib.cell_of_heap HG6.out.rh start; rw [hdr_get _ hst] at h; exact h
  have HK := Lib.hid (show (w6.setCell ⟨g.rb, start, none⟩ (.int .i64 (s + 1))).drew.cell? ⟨g.gb, 3, none⟩ = some (.int .i64 (s + 1)) ∧ (w6.setCell ⟨g.rb, start, none⟩ (.int .i64 (s + 1))).drew.cell? ⟨g.gb, 4, none⟩ = some (.slice (some ⟨g.rb, 0, none⟩) g.n g.n) from ⟨(World.cell?_setCell_far _ _ _ _ HO.out.ne.2.2.2.2.2).trans c3, (World.cell?_setCell_far _ _ _ _ HO.out.ne.2.2.2.2.2).trans c4⟩)
  go_region_held3 (fun w' => w'.cell? ⟨g.gb, 3, none⟩ = some (.int .i64 (s + 1)) ∧ w'.cell? ⟨g.gb, 4, none⟩ = some (.slice (some ⟨g.rb, 0, none⟩) g.n g.n)) (first | exact HK.out | go_keep) (fail)
  all_goals
    have HG7 := Lib.hid (HG6.out.setQ HO.out start (s + 1))
    have HF7 := Lib.hid (HF6.out.setR start (.int .i64 (s + 1)))
    have HB7 := Lib.hid (HB6.out.setCell (p := ⟨g.rb, start, none⟩) (by have := HO.out.lo; simp; omega) (.int .i64 (s + 1)))
    have HG7' : Hid (GD g (s + 1) (fun u => if u = start then s + 1 else Q u) (some ⟨gv, 0, none⟩) cap [⟨start, -1, -1, 0⟩] (w6.setCell ⟨g.rb, start, none⟩ (.int .i64 (s + 1))).drew) := Lib.hid (HG7.out.below HO.out (Below.refl _ _).drew)
    have HF7' : Hid (FrZ g (fun _ => False) w (w6.setCell ⟨g.rb, start, none⟩ (.int .i64 (s + 1))).drew) := HF7
    have HB7' : Hid (Below g.N w (w6.setCell ⟨g.rb, start, none⟩ (.int .i64 (s + 1))).drew) := Lib.hid HB7.out.drew
    generalize (w6.setCell ⟨g.rb, start, none⟩ (.int .i64 (s + 1))).drew = w7 at *
    have HJ7 := Lib.hid (HJF.out w w7 HJ.out HF7'.out)
    clear HG7 HF7 HB7 HG6 HF6 HB6 HG1 HF1 HB1 c0 c1 c2 c3 c4 c5 d3 r0 r1 HK hrun hgl1 hNb HHI HJ
    go_wp2_with (fail)
    go_loopw [7] (fun i wr => ∃ (k : Nat) (vs : List Vis) (X' : Option Addr) (cX' : Nat) (Q' : Nat → Int), k ≤ vs.length ∧ i = .int .i64 (k : Int) ∧ Hid (GD g (s + 1) Q' X' cX' vs wr) ∧ Hid (bfs g.l p (g.n + 1 - k) k vs = bfs g.l p (g.n + 1) 0 [⟨start, -1, -1, 0⟩]) ∧ Hid (VsOk g s Q Q' vs) ∧ Hid (J wr) ∧ Hid (FrZ g Z w wr) ∧ Hid (Below g.N w wr) ∧ Hid (∀ y ∈ vs.take k, p y = false)) (fun i _ => g.n + 1 - (intOf i).toNat)
    case atStart =>
      exact ⟨0, _, _, _, _, Nat.zero_le _, rfl, HG7', Lib.hid rfl, Lib.hid (VsOk.start hst), HJ7, Lib.hid (HF7'.out.mono (fun _ h => h.elim)), HB7', Lib.hid (fun y hy => by simp at hy)⟩
    case round =>
      obtain ⟨k, vs, X', cX', Q', hk, rfl, hgr, hbf, hvo, hjr, hfr, hbr, hpl⟩ := hrel
      obtain ⟨c0, c1, c2, c3, c4, c5⟩ := hgr.out.box.cells
      have hvl := hvo.out.len
      by_cases hlt : k < vs.length
      · obtain ⟨vb, rfl, hvb, hvc⟩ := (vis_own hgr.out.vis rfl) (by omega)
        obtain ⟨x0, x1, x2, x3⟩ := hvc k hlt
        clear hvc
        obtain ⟨x, HX⟩ : ∃ x, Hid (vs[k] = x) := ⟨_, Lib.hid rfl⟩
        rw [HX.out] at x0 x1 x2 x3
        have hk6 : k ≤ 1000000 := by have := HO.out.n; omega
        have HST := Lib.hid (show x.st ≤ k by rw [← HX.out]; exact hvo.out.st k hlt)
        have hxn : x.v < g.n := by rw [← HX.out]; exact hvo.out.lt _ (List.getElem_mem hlt)
        go_upto_region 8 with fail
        have hba := (Below.refl wr.heap.size wr).alloc (Nat.le_refl _) (.cells #[.int .i64 (x.v : Int), .int .i64 x.fr, .int .i64 x.by_, .int .i64 (x.st : Int)] 70)
        have hnx := heap_alloc_new wr (.cells #[.int .i64 (x.v : Int), .int .i64 x.fr, .int .i64 x.by_, .int .i64 (x.st : Int)] 70)
        have hzx : (wr.alloc (.cells #[.int .i64 (x.v : Int), .int .i64 x.fr, .int .i64 x.by_, .int .i64 (x.st : Int)] 70)).heap.size = wr.heap.size + 1 := by simp
        generalize (wr.alloc (.cells #[.int .i64 (x.v : Int), .int .i64 x.fr, .int .i64 x.by_, .int .i64 (x.st : Int)] 70)) = w8 at *
        clear x0 x1 x2 x3 c0 c1 c2 c3 c4 c5
        have HG8 := Lib.hid (hgr.out.below HO.out hba)
        have HJ8 := Lib.hid (HJF.out wr w8 hjr.out (FrZ.below hba))
        have HF8 := Lib.hid (hfr.out.trans (FrZ.below hba))
        have HB8 := Lib.hid (hbr.out.trans (hba.mono (by have := hgr.out.size; have := HO.out.b; omega)))
        have x0 := Lib.cell_of_heap hnx 0
        have x1 := Lib.cell_of_heap hnx 1
        have x2 := Lib.cell_of_heap hnx 2
        have x3 := Lib.cell_of_heap hnx 3
        have HC := Lib.hid (HCL.out w8 x _ _ _ _ _ HG8.out HJ8.out hxn (by have := HST.out; omega))
        have HXB := Lib.hid hnx
        clear hnx
        go_wp2_with (fail)
        refine HC.out.mono ?_
        rintro e w9 ⟨rfl, hz9, hb9, hbn9, hpf, hpt⟩
        have HG9 := Lib.hid (HG8.out.stays HO.out (HJZ.out w8 HJ8.out) hb9 hz9)
        have hxb9 := (hb9 wr.heap.size (by omega) (fun hZ => (HJZ.out w8 HJ8.out _ hZ).2 _ HXB.out)).trans HXB.out
        have HXB9 := Lib.hid hxb9
        have HF9 := Lib.hid (show FrZ g Z w w9 from HF8.out.trans ⟨hz9, fun b cs t h1 h2 h3 h4 h5 => (hb9 b (Array.getElem?_eq_some_iff.1 h5).1 h1).trans h5⟩)
        have HB9 := Lib.hid (HB8.out.trans hbn9)
        have HPF := Lib.hid hpf
        have HPT := Lib.hid hpt
        clear hb9 hbn9 hpf hpt hxb9 x0 x1 x2 x3
        obtain ⟨c0, c1, c2, c3, c4, c5⟩ := HG9.out.box.cells
        have hkn : g.n + 1 - k = (g.n - k) + 1 := by omega
        have hxk : vs[k]? = some x := by rw [← HX.out]; exact List.getElem?_eq_getElem hlt
        cases hpx : p x with
        | true =>
          have HE := Lib.hid (show bfs g.l p (g.n + 1) 0 [⟨start, -1, -1, 0⟩] = (vs.take (k + 1), vs) by rw [← hbf.out, hkn]; simp only [bfs, hxk, hpx, if_true])
          have hkc : k + 1 ≤ cX' := by have := own_cap4 HG9.out.vis; omega
          have hrun2 : ∀ W, (Instr.slice 63 (.slice (some ⟨vb, 0, none⟩) vs.length cX') none (some (.int .i64 ((k : Int) + 1))) none).run Tryd.prog W = .ok (.slice (some ⟨vb, 0, none⟩) (k + 1) cX') W := fun W => by have h := run_vis_to (some ⟨vb, 0, none⟩) vs.length cX' (k + 1) hkc W; simpa using h
          have HJT := Lib.hid (HPT.out hpx)
          have HL := Lib.hid (show (vs.take (k + 1)).length = k + 1 by rw [List.length_take]; omega)
          have HLA := Lib.hid (show (vs.take (k + 1)).getLast? = some x by rw [List.getLast?_take, if_neg (by omega)]; simp [hxk])
          have HPX := Lib.hid hpx
          clear hpx hkn hxk hvl
          go_wp2_with (fail)
          go_ret
          exact ⟨some ⟨vb, 0, none⟩, vs.take (k + 1), cX', by rw [HL.out]; rfl, ⟨cX', vs, Q', HG9.out, HE.out, hvo.out⟩, vrow_take (vis_own HG9.out.vis rfl) _, HF9.out, HB9.out, .inl ⟨x, HLA.out, HPX.out, HJT.out⟩⟩
        | false =>
          have HJ9 := Lib.hid (HPF.out hpx)
          have HPQ := Lib.hid (fun es => expand_false hpl.out hlt hxk hpx (l := g.l) (x := x) (es := es))
          have HE := Lib.hid (show bfs g.l p (g.n - k) (k + 1) (expand g.l k x (eqs g.l x.v g.l.length) vs) = bfs g.l p (g.n + 1) 0 [⟨start, -1, -1, 0⟩] by rw [← hbf.out, hkn]; simp only [bfs, hxk, hpx]; rfl)
          clear hpx hkn hxk HPF HPT HC
          obtain ⟨es, HES⟩ : ∃ es, Hid (eqs g.l x.v g.l.length = es) := ⟨_, Lib.hid rfl⟩
          have hrow : IOwn w9 (g.N + 5) (g.R (g.n + x.v)) es := by
            have h := HG9.out.rows.own (g.n + x.v) (by omega)
            rw [show rowsL g.l g.n g.l.length (g.n + x.v) = es by rw [← HES.out]; unfold rowsL; rw [if_neg (by omega)]; congr 1; omega] at h
            exact h
          obtain ⟨Xe, ce, hRe, hEr⟩ := int_own hrow
          have HRE := Lib.hid hRe
          have HOE := Lib.hid hrow
          have x0 := Lib.cell_of_heap HXB9.out 0
          have x3 := Lib.cell_of_heap HXB9.out 3
          have e0 : w9.cell? ⟨g.eb, x.v, none⟩ = some (.slice Xe es.length ce) := by have h := Lib.cell_of_heap HG9.out.eh x.v; rw [hdr_get _ hxn] at h; rw [← hRe]; exact h
          clear hrow hRe hEr
          rw [HES.out] at HE
          go_wp2_with (fail)
          go_region_held3 (fun w' => w'.cell? ⟨g.gb, 2, none⟩ = some (.slice (some ⟨g.eb, 0, none⟩) g.n g.n) ∧ w'.cell? ⟨wr.heap.size, 0, none⟩ = some (.int .i64 (x.v : Int)) ∧ w'.cell? ⟨g.eb, x.v, none⟩ = some (.slice Xe es.length ce)) (go_keep) (fail)
          all_goals
            have HG10 : Hid (GD g (s + 1) Q' (some ⟨vb, 0, none⟩) cX' vs w9.drew) := Lib.hid (HG9.out.below HO.out (Below.refl _ _).drew)
            have HJ10 := Lib.hid (HJF.out w9 w9.drew HJ9.out (FrZ.refl _ _ _).drew)
            have HF10 : Hid (FrZ g Z w w9.drew) := HF9
            have HB10 : Hid (Below g.N w w9.drew) := Lib.hid HB9.out.drew
            have HXB10 : Hid (w9.drew.heap[wr.heap.size]? = some (.cells #[.int .i64 (x.v : Int), .int .i64 x.fr, .int .i64 x.by_, .int .i64 (x.st : Int)] 70 (0, 0))) := HXB9
            generalize w9.drew = w10 at *
            clear HG9 HJ9 HF9 HB9 HXB9 HOE e0 x0 x3 c0 c1 c2 c3 c4 c5 HG8 HJ8 HF8 HB8 HXB
            obtain ⟨nb, hnb⟩ : ∃ nb, nb = wr.heap.size := ⟨_, rfl⟩
            have hvn : vb ≠ nb := by omega
            have HVL := Lib.hid hvl
            have HEL := Lib.hid (show ∀ e ∈ es, _ from fun e he => eqs_mem (HES.out ▸ he))
            have hesl : es.length ≤ 3000000 := by rw [← HES.out]; have h := eqs_len g.l x.v g.l.length; have := HO.out.len; omega
            rw [← hnb] at HXB10 hzx
            rw [← hnb]
            clear hnb hvl hvb
            go_wp2_with (fail)
            go_loopw [77] (fun i wq => ∃ (j : Nat) (v2 : List Vis) (X2 : Option Addr) (c2 : Nat) (Q2 : Nat → Int), j ≤ es.length ∧ i = .int .i64 (j : Int) ∧ Hid (GD g (s + 1) Q2 X2 c2 v2 wq) ∧ Hid (expand g.l k x (es.drop j) v2 = expand g.l k x es vs) ∧ Hid (VsOk g s Q Q2 v2) ∧ Hid (J wq) ∧ Hid (FrZ g Z w wq) ∧ Hid (Below g.N w wq) ∧ Hid (wq.heap[nb]? = some (.cells #[.int .i64 (x.v : Int), .int .i64 x.fr, .int .i64 x.by_, .int .i64 (x.st : Int)] 70 (0, 0))) ∧ Hid (∀ m, (Value.slice X2 m c2).ownBlock ≠ some nb) ∧ vs.length ≤ v2.length) (fun i _ => es.length - (intOf i).toNat)
            case atStart => exact ⟨0, vs, _, cX', Q', Nat.zero_le _, rfl, HG10, Lib.hid rfl, hvo, HJ10, HF10, HB10, HXB10, Lib.hid (fun m e => by cases e; exact hvn rfl), Nat.le_refl _⟩
            case round =>
              obtain ⟨j, v2, X2, c2, Q2, hj, rfl, hg2, hex, hv2, hj2, hf2, hb2, hx2, hn2, hl2⟩ := hrel
              obtain ⟨c0, c1, c2', c3, c4, c5⟩ := hg2.out.box.cells
              by_cases hjt : j < es.length
              · have hrow : IOwn wr (g.N + 5) (g.R (g.n + x.v)) es := by
                  have h := hg2.out.rows.own (g.n + x.v) (by omega)
                  rw [show rowsL g.l g.n g.l.length (g.n + x.v) = es by rw [← HES.out]; unfold rowsL; rw [if_neg (by omega)]; congr 1; omega] at h
                  exact h
                obtain ⟨X3, c3', h1, h2⟩ := int_own hrow
                rw [HRE.out] at h1
                cases h1
                obtain ⟨rb', rfl, _, _, hEc⟩ := h2 (by omega)
                have r0 := hEc j hjt
                clear hEc h2 hrow
                obtain ⟨e, HE0⟩ : ∃ e, Hid (es[j] = e) := ⟨_, Lib.hid rfl⟩
                rw [HE0.out] at r0
                obtain ⟨hel, cc, hcc, hck, hcv⟩ := HEL.out e (by rw [← HE0.out]; exact List.getElem_mem hjt)
                obtain ⟨hA0, hB0⟩ : ∃ h : e < g.l.length, g.l[e] = cc := ⟨hel, by rw [List.getElem?_eq_getElem hel] at hcc; exact Option.some.inj hcc⟩
                obtain ⟨⟨a0, a1⟩, hpos⟩ := pos_cases (HO.out.pos cc (by rw [← hB0]; exact List.getElem_mem hel))
                obtain ⟨b0, b1⟩ : 0 ≤ cc.b ∧ cc.b < g.n := by
                  rcases hpos with ⟨h, _⟩ | ⟨_, h1, h2⟩
                  · rw [h] at hck; cases hck
                  · exact ⟨h1, h2⟩
                obtain ⟨ab, off, hA, hab, hcs⟩ := hg2.out.con (by omega)
                obtain ⟨q0, q1, q2, q3, q4, q5, q6, q7⟩ := hcs e hel
                rw [hB0] at q0 q1 q2 q3 q4 q5 q6 q7
                clear hcs hcc hpos
                rw [hA] at c0
                obtain ⟨o, HOo⟩ : ∃ o, Hid (oth g.l e x.v = o) := ⟨_, Lib.hid rfl⟩
                have ho1 : cc.a + cc.b - (x.v : Int) = (o : Int) := by
                  rw [← HOo.out]
                  unfold oth
                  rw [List.getElem?_eq_getElem hel]
                  rw [hB0]
                  simp only
                  omega
                have hon : o < g.n := by omega
                have HEXS := Lib.hid (show expand g.l k x (es.drop (j + 1)) (if inV v2 o then v2 else v2 ++ [⟨o, k, e, x.st + 1⟩]) = expand g.l k x es vs by
                  rw [← hex.out, List.drop_eq_getElem_cons hjt, HE0.out]
                  simp only [expand]
                  rw [HOo.out])
                have hn6 := HO.out.n
                go_upto_region 14 with fail
                have hba := (Below.refl wr.heap.size wr).alloc (Nat.le_refl _) (.cells #[.int .i64 cc.kind, .int .i64 cc.a, .int .i64 cc.b, .int .i64 cc.mark.kind, .int .i64 cc.mark.len, .string cc.mark.nm, .int .i64 cc.lo, .int .i64 cc.hi] 41)
                have hnx := heap_alloc_new wr (.cells #[.int .i64 cc.kind, .int .i64 cc.a, .int .i64 cc.b, .int .i64 cc.mark.kind, .int .i64 cc.mark.len, .string cc.mark.nm, .int .i64 cc.lo, .int .i64 cc.hi] 41)
                obtain ⟨nc, hnc⟩ : ∃ nc, nc = wr.heap.size := ⟨_, rfl⟩
                have hx12 := (heap_alloc_old wr (.cells #[.int .i64 cc.kind, .int .i64 cc.a, .int .i64 cc.b, .int .i64 cc.mark.kind, .int .i64 cc.mark.len, .string cc.mark.nm, .int .i64 cc.lo, .int .i64 cc.hi] 41) (Array.getElem?_eq_some_iff.1 hx2.out).1).trans hx2.out
                rw [← hnc] at hnx
                rw [← hnc]
                have HG12 := Lib.hid (hg2.out.below HO.out hba)
                have HJ12 := Lib.hid (HJF.out wr (wr.alloc (.cells #[.int .i64 cc.kind, .int .i64 cc.a, .int .i64 cc.b, .int .i64 cc.mark.kind, .int .i64 cc.mark.len, .string cc.mark.nm, .int .i64 cc.lo, .int .i64 cc.hi] 41)) hj2.out (FrZ.below hba))
                have HF12 := Lib.hid (hf2.out.trans (FrZ.below hba))
                have HB12 := Lib.hid (hb2.out.trans (hba.mono (by have := hg2.out.size; have := HO.out.b; omega)))
                generalize (wr.alloc (.cells #[.int .i64 cc.kind, .int .i64 cc.a, .int .i64 cc.b, .int .i64 cc.mark.kind, .int .i64 cc.mark.len, .string cc.mark.nm, .int .i64 cc.lo, .int .i64 cc.hi] 41)) = w12 at *
                have HX12 := Lib.hid hx12
                clear hba hnc c0 c1 c2' c3 c4 c5 q0 q1 q2 q3 q4 q5 q6 q7 r0 hg2 hj2 hf2 hb2 hx2
                have q1 := Lib.cell_of_heap hnx 1
                have q2 := Lib.cell_of_heap hnx 2
                have x0 := Lib.cell_of_heap hx12 0
                have x3 := Lib.cell_of_heap hx12 3
                clear hnx hx12
                obtain ⟨c0, c1, c2', c3, c4, c5⟩ := HG12.out.box.cells
                have hr12 := HG12.out.rh
                cases hin : inV v2 o with
                | true =>
                  have r1 : w12.cell? ⟨g.rb, o, none⟩ = some (.int .i64 (s + 1)) := by have h := Lib.cell_of_heap hr12 o; rw [hdr_get _ hon] at h; rw [hv2.out.q o hon, hin] at h; exact h
                  rw [hin] at HEXS
                  clear hr12 hin
                  go_wp2_with (fail)
                  go_region_held3 (fun w' => w'.cell? ⟨g.gb, 4, none⟩ = some (.slice (some ⟨g.rb, 0, none⟩) g.n g.n) ∧ w'.cell? ⟨g.gb, 3, none⟩ = some (.int .i64 (s + 1)) ∧ w'.cell? ⟨g.rb, o, none⟩ = some (.int .i64 (s + 1))) (go_keep) (fail)
                  all_goals
                    have HG13 : Hid (GD g (s + 1) Q2 X2 c2 v2 w12.drew) := Lib.hid (HG12.out.below HO.out (Below.refl _ _).drew)
                    have HJ13 := Lib.hid (HJF.out w12 w12.drew HJ12.out (FrZ.refl _ _ _).drew)
                    have HF13 : Hid (FrZ g Z w w12.drew) := HF12
                    have HB13 : Hid (Below g.N w w12.drew) := Lib.hid HB12.out.drew
                    have HX13 : Hid (w12.drew.heap[nb]? = some (.cells #[.int .i64 (x.v : Int), .int .i64 x.fr, .int .i64 x.by_, .int .i64 (x.st : Int)] 70 (0, 0))) := HX12
                    go_wp2_with (fail)
                    exact ⟨⟨j + 1, v2, X2, c2, Q2, by omega, by go_num, HG13, HEXS, hv2, HJ13, HF13, HB13, HX13, hn2, hl2⟩, by simp [intOf]; omega⟩
                | false =>
                  have hqo : Q2 o = Q o := by rw [hv2.out.q o hon, hin]; rfl
                  have r1 : w12.cell? ⟨g.rb, o, none⟩ = some (.int .i64 (Q o)) := by have h := Lib.cell_of_heap hr12 o; rw [hdr_get _ hon] at h; rw [← hqo]; exact h
                  have hq0 := HQ.out o hon
                  have hq1 : (Q o == s + 1) = false := by simp; omega
                  have hq2 : ¬ (Q o = s + 1) := by omega
                  rw [hin] at HEXS
                  have HIN := Lib.hid hin
                  have r0 := hfrz hr12 o
                  clear hr12 hin hqo
                  go_wp2_with (fail)
                  go_region_held3 (fun w' => w'.cell? ⟨g.gb, 4, none⟩ = some (.slice (some ⟨g.rb, 0, none⟩) g.n g.n) ∧ w'.cell? ⟨g.gb, 3, none⟩ = some (.int .i64 (s + 1)) ∧ w'.cell? ⟨g.rb, o, none⟩ = some (.int .i64 (Q o))) (go_keep) (fail)
                  all_goals
                    have HG13 : Hid (GD g (s + 1) Q2 X2 c2 v2 w12.drew) := Lib.hid (HG12.out.below HO.out (Below.refl _ _).drew)
                    have HJ13 := Lib.hid (HJF.out w12 w12.drew HJ12.out (FrZ.refl _ _ _).drew)
                    have HF13 : Hid (FrZ g Z w w12.drew) := HF12
                    have HB13 : Hid (Below g.N w w12.drew) := Lib.hid HB12.out.drew
                    have HX13 : Hid (w12.drew.heap[nb]? = some (.cells #[.int .i64 (x.v : Int), .int .i64 x.fr, .int .i64 x.by_, .int .i64 (x.st : Int)] 70 (0, 0))) := HX12
                    generalize w12.drew = w13 at *
                    clear HG12 HJ12 HF12 HB12 HX12 c0 c1 c2' c3 c4 c5 x0 x3 q1 q2 r0 r1
                    obtain ⟨c0, c1, c2', c3, c4, c5⟩ := HG13.out.box.cells
                    have r0 := hfrz HG13.out.rh o
                    have r1 : w13.cell? ⟨g.rb, o, none⟩ = some (.int .i64 (Q2 o)) := by have h := Lib.cell_of_heap HG13.out.rh o; rw [hdr_get _ hon] at h; exact h
                    have HK := Lib.hid (show (w13.setCell ⟨g.rb, o, none⟩ (.int .i64 (s + 1))).drew.cell? ⟨g.gb, 3, none⟩ = some (.int .i64 (s + 1)) ∧ (w13.setCell ⟨g.rb, o, none⟩ (.int .i64 (s + 1))).drew.cell? ⟨g.gb, 4, none⟩ = some (.slice (some ⟨g.rb, 0, none⟩) g.n g.n) from ⟨(World.cell?_setCell_far _ _ _ _ HO.out.ne.2.2.2.2.2).trans c3, (World.cell?_setCell_far _ _ _ _ HO.out.ne.2.2.2.2.2).trans c4⟩)
                    go_wp2_with (fail)
                    go_region_held3 (fun w' => w'.cell? ⟨g.gb, 3, none⟩ = some (.int .i64 (s + 1)) ∧ w'.cell? ⟨g.gb, 4, none⟩ = some (.slice (some ⟨g.rb, 0, none⟩) g.n g.n)) (first | exact HK.out | go_keep) (fail)
                    all_goals
                      have hnr : nb ≠ g.rb := by have h1 := HX13.out; intro h; rw [h, HG13.out.rh] at h1; simp only [Option.some.injEq, Obj.cells.injEq] at h1; exact absurd h1.2.1 (by decide)
                      have HG14 : Hid (GD g (s + 1) (fun u => if u = o then s + 1 else Q2 u) X2 c2 v2 (w13.setCell ⟨g.rb, o, none⟩ (.int .i64 (s + 1))).drew) := Lib.hid ((HG13.out.setQ HO.out o (s + 1)).below HO.out (Below.refl _ _).drew)
                      have HF14 : Hid (FrZ g Z w (w13.setCell ⟨g.rb, o, none⟩ (.int .i64 (s + 1))).drew) := Lib.hid ((HF13.out.setR o (.int .i64 (s + 1))).drew)
                      have HJ14 := Lib.hid (HJF.out w13 (w13.setCell ⟨g.rb, o, none⟩ (.int .i64 (s + 1))).drew HJ13.out (((FrZ.refl _ _ _).setR _ _).drew))
                      have HB14 : Hid (Below g.N w (w13.setCell ⟨g.rb, o, none⟩ (.int .i64 (s + 1))).drew) := Lib.hid ((HB13.out.setCell (p := ⟨g.rb, o, none⟩) (by have := HO.out.lo; simp; omega) (.int .i64 (s + 1))).drew)
                      have HX14 : Hid ((w13.setCell ⟨g.rb, o, none⟩ (.int .i64 (s + 1))).drew.heap[nb]? = some (.cells #[.int .i64 (x.v : Int), .int .i64 x.fr, .int .i64 x.by_, .int .i64 (x.st : Int)] 70 (0, 0))) := Lib.hid ((Below.heap_setCell _ _ _ _ hnr).trans HX13.out)
                      generalize (w13.setCell ⟨g.rb, o, none⟩ (.int .i64 (s + 1))).drew = w14 at *
                      clear HG13 HJ13 HF13 HB13 HX13 c0 c1 c2' c3 c4 c5 r0 r1 HK hnr
                      go_wp2_with (fail)
                      have hv2l := hv2.out.len
                      have hxs : x.st ≤ k := HST.out
                      have hcap1 : v2.length + 1 ≤ maxLen := by unfold maxLen; omega
                      have hcap2 : (v2.length + 1) * 32 ≤ 140737488355328 := by omega
                      have hNz : g.N + 5 ≤ w14.heap.size := by have := HO.out.b; have := HG14.out.size; omega
                      have hgbz : g.gb < w14.heap.size := (Array.getElem?_eq_some_iff.1 HG14.out.box).1
                      have hgbN : g.gb < g.N + 5 := HO.out.hi.2.2.2
                      have hnbz : nb < w14.heap.size := (Array.getElem?_eq_some_iff.1 HX14.out).1
                      have hng : nb ≠ g.gb := by have h1 := HX14.out; intro h; rw [h, HG14.out.box] at h1; simp only [Option.some.injEq, Obj.cells.injEq] at h1; exact absurd h1.2.1 (by decide)
                      have HOV := Lib.hid (fun z => own_vis (m := v2.length) HG14.out.vis z)
                      have HCA := Lib.hid (HG14.out.box.cells.2.2.2.2.2)
                      have HS0 := Lib.hid (show (w14.drew).heap[nb]? = some (.cells #[.int .i64 (x.v : Int), .int .i64 x.fr, .int .i64 x.by_, .int .i64 (x.st : Int)] 70 (0, 0)) from HX14.out)
                      have HSA := Lib.hid (show ((w14.alloc (.cells #[.int .i64 (o : Int), .int .i64 (k : Int), .int .i64 (e : Int), .int .i64 ((x.st : Int) + 1)] 70)).drew).heap[nb]? = some (.cells #[.int .i64 (x.v : Int), .int .i64 x.fr, .int .i64 x.by_, .int .i64 (x.st : Int)] 70 (0, 0)) from (show (w14.alloc (.cells #[.int .i64 (o : Int), .int .i64 (k : Int), .int .i64 (e : Int), .int .i64 ((x.st : Int) + 1)] 70)).heap[nb]? = _ from (heap_alloc_old _ _ hnbz).trans HX14.out))
                      have HCB := Lib.hid (show (w14.alloc (.cells #[.int .i64 (o : Int), .int .i64 (k : Int), .int .i64 (e : Int), .int .i64 ((x.st : Int) + 1)] 70)).cell? ⟨g.gb, 5, none⟩ = some (.slice X2 v2.length c2) from (World.cell?_of_block (a := ⟨g.gb, 5, none⟩) (heap_alloc_old _ _ (show g.gb < w14.heap.size from hgbz))).trans HCA.out)
                      have HOA := Lib.hid (HG14.out.vis.alloc (.cells #[.int .i64 (o : Int), .int .i64 (k : Int), .int .i64 (e : Int), .int .i64 ((x.st : Int) + 1)] 70))
                      have hsw2 : IntKind.i64.wrap ((x.st : Int) + 1) = (x.st : Int) + 1 := IntWalk.i64_in _ (by omega)
                      refine wp_region_noPanic ?_
                      refine wp_region_held_drew (S := fun w' => w'.heap[nb]? = some (.cells #[.int .i64 (x.v : Int), .int .i64 x.fr, .int .i64 x.by_, .int .i64 (x.st : Int)] 70 (0, 0))) (by kernel_rfl) HS0.out (fun _ => ?_)
                      refine wpAnyH_take (i := 0) (oi := { dst := some 118, op := Op.move (Operand.tmp 0), type := 45, pos := "graph.go:65", after := #[], guard := none }) (v := .pointer (some ⟨g.gb, 0, none⟩)) rfl (by kernel_rfl) (by kernel_rfl) (by kernel_rfl) (fun _ _ _ h => h) (Or.inl ⟨by rfl, ?_⟩) HS0.out ?_
                      · (intro w' hSw; go_simp)
                      simp only [Act.put, List.setIfInBounds_toArray, List.set_cons_zero, List.set_cons_succ]
                      refine wpAnyH_take (i := 1) (oi := { dst := some 119, op := Op.move (Operand.tmp 0), type := 45, pos := "graph.go:65", after := #[], guard := none }) (v := .pointer (some ⟨g.gb, 0, none⟩)) rfl (by kernel_rfl) (by kernel_rfl) (by kernel_rfl) (fun _ _ _ h => h) (Or.inl ⟨by rfl, ?_⟩) HS0.out ?_
                      · (intro w' hSw; go_simp)
                      simp only [Act.put, List.setIfInBounds_toArray, List.set_cons_zero, List.set_cons_succ]
                      refine wpAnyH_take (i := 2) (oi := { dst := some 120, op := Op.nilCheck (Operand.tmp 119), type := 0, pos := "graph.go:65", after := #[{ on := 1, ground := Ground.data }], guard := none }) (v := .pointer (some ⟨g.gb, 0, none⟩)) rfl (by kernel_rfl) (by kernel_rfl) (by kernel_rfl) (fun _ _ _ h => h) (Or.inl ⟨by rfl, ?_⟩) HS0.out ?_
                      · (intro w' hSw; go_simp)
                      simp only [Act.put, List.setIfInBounds_toArray, List.set_cons_zero, List.set_cons_succ]
                      refine wpAnyH_take (i := 3) (oi := { dst := some 121, op := Op.fieldAddr 65 (Operand.tmp 120) 5, type := 0, pos := "graph.go:65", after := #[{ on := 2, ground := Ground.data }], guard := none }) (v := .pointer (some ⟨g.gb, 5, none⟩)) rfl (by kernel_rfl) (by kernel_rfl) (by kernel_rfl) (fun _ _ _ h => h) (Or.inl ⟨by rfl, ?_⟩) HS0.out ?_
                      · (intro w' hSw; go_simp)
                      simp only [Act.put, List.setIfInBounds_toArray, List.set_cons_zero, List.set_cons_succ]
                      refine wpAnyH_take (i := 5) (oi := { dst := some 123, op := Op.move (Operand.tmp 12), type := 3, pos := "graph.go:65", after := #[], guard := none }) (v := .int .i64 (o : Int)) rfl (by kernel_rfl) (by kernel_rfl) (by kernel_rfl) (fun _ _ _ h => h) (Or.inl ⟨by rfl, ?_⟩) HS0.out ?_
                      · (intro w' hSw; go_simp)
                      simp only [Act.put, List.setIfInBounds_toArray, List.set_cons_zero, List.set_cons_succ]
                      refine wpAnyH_take (i := 6) (oi := { dst := some 124, op := Op.move (Operand.tmp 7), type := 3, pos := "graph.go:65", after := #[], guard := none }) (v := .int .i64 (k : Int)) rfl (by kernel_rfl) (by kernel_rfl) (by kernel_rfl) (fun _ _ _ h => h) (Or.inl ⟨by rfl, ?_⟩) HS0.out ?_
                      · (intro w' hSw; go_simp)
                      simp only [Act.put, List.setIfInBounds_toArray, List.set_cons_zero, List.set_cons_succ]
                      refine wpAnyH_take (i := 7) (oi := { dst := some 125, op := Op.move (Operand.tmp 10), type := 3, pos := "graph.go:65", after := #[], guard := none }) (v := .int .i64 (e : Int)) rfl (by kernel_rfl) (by kernel_rfl) (by kernel_rfl) (fun _ _ _ h => h) (Or.inl ⟨by rfl, ?_⟩) HS0.out ?_
                      · (intro w' hSw; go_simp)
                      simp only [Act.put, List.setIfInBounds_toArray, List.set_cons_zero, List.set_cons_succ]
                      refine wpAnyH_take (i := 8) (oi := { dst := some 126, op := Op.fieldAddr 70 (Operand.tmp 8) 3, type := 0, pos := "graph.go:65", after := #[], guard := none }) (v := .pointer (some ⟨nb, 3, none⟩)) rfl (by kernel_rfl) (by kernel_rfl) (by kernel_rfl) (fun _ _ _ h => h) (Or.inl ⟨by rfl, ?_⟩) HS0.out ?_
                      · (intro w' hSw; go_simp)
                      simp only [Act.put, List.setIfInBounds_toArray, List.set_cons_zero, List.set_cons_succ]
                      refine wpAnyH_take (i := 9) (oi := { dst := some 127, op := Op.load 3 (Operand.tmp 126), type := 3, pos := "graph.go:65", after := #[{ on := 8, ground := Ground.data }], guard := none }) (v := .int .i64 (x.st : Int)) rfl (by kernel_rfl) (by kernel_rfl) (by kernel_rfl) (fun _ _ _ h => h) (Or.inl ⟨by rfl, ?_⟩) HS0.out ?_
                      · (intro w' hSw; have z := Lib.cell_of_heap hSw 3; go_simp)
                      simp only [Act.put, List.setIfInBounds_toArray, List.set_cons_zero, List.set_cons_succ]
                      refine wpAnyH_take (i := 10) (oi := { dst := some 128, op := Op.binOp BinOp.add 3 (Operand.tmp 127) (Operand.const (Value.int IntKind.i64 1)) 3, type := 3, pos := "graph.go:65", after := #[{ on := 9, ground := Ground.data }], guard := none }) (v := .int .i64 ((x.st : Int) + 1)) rfl (by kernel_rfl) (by kernel_rfl) (by kernel_rfl) (fun _ _ _ h => h) (Or.inl ⟨by rfl, ?_⟩) HS0.out ?_
                      · (intro w' hSw; go_simp)
                      simp only [Act.put, List.setIfInBounds_toArray, List.set_cons_zero, List.set_cons_succ]
                      refine wpAnyH_take (i := 11) (oi := { dst := some 129, op := Op.build 70 #[(0, Operand.tmp 123), (1, Operand.tmp 124), (2, Operand.tmp 125), (3, Operand.tmp 128)], type := 70, pos := "graph.go:65", after := #[{ on := 5, ground := Ground.data }, { on := 6, ground := Ground.data }, { on := 7, ground := Ground.data }, { on := 10, ground := Ground.data }], guard := none }) (v := .agg #[.int .i64 (o : Int), .int .i64 (k : Int), .int .i64 (e : Int), .int .i64 ((x.st : Int) + 1)]) rfl (by kernel_rfl) (by kernel_rfl) (by kernel_rfl) (fun _ _ _ h => h) (Or.inl ⟨by rfl, ?_⟩) HS0.out ?_
                      · (intro w' hSw; go_simp)
                      simp only [Act.put, List.setIfInBounds_toArray, List.set_cons_zero, List.set_cons_succ]
                      refine wpAnyH_ready (rs := [4, 12]) (by kernel_rfl) (by simp) (AllReadyH.cons (o := { dst := some 122, op := Op.load 63 (Operand.tmp 121), type := 63, pos := "graph.go:65", after := #[{ on := 3, ground := Ground.data }], guard := none }) rfl (fun K hK => ?_) (AllReadyH.cons (o := { dst := some 130, op := Op.buildSlice 63 1 #[(0, Operand.tmp 129)], type := 63, pos := "graph.go:65", after := #[{ on := 11, ground := Ground.data }], guard := none }) rfl (fun K hK => ?_) AllReadyH.nil))
                      · have ca := HCA.out
                        go_simp
                        clear ca
                        refine hK.out _ _ HS0.out (fun _ => ?_)
                        clear hK K
                        try simp only [Act.put, List.setIfInBounds_toArray, List.set_cons_zero, List.set_cons_succ]
                        refine wpAnyH_ready (rs := [12]) (by kernel_rfl) (by simp) (AllReadyH.cons (o := { dst := some 130, op := Op.buildSlice 63 1 #[(0, Operand.tmp 129)], type := 63, pos := "graph.go:65", after := #[{ on := 11, ground := Ground.data }], guard := none }) rfl (fun K hK => ?_) AllReadyH.nil)
                        go_simp
                        refine hK.out _ _ HSA.out (fun _ => ?_)
                        clear hK K
                        try simp only [Act.put, List.setIfInBounds_toArray, List.set_cons_zero, List.set_cons_succ]
                        refine wpAnyH_ready (rs := [13]) (by kernel_rfl) (by simp) (AllReadyH.cons (o := { dst := some 131, op := Op.call { callee := Callee.builtin Builtin.append, args := #[Operand.tmp 122, Operand.tmp 130], argTypes := #[63, 63] }, type := 63, pos := "graph.go:65", after := #[{ on := 4, ground := Ground.data }, { on := 12, ground := Ground.data }], guard := none }) rfl (fun K hK => ?_) AllReadyH.nil)
                        refine step_append_lies _ (by rfl) _ _ 63 (by rfl) (g.N + 5) 70 i0 _ 4 32 Tryd.underlying63 hi0 hz0 hz1 hz2 rfl (by decide) (.slice X2 v2.length c2) v2.length (vcs v2) (by rfl) HOA.out ⟨w14.heap.size, 0, none⟩ 1 1 (vcs [(⟨o, (k : Int), (e : Int), x.st + 1⟩ : Vis)]) (by rfl) (by rfl) (by rw [show vcs [(⟨o, (k : Int), (e : Int), x.st + 1⟩ : Vis)] = [.int .i64 (o : Int), .int .i64 (k : Int), .int .i64 (e : Int), .int .i64 ((x.st : Int) + 1)] from by simp [vcs]]; exact World.news_of_block (cs := #[.int .i64 (o : Int), .int .i64 (k : Int), .int .i64 (e : Int), .int .i64 ((x.st : Int) + 1)]) (heap_alloc_new w14 _)) (vcs_one _) (by decide) hcap1 hcap2 (by simp; omega) (w14.heap.size + 1) (by simp) ?_
                        intro gq cap2 w16 hown hgr2 hsel hgl
                        have hx4 : w16.ownsRow (g.N + 5) 70 4 (.slice (some ⟨gq, 0, none⟩) (v2 ++ [(⟨o, (k : Int), (e : Int), x.st + 1⟩ : Vis)]).length cap2) (v2 ++ [(⟨o, (k : Int), (e : Int), x.st + 1⟩ : Vis)]).length (vcs (v2 ++ [(⟨o, (k : Int), (e : Int), x.st + 1⟩ : Vis)])) := by rw [List.length_append, vcs_append]; exact hown
                        have HG15 := Lib.hid (HG14.out.setV HO.out (w2 := (w14.alloc (.cells #[.int .i64 (o : Int), .int .i64 (k : Int), .int .i64 (e : Int), .int .i64 ((x.st : Int) + 1)] 70)).drew) (show w14.heap.size ≤ (w14.alloc (.cells #[.int .i64 (o : Int), .int .i64 (k : Int), .int .i64 (e : Int), .int .i64 ((x.st : Int) + 1)] 70)).heap.size by simp) (fun b hb => show (w14.alloc (.cells #[.int .i64 (o : Int), .int .i64 (k : Int), .int .i64 (e : Int), .int .i64 ((x.st : Int) + 1)] 70)).heap[b]? = _ from heap_alloc_old _ _ hb) hgr2 hx4)
                        have hfg : FrZ g (fun _ => False) w14 w16 := (FrZ.refl g _ w14).grown (c := (w14.alloc (.cells #[.int .i64 (o : Int), .int .i64 (k : Int), .int .i64 (e : Int), .int .i64 ((x.st : Int) + 1)] 70)).drew) (show w14.heap.size ≤ (w14.alloc (.cells #[.int .i64 (o : Int), .int .i64 (k : Int), .int .i64 (e : Int), .int .i64 ((x.st : Int) + 1)] 70)).heap.size by simp) (fun b hb => show (w14.alloc (.cells #[.int .i64 (o : Int), .int .i64 (k : Int), .int .i64 (e : Int), .int .i64 ((x.st : Int) + 1)] 70)).heap[b]? = _ from heap_alloc_old _ _ hb) (fun z e => (HOV.out z e).2) hgr2
                        have hnb16 : w16.heap[nb]? = some (.cells #[.int .i64 (x.v : Int), .int .i64 x.fr, .int .i64 x.by_, .int .i64 (x.st : Int)] 70 (0, 0)) := (hgr2.block nb (show nb < (w14.alloc (.cells #[.int .i64 (o : Int), .int .i64 (k : Int), .int .i64 (e : Int), .int .i64 ((x.st : Int) + 1)] 70)).heap.size by simp; omega) (fun e => hn2.out _ e.symm)).trans HSA.out
                        have hgg : w16.heap[g.gb]? = w14.heap[g.gb]? := (hgr2.block g.gb (show g.gb < (w14.alloc (.cells #[.int .i64 (o : Int), .int .i64 (k : Int), .int .i64 (e : Int), .int .i64 ((x.st : Int) + 1)] 70)).heap.size by simp; omega) (fun e => by have := (HOV.out _ e.symm).1; omega)).trans (show (w14.alloc (.cells #[.int .i64 (o : Int), .int .i64 (k : Int), .int .i64 (e : Int), .int .i64 ((x.st : Int) + 1)] 70)).heap[g.gb]? = _ from heap_alloc_old _ _ (by omega))
                        have y5 := hfrz (hgg.trans HG14.out.box) 5
                        have x5 := Lib.cell_of_heap (hgg.trans HG14.out.box) 5
                        have HNB := Lib.hid (show ∀ m, (Value.slice (some ⟨gq, 0, none⟩) m cap2).ownBlock ≠ some nb from fun m e => by have e' : gq = nb := Option.some.inj e; rcases hsel with h | h; (exact hn2.out _ (by rw [e'] at h; exact h)); (omega))
                        have HB16 := Lib.hid ((HB14.out.alloc (by have := HB14.out.size; omega) (.cells #[.int .i64 (o : Int), .int .i64 (k : Int), .int .i64 (e : Int), .int .i64 ((x.st : Int) + 1)] 70)).drew.grown hgr2 (show g.N ≤ (w14.alloc (.cells #[.int .i64 (o : Int), .int .i64 (k : Int), .int .i64 (e : Int), .int .i64 ((x.st : Int) + 1)] 70)).heap.size by simp; omega) (fun b e => by have := (HOV.out b e).1; omega))
                        have HFG := Lib.hid hfg
                        have HX16 := Lib.hid hnb16
                        clear hown hgr2 hsel hgl hx4 hfg hnb16 hgg
                        refine hK.out _ _ HX16.out (fun _ => ?_)
                        clear hK K
                        try simp only [Act.put, List.setIfInBounds_toArray, List.set_cons_zero, List.set_cons_succ]
                        refine wpAnyH_take (i := 14) (oi := { dst := some 132, op := Op.nilCheck (Operand.tmp 118), type := 0, pos := "graph.go:65", after := #[{ on := 0, ground := Ground.data }, { on := 0, ground := Ground.phase }, { on := 1, ground := Ground.phase }, { on := 2, ground := Ground.phase }, { on := 3, ground := Ground.phase }, { on := 4, ground := Ground.phase }, { on := 5, ground := Ground.phase }, { on := 6, ground := Ground.phase }, { on := 7, ground := Ground.phase }, { on := 8, ground := Ground.phase }, { on := 9, ground := Ground.phase }, { on := 10, ground := Ground.phase }, { on := 11, ground := Ground.phase }, { on := 12, ground := Ground.phase }, { on := 13, ground := Ground.phase }], guard := none }) (v := .pointer (some ⟨g.gb, 0, none⟩)) rfl (by kernel_rfl) (by kernel_rfl) (by kernel_rfl) (fun _ _ _ h => h) (Or.inl ⟨by rfl, ?_⟩) HX16.out ?_
                        · (intro w' hSw; go_simp)
                        simp only [Act.put, List.setIfInBounds_toArray, List.set_cons_zero, List.set_cons_succ]
                        refine wpAnyH_take (i := 15) (oi := { dst := some 133, op := Op.fieldAddr 65 (Operand.tmp 132) 5, type := 0, pos := "graph.go:65", after := #[{ on := 14, ground := Ground.data }, { on := 0, ground := Ground.phase }, { on := 1, ground := Ground.phase }, { on := 2, ground := Ground.phase }, { on := 3, ground := Ground.phase }, { on := 4, ground := Ground.phase }, { on := 5, ground := Ground.phase }, { on := 6, ground := Ground.phase }, { on := 7, ground := Ground.phase }, { on := 8, ground := Ground.phase }, { on := 9, ground := Ground.phase }, { on := 10, ground := Ground.phase }, { on := 11, ground := Ground.phase }, { on := 12, ground := Ground.phase }, { on := 13, ground := Ground.phase }], guard := none }) (v := .pointer (some ⟨g.gb, 5, none⟩)) rfl (by kernel_rfl) (by kernel_rfl) (by kernel_rfl) (fun _ _ _ h => h) (Or.inl ⟨by rfl, ?_⟩) HX16.out ?_
                        · (intro w' hSw; go_simp)
                        simp only [Act.put, List.setIfInBounds_toArray, List.set_cons_zero, List.set_cons_succ]
                        refine wpAnyH_ready (rs := [16]) (by kernel_rfl) (by simp) (AllReadyH.cons (o := { dst := none, op := Op.store 63 (Operand.tmp 133) (Operand.tmp 131), type := 0, pos := "graph.go:65", after := #[{ on := 15, ground := Ground.data }, { on := 13, ground := Ground.data }, { on := 13, ground := Ground.chain }, { on := 0, ground := Ground.phase }, { on := 1, ground := Ground.phase }, { on := 2, ground := Ground.phase }, { on := 3, ground := Ground.phase }, { on := 4, ground := Ground.phase }, { on := 5, ground := Ground.phase }, { on := 6, ground := Ground.phase }, { on := 7, ground := Ground.phase }, { on := 8, ground := Ground.phase }, { on := 9, ground := Ground.phase }, { on := 10, ground := Ground.phase }, { on := 11, ground := Ground.phase }, { on := 12, ground := Ground.phase }, { on := 13, ground := Ground.phase }], guard := none }) rfl (fun K hK => ?_) AllReadyH.nil)
                        go_simp
                        have HX17 := Lib.hid (show (w16.setCell ⟨g.gb, 5, none⟩ (.slice (some ⟨gq, 0, none⟩) (v2.length + 1) cap2)).heap[nb]? = some (.cells #[.int .i64 (x.v : Int), .int .i64 x.fr, .int .i64 x.by_, .int .i64 (x.st : Int)] 70 (0, 0)) from (Below.heap_setCell _ _ _ _ hng).trans HX16.out)
                        refine hK.out _ _ HX17.out (fun _ => ?_)
                        clear hK K
                        try simp only [Act.put, List.setIfInBounds_toArray, List.set_cons_zero, List.set_cons_succ]
                        refine wpAnyH_done (by kernel_rfl) ?_ _
                        refine NoPanic.normal ?_
                        have hle : (v2 ++ [(⟨o, (k : Int), (e : Int), x.st + 1⟩ : Vis)]).length = v2.length + 1 := by simp
                        rw [hle] at HG15
                        have HF17 := Lib.hid (HF14.out.trans ((HFG.out.mono (fun _ h => h.elim)).setG 5 (.slice (some ⟨gq, 0, none⟩) (v2.length + 1) cap2)))
                        have HJ17 := Lib.hid (HJF.out w14 _ HJ14.out (HFG.out.setG 5 (.slice (some ⟨gq, 0, none⟩) (v2.length + 1) cap2)))
                        have HB17 := Lib.hid (HB16.out.setCell (p := ⟨g.gb, 5, none⟩) (by have := HO.out.lo; simp; omega) (.slice (some ⟨gq, 0, none⟩) (v2.length + 1) cap2))
                        have HVP := Lib.hid (hv2.out.push HIN.out hon (k : Int) (e : Int) (x.st + 1) (by omega))
                        generalize (w16.setCell ⟨g.gb, 5, none⟩ (.slice (some ⟨gq, 0, none⟩) (v2.length + 1) cap2)) = w17 at *
                        clear y5 x5
                        go_wp2_with (fail)
                        exact ⟨⟨j + 1, v2 ++ [(⟨o, (k : Int), (e : Int), x.st + 1⟩ : Vis)], some ⟨gq, 0, none⟩, cap2, _, by omega, by go_num, HG15, HEXS, HVP, HJ17, HF17, HB17, HX17, HNB, by rw [hle]; omega⟩, by simp [intOf]; omega⟩
                      · go_simp
                        refine hK.out _ _ HSA.out (fun _ => ?_)
                        clear hK K
                        try simp only [Act.put, List.setIfInBounds_toArray, List.set_cons_zero, List.set_cons_succ]
                        refine wpAnyH_ready (rs := [4]) (by kernel_rfl) (by simp) (AllReadyH.cons (o := { dst := some 122, op := Op.load 63 (Operand.tmp 121), type := 63, pos := "graph.go:65", after := #[{ on := 3, ground := Ground.data }], guard := none }) rfl (fun K hK => ?_) AllReadyH.nil)
                        have ca := HCB.out
                        go_simp
                        clear ca
                        refine hK.out _ _ HSA.out (fun _ => ?_)
                        clear hK K
                        try simp only [Act.put, List.setIfInBounds_toArray, List.set_cons_zero, List.set_cons_succ]
                        refine wpAnyH_ready (rs := [13]) (by kernel_rfl) (by simp) (AllReadyH.cons (o := { dst := some 131, op := Op.call { callee := Callee.builtin Builtin.append, args := #[Operand.tmp 122, Operand.tmp 130], argTypes := #[63, 63] }, type := 63, pos := "graph.go:65", after := #[{ on := 4, ground := Ground.data }, { on := 12, ground := Ground.data }], guard := none }) rfl (fun K hK => ?_) AllReadyH.nil)
                        refine step_append_lies _ (by rfl) _ _ 63 (by rfl) (g.N + 5) 70 i0 _ 4 32 Tryd.underlying63 hi0 hz0 hz1 hz2 rfl (by decide) (.slice X2 v2.length c2) v2.length (vcs v2) (by rfl) HOA.out ⟨w14.heap.size, 0, none⟩ 1 1 (vcs [(⟨o, (k : Int), (e : Int), x.st + 1⟩ : Vis)]) (by rfl) (by rfl) (by rw [show vcs [(⟨o, (k : Int), (e : Int), x.st + 1⟩ : Vis)] = [.int .i64 (o : Int), .int .i64 (k : Int), .int .i64 (e : Int), .int .i64 ((x.st : Int) + 1)] from by simp [vcs]]; exact World.news_of_block (cs := #[.int .i64 (o : Int), .int .i64 (k : Int), .int .i64 (e : Int), .int .i64 ((x.st : Int) + 1)]) (heap_alloc_new w14 _)) (vcs_one _) (by decide) hcap1 hcap2 (by simp; omega) (w14.heap.size + 1) (by simp) ?_
                        intro gq cap2 w16 hown hgr2 hsel hgl
                        have hx4 : w16.ownsRow (g.N + 5) 70 4 (.slice (some ⟨gq, 0, none⟩) (v2 ++ [(⟨o, (k : Int), (e : Int), x.st + 1⟩ : Vis)]).length cap2) (v2 ++ [(⟨o, (k : Int), (e : Int), x.st + 1⟩ : Vis)]).length (vcs (v2 ++ [(⟨o, (k : Int), (e : Int), x.st + 1⟩ : Vis)])) := by rw [List.length_append, vcs_append]; exact hown
                        have HG15 := Lib.hid (HG14.out.setV HO.out (w2 := (w14.alloc (.cells #[.int .i64 (o : Int), .int .i64 (k : Int), .int .i64 (e : Int), .int .i64 ((x.st : Int) + 1)] 70)).drew) (show w14.heap.size ≤ (w14.alloc (.cells #[.int .i64 (o : Int), .int .i64 (k : Int), .int .i64 (e : Int), .int .i64 ((x.st : Int) + 1)] 70)).heap.size by simp) (fun b hb => show (w14.alloc (.cells #[.int .i64 (o : Int), .int .i64 (k : Int), .int .i64 (e : Int), .int .i64 ((x.st : Int) + 1)] 70)).heap[b]? = _ from heap_alloc_old _ _ hb) hgr2 hx4)
                        have hfg : FrZ g (fun _ => False) w14 w16 := (FrZ.refl g _ w14).grown (c := (w14.alloc (.cells #[.int .i64 (o : Int), .int .i64 (k : Int), .int .i64 (e : Int), .int .i64 ((x.st : Int) + 1)] 70)).drew) (show w14.heap.size ≤ (w14.alloc (.cells #[.int .i64 (o : Int), .int .i64 (k : Int), .int .i64 (e : Int), .int .i64 ((x.st : Int) + 1)] 70)).heap.size by simp) (fun b hb => show (w14.alloc (.cells #[.int .i64 (o : Int), .int .i64 (k : Int), .int .i64 (e : Int), .int .i64 ((x.st : Int) + 1)] 70)).heap[b]? = _ from heap_alloc_old _ _ hb) (fun z e => (HOV.out z e).2) hgr2
                        have hnb16 : w16.heap[nb]? = some (.cells #[.int .i64 (x.v : Int), .int .i64 x.fr, .int .i64 x.by_, .int .i64 (x.st : Int)] 70 (0, 0)) := (hgr2.block nb (show nb < (w14.alloc (.cells #[.int .i64 (o : Int), .int .i64 (k : Int), .int .i64 (e : Int), .int .i64 ((x.st : Int) + 1)] 70)).heap.size by simp; omega) (fun e => hn2.out _ e.symm)).trans HSA.out
                        have hgg : w16.heap[g.gb]? = w14.heap[g.gb]? := (hgr2.block g.gb (show g.gb < (w14.alloc (.cells #[.int .i64 (o : Int), .int .i64 (k : Int), .int .i64 (e : Int), .int .i64 ((x.st : Int) + 1)] 70)).heap.size by simp; omega) (fun e => by have := (HOV.out _ e.symm).1; omega)).trans (show (w14.alloc (.cells #[.int .i64 (o : Int), .int .i64 (k : Int), .int .i64 (e : Int), .int .i64 ((x.st : Int) + 1)] 70)).heap[g.gb]? = _ from heap_alloc_old _ _ (by omega))
                        have y5 := hfrz (hgg.trans HG14.out.box) 5
                        have x5 := Lib.cell_of_heap (hgg.trans HG14.out.box) 5
                        have HNB := Lib.hid (show ∀ m, (Value.slice (some ⟨gq, 0, none⟩) m cap2).ownBlock ≠ some nb from fun m e => by have e' : gq = nb := Option.some.inj e; rcases hsel with h | h; (exact hn2.out _ (by rw [e'] at h; exact h)); (omega))
                        have HB16 := Lib.hid ((HB14.out.alloc (by have := HB14.out.size; omega) (.cells #[.int .i64 (o : Int), .int .i64 (k : Int), .int .i64 (e : Int), .int .i64 ((x.st : Int) + 1)] 70)).drew.grown hgr2 (show g.N ≤ (w14.alloc (.cells #[.int .i64 (o : Int), .int .i64 (k : Int), .int .i64 (e : Int), .int .i64 ((x.st : Int) + 1)] 70)).heap.size by simp; omega) (fun b e => by have := (HOV.out b e).1; omega))
                        have HFG := Lib.hid hfg
                        have HX16 := Lib.hid hnb16
                        clear hown hgr2 hsel hgl hx4 hfg hnb16 hgg
                        refine hK.out _ _ HX16.out (fun _ => ?_)
                        clear hK K
                        try simp only [Act.put, List.setIfInBounds_toArray, List.set_cons_zero, List.set_cons_succ]
                        refine wpAnyH_take (i := 14) (oi := { dst := some 132, op := Op.nilCheck (Operand.tmp 118), type := 0, pos := "graph.go:65", after := #[{ on := 0, ground := Ground.data }, { on := 0, ground := Ground.phase }, { on := 1, ground := Ground.phase }, { on := 2, ground := Ground.phase }, { on := 3, ground := Ground.phase }, { on := 4, ground := Ground.phase }, { on := 5, ground := Ground.phase }, { on := 6, ground := Ground.phase }, { on := 7, ground := Ground.phase }, { on := 8, ground := Ground.phase }, { on := 9, ground := Ground.phase }, { on := 10, ground := Ground.phase }, { on := 11, ground := Ground.phase }, { on := 12, ground := Ground.phase }, { on := 13, ground := Ground.phase }], guard := none }) (v := .pointer (some ⟨g.gb, 0, none⟩)) rfl (by kernel_rfl) (by kernel_rfl) (by kernel_rfl) (fun _ _ _ h => h) (Or.inl ⟨by rfl, ?_⟩) HX16.out ?_
                        · (intro w' hSw; go_simp)
                        simp only [Act.put, List.setIfInBounds_toArray, List.set_cons_zero, List.set_cons_succ]
                        refine wpAnyH_take (i := 15) (oi := { dst := some 133, op := Op.fieldAddr 65 (Operand.tmp 132) 5, type := 0, pos := "graph.go:65", after := #[{ on := 14, ground := Ground.data }, { on := 0, ground := Ground.phase }, { on := 1, ground := Ground.phase }, { on := 2, ground := Ground.phase }, { on := 3, ground := Ground.phase }, { on := 4, ground := Ground.phase }, { on := 5, ground := Ground.phase }, { on := 6, ground := Ground.phase }, { on := 7, ground := Ground.phase }, { on := 8, ground := Ground.phase }, { on := 9, ground := Ground.phase }, { on := 10, ground := Ground.phase }, { on := 11, ground := Ground.phase }, { on := 12, ground := Ground.phase }, { on := 13, ground := Ground.phase }], guard := none }) (v := .pointer (some ⟨g.gb, 5, none⟩)) rfl (by kernel_rfl) (by kernel_rfl) (by kernel_rfl) (fun _ _ _ h => h) (Or.inl ⟨by rfl, ?_⟩) HX16.out ?_
                        · (intro w' hSw; go_simp)
                        simp only [Act.put, List.setIfInBounds_toArray, List.set_cons_zero, List.set_cons_succ]
                        refine wpAnyH_ready (rs := [16]) (by kernel_rfl) (by simp) (AllReadyH.cons (o := { dst := none, op := Op.store 63 (Operand.tmp 133) (Operand.tmp 131), type := 0, pos := "graph.go:65", after := #[{ on := 15, ground := Ground.data }, { on := 13, ground := Ground.data }, { on := 13, ground := Ground.chain }, { on := 0, ground := Ground.phase }, { on := 1, ground := Ground.phase }, { on := 2, ground := Ground.phase }, { on := 3, ground := Ground.phase }, { on := 4, ground := Ground.phase }, { on := 5, ground := Ground.phase }, { on := 6, ground := Ground.phase }, { on := 7, ground := Ground.phase }, { on := 8, ground := Ground.phase }, { on := 9, ground := Ground.phase }, { on := 10, ground := Ground.phase }, { on := 11, ground := Ground.phase }, { on := 12, ground := Ground.phase }, { on := 13, ground := Ground.phase }], guard := none }) rfl (fun K hK => ?_) AllReadyH.nil)
                        go_simp
                        have HX17 := Lib.hid (show (w16.setCell ⟨g.gb, 5, none⟩ (.slice (some ⟨gq, 0, none⟩) (v2.length + 1) cap2)).heap[nb]? = some (.cells #[.int .i64 (x.v : Int), .int .i64 x.fr, .int .i64 x.by_, .int .i64 (x.st : Int)] 70 (0, 0)) from (Below.heap_setCell _ _ _ _ hng).trans HX16.out)
                        refine hK.out _ _ HX17.out (fun _ => ?_)
                        clear hK K
                        try simp only [Act.put, List.setIfInBounds_toArray, List.set_cons_zero, List.set_cons_succ]
                        refine wpAnyH_done (by kernel_rfl) ?_ _
                        refine NoPanic.normal ?_
                        have hle : (v2 ++ [(⟨o, (k : Int), (e : Int), x.st + 1⟩ : Vis)]).length = v2.length + 1 := by simp
                        rw [hle] at HG15
                        have HF17 := Lib.hid (HF14.out.trans ((HFG.out.mono (fun _ h => h.elim)).setG 5 (.slice (some ⟨gq, 0, none⟩) (v2.length + 1) cap2)))
                        have HJ17 := Lib.hid (HJF.out w14 _ HJ14.out (HFG.out.setG 5 (.slice (some ⟨gq, 0, none⟩) (v2.length + 1) cap2)))
                        have HB17 := Lib.hid (HB16.out.setCell (p := ⟨g.gb, 5, none⟩) (by have := HO.out.lo; simp; omega) (.slice (some ⟨gq, 0, none⟩) (v2.length + 1) cap2))
                        have HVP := Lib.hid (hv2.out.push HIN.out hon (k : Int) (e : Int) (x.st + 1) (by omega))
                        generalize (w16.setCell ⟨g.gb, 5, none⟩ (.slice (some ⟨gq, 0, none⟩) (v2.length + 1) cap2)) = w17 at *
                        clear y5 x5
                        go_wp2_with (fail)
                        exact ⟨⟨j + 1, v2 ++ [(⟨o, (k : Int), (e : Int), x.st + 1⟩ : Vis)], some ⟨gq, 0, none⟩, cap2, _, by omega, by go_num, HG15, HEXS, HVP, HJ17, HF17, HB17, HX17, HNB, by rw [hle]; omega⟩, by simp [intOf]; omega⟩
              · obtain rfl : j = es.length := by omega
                have HVE := Lib.hid (show v2 = expand g.l k x es vs by have h := hex.out; rw [List.drop_length] at h; exact h)
                have HE2 := Lib.hid (show bfs g.l p (g.n + 1 - (k + 1)) (k + 1) v2 = bfs g.l p (g.n + 1) 0 [⟨start, -1, -1, 0⟩] by rw [HVE.out, ← HE.out, Nat.add_sub_add_right])
                have hv2l := hv2.out.len
                have HPL2 := Lib.hid (show ∀ y ∈ v2.take (k + 1), p y = false by rw [HVE.out]; exact HPQ.out es)
                clear hex HVE
                go_wp2_with (fail)
                exact ⟨⟨k + 1, v2, X2, c2, Q2, by omega, by go_num, hg2, HE2, hv2, hj2, hf2, hb2, HPL2⟩, by simp [intOf]; have := HO.out.n; omega⟩
      · obtain rfl : k = vs.length := by omega
        have hkn : g.n + 1 - vs.length = (g.n - vs.length) + 1 := by omega
        have HE := Lib.hid (show bfs g.l p (g.n + 1) 0 [⟨start, -1, -1, 0⟩] = (vs, vs) by rw [← hbf.out, hkn]; simp [bfs])
        clear hkn hvl
        go_wp2_with (fail)
        go_ret
        exact ⟨X', vs, cX', rfl, ⟨cX', vs, Q', hgr.out, HE.out, hvo.out⟩, vis_own hgr.out.vis rfl, hfr.out, hbr.out, .inr ⟨hjr.out, by have h := hpl.out; rw [List.take_length] at h; exact h⟩⟩
end Go.Proofs.YtmamajillkajoaaDoor
