/- What is proved: terms over integers of a width as plain mathematics: what a table is, what a node's value is; it speaks of no program. -/
import Derived.Test.YtjgkcicgjnjepaaDoorBvW
set_option linter.unusedVariables false
namespace Go.Proofs.YtjgkcicgjnjepaaDoor
open Go.RowKit

/-- a node -/
structure Tm where
  op : Int
  v : Int
  a : Int
  b : Int
  c : Int
theorem Tm.ext' {x y : Tm} (h1 : x.op = y.op) (h2 : x.v = y.v) (h3 : x.a = y.a) (h4 : x.b = y.b) (h5 : x.c = y.c) : x = y := by cases x; cases y; simp_all
instance tmEq : DecidableEq Tm := fun x y => decidable_of_iff (x.op = y.op ∧ x.v = y.v ∧ x.a = y.a ∧ x.b = y.b ∧ x.c = y.c) ⟨fun ⟨h1, h2, h3, h4, h5⟩ => Tm.ext' h1 h2 h3 h4 h5, fun h => by subst h; simp⟩
def I64o (a : Int) : Prop := (Lit.int .i64 a).wf = true
structure TmOk (x : Tm) : Prop where
  op : I64o x.op
  v : I64o x.v
  a : I64o x.a
  b : I64o x.b
  c : I64o x.c

/-- the sorts of the operators, how many arguments they need, and of which sorts -/
def srtL : List Int := [0, 1, 0, 1, 0, 0, 0, 0, 0, 0, 0, 1, 1, 1, 1, 1, 1, 1]
def cntL : List Nat := [0, 0, 0, 0, 1, 2, 2, 2, 2, 2, 3, 1, 2, 2, 2, 3, 2, 2]
def agAL : List Int := [0, 0, 0, 0, 0, 0, 0, 0, 0, 0, 1, 1, 1, 1, 1, 1, 0, 0]
def agBL : List Int := [0, 0, 0, 0, 0, 0, 0, 0, 0, 0, 0, 0, 1, 1, 1, 1, 0, 0]
def agCL : List Int := [0, 0, 0, 0, 0, 0, 0, 0, 0, 0, 0, 0, 0, 0, 0, 1, 0, 0]
def srt (o : Nat) : Int := srtL.getD o 0
def cnt (o : Nat) : Nat := cntL.getD o 0
def agA (o : Nat) : Int := agAL.getD o 0
def agB (o : Nat) : Int := agBL.getD o 0
def agC (o : Nat) : Int := agCL.getD o 0
/-- the operator, as a natural number -/
def Tm.o (x : Tm) : Nat := x.op.toNat
def srtOf (l : List Tm) (i : Int) : Option Int := if i < 0 then none else (l[i.toNat]?).map fun t => srt t.o
def argOk (l : List Tm) (n k : Nat) (s a : Int) : Bool := if k < n then srtOf l a == some s else a == 0
def valOk (W : Int) (x : Tm) : Bool :=
  if x.op = 0 ∨ x.op = 1 then decide (0 ≤ x.v) && decide (x.v < 24) else if x.op = 2 then x.v == wrpP W x.v else if x.op = 3 then x.v == 0 || x.v == 1 else x.v == 0
/-- a table could have the node -/
def okB (W : Int) (l : List Tm) (x : Tm) : Bool :=
  decide (0 ≤ x.op) && decide (x.op < 18) && valOk W x && argOk l (cnt x.o) 0 (agA x.o) x.a && argOk l (cnt x.o) 1 (agB x.o) x.b && argOk l (cnt x.o) 2 (agC x.o) x.c
/-- where a node stands -/
def idx (l : List Tm) (x : Tm) : Option Nat := l.findIdx? (fun y => decide (y = x))
theorem idx_some {l : List Tm} {x : Tm} {i : Nat} (h : idx l x = some i) : ∃ hi : i < l.length, l[i] = x ∧ ∀ j (hj : j < i), l[j]'(by omega) ≠ x := by
  unfold idx at h
  rw [List.findIdx?_eq_some_iff_getElem] at h
  obtain ⟨h1, h2, h3⟩ := h
  exact ⟨h1, by simpa using h2, fun j hj => by simpa using h3 j hj⟩
theorem idx_none {l : List Tm} {x : Tm} (h : idx l x = none) : x ∉ l := by
  unfold idx at h
  rw [List.findIdx?_eq_none_iff] at h
  intro hx
  simpa using h x hx
theorem idx_of {l : List Tm} {x : Tm} {i : Nat} (hn : l.Nodup) (hi : i < l.length) (h : l[i] = x) : idx l x = some i := by
  unfold idx
  rw [List.findIdx?_eq_some_iff_getElem]
  refine ⟨hi, by simpa using h, fun j hj => ?_⟩
  have hne : l[j]'(by omega) ≠ l[i] := List.pairwise_iff_getElem.1 hn j i (by omega) hi hj
  rw [h] at hne
  simpa using hne
theorem idx_not {l : List Tm} {x : Tm} (h : x ∉ l) : idx l x = none := by
  unfold idx
  rw [List.findIdx?_eq_none_iff]
  intro y hy
  have : y ≠ x := fun e => h (e ▸ hy)
  simpa using this
/-- what Make answers: the table, the number, the error (0: none, 1: ErrArg) -/
def mkL (W : Int) (l : List Tm) (x : Tm) : List Tm := if okB W l x = true ∧ idx l x = none then l ++ [x] else l
def mkN (W : Int) (l : List Tm) (x : Tm) : Int := if okB W l x = true then (match idx l x with | some i => (i : Int) | none => (l.length : Int)) else 0
def mkE (W : Int) (l : List Tm) (x : Tm) : Int := if okB W l x = true then 0 else 1
/-- a table that Make has made -/
structure TbOk (W : Int) (l : List Tm) : Prop where
  nd : l.Nodup
  ok : ∀ i (h : i < l.length), okB W (l.take i) l[i] = true
theorem TbOk.nil (W : Int) : TbOk W [] := ⟨List.nodup_nil, fun i h => by simp at h⟩
theorem TbOk.mk' {W : Int} {l : List Tm} (h : TbOk W l) (x : Tm) : TbOk W (mkL W l x) := by
  unfold mkL
  by_cases hc : okB W l x = true ∧ idx l x = none
  · rw [if_pos hc]
    refine ⟨?_, fun i hi => ?_⟩
    · rw [List.nodup_append]
      refine ⟨h.nd, by simp, fun a ha b hb => ?_⟩
      simp at hb
      subst hb
      intro e
      exact idx_none hc.2 (e ▸ ha)
    · rcases Nat.lt_or_ge i l.length with h1 | h1
      · rw [List.getElem_append_left h1, List.take_append_of_le_length (by omega)]
        exact h.ok i h1
      · have e : i = l.length := by simp at hi; omega
        subst e
        simp only [List.getElem_concat_length, List.take_left']
        exact hc.1
  · rw [if_neg hc]
    exact h
def bldL (W : Int) (ns : List Tm) : List Tm := ns.foldl (mkL W) []
theorem bld_take (W : Int) (ns : List Tm) (k : Nat) (hk : k < ns.length) : bldL W (ns.take (k + 1)) = mkL W (bldL W (ns.take k)) ns[k] := by
  unfold bldL
  rw [List.take_succ_eq_append_getElem hk, List.foldl_append]
  rfl
theorem mk_len (W : Int) (l : List Tm) (x : Tm) : l.length ≤ (mkL W l x).length ∧ (mkL W l x).length ≤ l.length + 1 := by
  unfold mkL
  split <;> simp
theorem bld_ok (W : Int) (ns : List Tm) : ∀ k, k ≤ ns.length → TbOk W (bldL W (ns.take k)) ∧ (bldL W (ns.take k)).length ≤ k := by
  intro k
  induction k with
  | zero => intro _; simp [bldL, TbOk.nil]
  | succ k ih =>
    intro hk
    obtain ⟨h1, h2⟩ := ih (by omega)
    rw [bld_take W ns k (by omega)]
    exact ⟨h1.mk' _, by have := (mk_len W (bldL W (ns.take k)) (ns[k]'(by omega))).2; omega⟩
theorem mk_sub (W : Int) (l : List Tm) (x : Tm) (P : Tm → Prop) (h : ∀ y ∈ l, P y) (hx : P x) : ∀ y ∈ mkL W l x, P y := by
  unfold mkL
  split
  · intro y hy
    rcases List.mem_append.1 hy with h1 | h1
    · exact h y h1
    · simp at h1; subst h1; exact hx
  · exact h
theorem bld_sub (W : Int) (ns : List Tm) (P : Tm → Prop) (h : ∀ y ∈ ns, P y) : ∀ k, k ≤ ns.length → ∀ y ∈ bldL W (ns.take k), P y := by
  intro k
  induction k with
  | zero => intro _ y hy; simp [bldL] at hy
  | succ k ih =>
    intro hk
    rw [bld_take W ns k (by omega)]
    exact mk_sub W _ _ P (ih (by omega)) (h _ (List.getElem_mem _))
theorem srt_of {l : List Tm} {i : Int} {s : Int} (h : srtOf l i = some s) : 0 ≤ i ∧ ∃ hi : i.toNat < l.length, srt l[i.toNat].o = s := by
  unfold srtOf at h
  split at h
  · cases h
  · rename_i h0
    rw [Option.map_eq_some_iff] at h
    obtain ⟨t, ht, hs⟩ := h
    obtain ⟨hi, e⟩ := List.getElem?_eq_some_iff.1 ht
    exact ⟨by omega, hi, by rw [e]; exact hs⟩
/-- the arguments of a node that a table could have are numbers of nodes -/
theorem arg_lt {l : List Tm} {n k : Nat} {s a : Int} (h : argOk l n k s a = true) : 0 ≤ a ∧ (a = 0 ∨ a.toNat < l.length) := by
  unfold argOk at h
  split at h
  · obtain ⟨h0, h1, _⟩ := srt_of (by simpa using h)
    exact ⟨h0, .inr h1⟩
  · simp at h
    omega
theorem okB_iff {W : Int} {l : List Tm} {x : Tm} : okB W l x = true ↔ 0 ≤ x.op ∧ x.op < 18 ∧ valOk W x = true ∧ argOk l (cnt x.o) 0 (agA x.o) x.a = true ∧ argOk l (cnt x.o) 1 (agB x.o) x.b = true ∧ argOk l (cnt x.o) 2 (agC x.o) x.c = true := by
  unfold okB
  simp only [Bool.and_eq_true, decide_eq_true_eq]
  constructor
  · rintro ⟨⟨⟨⟨⟨h1, h2⟩, h3⟩, h4⟩, h5⟩, h6⟩; exact ⟨h1, h2, h3, h4, h5, h6⟩
  · rintro ⟨h1, h2, h3, h4, h5, h6⟩; exact ⟨⟨⟨⟨⟨h1, h2⟩, h3⟩, h4⟩, h5⟩, h6⟩
/-- what is known of a table's nodes -/
theorem TbOk.node {W : Int} {l : List Tm} (h : TbOk W l) {i : Nat} (hi : i < l.length) : 0 ≤ l[i].op ∧ l[i].op < 18 ∧ valOk W l[i] = true ∧ (0 ≤ l[i].a ∧ l[i].a ≤ i) ∧ (0 ≤ l[i].b ∧ l[i].b ≤ i) ∧ (0 ≤ l[i].c ∧ l[i].c ≤ i) := by
  obtain ⟨h1, h2, h3, h4, h5, h6⟩ := okB_iff.1 (h.ok i hi)
  have ha := arg_lt h4
  have hb := arg_lt h5
  have hc := arg_lt h6
  rw [List.length_take] at ha hb hc
  exact ⟨h1, h2, h3, by omega, by omega, by omega⟩
end Go.Proofs.YtjgkcicgjnjepaaDoor
