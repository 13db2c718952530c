/- What is proved: the reference's parser: the steps of its walks, in the forms that the walks take. -/
import Derived.Test.YtnpcfmoiiecadaaDoorParNode2
import Derived.Test.YtnpcfmoiiecadaaDoorParRep2
set_option linter.unusedVariables false
namespace Go.Proofs.YtnpcfmoiiecadaaDoor.Par
open Go.RowKit
open Lx (Tok)

/-- a tree in blocks of nodes from a number on -/
def InF (lo : Nat) (w : World) (n : NT) : Prop := InS (fun b => NB w b ∧ lo ≤ b) w n
theorem InF.fr {B0 lo : Nat} {w w' : World} {n : NT} (h : InF lo w n) (f : Fr B0 w w') : InF lo w' n := InS.mono (fun b hb => ⟨hb.1.of_eq (NB.fr hb.1 f), hb.2⟩) n (InS.keep (fun b hb => NB.fr hb.1 f) n h)
theorem InF.mono {lo lo' : Nat} {w : World} {n : NT} (h : InF lo w n) (hl : lo' ≤ lo) : InF lo' w n := InS.mono (fun b hb => ⟨hb.1, Nat.le_trans hl hb.2⟩) n h
/-- a slice of nodes, nil or not, in blocks of nodes from a number on -/
structure KIn (lo : Nat) (w : World) (A : Option Addr) (c : Nat) (ks : List NT) : Prop where
  row : RowS (fun b => NB w b ∧ lo ≤ b) w A ks
  cap : ks.length ≤ c
  kids : ∀ k ∈ ks, InF lo w k
theorem KIn.fr {B0 lo : Nat} {w w' : World} {A : Option Addr} {c : Nat} {ks : List NT} (h : KIn lo w A c ks) (f : Fr B0 w w') : KIn lo w' A c ks :=
  ⟨(h.row.keep (fun b hb => NB.fr hb.1 f)).mono (fun b hb => ⟨hb.1.of_eq (NB.fr hb.1 f), hb.2⟩), h.cap, fun k hk => (h.kids k hk).fr f⟩
theorem KIn.nil (lo : Nat) (w : World) (A : Option Addr) (c : Nat) : KIn lo w A c [] := ⟨fun h => absurd h (by simp), Nat.zero_le _, fun k hk => by cases hk⟩
theorem KIn.inF {lo : Nat} {w : World} {A : Option Addr} {c : Nat} {ks : List NT} (h : KIn lo w A c ks) (k : Int) (t : ByteArray) (lo' hi : Int) : InF lo w (.mk k t lo' hi A c ks) := (inS_iff _).2 ⟨h.row, h.cap, h.kids⟩
theorem at1_strip (E : Env) (p : St) (first : Nat) (ks : List NT) : at1 E p first (ks.map NT.strip) = at1 E p first ks := by
  cases ks with
  | nil => rfl
  | cons x xs =>
    show (if (NT.strip x).lo < _ then (NT.strip x).lo else _) = if x.lo < _ then x.lo else _
    rw [show (NT.strip x).lo = x.lo from by rw [NT.strip_eq]; rfl]
theorem strip_mkN (E : Env) (p : St) (first : Nat) (k : Int) (t : ByteArray) (A : Option Addr) (c : Nat) (ks : List NT) : NT.strip (.mk k t (at1 E p first ks) p.last A c ks) = mkN E p first k t (ks.map NT.strip) := by
  unfold mkN
  rw [at1_strip, NT.strip_eq]
  rfl

theorem node_any {B0 bp lo : Nat} {E : Env} {w : World} {p : St} (h : PIs B0 bp E w p) (first : Nat) (k : Int) (t : ByteArray) (A : Option Addr) (c : Nat) (ks : List NT) (hf : first < E.T.length) (hk : KIn lo w A c ks) :
    Calls Tryd.prog 29 #[ptr bp, .int .i64 (first : Int), .int .i64 k, .string t, .slice A ks.length c] w fun e w' => e = .returned (.agg #[.int .i64 k, .string t, .int .i64 (at1 E p first ks), .int .i64 p.last, .slice A ks.length c]) ∧ Below w.heap.size w w' := by
  by_cases h1 : first < p.k
  · have hd1 : decide ((first : Int) < (p.k : Int)) = true := by simpa using h1
    cases ks with
    | nil =>
      have e : at1 E p first [] = (tk E first).at_ := by unfold at1; simp [h1]
      rw [e]
      exact node_v1 h first k t A c 0 hf hd1 (by simp) (by simp)
    | cons x xs =>
      obtain ⟨g, o, hA, hS, hc⟩ := hk.row (by simp)
      have hx : w.cell? ⟨g, o + 2, none⟩ = some (.int .i64 x.lo) := by have := (hc 0 (by simp)).2.2.1; simpa using this
      subst hA
      by_cases h2 : x.lo < (tk E first).at_
      · have e : at1 E p first (x :: xs) = x.lo := by simp only [at1, if_pos h1, if_pos h2]
        rw [e]
        exact node_v3 h first k t g o c (x :: xs).length hf hd1 (by simp) x.lo hS.1.lt hx (by simpa using h2) (by simp)
      · have e : at1 E p first (x :: xs) = (tk E first).at_ := by simp only [at1, if_pos h1, if_neg h2]
        rw [e]
        exact node_v4 h first k t g o c (x :: xs).length hf hd1 (by simp) x.lo hS.1.lt hx (by simpa using h2) (by simp)
  · have hd1 : decide ((first : Int) < (p.k : Int)) = false := by simpa using h1
    cases ks with
    | nil =>
      have e : at1 E p first [] = p.last := by unfold at1; simp [h1]
      rw [e]
      exact node_v2 h first k t A c 0 hf hd1 (by simp) (by simp)
    | cons x xs =>
      obtain ⟨g, o, hA, hS, hc⟩ := hk.row (by simp)
      have hx : w.cell? ⟨g, o + 2, none⟩ = some (.int .i64 x.lo) := by have := (hc 0 (by simp)).2.2.1; simpa using this
      subst hA
      by_cases h2 : x.lo < p.last
      · have e : at1 E p first (x :: xs) = x.lo := by simp only [at1, if_neg h1, if_pos h2]
        rw [e]
        exact node_v5 h first k t g o c (x :: xs).length hf hd1 (by simp) x.lo hS.1.lt hx (by simpa using h2) (by simp)
      · have e : at1 E p first (x :: xs) = p.last := by simp only [at1, if_neg h1, if_neg h2]
        rw [e]
        exact node_v6 h first k t g o c (x :: xs).length hf hd1 (by simp) x.lo hS.1.lt hx (by simpa using h2) (by simp)


/-- what a reader of a tree gives: the tree, in blocks from a number on, and the place -/
def Got (B0 bp lo : Nat) (E : Env) (w : World) (m : NT) (q : St) (e : Ending) (w' : World) : Prop := ∃ n : NT, e = .returned (.agg #[.int .i64 n.kind, .string n.text, .int .i64 n.lo, .int .i64 n.hi, .slice n.A n.kids.length n.c]) ∧ NT.strip n = m ∧ InF lo w' n ∧ PIs B0 bp E w' q ∧ Fr B0 w w'
/-- a node without kids -/
theorem node_leaf {B0 bp : Nat} {E : Env} {w : World} {p : St} (h : PIs B0 bp E w p) (lo first : Nat) (k : Int) (t : ByteArray) (hf : first < E.T.length) :
    Calls Tryd.prog 29 #[ptr bp, .int .i64 (first : Int), .int .i64 k, .string t, .slice none 0 0] w fun e w' => Got B0 bp lo E w (mkN E p first k t []) p e w' := by
  refine (node_any (lo := lo) h first k t none 0 [] hf (KIn.nil _ _ _ _)).mono ?_
  rintro e w' ⟨rfl, hb⟩
  exact ⟨.mk k t (at1 E p first []) p.last none 0 [], rfl, strip_mkN E p first k t none 0 [], ((KIn.nil lo w none 0).fr (Fr.of_below hb h.b0)).inF _ _ _ _, h.later hb, Fr.of_below hb h.b0⟩
/-- a node with kids -/
theorem node_kids {B0 bp lo : Nat} {E : Env} {w : World} {p : St} (h : PIs B0 bp E w p) (first : Nat) (k : Int) (t : ByteArray) (A : Option Addr) (c : Nat) (ks ms : List NT) (hf : first < E.T.length) (hk : KIn lo w A c ks) (hm : ks.map NT.strip = ms) :
    Calls Tryd.prog 29 #[ptr bp, .int .i64 (first : Int), .int .i64 k, .string t, .slice A ks.length c] w fun e w' => Got B0 bp lo E w (mkN E p first k t ms) p e w' := by
  refine (node_any h first k t A c ks hf hk).mono ?_
  rintro e w' ⟨rfl, hb⟩
  exact ⟨.mk k t (at1 E p first ks) p.last A c ks, rfl, by rw [strip_mkN, hm], (hk.fr (Fr.of_below hb h.b0)).inF _ _ _ _, h.later hb, Fr.of_below hb h.b0⟩

/-- a node stored into a block -/
abbrev putN (w : World) (b : Nat) (x : NT) : World := ((((w.setCell ⟨b, 0, none⟩ (.int .i64 x.kind)).setCell ⟨b, 1, none⟩ (.string x.text)).setCell ⟨b, 2, none⟩ (.int .i64 x.lo)).setCell ⟨b, 3, none⟩ (.int .i64 x.hi)).setCell ⟨b, 4, none⟩ (.slice x.A x.kids.length x.c)
theorem putN_far (w : World) {b b' : Nat} (x : NT) (hb : b' ≠ b) : (putN w b x).heap[b']? = w.heap[b']? := by
  have e : ∀ (X : World) (q : Nat) (v : Value), (X.setCell ⟨b, q, none⟩ v).heap[b']? = X.heap[b']? := fun X q v => Below.heap_setCell X ⟨b, q, none⟩ v b' (by show b' ≠ b; exact hb)
  unfold putN
  rw [e, e, e, e, e]
theorem PIs.but {B0 bp b : Nat} {E : Env} {w W : World} {q : St} (h : PIs B0 bp E w q) (hn : NB w b) (hk : ∀ b', b' ≠ b → W.heap[b']? = w.heap[b']?) : PIs B0 bp E W q := by
  obtain ⟨v, h1, h2⟩ := h.box
  obtain ⟨bt, off, ht⟩ := h.tok
  have hne : ∀ t b', TyB t w b' → t ≠ 31 → b' ≠ b := fun t b' hb hne e => by
    obtain ⟨cs, fr, e1⟩ := hb
    obtain ⟨cs', fr', e2⟩ := hn
    rw [e, e2] at e1; cases e1; exact hne rfl
  exact ⟨h.base, ⟨v, (hk bp (hne _ bp ⟨_, _, h1⟩ (by decide))).trans h1, own_far (g0 := 0) h2 (fun b' hb => hk b' (hne _ b' hb (by decide)))⟩, ⟨bt, off, ht.keep (hk bt (hne _ bt ht.ty (by decide)))⟩, h.eok, h.ok⟩
/-- the result's own block is written: the tree is given -/
theorem got_put {B0 bp lo : Nat} {E : Env} {w w2 : World} {q : St} {n : NT} {a b c d f : Value} (hB : B0 ≤ w.heap.size) (hz : w2.heap[w.heap.size]? = some (.cells #[a, b, c, d, f] 31 (0, 0))) (hlo : w.heap.size + 1 ≤ lo)
    (hin : InF lo w2 n) (hp : PIs B0 bp E w2 q) (hf : Fr B0 w w2) :
    (putN w2 w.heap.size n).heap[w.heap.size]? = some (.cells #[.int .i64 n.kind, .string n.text, .int .i64 n.lo, .int .i64 n.hi, .slice n.A n.kids.length n.c] 31 (0, 0)) ∧ InF w.heap.size (putN w2 w.heap.size n) n ∧ PIs B0 bp E (putN w2 w.heap.size n) q ∧ Fr B0 w (putN w2 w.heap.size n) := by
  have hfar : ∀ b', b' ≠ w.heap.size → (putN w2 w.heap.size n).heap[b']? = w2.heap[b']? := fun b' hb => putN_far w2 n hb
  refine ⟨hset (hset (hset (hset (hset hz _) _) _) _) _, ?_, hp.but (b := w.heap.size) ⟨_, _, hz⟩ hfar, ⟨?_, fun b' hb hm => (hfar b' (by omega)).trans (hf.keep b' hb hm)⟩⟩
  · exact InS.mono (fun b' hb => ⟨hb.1.of_eq (hfar b' (by have := hb.2; omega)), by have := hb.2; omega⟩) n (InS.keep (fun b' hb => hfar b' (by have := hb.2; omega)) n hin)
  · exact ((((hf.below.setCell (p := ⟨w.heap.size, 0, none⟩) hB _).setCell (p := ⟨w.heap.size, 1, none⟩) hB _).setCell (p := ⟨w.heap.size, 2, none⟩) hB _).setCell (p := ⟨w.heap.size, 3, none⟩) hB _).setCell (p := ⟨w.heap.size, 4, none⟩) hB _
end Go.Proofs.YtnpcfmoiiecadaaDoor.Par
set_option linter.unusedVariables false
namespace Go.Proofs.YtnpcfmoiiecadaaDoor.Par
open Go.RowKit
open Lx (Tok)

/-- a result's block that holds nothing yet -/
def ZB (w : World) (b : Nat) : Prop := w.heap[b]? = some (.cells #[.int .i64 0, .string ⟨#[]⟩, .int .i64 0, .int .i64 0, .slice none 0 0] 31 (0, 0))
theorem ZB.fr {B0 : Nat} {w w' : World} {b : Nat} (h : ZB w b) (f : Fr B0 w w') : ZB w' b := (NB.fr ⟨_, _, h⟩ f).trans h
theorem ZB.cells {w : World} {b : Nat} (h : ZB w b) : w.cell? ⟨b, 0, none⟩ = some (.int .i64 0) ∧ w.cell? ⟨b, 1, none⟩ = some (.string ⟨#[]⟩) ∧ w.cell? ⟨b, 2, none⟩ = some (.int .i64 0) ∧ w.cell? ⟨b, 3, none⟩ = some (.int .i64 0) ∧ w.cell? ⟨b, 4, none⟩ = some (.slice none 0 0) :=
  ⟨Lib.cell_of_heap h 0, Lib.cell_of_heap h 1, Lib.cell_of_heap h 2, Lib.cell_of_heap h 3, Lib.cell_of_heap h 4⟩
theorem ZB.frozen {w : World} {b : Nat} (h : ZB w b) (i : Nat) : w.frozen? ⟨b, i, none⟩ = false := hfrz h i
theorem PIs.c2 {B0 bp : Nat} {E : Env} {w : World} {p : St} (h : PIs B0 bp E w p) : w.cell? ⟨bp, 2, none⟩ = some (.int .i64 (p.k : Int)) := by
  obtain ⟨v, hb, _⟩ := h.box
  exact Lib.cell_of_heap hb 2

section
variable {B0 bp : Nat} {E : Env} {w : World} {p : St}
theorem accept_yes (h : PIs B0 bp E w p) {x : ByteArray} (hx : isW E p x = true) : Calls Tryd.prog 49 #[.pointer (some ⟨bp, 0, none⟩), .string x] w fun e w' => e = .returned (.bool true) ∧ PIs B0 bp E w' (rd E p) ∧ Fr B0 w w' := by
  have := accept_any h x; rw [hx] at this; exact this
theorem accept_no (h : PIs B0 bp E w p) {x : ByteArray} (hx : isW E p x = false) : Calls Tryd.prog 49 #[.pointer (some ⟨bp, 0, none⟩), .string x] w fun e w' => e = .returned (.bool false) ∧ PIs B0 bp E w' p ∧ Fr B0 w w' := by
  have := accept_any h x; rw [hx] at this; exact this
theorem is_at (h : PIs B0 bp E w p) {x : ByteArray} {b : Bool} (hx : isW E p x = b) : Calls Tryd.prog 24 #[.pointer (some ⟨bp, 0, none⟩), .string x] w fun e w' => e = .returned (.bool b) ∧ Below w.heap.size w w' := by
  have := is_any h x; rw [hx] at this; exact this
theorem kind_at (h : PIs B0 bp E w p) {k : Int} (hx : knd E p = k) : Calls Tryd.prog 23 #[.pointer (some ⟨bp, 0, none⟩)] w fun e w' => e = .returned (.int .i64 k) ∧ Below w.heap.size w w' := by
  have := kind_any h; rw [hx] at this; exact this
theorem isW_not_end {E : Env} {p : St} {x : ByteArray} (hx : isW E p x = true) : knd E p ≠ 5 := fun e => by unfold isW at hx; rw [e] at hx; cases hx
theorem rd_lt {E : Env} {p : St} (h : p.k < E.T.length) : p.k < E.T.length := h
end
end Go.Proofs.YtnpcfmoiiecadaaDoor.Par
