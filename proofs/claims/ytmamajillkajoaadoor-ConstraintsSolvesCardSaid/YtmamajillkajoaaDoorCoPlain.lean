/- What is proved: constraints and their graph as plain functions: which constraints say something new, the marks and the equalities of each vertex, the search, classes and chains; nothing of the program's functions. -/
import Derived.Test.YtmamajillkajoaaDoorCoBase
set_option linter.unusedVariables false
namespace Go.Proofs.YtmamajillkajoaaDoor
open Go.RowKit

/-- two constraints say the same -/
def sayB (c d : Con) : Bool := (factK c).1 == (factK d).1 && ((factK c).2.1 == (factK d).2.1 && ((factK c).2.2.1 == (factK d).2.2.1 && tyB (factK c).2.2.2 (factK d).2.2.2))
theorem sayB_iff (c d : Con) : sayB c d = true ↔ factK c = factK d := by
  unfold sayB
  simp only [Bool.and_eq_true, beq_iff_eq, tyB_iff]
  constructor
  · rintro ⟨h1, h2, h3, h4⟩
    exact Prod.ext h1 (Prod.ext h2 (Prod.ext h3 h4))
  · intro h
    rw [h]
    exact ⟨rfl, rfl, rfl, rfl⟩
/-- said before -/
def dupB (l : List Con) (i : Nat) (c : Con) : Bool := (l.take i).any (fun d => sayB d c)
/-- the marks of a vertex among the first k constraints -/
def mrk (l : List Con) (v : Nat) : Nat → List Nat
  | 0 => []
  | k + 1 => mrk l v k ++ (match l[k]? with | some c => if dupB l k c then [] else if c.kind == 0 && c.a == (v : Int) then [k] else [] | none => [])
/-- its equalities -/
def eqs (l : List Con) (v : Nat) : Nat → List Nat
  | 0 => []
  | k + 1 => eqs l v k ++ (match l[k]? with | some c => if dupB l k c then [] else if c.kind == 0 then [] else (if c.a == (v : Int) then [k] else []) ++ (if c.b == (v : Int) then [k] else []) | none => [])

/-- a visit: the vertex, the index of the visit from which it came, the equality, the number of equalities -/
structure Vis where
  v : Nat
  fr : Int
  by_ : Int
  st : Nat
/-- the other end -/
def oth (l : List Con) (e v : Nat) : Nat := match l[e]? with | some c => (c.a + c.b - v).toNat | none => 0
def inV (vs : List Vis) (o : Nat) : Bool := vs.any (fun x => x.v == o)
def expand (l : List Con) (i : Nat) (x : Vis) : List Nat → List Vis → List Vis
  | [], vs => vs
  | e :: es, vs => expand l i x es (if inV vs (oth l e x.v) then vs else vs ++ [⟨oth l e x.v, i, e, x.st + 1⟩])
/-- the visits, and those that are kept -/
def bfs (l : List Con) (last : Vis → Bool) : Nat → Nat → List Vis → List Vis × List Vis
  | 0, _, vs => (vs, vs)
  | f + 1, i, vs =>
    match vs[i]? with
    | none => (vs, vs)
    | some x => if last x then (vs.take (i + 1), vs) else bfs l last f (i + 1) (expand l i x (eqs l x.v l.length) vs)
def srch (l : List Con) (n v : Nat) (last : Vis → Bool) : List Vis := (bfs l last (n + 1) 0 [⟨v, -1, -1, 0⟩]).1
/-- the class of a vertex -/
def cls (l : List Con) (n v : Nat) : List Nat := (srch l n v (fun _ => false)).map (·.v)
/-- the classes of the vertices below k -/
def clss (l : List Con) (n : Nat) : Nat → List (List Nat)
  | 0 => []
  | k + 1 => if (clss l n k).any (fun c => c.contains k) then clss l n k else clss l n k ++ [cls l n k]
def insN (x : Nat) : List Nat → List Nat
  | [] => [x]
  | y :: ys => if x ≤ y then x :: y :: ys else y :: insN x ys
def srtN : List Nat → List Nat
  | [] => []
  | x :: xs => insN x (srtN xs)
/-- the marks of a class, in their order -/
def mks (l : List Con) (c : List Nat) : List Nat := srtN (c.flatMap (fun v => mrk l v l.length))
def noT : TyV := ⟨0, 0, ⟨#[]⟩⟩
/-- what is known behind some marks; none: they exclude one another -/
def cmn (l : List Con) : List Nat → TyV → Option TyV
  | [], t => some t
  | i :: is, t => match l[i]? with
    | none => none
    | some c => if exclB t c.mark then none else cmn l is (if t.kind == 0 || covB t c.mark then c.mark else t)
/-- the type of a class -/
def typ (l : List Con) (c : List Nat) : TyV × Bool := match cmn l (mks l c) noT with
  | none => (noT, false)
  | some t => (if t.kind == 5 || t.kind == 6 then noT else t, true)
def markAt (l : List Con) (i : Nat) : TyV := match l[i]? with | some c => c.mark | none => noT
def vertAt (l : List Con) (i : Nat) : Nat := match l[i]? with | some c => c.a.toNat | none => 0
/-- the first mark of a vertex that one excludes -/
def hit (l : List Con) (m v : Nat) : Option Nat := (mrk l v l.length).find? (fun i => exclB (markAt l m) (markAt l i))
/-- a search for a chain stops -/
def stp (l : List Con) (m lim : Nat) (x : Vis) : Bool := (decide (0 < lim) && decide (lim ≤ x.st + 2)) || (hit l m x.v).isSome
/-- the equalities on the way to a visit, the last one first -/
def way (vs : List Vis) : Nat → Nat → List Nat
  | 0, _ => []
  | f + 1, i => match vs[i]? with
    | none => []
    | some x => if x.fr < 0 then [] else x.by_.toNat :: way vs f x.fr.toNat
/-- the first of the shortest chains that begin with a mark -/
def frm (l : List Con) (n m lim : Nat) : Option (List Nat) :=
  let vs := srch l n (vertAt l m) (stp l m lim)
  match vs.getLast? with
  | none => none
  | some x => if decide (0 < lim) && decide (lim ≤ x.st + 2) then none else match hit l m x.v with
    | none => none
    | some q => some ((q :: way vs vs.length (vs.length - 1)) ++ [m]).reverse
def chn (l : List Con) (n : Nat) : List Nat → List Nat → List Nat
  | [], best => best
  | m :: ms, best => chn l n ms (match frm l n m best.length with | some c => c | none => best)
/-- the chain of a class -/
def chain (l : List Con) (n : Nat) (c : List Nat) : List Nat := chn l n (mks l c) []
/-- the types, the chains -/
def tyAt (l : List Con) (cs : List (List Nat)) (v : Nat) : TyV := match cs.find? (fun c => c.contains v) with | some c => (typ l c).1 | none => noT
def slvT (l : List Con) (n : Nat) : List TyV := (List.range n).map (tyAt l (clss l n n))
def slvC (l : List Con) (n : Nat) : List (List Nat) := ((clss l n n).filter (fun c => !(typ l c).2)).map (chain l n)

/-- the example of the chapter -/
def exL : List Con := [⟨0, 0, 0, ⟨1, 0, ⟨#[]⟩⟩, 0, 0⟩, ⟨1, 0, 1, noT, 0, 0⟩, ⟨1, 1, 2, noT, 0, 0⟩, ⟨0, 2, 0, ⟨2, 0, ⟨#[]⟩⟩, 0, 0⟩, ⟨1, 0, 2, noT, 0, 0⟩]
def exM : List Con := [⟨0, 0, 0, ⟨1, 0, ⟨#[]⟩⟩, 0, 0⟩, ⟨1, 0, 1, noT, 0, 0⟩, ⟨1, 1, 2, noT, 0, 0⟩, ⟨1, 0, 2, noT, 0, 0⟩]
theorem ex_chain : slvC exL 3 = [[0, 4, 3]] := by kernel_rfl
theorem ex_none : slvC exM 3 = [] := by kernel_rfl
theorem ex_kinds : (slvT exL 3).map (·.kind) = [0, 0, 0] := by kernel_rfl
theorem ex_kinds2 : (slvT exM 3).map (·.kind) = [1, 1, 1] := by kernel_rfl
end Go.Proofs.YtmamajillkajoaaDoor
