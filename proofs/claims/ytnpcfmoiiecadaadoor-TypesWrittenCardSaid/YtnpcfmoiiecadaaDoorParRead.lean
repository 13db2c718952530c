/- What is proved: the reference's parser: read, accept. -/
import Derived.Test.YtnpcfmoiiecadaaDoorInS
import Derived.Test.YtnpcfmoiiecadaaDoorLxTokPlain
import Derived.Laws.AppendOwn
import Derived.Deep.AppendLies
import Derived.BigRegion
import Derived.Deep.RegionHeld3
set_option linter.unusedVariables false
namespace Go.Proofs.YtnpcfmoiiecadaaDoor.Par
open Lx (Tok)

/-- what is wrong at a place -/
structure Dg where
  code : Int
  at_ : Int
  hi : Int
  text : ByteArray
/-- what a parser reads: the text, its tokens, where they lie -/
structure Env where
  s : ByteArray
  T : List Tok
  A : Option Addr
  c : Nat
/-- where a parser stands: the next token, the end of the last one, what was wrong -/
structure St where
  k : Nat
  last : Int
  list : List Dg

def eqS (a b : ByteArray) : Bool := a.toList == b.toList
def hasS (l : List ByteArray) (s : ByteArray) : Bool := l.any (fun x => x.toList == s.toList)

section
variable (E : Env)
def tk (i : Nat) : Tok := E.T.getD i ⟨5, 0, 0, 0⟩
def wd (i : Nat) : ByteArray := E.s.extract (tk E i).at_.toNat (tk E i).hi.toNat
def knd (p : St) : Int := (tk E p.k).kind
def isW (p : St) (w : ByteArray) : Bool := knd E p != 5 && eqS (wd E p.k) w
def rd (p : St) : St := ⟨p.k + 1, (tk E p.k).hi, p.list⟩
def rep (p : St) (code : Int) (text : ByteArray) : St :=
  if (p.list.getLast?.map Dg.at_) = some (tk E p.k).at_ then p else ⟨p.k, p.last, p.list ++ [⟨code, (tk E p.k).at_, (tk E p.k).hi, text⟩]⟩
def exq (p : St) (w : ByteArray) : St := if isW E p w then rd E p else rep E p 4 w
def nam (p : St) : ByteArray × St := if knd E p = 0 then (wd E p.k, rd E p) else ((⟨#[]⟩ : ByteArray), rep E p 4 (⟨#[110, 97, 109, 101]⟩ : ByteArray))
def digL : List UInt8 → List UInt8
  | a :: b :: r => if a = 48 then digL (b :: r) else a :: b :: r
  | l => l
def dig (s : ByteArray) : ByteArray := ⟨(digL s.data.toList).toArray⟩

/-- where a node begins -/
def at1 (p : St) (first : Nat) (kids : List NT) : Int :=
  match kids with
  | [] => if first < p.k then (tk E first).at_ else p.last
  | x :: _ => if x.lo < (if first < p.k then (tk E first).at_ else p.last) then x.lo else (if first < p.k then (tk E first).at_ else p.last)
def mkN (p : St) (first : Nat) (kind : Int) (text : ByteArray) (kids : List NT) : NT := .mk kind text (at1 E p first kids) p.last none 0 kids

def typ (p : St) : NT × St :=
  if isW E p (⟨#[98, 111, 111, 108]⟩ : ByteArray) then (mkN E (rd E p) p.k 9 (⟨#[98, 111, 111, 108]⟩ : ByteArray) [], rd E p)
  else if isW E p (⟨#[105, 110, 116]⟩ : ByteArray) then
    if isW E (rd E p) (⟨#[91]⟩ : ByteArray) then
      if knd E (rd E (rd E p)) = 2 then (mkN E (exq E (rd E (rd E (rd E p))) (⟨#[93]⟩ : ByteArray)) p.k 10 (dig (wd E (p.k + 2))) [], exq E (rd E (rd E (rd E p))) (⟨#[93]⟩ : ByteArray))
      else (mkN E (exq E (rep E (rd E (rd E p)) 4 (⟨#[110, 117, 109, 98, 101, 114]⟩ : ByteArray)) (⟨#[93]⟩ : ByteArray)) p.k 10 (⟨#[]⟩ : ByteArray) [], exq E (rep E (rd E (rd E p)) 4 (⟨#[110, 117, 109, 98, 101, 114]⟩ : ByteArray)) (⟨#[93]⟩ : ByteArray))
    else (mkN E (rd E p) p.k 9 (⟨#[105, 110, 116]⟩ : ByteArray) [], rd E p)
  else if knd E p = 0 then (mkN E (rd E p) p.k 9 (wd E p.k) [], rd E p)
  else (mkN E (rep E p 4 (⟨#[116, 121, 112, 101]⟩ : ByteArray)) p.k 1 (⟨#[]⟩ : ByteArray) [], rep E p 4 (⟨#[116, 121, 112, 101]⟩ : ByteArray))
def opt (p : St) : NT × St := if isW E p (⟨#[58]⟩ : ByteArray) then typ E (rd E p) else (mkN E p p.k 0 (⟨#[]⟩ : ByteArray) [], p)
def fld (p : St) : NT × St :=
  let q := exq E (nam E p).2 (⟨#[58]⟩ : ByteArray)
  if isW E q (⟨#[105, 110, 116]⟩ : ByteArray) || isW E q (⟨#[98, 111, 111, 108]⟩ : ByteArray) then
    (mkN E (rd E q) p.k 4 (nam E p).1 [mkN E (rd E q) q.k 9 (wd E q.k) []], rd E q)
  else (mkN E (rep E q 4 (⟨#[116, 121, 112, 101]⟩ : ByteArray)) p.k 4 (nam E p).1 [mkN E (rep E q 4 (⟨#[116, 121, 112, 101]⟩ : ByteArray)) q.k 1 (⟨#[]⟩ : ByteArray) []], rep E q 4 (⟨#[116, 121, 112, 101]⟩ : ByteArray))
/-- elements behind commas -/
def more (el : St → Option (NT × St)) : Nat → List NT → St → Option (List NT × St)
  | 0, _, _ => none
  | f + 1, ks, p => if isW E p (⟨#[44]⟩ : ByteArray) then (el (rd E p)).bind fun x => more el f (ks ++ [x.1]) x.2 else some (ks, p)
def fuel : Nat := E.T.length + 1
def rec_ (p : St) : Option (NT × St) :=
  let a := nam E (rd E p)
  let x := fld E (exq E a.2 (⟨#[123]⟩ : ByteArray))
  (more E (fun q => some (fld E q)) (fuel E) [x.1] x.2).map fun y => (mkN E (exq E y.2 (⟨#[125]⟩ : ByteArray)) p.k 3 a.1 y.1, exq E y.2 (⟨#[125]⟩ : ByteArray))
def par (p : St) : NT × St :=
  let k : Int := if isW E p (⟨#[118, 97, 114]⟩ : ByteArray) then 8 else 7
  let a := nam E (if isW E p (⟨#[118, 97, 114]⟩ : ByteArray) then rd E p else p)
  let t := opt E a.2
  (mkN E t.2 p.k k a.1 [t.1], t.2)
def pars (p : St) : Option (NT × St) :=
  let q := exq E p (⟨#[40]⟩ : ByteArray)
  if isW E q (⟨#[41]⟩ : ByteArray) then some (mkN E (exq E q (⟨#[41]⟩ : ByteArray)) p.k 6 (⟨#[]⟩ : ByteArray) [], exq E q (⟨#[41]⟩ : ByteArray))
  else
    let x := par E q
    (more E (fun q => some (par E q)) (fuel E) [x.1] x.2).map fun y => (mkN E (exq E y.2 (⟨#[41]⟩ : ByteArray)) p.k 6 (⟨#[]⟩ : ByteArray) y.1, exq E y.2 (⟨#[41]⟩ : ByteArray))
def stops (p : St) : Bool := knd E p == 5 || isW E p (⟨#[125]⟩ : ByteArray) || isW E p (⟨#[112, 114, 111, 99]⟩ : ByteArray) || isW E p (⟨#[114, 101, 99, 111, 114, 100]⟩ : ByteArray)
def begins (p : St) : Bool := knd E p == 1 && hasS [(⟨#[118, 97, 114]⟩ : ByteArray), (⟨#[105, 102]⟩ : ByteArray), (⟨#[119, 104, 105, 108, 101]⟩ : ByteArray), (⟨#[102, 111, 114]⟩ : ByteArray), (⟨#[114, 101, 116, 117, 114, 110]⟩ : ByteArray), (⟨#[97, 115, 115, 101, 114, 116]⟩ : ByteArray)] (wd E p.k)
/-- tokens that are no statement -/
def skipT (first : Nat) : Nat → St → Option St
  | 0, _ => none
  | f + 1, p => if !stops E p && (p.k == first || !begins E p) then (if eqS (wd E p.k) (⟨#[59]⟩ : ByteArray) then some (rd E p) else skipT first f (rd E p)) else some p
def skipped (p : St) : Option (NT × St) := (skipT E p.k (fuel E) (rep E p 6 (⟨#[]⟩ : ByteArray))).map fun q => (mkN E q p.k 1 (⟨#[]⟩ : ByteArray) [], q)
def var_ (p : St) : NT × St := let a := nam E p; (mkN E a.2 p.k 20 a.1 [], a.2)
def ops : Nat → List ByteArray
  | 1 => [(⟨#[111, 114]⟩ : ByteArray)]
  | 2 => [(⟨#[97, 110, 100]⟩ : ByteArray)]
  | 4 => [(⟨#[61, 61]⟩ : ByteArray), (⟨#[33, 61]⟩ : ByteArray), (⟨#[60]⟩ : ByteArray), (⟨#[60, 61]⟩ : ByteArray), (⟨#[62]⟩ : ByteArray), (⟨#[62, 61]⟩ : ByteArray)]
  | 5 => [(⟨#[43]⟩ : ByteArray), (⟨#[45]⟩ : ByteArray)]
  | 6 => [(⟨#[42]⟩ : ByteArray), (⟨#[47]⟩ : ByteArray), (⟨#[37]⟩ : ByteArray)]
  | _ => []
def oper (lvl : Nat) (p : St) : Bool := knd E p != 5 && hasS (ops lvl) (wd E p.k)
def prim (p : St) : Bool := knd E p == 0 || knd E p == 2 || isW E p (⟨#[116, 114, 117, 101]⟩ : ByteArray) || isW E p (⟨#[102, 97, 108, 115, 101]⟩ : ByteArray) || isW E p (⟨#[108, 101, 110]⟩ : ByteArray) || isW E p (⟨#[40]⟩ : ByteArray) || isW E p (⟨#[91]⟩ : ByteArray)
/-- is the word behind the next one this one -/
def behindW (p : St) (w : ByteArray) : Bool := decide (p.k + 1 < E.T.length) && eqS (wd E (p.k + 1)) w
end

/-- the functions that call each other -/
structure Rec where
  ex : Nat → St → Option (NT × St)
  blk : St → Option (NT × St)
  br : St → Option (NT × St)
  stm : St → Option (NT × St)

section
variable (E : Env) (R : Rec)
def args (p : St) : Option (List NT × St) :=
  let q := rd E p
  if isW E q (⟨#[41]⟩ : ByteArray) then some ([], exq E q (⟨#[41]⟩ : ByteArray))
  else (R.ex 1 q).bind fun x => (more E (R.ex 1) (fuel E) [x.1] x.2).map fun y => (y.1, exq E y.2 (⟨#[41]⟩ : ByteArray))
def place (p : St) : Option (NT × St) :=
  let x := var_ E p
  if isW E x.2 (⟨#[91]⟩ : ByteArray) then (R.ex 1 (rd E x.2)).map fun y => (mkN E (exq E y.2 (⟨#[93]⟩ : ByteArray)) p.k 21 (⟨#[]⟩ : ByteArray) [x.1, y.1], exq E y.2 (⟨#[93]⟩ : ByteArray))
  else if isW E x.2 (⟨#[46]⟩ : ByteArray) then
    let a := nam E (rd E x.2)
    some (mkN E a.2 p.k 22 a.1 [x.1], a.2)
  else some x
def operand (p : St) : Option (NT × St) :=
  if knd E p = 2 then some (mkN E (rd E p) p.k 24 (dig (wd E p.k)) [], rd E p)
  else if isW E p (⟨#[116, 114, 117, 101]⟩ : ByteArray) || isW E p (⟨#[102, 97, 108, 115, 101]⟩ : ByteArray) then some (mkN E (rd E p) p.k 25 (wd E p.k) [], rd E p)
  else if knd E p = 0 && behindW E p (⟨#[40]⟩ : ByteArray) then (args E R (rd E p)).map fun y => (mkN E y.2 p.k 27 (wd E p.k) y.1, y.2)
  else if knd E p = 0 then place E R p
  else if isW E p (⟨#[91]⟩ : ByteArray) then (R.ex 1 (rd E p)).bind fun x => (more E (R.ex 1) (fuel E) [x.1] x.2).map fun y => (mkN E (exq E y.2 (⟨#[93]⟩ : ByteArray)) p.k 26 (⟨#[]⟩ : ByteArray) y.1, exq E y.2 (⟨#[93]⟩ : ByteArray))
  else if isW E p (⟨#[108, 101, 110]⟩ : ByteArray) then
    let x := var_ E (exq E (rd E p) (⟨#[40]⟩ : ByteArray))
    some (mkN E (exq E x.2 (⟨#[41]⟩ : ByteArray)) p.k 23 (⟨#[]⟩ : ByteArray) [x.1], exq E x.2 (⟨#[41]⟩ : ByteArray))
  else if isW E p (⟨#[40]⟩ : ByteArray) then (R.ex 1 (rd E p)).map fun x => (x.1, exq E x.2 (⟨#[41]⟩ : ByteArray))
  else some (mkN E (rep E p 5 (⟨#[]⟩ : ByteArray)) p.k 1 (⟨#[]⟩ : ByteArray) [], rep E p 5 (⟨#[]⟩ : ByteArray))
/-- operands behind operators of a level -/
def binL (lvl first : Nat) : Nat → NT → St → Option (NT × St)
  | 0, _, _ => none
  | f + 1, x, p => if oper E lvl p then
      (R.ex (lvl + 1) (rd E p)).bind fun y => if lvl = 4 then some (mkN E y.2 first 29 (wd E p.k) [x, y.1], y.2) else binL lvl first f (mkN E y.2 first 29 (wd E p.k) [x, y.1]) y.2
    else some (x, p)
def exS (lvl : Nat) (p : St) : Option (NT × St) :=
  if lvl = 3 then
    if isW E p (⟨#[110, 111, 116]⟩ : ByteArray) then (R.ex 3 (rd E p)).map fun x => (mkN E x.2 p.k 28 (⟨#[110, 111, 116]⟩ : ByteArray) [x.1], x.2) else R.ex 4 p
  else if lvl = 7 then
    if isW E p (⟨#[45]⟩ : ByteArray) then (R.ex 7 (rd E p)).map fun x => (mkN E x.2 p.k 28 (⟨#[45]⟩ : ByteArray) [x.1], x.2) else operand E R p
  else (R.ex (lvl + 1) p).bind fun x => binL E R lvl p.k (fuel E) x.1 x.2
/-- the statements of a block -/
def stmL : Nat → List NT → St → Option (List NT × St)
  | 0, _, _ => none
  | f + 1, ks, p => if stops E p then some (ks, p) else (R.stm p).bind fun x => stmL f (ks ++ [x.1]) x.2
def blkS (p : St) : Option (NT × St) :=
  if isW E p (⟨#[123]⟩ : ByteArray) then (stmL E R (fuel E) [] (rd E p)).map fun y => (mkN E (exq E y.2 (⟨#[125]⟩ : ByteArray)) p.k 11 (⟨#[]⟩ : ByteArray) y.1, exq E y.2 (⟨#[125]⟩ : ByteArray))
  else some (mkN E (rep E p 4 (⟨#[123]⟩ : ByteArray)) p.k 11 (⟨#[]⟩ : ByteArray) [], rep E p 4 (⟨#[123]⟩ : ByteArray))
def brS (p : St) : Option (NT × St) :=
  (R.ex 1 (rd E p)).bind fun c => (R.blk c.2).bind fun b =>
    (if isW E b.2 (⟨#[101, 108, 115, 101]⟩ : ByteArray) then (if isW E (rd E b.2) (⟨#[105, 102]⟩ : ByteArray) then R.br (rd E b.2) else R.blk (rd E b.2)) else some (mkN E b.2 b.2.k 0 (⟨#[]⟩ : ByteArray) [], b.2)).map fun o =>
      (mkN E o.2 p.k 14 (⟨#[]⟩ : ByteArray) [c.1, b.1, o.1], o.2)
def stmS (p : St) : Option (NT × St) :=
  if isW E p (⟨#[118, 97, 114]⟩ : ByteArray) then
    let a := nam E (rd E p)
    let t := opt E a.2
    (R.ex 1 (exq E t.2 (⟨#[61]⟩ : ByteArray))).map fun x => (mkN E (exq E x.2 (⟨#[59]⟩ : ByteArray)) p.k 12 a.1 [t.1, x.1], exq E x.2 (⟨#[59]⟩ : ByteArray))
  else if isW E p (⟨#[105, 102]⟩ : ByteArray) then R.br p
  else if isW E p (⟨#[119, 104, 105, 108, 101]⟩ : ByteArray) then (R.ex 1 (rd E p)).bind fun c => (R.blk c.2).map fun b => (mkN E b.2 p.k 15 (⟨#[]⟩ : ByteArray) [c.1, b.1], b.2)
  else if isW E p (⟨#[102, 111, 114]⟩ : ByteArray) then
    let a := nam E (rd E p)
    (R.ex 1 (exq E a.2 (⟨#[61]⟩ : ByteArray))).bind fun x => (R.ex 1 (exq E x.2 (⟨#[116, 111]⟩ : ByteArray))).bind fun y => (R.blk y.2).map fun b => (mkN E b.2 p.k 16 a.1 [x.1, y.1, b.1], b.2)
  else if isW E p (⟨#[114, 101, 116, 117, 114, 110]⟩ : ByteArray) then
    (if prim E (rd E p) || isW E (rd E p) (⟨#[110, 111, 116]⟩ : ByteArray) || isW E (rd E p) (⟨#[45]⟩ : ByteArray) then R.ex 1 (rd E p) else some (mkN E (rd E p) (p.k + 1) 0 (⟨#[]⟩ : ByteArray) [], rd E p)).map fun x =>
      (mkN E (exq E x.2 (⟨#[59]⟩ : ByteArray)) p.k 17 (⟨#[]⟩ : ByteArray) [x.1], exq E x.2 (⟨#[59]⟩ : ByteArray))
  else if isW E p (⟨#[97, 115, 115, 101, 114, 116]⟩ : ByteArray) then (R.ex 1 (rd E p)).map fun x => (mkN E (exq E x.2 (⟨#[59]⟩ : ByteArray)) p.k 18 (⟨#[]⟩ : ByteArray) [x.1], exq E x.2 (⟨#[59]⟩ : ByteArray))
  else if knd E p = 0 && behindW E p (⟨#[40]⟩ : ByteArray) then (args E R (rd E p)).map fun y => (mkN E (exq E y.2 (⟨#[59]⟩ : ByteArray)) p.k 19 (wd E p.k) y.1, exq E y.2 (⟨#[59]⟩ : ByteArray))
  else if knd E p = 0 then
    (place E R p).bind fun x => (R.ex 1 (exq E x.2 (⟨#[61]⟩ : ByteArray))).map fun y => (mkN E (exq E y.2 (⟨#[59]⟩ : ByteArray)) p.k 13 (⟨#[]⟩ : ByteArray) [x.1, y.1], exq E y.2 (⟨#[59]⟩ : ByteArray))
  else skipped E p
def stp : Rec := ⟨exS E R, blkS E R, brS E R, stmS E R⟩
end
def rec0 : Rec := ⟨fun _ _ => none, fun _ => none, fun _ => none, fun _ => none⟩
def it (E : Env) : Nat → Rec
  | 0 => rec0
  | n + 1 => stp E (it E n)

section
variable (E : Env)
def prc (R : Rec) (p : St) : Option (NT × St) :=
  let a := nam E (rd E p)
  (pars E a.2).bind fun x => (R.blk (opt E x.2).2).map fun b => (mkN E b.2 p.k 5 a.1 [x.1, (opt E x.2).1, b.1], b.2)
/-- tokens that are no declaration -/
def skipD : Nat → St → Option St
  | 0, _ => none
  | f + 1, p => if knd E p != 5 && !isW E p (⟨#[114, 101, 99, 111, 114, 100]⟩ : ByteArray) && !isW E p (⟨#[112, 114, 111, 99]⟩ : ByteArray) then skipD f (rd E p) else some p
def decl (R : Rec) (p : St) : Option (NT × St) :=
  if isW E p (⟨#[114, 101, 99, 111, 114, 100]⟩ : ByteArray) then rec_ E p
  else if isW E p (⟨#[112, 114, 111, 99]⟩ : ByteArray) then prc E R p
  else (skipD E (fuel E) (rep E p 7 (⟨#[]⟩ : ByteArray))).map fun q => (mkN E q p.k 1 (⟨#[]⟩ : ByteArray) [], q)
def declL (R : Rec) : Nat → List NT → St → Option (List NT × St)
  | 0, _, _ => none
  | f + 1, ks, p => if knd E p = 5 then some (ks, p) else (decl E R p).bind fun x => declL R f (ks ++ [x.1]) x.2
def lexC (t : Tok) : Int :=
  if t.kind = 4 then 1 else if t.kind = 2 && decide (9 < t.hi - t.at_) then 2 else if t.kind = 0 && decide (16 < t.hi - t.at_) then 3 else 0
def lexical (l : List Tok) : List Dg := l.filterMap fun t => if 0 < lexC t then some ⟨lexC t, t.at_, t.hi, (⟨#[]⟩ : ByteArray)⟩ else none
def mergeF : Nat → List Dg → List Dg → List Dg
  | 0, _, _ => []
  | _ + 1, [], b => b
  | _ + 1, a, [] => a
  | f + 1, a :: l, b :: m => if a.at_ ≤ b.at_ then a :: mergeF f l (b :: m) else b :: mergeF f (a :: l) m
def merged (a b : List Dg) : List Dg := mergeF (a.length + b.length + 1) a b
end
def st0 : St := ⟨0, 0, []⟩
def env (s : ByteArray) : Env := ⟨s, (Lx.scan s.data.toList).filter (fun t => t.kind != 4), none, 0⟩
/-- the recursions that suffice -/
def deep (E : Env) : Nat := 12 * E.T.length + 12
def endD (E : Env) (p : St) : List Dg := if knd E p = 5 then p.list else p.list ++ [⟨4, (tk E p.k).at_, (tk E p.k).hi, (⟨#[101, 110, 100]⟩ : ByteArray)⟩]
def parse (s : ByteArray) : Option (NT × List Dg) :=
  let E := env s
  (declL E (it E (deep E)) (fuel E) [] st0).map fun y => (.mk 2 (⟨#[]⟩ : ByteArray) 0 s.size none 0 y.1, merged (lexical (Lx.scan s.data.toList)) y.2.list)
def parseEx (s : ByteArray) : Option (NT × List Dg) :=
  let E := env s
  ((it E (deep E)).ex 1 st0).map fun y => (y.1, merged (lexical (Lx.scan s.data.toList)) (endD E y.2))
def parseSt (s : ByteArray) : Option (NT × List Dg) :=
  let E := env s
  ((it E (deep E)).stm st0).map fun y => (y.1, merged (lexical (Lx.scan s.data.toList)) (endD E y.2))
end Go.Proofs.YtnpcfmoiiecadaaDoor.Par
set_option linter.unusedVariables false
namespace Go.Proofs.YtnpcfmoiiecadaaDoor.Par
open Go.RowKit
open Lx (Tok)

/-- the blocks that a parser writes -/
def Mut (w : World) (b : Nat) : Prop := (∃ cs fr, w.heap[b]? = some (.cells cs 69 fr)) ∨ ∃ cs fr, w.heap[b]? = some (.cells cs 96 fr)
theorem Mut.of_eq {w w' : World} {b : Nat} (e : w'.heap[b]? = w.heap[b]?) (h : Mut w' b) : Mut w b := by unfold Mut at *; rwa [e] at h
/-- all but these stays -/
structure Fr (B0 : Nat) (w w' : World) : Prop where
  below : Below B0 w w'
  keep : ∀ b, b < w.heap.size → ¬ Mut w b → w'.heap[b]? = w.heap[b]?
theorem Fr.refl (B0 : Nat) (w : World) : Fr B0 w w := ⟨Below.refl _ _, fun _ _ _ => rfl⟩
theorem Fr.trans {B0 : Nat} {a b c : World} (h : Fr B0 a b) (k : Fr B0 b c) : Fr B0 a c := ⟨h.below.trans k.below, fun i hi hm => by
  have e := h.keep i hi hm
  exact (k.keep i (Nat.lt_of_lt_of_le hi h.below.size) (fun hm' => hm (hm'.of_eq e))).trans e⟩
theorem Fr.of_below {B0 : Nat} {w w' : World} (h : Below w.heap.size w w') (hB : B0 ≤ w.heap.size) : Fr B0 w w' := ⟨h.mono hB, fun b hb _ => h.block b hb⟩
theorem Fr.later {B0 : Nat} {a w w' : World} (h : Fr B0 a w) (k : Below w.heap.size w w') (hB : B0 ≤ a.heap.size) : Fr B0 a w' := h.trans (Fr.of_below k (Nat.le_trans hB h.below.size))

/-- a block of this type of cells -/
def TyB (t : TypeId) (w : World) (b : Nat) : Prop := ∃ cs fr, w.heap[b]? = some (.cells cs t fr)
theorem TyB.lt {t : TypeId} {w : World} {b : Nat} (h : TyB t w b) : b < w.heap.size := by
  obtain ⟨cs, fr, e⟩ := h
  exact (Array.getElem?_eq_some_iff.1 e).1
theorem TyB.not_mut {t : TypeId} {w : World} {b : Nat} (h : TyB t w b) (h1 : t ≠ 69) (h2 : t ≠ 96) : ¬ Mut w b := by
  obtain ⟨cs, fr, e⟩ := h
  rintro (⟨cs', fr', e'⟩ | ⟨cs', fr', e'⟩)
  · rw [e] at e'; cases e'; exact h1 rfl
  · rw [e] at e'; cases e'; exact h2 rfl
theorem TyB.of_eq {t : TypeId} {w w' : World} {b : Nat} (e : w'.heap[b]? = w.heap[b]?) (h : TyB t w b) : TyB t w' b := by unfold TyB at *; rwa [e]
theorem TyB.fr {t : TypeId} {B0 : Nat} {w w' : World} {b : Nat} (h : TyB t w b) (h1 : t ≠ 69) (h2 : t ≠ 96) (f : Fr B0 w w') : w'.heap[b]? = w.heap[b]? := f.keep b h.lt (h.not_mut h1 h2)
/-- a tree in blocks of nodes -/
abbrev NB := TyB 31
def InN (w : World) (n : NT) : Prop := InS (NB w) w n
theorem NB.fr {B0 : Nat} {w w' : World} {b : Nat} (h : NB w b) (f : Fr B0 w w') : w'.heap[b]? = w.heap[b]? := TyB.fr h (by decide) (by decide) f
theorem InN.fr {B0 : Nat} {w w' : World} {n : NT} (h : InN w n) (f : Fr B0 w w') : InN w' n := InS.mono (fun b hb => hb.of_eq (NB.fr hb f)) n (InS.keep (fun b hb => NB.fr hb f) n h)
theorem InN.inT {w : World} {n : NT} (h : InN w n) : InT w.heap.size w n := inS_inT n (InS.mono (fun b hb => hb.lt) n h)

/-- where the tokens lie -/
structure TokIn (w : World) (E : Env) (b off : Nat) : Prop where
  A : E.A = some ⟨b, off, none⟩
  ty : TyB 93 w b
  cells : ∀ i, i < E.T.length → w.cell? ⟨b, off + i * 4, none⟩ = some (.int .i64 (tk E i).kind) ∧ w.cell? ⟨b, off + i * 4 + 1, none⟩ = some (.int .i64 (tk E i).lo) ∧ w.cell? ⟨b, off + i * 4 + 2, none⟩ = some (.int .i64 (tk E i).at_) ∧ w.cell? ⟨b, off + i * 4 + 3, none⟩ = some (.int .i64 (tk E i).hi)
theorem TokIn.keep {w w' : World} {E : Env} {b off : Nat} (h : TokIn w E b off) (e : w'.heap[b]? = w.heap[b]?) : TokIn w' E b off := ⟨h.A, h.ty.of_eq e, fun i hi => by
  obtain ⟨h1, h2, h3, h4⟩ := h.cells i hi
  exact ⟨(World.cell?_of_block (a := ⟨b, off + i * 4, none⟩) e).trans h1, (World.cell?_of_block (a := ⟨b, off + i * 4 + 1, none⟩) e).trans h2, (World.cell?_of_block (a := ⟨b, off + i * 4 + 2, none⟩) e).trans h3, (World.cell?_of_block (a := ⟨b, off + i * 4 + 3, none⟩) e).trans h4⟩⟩
theorem TokIn.fr {B0 : Nat} {w w' : World} {E : Env} {b off : Nat} (h : TokIn w E b off) (f : Fr B0 w w') : TokIn w' E b off := h.keep (TyB.fr h.ty (by decide) (by decide) f)

structure Env.Ok (E : Env) : Prop where
  pos : 0 < E.T.length
  len : E.T.length ≤ 5000
  size : E.s.size ≤ 4096
  bd : ∀ i, i < E.T.length → 0 ≤ (tk E i).at_ ∧ (tk E i).at_ ≤ (tk E i).hi ∧ (tk E i).hi ≤ E.s.size
  end_ : ∀ i, i < E.T.length → ((tk E i).kind = 5 ↔ i + 1 = E.T.length)
def St.Ok (E : Env) (p : St) : Prop := p.k < E.T.length ∧ (p.list.length ≤ p.k ∨ (p.list.length = p.k + 1 ∧ (p.list.getLast?.map Dg.at_) = some (tk E p.k).at_))

/-- the cells of what is wrong -/
def dcells : List Dg → List Value
  | [] => []
  | d :: ds => .int .i64 d.code :: .int .i64 d.at_ :: .int .i64 d.hi :: .string d.text :: .slice none 0 0 :: dcells ds
theorem dcells_append (l m : List Dg) : dcells (l ++ m) = dcells l ++ dcells m := by
  induction l with
  | nil => rfl
  | cons x xs ih => simp [dcells, ih]
theorem dcells_len (l : List Dg) : (dcells l).length = l.length * 5 := by
  induction l with
  | nil => rfl
  | cons x xs ih => simp [dcells, ih]; omega
theorem dcells_get (l : List Dg) : ∀ (i : Nat) (h : i < l.length), (dcells l)[i * 5]? = some (.int .i64 l[i].code) ∧ (dcells l)[i * 5 + 1]? = some (.int .i64 l[i].at_) ∧ (dcells l)[i * 5 + 2]? = some (.int .i64 l[i].hi) ∧ (dcells l)[i * 5 + 3]? = some (.string l[i].text) ∧ (dcells l)[i * 5 + 4]? = some (.slice none 0 0) := by
  induction l with
  | nil => intro i h; simp at h
  | cons x xs ih =>
    intro i h
    cases i with
    | zero => simp [dcells]
    | succ i =>
      have := ih i (by simpa using h)
      rw [show (i + 1) * 5 = i * 5 + 1 + 1 + 1 + 1 + 1 from by omega]
      simpa [dcells, Nat.add_assoc] using this

/-- a parser that stands at p, as it lies in memory -/
structure PIs (B0 bp : Nat) (E : Env) (w : World) (p : St) : Prop where
  base : B0 ≤ bp
  box : ∃ v, w.heap[bp]? = some (.cells #[.string E.s, .slice E.A E.T.length E.c, .int .i64 (p.k : Int), .int .i64 p.last, v] 69 (0, 0)) ∧ w.ownsRow B0 96 5 v p.list.length (dcells p.list)
  tok : ∃ b off, TokIn w E b off
  eok : E.Ok
  ok : p.Ok E
theorem PIs.lt {B0 bp : Nat} {E : Env} {w : World} {p : St} (h : PIs B0 bp E w p) : bp < w.heap.size := by
  obtain ⟨v, hb, _⟩ := h.box
  exact (Array.getElem?_eq_some_iff.1 hb).1
theorem PIs.b0 {B0 bp : Nat} {E : Env} {w : World} {p : St} (h : PIs B0 bp E w p) : B0 ≤ w.heap.size := by have := h.lt; have := h.base; omega
theorem own_later {w w' : World} {B n sz : Nat} {E : TypeId} {v : Value} {xs : List Value} (h : w.ownsRow B E sz v n xs) (hb : Below w.heap.size w w') : w'.ownsRow B E sz v n xs := by
  refine ⟨h.1, ?_⟩
  rcases h.2 with h0 | ⟨g, cap, cur, h1, h2, h3, h4⟩
  · exact .inl h0
  · exact .inr ⟨g, cap, cur, h1, h2, (hb.block g (Array.getElem?_eq_some_iff.1 h3).1).trans h3, h4⟩
theorem PIs.later {B0 bp : Nat} {E : Env} {w w' : World} {p : St} (h : PIs B0 bp E w p) (hb : Below w.heap.size w w') : PIs B0 bp E w' p := by
  obtain ⟨v, h1, h2⟩ := h.box
  obtain ⟨b, off, ht⟩ := h.tok
  exact ⟨h.base, ⟨v, (hb.block bp h.lt).trans h1, own_later h2 hb⟩, ⟨b, off, ht.keep (hb.block b ht.ty.lt)⟩, h.eok, h.ok⟩
/-- the address of a parser -/
abbrev ptr (bp : Nat) : Value := .pointer (some ⟨bp, 0, none⟩)
end Go.Proofs.YtnpcfmoiiecadaaDoor.Par
set_option linter.unusedVariables false
namespace Go.Proofs.YtnpcfmoiiecadaaDoor.Par
open Go.RowKit
open Lx (Tok)

theorem below_drew (w : World) (n : Nat) : Below w.heap.size w (w.drewN n) := ⟨rfl, rfl, rfl, Nat.le_refl _, fun _ _ => rfl⟩

set_option maxHeartbeats 400000 in
theorem kind_any {B0 bp : Nat} {E : Env} {w : World} {p : St} (h : PIs B0 bp E w p) :
    Calls Tryd.prog 23 #[ptr bp] w fun e w' => e = .returned (.int .i64 (knd E p)) ∧ Below w.heap.size w w' := by
  obtain ⟨v, hb, ho⟩ := h.box
  obtain ⟨b, off, ht⟩ := h.tok
  have c1 : w.cell? ⟨bp, 1, none⟩ = some (.slice E.A E.T.length E.c) := Lib.cell_of_heap hb 1
  have c2 : w.cell? ⟨bp, 2, none⟩ = some (.int .i64 (p.k : Int)) := Lib.cell_of_heap hb 2
  rw [ht.A] at c1
  obtain ⟨t0, t1, t2, t3⟩ := ht.cells p.k h.ok.1
  have hk : (p.k : Int) < (E.T.length : Int) := by have := h.ok.1; omega
  have hk0 : (0 : Int) ≤ (p.k : Int) := by omega
  clear ht ho hb t1 t2 t3 h
  unfold ptr
  go_enter Tryd.func23, Tryd.ntmps23
  go_wp2_with (fail)
  go_quiet (fail)
  go_wp2_with (fail)
  go_ret
  exact ⟨rfl, below_drew _ _⟩

set_option maxHeartbeats 400000 in
theorem word_any (s : ByteArray) (t : Tok) (w : World) (hs : s.size ≤ 4096) (h0 : 0 ≤ t.at_) (h1 : t.at_ ≤ t.hi) (h2 : t.hi ≤ s.size) :
    Calls Tryd.prog 54 #[.string s, .agg #[.int .i64 t.kind, .int .i64 t.lo, .int .i64 t.at_, .int .i64 t.hi]] w fun e w' => e = .returned (.string (s.extract t.at_.toNat t.hi.toNat)) ∧ Below w.heap.size w w' := by
  obtain ⟨i, hi⟩ : ∃ i : Nat, t.at_ = (i : Int) := ⟨t.at_.toNat, by omega⟩
  obtain ⟨j, hj⟩ : ∃ j : Nat, t.hi = (j : Int) := ⟨t.hi.toNat, by omega⟩
  have g0 : (0 : Int) ≤ (i : Int) := by omega
  have g1 : (i : Int) ≤ (j : Int) := by omega
  have g2 : (j : Int) ≤ (s.size : Int) := by omega
  rw [hi, hj]
  simp only [Int.toNat_natCast]
  have g3 : i ≤ j := by omega
  have g4 : j ≤ s.size := by omega
  clear h0 h1 h2 hi hj
  go_enter Tryd.func54, Tryd.ntmps54
  go_wp2_with (fail)
  go_ret
  exact ⟨rfl, (Below.refl _ _).alloc (Nat.le_refl _) _⟩

set_option maxHeartbeats 1000000 in
theorem next_any {B0 bp : Nat} {E : Env} {w : World} {p : St} (h : PIs B0 bp E w p) :
    Calls Tryd.prog 45 #[ptr bp] w fun e w' => e = .returned (.string (wd E p.k)) ∧ Below w.heap.size w w' := by
  obtain ⟨v, hb, ho⟩ := h.box
  obtain ⟨b, off, ht⟩ := h.tok
  have c0 : w.cell? ⟨bp, 0, none⟩ = some (.string E.s) := Lib.cell_of_heap hb 0
  have c1 : w.cell? ⟨bp, 1, none⟩ = some (.slice E.A E.T.length E.c) := Lib.cell_of_heap hb 1
  have c2 : w.cell? ⟨bp, 2, none⟩ = some (.int .i64 (p.k : Int)) := Lib.cell_of_heap hb 2
  rw [ht.A] at c1
  obtain ⟨t0, t1, t2, t3⟩ := ht.cells p.k h.ok.1
  have hk : (p.k : Int) < (E.T.length : Int) := by have := h.ok.1; omega
  have hk0 : (0 : Int) ≤ (p.k : Int) := by omega
  have HB := Lib.hid (h.eok.bd p.k h.ok.1)
  have HS := Lib.hid h.eok.size
  have HL := Lib.hid (show bp < w.heap.size from h.lt)
  have HM := Lib.hid ht.ty.lt
  have HC := Lib.hid (show w.cell? ⟨bp, 0, none⟩ = some (.string E.s) ∧ w.cell? ⟨bp, 1, none⟩ = some (.slice (some ⟨b, off, none⟩) E.T.length E.c) ∧ w.cell? ⟨bp, 2, none⟩ = some (.int .i64 (p.k : Int)) ∧ w.cell? ⟨b, off + p.k * 4, none⟩ = some (.int .i64 (tk E p.k).kind) ∧ w.cell? ⟨b, off + p.k * 4 + 1, none⟩ = some (.int .i64 (tk E p.k).lo) ∧ w.cell? ⟨b, off + p.k * 4 + 2, none⟩ = some (.int .i64 (tk E p.k).at_) ∧ w.cell? ⟨b, off + p.k * 4 + 3, none⟩ = some (.int .i64 (tk E p.k).hi) from ⟨c0, c1, c2, t0, t1, t2, t3⟩)
  clear ht ho hb h
  unfold ptr wd
  generalize tk E p.k = t at *
  go_enter Tryd.func45, Tryd.ntmps45
  go_wp2_with (fail)
  go_region_held3 (fun w' => w'.cell? ⟨bp, 0, none⟩ = some (.string E.s) ∧ w'.cell? ⟨bp, 1, none⟩ = some (.slice (some ⟨b, off, none⟩) E.T.length E.c) ∧ w'.cell? ⟨bp, 2, none⟩ = some (.int .i64 (p.k : Int)) ∧ w'.cell? ⟨b, off + p.k * 4, none⟩ = some (.int .i64 t.kind) ∧ w'.cell? ⟨b, off + p.k * 4 + 1, none⟩ = some (.int .i64 t.lo) ∧ w'.cell? ⟨b, off + p.k * 4 + 2, none⟩ = some (.int .i64 t.at_) ∧ w'.cell? ⟨b, off + p.k * 4 + 3, none⟩ = some (.int .i64 t.hi)) (first | with_reducible exact HT1.out | go_keep) ((first | (go_at_call 54; refine (word_any E.s t _ HS.out HB.out.1 HB.out.2.1 HB.out.2.2).mono ?_; rintro e wa ⟨rfl, hb⟩; have HA1 := Lib.hid ((Below.refl w.heap.size w).drew.trans hb); have HT1 := Lib.hid (show wa.cell? ⟨bp, 0, none⟩ = some (.string E.s) ∧ wa.cell? ⟨bp, 1, none⟩ = some (.slice (some ⟨b, off, none⟩) E.T.length E.c) ∧ wa.cell? ⟨bp, 2, none⟩ = some (.int .i64 (p.k : Int)) ∧ wa.cell? ⟨b, off + p.k * 4, none⟩ = some (.int .i64 t.kind) ∧ wa.cell? ⟨b, off + p.k * 4 + 1, none⟩ = some (.int .i64 t.lo) ∧ wa.cell? ⟨b, off + p.k * 4 + 2, none⟩ = some (.int .i64 t.at_) ∧ wa.cell? ⟨b, off + p.k * 4 + 3, none⟩ = some (.int .i64 t.hi) from ⟨(HA1.out.cell (p := ⟨bp, 0, none⟩) HL.out).trans HC.out.1, (HA1.out.cell (p := ⟨bp, 1, none⟩) HL.out).trans HC.out.2.1, (HA1.out.cell (p := ⟨bp, 2, none⟩) HL.out).trans HC.out.2.2.1, (HA1.out.cell (p := ⟨b, _, none⟩) HM.out).trans HC.out.2.2.2.1, (HA1.out.cell (p := ⟨b, _, none⟩) HM.out).trans HC.out.2.2.2.2.1, (HA1.out.cell (p := ⟨b, _, none⟩) HM.out).trans HC.out.2.2.2.2.2.1, (HA1.out.cell (p := ⟨b, _, none⟩) HM.out).trans HC.out.2.2.2.2.2.2⟩); clear hb)))
  go_wp2_with (fail)
  go_ret
  exact ⟨rfl, HA1.out⟩

set_option maxHeartbeats 1000000 in
theorem is_any {B0 bp : Nat} {E : Env} {w : World} {p : St} (h : PIs B0 bp E w p) (x : ByteArray) :
    Calls Tryd.prog 24 #[ptr bp, .string x] w fun e w' => e = .returned (.bool (isW E p x)) ∧ Below w.heap.size w w' := by
  have HP := Lib.hid h
  clear h
  by_cases h5 : knd E p = 5
  · have hr : isW E p x = false := by unfold isW; rw [h5]; rfl
    rw [hr]
    have hk := Lib.hid (kind_any HP.out)
    rw [h5] at hk
    unfold ptr at *
    go_enter Tryd.func24, Tryd.ntmps24
    go_wp2_with (fail)
    refine hk.out.mono ?_
    rintro e w1 ⟨rfl, hb1⟩
    go_wp2_with (fail)
    go_ret
    exact ⟨rfl, hb1⟩
  · have hne : (knd E p != 5) = true := by simpa using h5
    have hr : isW E p x = eqS (wd E p.k) x := by unfold isW; rw [hne]; rfl
    rw [hr]
    unfold eqS
    have hk := Lib.hid (kind_any HP.out)
    have HN := Lib.hid (fun w1 hb => next_any (HP.out.later (w' := w1) hb))
    generalize knd E p = kd at *
    unfold ptr at *
    go_enter Tryd.func24, Tryd.ntmps24
    go_wp2_with (fail)
    refine hk.out.mono ?_
    rintro e w1 ⟨rfl, hb1⟩
    have HN1 := Lib.hid (HN.out w1 hb1)
    have HB1 := Lib.hid hb1
    clear hb1
    go_wp2_with (fail)
    refine HN1.out.mono ?_
    rintro e w2 ⟨rfl, hb2⟩
    have HB2 := Lib.hid (HB1.out.trans (hb2.mono HB1.out.size))
    clear hb2
    go_wp2_with (fail)
    go_ret
    exact ⟨rfl, HB2.out⟩
end Go.Proofs.YtnpcfmoiiecadaaDoor.Par
set_option linter.unusedVariables false
namespace Go.Proofs.YtnpcfmoiiecadaaDoor.Par
open Go.RowKit
open Lx (Tok)

theorem hset {w : World} {b i : Nat} {cs : Array Value} {t : TypeId} (hb : w.heap[b]? = some (.cells cs t (0, 0))) (v : Value) : (w.setCell ⟨b, i, none⟩ v).heap[b]? = some (.cells (cs.setIfInBounds i v) t (0, 0)) := by
  simp [World.setCell, Array.getElem?_modify, hb]
theorem hfrz {w : World} {b : Nat} {cs : Array Value} {t : TypeId} (hb : w.heap[b]? = some (.cells cs t (0, 0))) (i : Nat) : w.frozen? ⟨b, i, none⟩ = false := by
  simp [World.frozen?, hb]
/-- a cell of the parser's own block is written -/
theorem Fr.set {B0 bp : Nat} {w w' : World} (h : Fr B0 w w') (hB : B0 ≤ bp) (hm : Mut w bp) (i : Nat) (v : Value) : Fr B0 w (w'.setCell ⟨bp, i, none⟩ v) :=
  ⟨h.below.setCell (p := ⟨bp, i, none⟩) hB v, fun b hb hn => (Below.heap_setCell w' ⟨bp, i, none⟩ v b (fun e => hn (by rw [show b = bp from e]; exact hm))).trans (h.keep b hb hn)⟩
theorem Fr.drew {B0 : Nat} {w w' : World} (h : Fr B0 w w') : Fr B0 w w'.drew := ⟨h.below.drew, h.keep⟩
theorem PIs.mut {B0 bp : Nat} {E : Env} {w : World} {p : St} (h : PIs B0 bp E w p) : Mut w bp := by
  obtain ⟨v, hb, _⟩ := h.box
  exact .inl ⟨_, _, hb⟩
theorem own_far {w w' : World} {B n sz g0 : Nat} {E : TypeId} {v : Value} {xs : List Value} (h : w.ownsRow B E sz v n xs) (hg : ∀ b, TyB E w b → w'.heap[b]? = w.heap[b]?) : w'.ownsRow B E sz v n xs := by
  refine ⟨h.1, ?_⟩
  rcases h.2 with h0 | ⟨g, cap, cur, h1, h2, h3, h4⟩
  · exact .inl h0
  · exact .inr ⟨g, cap, cur, h1, h2, (hg g ⟨_, _, h3⟩).trans h3, h4⟩
theorem rd_ok {E : Env} {p : St} (h : p.Ok E) (he : E.Ok) (h5 : knd E p ≠ 5) : (rd E p).Ok E := by
  have h1 := h.1
  have h2 : p.k + 1 ≠ E.T.length := fun e => h5 ((he.end_ p.k h.1).2 e)
  refine ⟨by show p.k + 1 < _; omega, .inl ?_⟩
  show p.list.length ≤ p.k + 1
  rcases h.2 with h3 | h3 <;> omega

/-- the parser's own block, written: the place and the end of the last token -/
theorem PIs.moved {B0 bp : Nat} {E : Env} {w W : World} {p : St} {k : Nat} {x : Int} (h : PIs B0 bp E w p) (hsz : W.heap.size = w.heap.size) (hk : ∀ b, b ≠ bp → W.heap[b]? = w.heap[b]?)
    (hbx : ∀ cs, w.heap[bp]? = some (.cells cs 69 (0, 0)) → W.heap[bp]? = some (.cells ((cs.setIfInBounds 3 (.int .i64 x)).setIfInBounds 2 (.int .i64 (k : Int))) 69 (0, 0)))
    (hok : (⟨k, x, p.list⟩ : St).Ok E) : PIs B0 bp E W ⟨k, x, p.list⟩ := by
  obtain ⟨v, h1, h2⟩ := h.box
  obtain ⟨b, off, ht⟩ := h.tok
  have hne : ∀ t b, TyB t w b → t ≠ 69 → b ≠ bp := fun t b hb hn e => by
    obtain ⟨cs, fr, e1⟩ := hb
    rw [e, h1] at e1; cases e1; exact hn rfl
  exact ⟨h.base, ⟨v, by rw [hbx _ h1]; rfl, own_far (g0 := 0) h2 (fun b hb => hk b (hne _ b hb (by decide)))⟩, ⟨b, off, ht.keep (hk b (hne _ b ht.ty (by decide)))⟩, h.eok, hok⟩

set_option maxHeartbeats 1000000 in
theorem read_any {B0 bp : Nat} {E : Env} {w : World} {p : St} (h : PIs B0 bp E w p) (h5 : knd E p ≠ 5) :
    Calls Tryd.prog 28 #[ptr bp] w fun e w' => e = .returned (.string (wd E p.k)) ∧ PIs B0 bp E w' (rd E p) ∧ Fr B0 w w' := by
  have HN := Lib.hid (next_any h)
  have HP := Lib.hid h
  have HO := Lib.hid (rd_ok h.ok h.eok h5)
  clear h h5
  unfold ptr at *
  go_enter Tryd.func28, Tryd.ntmps28
  go_wp2_with (fail)
  refine HN.out.mono ?_
  rintro e w1 ⟨rfl, hb1⟩
  have HP1 := Lib.hid (HP.out.later hb1)
  have HF1 := Lib.hid (Fr.of_below hb1 HP.out.b0)
  clear hb1
  obtain ⟨v, hb, ho⟩ := HP1.out.box
  obtain ⟨b, off, ht⟩ := HP1.out.tok
  have c1 : w1.cell? ⟨bp, 1, none⟩ = some (.slice E.A E.T.length E.c) := Lib.cell_of_heap hb 1
  have c2 : w1.cell? ⟨bp, 2, none⟩ = some (.int .i64 (p.k : Int)) := Lib.cell_of_heap hb 2
  have c3 : w1.cell? ⟨bp, 3, none⟩ = some (.int .i64 p.last) := Lib.cell_of_heap hb 3
  have f2 := hfrz hb 2
  have f3 := hfrz hb 3
  rw [ht.A] at c1
  obtain ⟨t0, t1, t2, t3⟩ := ht.cells p.k HP1.out.ok.1
  have hk : (p.k : Int) < (E.T.length : Int) := by have := HP1.out.ok.1; omega
  have hk0 : (0 : Int) ≤ (p.k : Int) := by omega
  have hk5 : (p.k : Int) ≤ 5000 := by have := HP1.out.eok.len; omega
  have HMV := Lib.hid (show PIs B0 bp E ((w1.setCell ⟨bp, 3, none⟩ (.int .i64 (tk E p.k).hi)).setCell ⟨bp, 2, none⟩ (.int .i64 ((p.k : Int) + 1))).drew (rd E p) from PIs.moved (k := p.k + 1) (x := (tk E p.k).hi) HP1.out (by simp [World.setCell, World.drew]) (fun b' hb' => (Below.heap_setCell _ ⟨bp, 2, none⟩ _ b' hb').trans (Below.heap_setCell _ ⟨bp, 3, none⟩ _ b' hb')) (fun cs hcs => hset (hset hcs _) _) HO.out)
  have HFR := Lib.hid (show Fr B0 w ((w1.setCell ⟨bp, 3, none⟩ (.int .i64 (tk E p.k).hi)).setCell ⟨bp, 2, none⟩ (.int .i64 ((p.k : Int) + 1))).drew from (((HF1.out.set HP.out.base HP.out.mut 3 (.int .i64 (tk E p.k).hi)).set HP.out.base HP.out.mut 2 (.int .i64 ((p.k : Int) + 1))).drew))
  clear ht ho hb t0 t1 t2
  go_wp2_with (fail)
  go_region
  clear c1 c2 c3 f2 f3 t3
  generalize ((w1.setCell ⟨bp, 3, none⟩ (.int .i64 (tk E p.k).hi)).setCell ⟨bp, 2, none⟩ (.int .i64 ((p.k : Int) + 1))).drew = W at *
  go_wp2_with (fail)
  go_ret
  exact ⟨rfl, HMV.out, HFR.out⟩

set_option maxHeartbeats 1000000 in
theorem accept_any {B0 bp : Nat} {E : Env} {w : World} {p : St} (h : PIs B0 bp E w p) (x : ByteArray) :
    Calls Tryd.prog 49 #[ptr bp, .string x] w fun e w' => e = .returned (.bool (isW E p x)) ∧ PIs B0 bp E w' (if isW E p x then rd E p else p) ∧ Fr B0 w w' := by
  have HI := Lib.hid (is_any h x)
  have HP := Lib.hid h
  have HR := Lib.hid (fun w1 hb h5 => read_any (h.later (w' := w1) hb) h5)
  have H5 := Lib.hid (fun (hx : isW E p x = true) => show knd E p ≠ 5 from fun e => by unfold isW at hx; rw [e] at hx; cases hx)
  clear h
  cases hx : isW E p x with
  | false =>
    rw [hx] at HI
    clear hx
    unfold ptr at *
    go_enter Tryd.func49, Tryd.ntmps49
    go_wp2_with (fail)
    refine HI.out.mono ?_
    rintro e w1 ⟨rfl, hb1⟩
    have HB1 := Lib.hid hb1
    clear hb1
    go_wp2_with (fail)
    go_ret
    exact ⟨rfl, HP.out.later HB1.out, Fr.of_below HB1.out HP.out.b0⟩
  | true =>
    have H6 := Lib.hid (H5.out hx)
    rw [hx] at HI
    clear hx
    unfold ptr at *
    go_enter Tryd.func49, Tryd.ntmps49
    go_wp2_with (fail)
    refine HI.out.mono ?_
    rintro e w1 ⟨rfl, hb1⟩
    have HB1 := Lib.hid hb1
    clear hb1
    go_wp2_with (fail)
    refine (HR.out w1 HB1.out H6.out).mono ?_
    rintro e w2 ⟨rfl, hp2, hf2⟩
    have HP2 := Lib.hid hp2
    have HF2 := Lib.hid ((Fr.of_below HB1.out HP.out.b0).trans hf2)
    clear hp2 hf2
    go_wp2_with (fail)
    go_ret
    exact ⟨rfl, HP2.out, HF2.out⟩
end Go.Proofs.YtnpcfmoiiecadaaDoor.Par
