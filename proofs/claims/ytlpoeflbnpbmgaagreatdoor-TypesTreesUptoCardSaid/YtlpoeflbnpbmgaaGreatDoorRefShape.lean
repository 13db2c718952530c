/- What is proved: Shape of the reference says whether a tree has its shape. -/
import Derived.Test.YtlpoeflbnpbmgaaGreatDoorInS
import Derived.Test.YtlpoeflbnpbmgaaGreatDoorTreeNum
import Derived.Deep.RegionHeld3
import Derived.Deep.RegionLaw
import Derived.Deep.AppendLies
import Derived.Test.YtlpoeflbnpbmgaaGreatDoorRefMost
import Derived.Test.YtlpoeflbnpbmgaaGreatDoorRefText
set_option linter.unusedVariables false
namespace Go.Proofs.YtlpoeflbnpbmgaaGreatDoor
open Go.RowKit

/-- a call that returns a copy of a tree in new memory -/
def Copies (f : Nat) (n : NT) : Prop := ∀ w : World, InT w.heap.size w n → NT.cnt n ≤ 1000000000 →
  Calls Tryz.prog f #[.agg #[.int .i64 n.kind, .string n.text, .int .i64 n.lo, .int .i64 n.hi, .slice n.A n.kids.length n.c]] w fun e w' => ∃ m : NT, e = .returned (.agg #[.int .i64 m.kind, .string m.text, .int .i64 m.lo, .int .i64 m.hi, .slice m.A m.kids.length m.c]) ∧ NT.strip m = NT.strip n ∧ InS (Fresh w w') w' m ∧ Below w.heap.size w w'

/-- the copies made so far: a row of its own, and what lies below each beside it -/
structure Made (B : Nat) (v : Value) (l : List NT) (W : World) : Prop where
  own : W.ownsRow B 24 5 v l.length (ncells l)
  kids : ∀ x ∈ l, InS (fun b => B ≤ b ∧ b < W.heap.size ∧ v.ownBlock ≠ some b) W x
theorem Made.nil (B : Nat) (W : World) : Made B (.slice none 0 0) [] W := ⟨World.ownsRow_nil _ _ _ _, by simp⟩
theorem Made.below {B : Nat} {v : Value} {l : List NT} {W W' : World} (h : Made B v l W) (hb : Below W.heap.size W W') : Made B v l W' :=
  ⟨own_below h.own hb, fun x hx => InS.mono (fun b hb' => ⟨hb'.1, by have := hb.size; omega, hb'.2.2⟩) x (InS.keep (KeepS.of_below hb (fun b hb' => hb'.2.1)) x (h.kids x hx))⟩
/-- one more -/
theorem Made.more {B g cap : Nat} {v : Value} {l : List NT} {x : NT} {W W' w' : World} (h : Made B v l W') (hx : InS (Fresh W W') W' x) (hW : B ≤ W.heap.size) (hlt : ∀ b, v.ownBlock = some b → b < W.heap.size) (o : Obj)
    (hown : w'.ownsRow B 24 5 (.slice (some ⟨g, 0, none⟩) (l.length + 1) cap) (l.length + 1) (ncells l ++ ncells [x])) (hg : (W'.alloc o).grownBy w' v.ownBlock) (hsel : v.ownBlock = some g ∨ g = (W'.alloc o).heap.size) : Made B (.slice (some ⟨g, 0, none⟩) (l.length + 1) cap) (l ++ [x]) w' := by
  have hz := hg.size
  rw [World.size_alloc] at hz hsel
  have hk : KeepS (fun b => b < W'.heap.size ∧ v.ownBlock ≠ some b) W' w' := fun b hb => (hg.block b (by rw [World.size_alloc]; omega) (fun e => hb.2 e.symm)).trans (heap_alloc_old _ _ hb.1)
  have hs : ∀ b, b < W'.heap.size → v.ownBlock ≠ some b → Value.ownBlock (.slice (some ⟨g, 0, none⟩) (l.length + 1) cap) ≠ some b := fun b h1 h2 e => by
    simp [Value.ownBlock] at e
    rcases hsel with hs | hs
    · exact h2 (by rw [hs, e])
    · omega
  refine ⟨by rw [ncells_append, List.length_append]; exact hown, fun y hy => ?_⟩
  rcases List.mem_append.1 hy with hy | hy
  · refine InS.mono (fun b hb => ⟨hb.1, by omega, hs b hb.2.1 hb.2.2⟩) y (InS.keep (fun b hb => hk b ⟨hb.2.1, hb.2.2⟩) y (h.kids y hy))
  · simp at hy
    subst hy
    have h1 : InS (fun b => B ≤ b ∧ b < W'.heap.size ∧ v.ownBlock ≠ some b) W' y := InS.mono (fun b hb => ⟨by have := hb.1; omega, hb.2, fun e => by have := hlt b e; have := hb.1; omega⟩) y hx
    exact InS.mono (fun b hb => ⟨hb.1, by omega, hs b hb.2.1 hb.2.2⟩) y (InS.keep (fun b hb => hk b ⟨hb.2.1, hb.2.2⟩) y h1)
/-- what was made, as a list in new memory -/
theorem Made.out {w W : World} {v : Value} {l : List NT} (h : Made w.heap.size v l W) : ∃ A c, v = .slice A l.length c ∧ l.length ≤ c ∧ RowS (Fresh w W) W A l ∧ ∀ x ∈ l, InS (Fresh w W) W x := by
  obtain ⟨A, c, hv, hc, hr⟩ := nodes_ownS h.own
  exact ⟨A, c, hv, hc, hr.mono (fun b hb => h.own.lt b hb), fun x hx => InS.mono (fun b hb => ⟨hb.1, hb.2.1⟩) x (h.kids x hx)⟩

end Go.Proofs.YtlpoeflbnpbmgaaGreatDoor
set_option linter.unusedVariables false
namespace Go.Proofs.YtlpoeflbnpbmgaaGreatDoor
open Go.RowKit

def zeroN : NT := .mk 0 ⟨#[]⟩ 0 0 none 0 []
/-- what Get gives: a copy, or the node without anything -/
def GetRes (o : Option NT) (w w' : World) (m : NT) : Prop := (∀ x, o = some x → NT.strip m = NT.strip x ∧ InS (Fresh w w') w' m) ∧ (o = none → m = zeroN)
theorem zero_box (w : World) : NBox (w.alloc (.cells #[.int .i64 0, .string ⟨#[]⟩, .int .i64 0, .int .i64 0, .slice none 0 0] 24)) w.heap.size zeroN := heap_alloc_new w _
theorem zero_cells {w : World} {b : Nat} (h : NBox w b zeroN) : w.cell? ⟨b, 0, none⟩ = some (.int .i64 0) ∧ w.cell? ⟨b, 1, none⟩ = some (.string ⟨#[]⟩) ∧ w.cell? ⟨b, 2, none⟩ = some (.int .i64 0) ∧ w.cell? ⟨b, 3, none⟩ = some (.int .i64 0) ∧ w.cell? ⟨b, 4, none⟩ = some (.slice none 0 0) := h.cells
theorem put5_far (X : World) {b k : Nat} (x : NT) (h : k ≠ b) : (put5 X b x).heap[k]? = X.heap[k]? := by
  have e : ∀ (X : World) (o : Nat) (v : Value), (X.setCell ⟨b, o, none⟩ v).heap[k]? = X.heap[k]? := fun X o v => Below.heap_setCell X ⟨b, o, none⟩ v k (by show k ≠ b; exact h)
  unfold put5
  rw [e, e, e, e, e]

end Go.Proofs.YtlpoeflbnpbmgaaGreatDoor
set_option linter.unusedVariables false
namespace Go.Proofs.YtlpoeflbnpbmgaaGreatDoor
open Go.RowKit

namespace NT
mutual
def bare : NT → NT
  | mk k t _ _ _ _ ks => mk k t 0 0 none 0 (bares ks)
def bares : List NT → List NT
  | [] => []
  | k :: ks => bare k :: bares ks
end
theorem bares_map (l : List NT) : bares l = l.map bare := by
  induction l with
  | nil => rfl
  | cons x xs ih => simp [bares, ih]
theorem bare_eq (n : NT) : bare n = mk n.kind n.text 0 0 none 0 (n.kids.map bare) := by cases n; simp [bare, bares_map, kind, text, kids]
end NT

/-- a call that returns the tree without places -/
def Bares (f : Nat) (n : NT) : Prop := ∀ w : World, InT w.heap.size w n → NT.cnt n ≤ 1000000000 →
  Calls Tryz.prog f #[.agg #[.int .i64 n.kind, .string n.text, .int .i64 n.lo, .int .i64 n.hi, .slice n.A n.kids.length n.c]] w fun e w' => ∃ m : NT, e = .returned (.agg #[.int .i64 m.kind, .string m.text, .int .i64 m.lo, .int .i64 m.hi, .slice m.A m.kids.length m.c]) ∧ NT.strip m = NT.bare n ∧ InS (Fresh w w') w' m ∧ Below w.heap.size w w'
/-- a variable that holds a node whose kids are being made -/
def BBox (w : World) (b : Nat) (kd : Int) (t : ByteArray) (v : Value) : Prop := w.heap[b]? = some (.cells #[.int .i64 kd, .string t, .int .i64 0, .int .i64 0, v] 24 (0, 0))
theorem BBox.cells {w : World} {b : Nat} {kd : Int} {t : ByteArray} {v : Value} (h : BBox w b kd t v) : w.cell? ⟨b, 0, none⟩ = some (.int .i64 kd) ∧ w.cell? ⟨b, 1, none⟩ = some (.string t) ∧ w.cell? ⟨b, 2, none⟩ = some (.int .i64 0) ∧ w.cell? ⟨b, 3, none⟩ = some (.int .i64 0) ∧ w.cell? ⟨b, 4, none⟩ = some v :=
  ⟨Lib.cell_of_heap h 0, Lib.cell_of_heap h 1, Lib.cell_of_heap h 2, Lib.cell_of_heap h 3, Lib.cell_of_heap h 4⟩
theorem BBox.frozen {w : World} {b : Nat} {kd : Int} {t : ByteArray} {v : Value} (h : BBox w b kd t v) (i : Nat) : w.frozen? ⟨b, i, none⟩ = false := by
  have h' : w.heap[b]? = some (.cells #[.int .i64 kd, .string t, .int .i64 0, .int .i64 0, v] 24 (0, 0)) := h
  simp [World.frozen?, h']
theorem BBox.later {W W' : World} {b B : Nat} {kd : Int} {t : ByteArray} {v : Value} (h : BBox W b kd t v) (hb : Below B W W') (hlt : b < B) : BBox W' b kd t v := (hb.block b hlt).trans h
theorem BBox.alloc {W : World} {b : Nat} {kd : Int} {t : ByteArray} {v : Value} (h : BBox W b kd t v) (o : Obj) : BBox (W.alloc o) b kd t v := (heap_alloc_old _ _ (Array.getElem?_eq_some_iff.1 h).1).trans h
theorem nbox_alloc {W : World} {b : Nat} {x : NT} (h : NBox W b x) (o : Obj) : NBox (W.alloc o) b x := (heap_alloc_old _ _ (Array.getElem?_eq_some_iff.1 h).1).trans h
theorem BBox.grown {W W' : World} {b : Nat} {kd : Int} {t : ByteArray} {v : Value} {row : Option Nat} (h : BBox W b kd t v) (hg : W.grownBy W' row) (hne : row ≠ some b) : BBox W' b kd t v := (hg.block b (Array.getElem?_eq_some_iff.1 h).1 (fun e => hne e.symm)).trans h
theorem nbox_grown {W W' : World} {b : Nat} {x : NT} {row : Option Nat} (h : NBox W b x) (hg : W.grownBy W' row) (hne : row ≠ some b) : NBox W' b x := (hg.block b (Array.getElem?_eq_some_iff.1 h).1 (fun e => hne e.symm)).trans h
theorem Made.base {B B' : Nat} {v : Value} {l : List NT} {W : World} (hB : B' ≤ B) (h : Made B v l W) : Made B' v l W :=
  ⟨own_base hB h.own, fun x hx => InS.mono (fun b hb => ⟨by have := hb.1; omega, hb.2⟩) x (h.kids x hx)⟩
theorem Made.far {B a o : Nat} {v : Value} {l : List NT} {W : World} (h : Made B v l W) (ha : a < B) (u : Value) : Made B v l (W.setCell ⟨a, o, none⟩ u) := by
  have hg : W.grownBy (W.setCell ⟨a, o, none⟩ u) (some a) := ⟨rfl, rfl, rfl, by simp [World.setCell], fun i _ hi => Below.heap_setCell _ _ _ _ (fun e => hi (by simp [e]))⟩
  refine ⟨h.own.kept hg (.inr (fun e => by have := (h.own.lt a e).1; omega)), fun x hx => ?_⟩
  refine InS.mono (fun b hb => ⟨hb.1, by simpa using hb.2.1, hb.2.2⟩) x (InS.keep (fun b hb => Below.heap_setCell W ⟨a, o, none⟩ u b (by show b ≠ a; have := hb.1; omega)) x (h.kids x hx))
theorem bare_sz {wr w1 : World} {o : Obj} {n : Nat} (h : Below n (wr.alloc o).drew w1) : wr.heap.size + 1 ≤ w1.heap.size := by
  have := h.size
  simp at this
  omega
theorem bare_b2 {wr w1 : World} {o : Obj} (ha : Below wr.heap.size wr (wr.alloc o).drew) (h : Below (wr.alloc o).drew.heap.size (wr.alloc o).drew w1) : Below wr.heap.size wr w1 := ha.trans (h.mono ha.size)
theorem bare_far {W : World} {a b : Nat} {x : NT} (hn : NBox W b x) (hne : b ≠ a) (v : Value) : NBox (W.setCell ⟨a, 4, none⟩ v) b x := (Below.heap_setCell W ⟨a, 4, none⟩ v b (by show b ≠ a; exact hne)).trans hn

end Go.Proofs.YtlpoeflbnpbmgaaGreatDoor
set_option linter.unusedVariables false
namespace Go.Proofs.YtlpoeflbnpbmgaaGreatDoor
open Go.RowKit

def sh (n : NT) : Bool := (NT.nds n).all nodeB
theorem ndss_all (l : List NT) : (NT.ndss l).all nodeB = l.all sh := by
  induction l with
  | nil => rfl
  | cons x xs ih => simp only [NT.ndss, List.all_append, List.all_cons, ih]; rfl
theorem sh_eq (n : NT) : sh n = (nodeB n && n.kids.all sh) := by
  unfold sh
  rw [NT.nds_eq, List.all_cons, ndss_all]
  rfl
/-- the kids from the k-th on: of their classes, and of their shapes -/
def restB (kd : Int) (k : Nat) (l : List NT) : Bool := goB kd k l && l.all sh
theorem restB_cons (kd : Int) (k : Nat) (x : NT) (l : List NT) : restB kd k (x :: l) = (clsAt kd k x && sh x && restB kd (k + 1) l) := by
  unfold restB
  simp only [goB, List.all_cons]
  cases clsAt kd k x <;> cases sh x <;> cases goB kd (k + 1) l <;> simp
theorem sh_no {n : NT} (h : kindOk n.kind = false) : sh n = false := by rw [sh_eq]; unfold nodeB; rw [h]; rfl
theorem sh_of {n : NT} (h : kindOk n.kind = true) (hl : n.kids.length ≤ 4096) : sh n = (textB n.kind n.text && (decide (loK n.kind ≤ (n.kids.length : Int)) && decide ((n.kids.length : Int) ≤ hiK n.kind) && restB n.kind 0 n.kids)) := by
  rw [sh_eq]
  unfold nodeB restB
  rw [h, kids_eq h _ hl]
  cases textB n.kind n.text <;> cases decide (loK n.kind ≤ (n.kids.length : Int)) <;> cases decide ((n.kids.length : Int) ≤ hiK n.kind) <;> simp

/-- a call that says whether a tree has its shape -/
def ShapeC (f : Nat) (n : NT) : Prop := ∀ w : World, InT w.heap.size w n → NT.cnt n ≤ 4096 →
  Calls Tryz.prog f #[.agg #[.int .i64 n.kind, .string n.text, .int .i64 n.lo, .int .i64 n.hi, .slice n.A n.kids.length n.c]] w fun e w' => e = .returned (.bool (sh n)) ∧ Below w.heap.size w w'

set_option maxHeartbeats 8000000 in
set_option maxRecDepth 100000 in
theorem r_shape_any : ∀ n : NT, ShapeC 37 n := NT.ind fun n ih w hin hcn => by
  have IH := Lib.hid ih
  have HI := Lib.hid hin
  have hkl := NT.kids_len n
  clear ih hin
  have HBX := Lib.hid ((Below.refl w.heap.size w).alloc (Nat.le_refl _) (.cells #[.int .i64 n.kind, .string n.text, .int .i64 n.lo, .int .i64 n.hi, .slice n.A n.kids.length n.c] 24))
  cases hok : kindOk n.kind with
  | false =>
    have hv := Lib.hid (sh_no hok)
    have hk : n.kind < 0 ∨ n.kind = 1 ∨ 29 < n.kind := by
      unfold kindOk at hok
      simp only [decide_eq_false_iff_not] at hok
      omega
    clear hok
    by_cases h0 : n.kind < 0
    · have e0 : decide (n.kind < 0) = true := by simpa using h0
      clear hk h0
      go_enter Tryz.func37, Tryz.ntmps37
      go_wp2_with (fail)
      go_ret
      exact ⟨retB hv.out, HBX.out⟩
    · have e0 : decide (n.kind < 0) = false := by simpa using h0
      by_cases h1 : n.kind = 1
      · have e1 : (n.kind == 1) = true := by simpa using h1
        clear hk h0 h1
        go_enter Tryz.func37, Tryz.ntmps37
        go_wp2_with (fail)
        go_ret
        exact ⟨retB hv.out, HBX.out⟩
      · have e1 : (n.kind == 1) = false := by simpa using h1
        have e2 : decide (29 < n.kind) = true := by simp; omega
        clear hk h0 h1
        go_enter Tryz.func37, Tryz.ntmps37
        go_wp2_with (fail)
        go_ret
        exact ⟨retB hv.out, HBX.out⟩
  | true =>
    have HV := Lib.hid (sh_of hok (by omega))
    have HM := Lib.hid (fun w1 => r_most_any n.kind hok w1)
    have HKC := Lib.hid (fun (i : Nat) (hi : (i : Int) < hiK n.kind) => r_kid_any hok i hi)
    have HT := Lib.hid (fun w1 => r_text_any n w1)
    have hk : 0 ≤ n.kind ∧ n.kind ≠ 1 ∧ n.kind ≤ 29 := by
      unfold kindOk at hok
      simp only [decide_eq_true_eq] at hok
      omega
    have e0 : decide (n.kind < 0) = false := by simp; omega
    have e1 : (n.kind == 1) = false := by simp; omega
    have e2 : decide (29 < n.kind) = false := by simp; omega
    clear hk hok
    have HN := Lib.hid (NBox.new w n)
    generalize hiK n.kind = hi at *
    generalize loK n.kind = lo at *
    cases htx : textB n.kind n.text with
    | false =>
      rw [htx] at HV HT
      clear htx
      have hv := Lib.hid (show sh n = false from HV.out)
      go_enter Tryz.func37, Tryz.ntmps37
      go_wp2_with (fail)
      refine (HT.out _).mono ?_
      rintro e w' ⟨rfl, hb⟩
      go_wp2_with (fail)
      go_ret
      exact ⟨retB hv.out, HBX.out.trans (hb.mono HBX.out.size)⟩
    | true =>
      rw [htx] at HV HT
      clear htx
      go_enter Tryz.func37, Tryz.ntmps37
      go_wp2_with (fail)
      refine (HT.out _).mono ?_
      rintro e w2 ⟨rfl, hb⟩
      have HB2 := Lib.hid (HBX.out.trans (hb.mono HBX.out.size))
      have HN2 := Lib.hid (HN.out.below hb (by simp))
      clear hb HN
      obtain ⟨c0, c1, c2, c3, c4⟩ := HN2.out.cells
      go_wp2_with (fail)
      refine (HM.out _).mono ?_
      rintro e w3 ⟨rfl, rfl⟩
      by_cases h1 : (n.kids.length : Int) < lo
      · have hv := Lib.hid (show sh n = false by rw [HV.out, show decide (lo ≤ (n.kids.length : Int)) = false from by simp; omega]; rfl)
        go_wp2_with (fail)
        go_ret
        exact ⟨retB hv.out, HB2.out⟩
      · by_cases h2 : hi < (n.kids.length : Int)
        · have hv := Lib.hid (show sh n = false by rw [HV.out, show decide ((n.kids.length : Int) ≤ hi) = false from by simp; omega]; simp)
          go_wp2_with (fail)
          go_ret
          exact ⟨retB hv.out, HB2.out⟩
        · have HV2 := Lib.hid (show sh n = restB n.kind 0 n.kids by rw [HV.out, show decide (lo ≤ (n.kids.length : Int)) = true from by simp; omega, show decide ((n.kids.length : Int) ≤ hi) = true from by simp; omega]; rfl)
          go_wp2_with (fail)
          clear c0 c1 c2 c3 c4 HV HT HM h1
          go_loopw [5] (fun i wr => ∃ k : Nat, k ≤ n.kids.length ∧ i = .int .i64 (k : Int) ∧ Hid (sh n = restB n.kind k (n.kids.drop k)) ∧ Hid (NBox wr w.heap.size n) ∧ Hid (Below w.heap.size w wr)) (fun i _ => n.kids.length - (intOf i).toNat)
          case atStart => exact ⟨0, Nat.zero_le _, rfl, HV2, HN2, HB2⟩
          case round =>
            obtain ⟨k, hk, rfl, hrs, hnb, hbw⟩ := hrel
            obtain ⟨b0, b1, b2, b3, b4⟩ := hnb.out.cells
            have hzr : w.heap.size < wr.heap.size := (Array.getElem?_eq_some_iff.1 hnb.out).1
            by_cases hlt : k < n.kids.length
            · obtain ⟨b, off, hA, hb, hcw⟩ := HI.out.cells k hlt
              have HCW := Lib.hid hcw
              obtain ⟨c0, c1, c2, c3, c4⟩ := hcw.below hbw.out hb
              clear hcw
              have HIX := Lib.hid (InT.kidAt HI.out hlt)
              have HX := Lib.hid (IH.out _ (List.getElem_mem hlt))
              have HCK := Lib.hid (NT.cnt_kid (List.getElem_mem hlt))
              have hd : n.kids.drop k = n.kids[k] :: n.kids.drop (k + 1) := List.drop_eq_getElem_cons hlt
              rw [hd, restB_cons] at hrs
              clear hd
              rw [hA] at b4
              have HAE := Lib.hid hA
              clear hA
              have g1 : (0 : Int) ≤ (k : Int) := by omega
              have g2 : (k : Int) < (n.kids.length : Int) := by omega
              have HKD := Lib.hid (HKC.out k (by omega))
              generalize n.kids[k] = x at *
              have HK := Lib.hid (show ∀ w' : World, Below w.heap.size w w' → NBox w' w.heap.size n → w'.cell? ⟨w.heap.size, 0, none⟩ = some (.int .i64 n.kind) ∧ w'.cell? ⟨w.heap.size, 4, none⟩ = some (.slice (some ⟨b, off, none⟩) n.kids.length n.c) ∧ w'.cell? ⟨b, off + k * 5, none⟩ = some (.int .i64 x.kind) ∧ w'.cell? ⟨b, off + k * 5 + 1, none⟩ = some (.string x.text) ∧ w'.cell? ⟨b, off + k * 5 + 2, none⟩ = some (.int .i64 x.lo) ∧ w'.cell? ⟨b, off + k * 5 + 3, none⟩ = some (.int .i64 x.hi) ∧ w'.cell? ⟨b, off + k * 5 + 4, none⟩ = some (.slice x.A x.kids.length x.c) from fun w' hb2 hn2 => ⟨hn2.cells.1, by have := hn2.cells.2.2.2.2; rw [HAE.out] at this; exact this, HCW.out.below hb2 hb⟩)
              cases hcl : clsAt n.kind k x with
              | false =>
                rw [hcl] at hrs
                have hv := Lib.hid (show sh n = false from hrs.out)
                have HKX := Lib.hid (fun w1 => show Calls Tryz.prog 53 #[.int .i64 n.kind, .int .i64 (k : Int), .agg #[.int .i64 x.kind, .string x.text, .int .i64 x.lo, .int .i64 x.hi, .slice x.A x.kids.length x.c]] w1 fun e w' => e = .returned (.bool false) ∧ Below w1.heap.size w1 w' from by have h := HKD.out x w1; rw [hcl] at h; exact h)
                clear hcl
                go_wp2_with (fail)
                first | (go_region_law (first | (go_simp; go_at_call 53; refine (HKX.out _).mono ?_; rintro e w4 ⟨rfl, hb4⟩; have HB4 := Lib.hid (hbw.out.drew.trans (hb4.mono hbw.out.size)); clear hb4))) | fail
                all_goals
                  go_wp2_with (fail)
                  go_ret
                  exact ⟨retB hv.out, HB4.out⟩
              | true =>
                rw [hcl] at hrs
                have HKX := Lib.hid (fun w1 => show Calls Tryz.prog 53 #[.int .i64 n.kind, .int .i64 (k : Int), .agg #[.int .i64 x.kind, .string x.text, .int .i64 x.lo, .int .i64 x.hi, .slice x.A x.kids.length x.c]] w1 fun e w' => e = .returned (.bool true) ∧ Below w1.heap.size w1 w' from by have h := HKD.out x w1; rw [hcl] at h; exact h)
                clear hcl
                cases hsx : sh x with
                | false =>
                  rw [hsx] at hrs
                  have hv := Lib.hid (show sh n = false from hrs.out)
                  have HXX := Lib.hid (fun w1 h1 => show Calls Tryz.prog 37 #[.agg #[.int .i64 x.kind, .string x.text, .int .i64 x.lo, .int .i64 x.hi, .slice x.A x.kids.length x.c]] w1 fun e w' => e = .returned (.bool false) ∧ Below w1.heap.size w1 w' from by have h := HX.out w1 h1 (by have := HCK.out; omega); rw [hsx] at h; exact h)
                  clear hsx
                  go_wp2_with (fail)
                  go_region_held3 (fun w' => w'.cell? ⟨w.heap.size, 0, none⟩ = some (.int .i64 n.kind) ∧ w'.cell? ⟨w.heap.size, 4, none⟩ = some (.slice (some ⟨b, off, none⟩) n.kids.length n.c) ∧ w'.cell? ⟨b, off + k * 5, none⟩ = some (.int .i64 x.kind) ∧ w'.cell? ⟨b, off + k * 5 + 1, none⟩ = some (.string x.text) ∧ w'.cell? ⟨b, off + k * 5 + 2, none⟩ = some (.int .i64 x.lo) ∧ w'.cell? ⟨b, off + k * 5 + 3, none⟩ = some (.int .i64 x.hi) ∧ w'.cell? ⟨b, off + k * 5 + 4, none⟩ = some (.slice x.A x.kids.length x.c)) (first | exact HS5.out | exact HSS.out | go_keep) ((first | (go_at_call 53; refine (HKX.out _).mono ?_; rintro e w4 ⟨rfl, hb4⟩; have HB4 := Lib.hid (hbw.out.drew.trans (hb4.mono hbw.out.size)); have HN4 := Lib.hid (hnb.out.below (show Below wr.heap.size wr w4 from (Below.refl wr.heap.size wr).drew.trans hb4) hzr); have HSS := Lib.hid (HK.out w4 HB4.out HN4.out); clear hb4) | (go_at_call 37; refine (HXX.out _ (InT.later HIX.out HB4.out)).mono ?_; rintro e w5 ⟨rfl, hb5⟩; have HB5 := Lib.hid (HB4.out.trans (hb5.mono HB4.out.size)); have HN5 := Lib.hid (HN4.out.below hb5 (Array.getElem?_eq_some_iff.1 HN4.out).1); have HS5 := Lib.hid (HK.out w5 HB5.out HN5.out); clear hb5)))
                  go_wp2_with (fail)
                  go_ret
                  exact ⟨retB hv.out, HB5.out⟩
                | true =>
                  rw [hsx] at hrs
                  have HR := Lib.hid (show sh n = restB n.kind (k + 1) (n.kids.drop (k + 1)) from hrs.out)
                  have HXX := Lib.hid (fun w1 h1 => show Calls Tryz.prog 37 #[.agg #[.int .i64 x.kind, .string x.text, .int .i64 x.lo, .int .i64 x.hi, .slice x.A x.kids.length x.c]] w1 fun e w' => e = .returned (.bool true) ∧ Below w1.heap.size w1 w' from by have h := HX.out w1 h1 (by have := HCK.out; omega); rw [hsx] at h; exact h)
                  clear hsx
                  go_wp2_with (fail)
                  go_region_held3 (fun w' => w'.cell? ⟨w.heap.size, 0, none⟩ = some (.int .i64 n.kind) ∧ w'.cell? ⟨w.heap.size, 4, none⟩ = some (.slice (some ⟨b, off, none⟩) n.kids.length n.c) ∧ w'.cell? ⟨b, off + k * 5, none⟩ = some (.int .i64 x.kind) ∧ w'.cell? ⟨b, off + k * 5 + 1, none⟩ = some (.string x.text) ∧ w'.cell? ⟨b, off + k * 5 + 2, none⟩ = some (.int .i64 x.lo) ∧ w'.cell? ⟨b, off + k * 5 + 3, none⟩ = some (.int .i64 x.hi) ∧ w'.cell? ⟨b, off + k * 5 + 4, none⟩ = some (.slice x.A x.kids.length x.c)) (first | exact HS5.out | exact HSS.out | go_keep) ((first | (go_at_call 53; refine (HKX.out _).mono ?_; rintro e w4 ⟨rfl, hb4⟩; have HB4 := Lib.hid (hbw.out.drew.trans (hb4.mono hbw.out.size)); have HN4 := Lib.hid (hnb.out.below (show Below wr.heap.size wr w4 from (Below.refl wr.heap.size wr).drew.trans hb4) hzr); have HSS := Lib.hid (HK.out w4 HB4.out HN4.out); clear hb4) | (go_at_call 37; refine (HXX.out _ (InT.later HIX.out HB4.out)).mono ?_; rintro e w5 ⟨rfl, hb5⟩; have HB5 := Lib.hid (HB4.out.trans (hb5.mono HB4.out.size)); have HN5 := Lib.hid (HN4.out.below hb5 (Array.getElem?_eq_some_iff.1 HN4.out).1); have HS5 := Lib.hid (HK.out w5 HB5.out HN5.out); clear hb5)))
                  go_wp2_with (fail)
                  exact ⟨⟨k + 1, by omega, by go_num, HR, HN5, HB5⟩, by simp [intOf]; omega⟩
            · have hd : n.kids.drop k = [] := List.drop_eq_nil_of_le (by omega)
              rw [hd] at hrs
              have hv := Lib.hid (show sh n = true from hrs.out)
              clear hd
              go_wp2_with (fail)
              go_ret
              exact ⟨retB hv.out, hbw.out⟩
end Go.Proofs.YtlpoeflbnpbmgaaGreatDoor
