/- What is proved: Format returns the text of a value, of any type. -/
import Derived.Test.YtoopnddlcofhoaaGreatDoorVaSplit
import Derived.Test.YtoopnddlcofhoaaGreatDoorVaVal
import Derived.Test.YtoopnddlcofhoaaGreatDoorShelf
import Derived.Test.YtoopnddlcofhoaaGreatDoorTyValid
import Derived.Lib.ItoaMem
import Derived.Lib.AppendIntMem
import Derived.Lib.SmallJoins
import Derived.Test.YtoopnddlcofhoaaGreatDoorVaFmt
set_option linter.unusedVariables false
namespace Go.Proofs.YtoopnddlcofhoaaGreatDoor
open Go.RowKit

abbrev pA (P : Nat) : Value := .pointer (some ⟨P, 0, none⟩)
abbrev rdTake (P B : Nat) : Value := .func (.func 74) #[] #[pA P, pA B]
abbrev rdEnd (P B : Nat) : Value := .func (.func 73) #[] #[pA P, pA B]
abbrev rdScal (P B T E : Nat) : Value := .func (.func 76) #[] #[pA T, pA E, pA B, pA P]
theorem block_ltR {w : World} {b : Nat} {o : Obj} (h : w.heap[b]? = some o) : b < w.heap.size := (Array.getElem?_eq_some_iff.1 h).1
/-- words that are read, up to the place p -/
structure Rd (w : World) (P B : Nat) (A : Option Addr) (c : Nat) (W : List ByteArray) (p : Nat) : Prop where
  hp : w.heap[P]? = some (.cells #[.int .i64 (p : Int)] 3 (0, 0))
  hb : w.heap[B]? = some (.cells #[.slice A W.length c] 38 (0, 0))
  bp : B ≠ P
  room : W.length ≤ c
  few : W.length ≤ 5000
  row : 0 < W.length → ∃ b off, A = some ⟨b, off, none⟩ ∧ b < w.heap.size ∧ b ≠ P ∧ ∀ (i : Nat) (h : i < W.length), w.cell? ⟨b, off + i, none⟩ = some (.string W[i])
/-- the boxes of the functions themselves -/
structure Rs (w : World) (P B T E : Nat) : Prop where
  ht : w.heap[T]? = some (.cells #[rdTake P B] 91 (0, 0))
  he : w.heap[E]? = some (.cells #[rdEnd P B] 29 (0, 0))
  tp : T ≠ P
  ep : E ≠ P
theorem cell_one {w : World} {b : Nat} {v : Value} {t : TypeId} {fr : Nat × Nat} (h : w.heap[b]? = some (.cells #[v] t fr)) : w.cell? ⟨b, 0, none⟩ = some v := by simp [World.cell?, h]
theorem Rd.cp {w : World} {P B : Nat} {A : Option Addr} {c : Nat} {W : List ByteArray} {p : Nat} (h : Rd w P B A c W p) : w.cell? ⟨P, 0, none⟩ = some (.int .i64 (p : Int)) := cell_one h.hp
theorem Rd.cb {w : World} {P B : Nat} {A : Option Addr} {c : Nat} {W : List ByteArray} {p : Nat} (h : Rd w P B A c W p) : w.cell? ⟨B, 0, none⟩ = some (.slice A W.length c) := cell_one h.hb
theorem Rd.kept {w w' : World} {P B : Nat} {A : Option Addr} {c : Nat} {W : List ByteArray} {p : Nat} {row : Option Nat} (h : Rd w P B A c W p) (g : w.grownBy w' row) (hr : ∀ k, row = some k → k ≠ P ∧ k ≠ B ∧ (0 < W.length → ∀ b off, A = some ⟨b, off, none⟩ → b ≠ k)) : Rd w' P B A c W p := by
  have hP : P < w.heap.size := block_ltR h.hp
  have hB : B < w.heap.size := block_ltR h.hb
  refine ⟨(g.block P hP (fun e => (hr _ e.symm).1 rfl)).trans h.hp, (g.block B hB (fun e => (hr _ e.symm).2.1 rfl)).trans h.hb, h.bp, h.room, h.few, fun h0 => ?_⟩
  obtain ⟨b, off, hA, hb, hbp, hc⟩ := h.row h0
  exact ⟨b, off, hA, Nat.lt_of_lt_of_le hb g.size, hbp, fun i hi => (World.cell?_of_block (w := w) (a := ⟨b, off + i, none⟩) (g.block b hb (fun e => (hr _ e.symm).2.2 h0 b off hA rfl))).trans (hc i hi)⟩
theorem Rs.kept {w w' : World} {P B T E : Nat} {row : Option Nat} (h : Rs w P B T E) (g : w.grownBy w' row) (hr : ∀ k, row = some k → k ≠ T ∧ k ≠ E) : Rs w' P B T E :=
  ⟨(g.block T (block_ltR h.ht) (fun e => (hr _ e.symm).1 rfl)).trans h.ht, (g.block E (block_ltR h.he) (fun e => (hr _ e.symm).2 rfl)).trans h.he, h.tp, h.ep⟩
/-- the place is set -/
theorem Rd.set_ {w : World} {P B : Nat} {A : Option Addr} {c : Nat} {W : List ByteArray} {p : Nat} (h : Rd w P B A c W p) (q : Nat) : Rd (w.setCell ⟨P, 0, none⟩ (.int .i64 (q : Int))) P B A c W q ∧ w.grownBy (w.setCell ⟨P, 0, none⟩ (.int .i64 (q : Int))) (some P) := by
  have far : ∀ k, k ≠ P → (w.setCell ⟨P, 0, none⟩ (.int .i64 (q : Int))).heap[k]? = w.heap[k]? := fun k hk => Below.heap_setCell w ⟨P, 0, none⟩ _ k hk
  have sz : (w.setCell ⟨P, 0, none⟩ (.int .i64 (q : Int))).heap.size = w.heap.size := by simp [World.setCell]
  refine ⟨⟨?_, (far B h.bp).trans h.hb, h.bp, h.room, h.few, fun h0 => ?_⟩, ⟨rfl, rfl, rfl, by omega, fun k _ hk => far k (fun e => hk (by rw [e]))⟩⟩
  · have := h.hp
    simp [World.setCell, Array.getElem?_modify, this]
  · obtain ⟨b, off, hA, hb, hbp, hc⟩ := h.row h0
    exact ⟨b, off, hA, by omega, hbp, fun i hi => (World.cell?_of_block (w := w) (a := ⟨b, off + i, none⟩) (far b hbp)).trans (hc i hi)⟩
theorem Rd.fz {w : World} {P B : Nat} {A : Option Addr} {c : Nat} {W : List ByteArray} {p : Nat} (h : Rd w P B A c W p) : w.frozen? ⟨P, 0, none⟩ = false := by simp [World.frozen?, h.hp]

/-- where a part of a slice of strings lies -/
def restS (A : Option Addr) (c p : Nat) : Option Addr := if c = p then A else A.map (·.add (p * 1))
theorem run_part0 (A : Option Addr) (len c p q : Nat) (h1 : p ≤ q) (h2 : q ≤ c) (W : World) : (Instr.slice 38 (.slice A len c) (some (.int .i64 (p : Int))) (some (.int .i64 (q : Int))) none).run Tryz.prog W = .ok (.slice (restS A c p) (q - p) (c - p)) W := by
  obtain ⟨i0, hi0, hz0, hz1, hz2⟩ := info_parts infoStr
  simp [Instr.slice, run_underlying Tryz.underlying38, Instr.sliceBounds, Instr.sliceBound, asIntOf, h1, h2, sizeOf, typeInfo, hi0, hz1, restS]
theorem run_part (A : Option Addr) (len c p n : Nat) (h : p + n ≤ c) (W : World) : (Instr.slice 38 (.slice A len c) (some (.int .i64 (p : Int))) (some (.int .i64 ((p : Int) + (n : Int)))) none).run Tryz.prog W = .ok (.slice (restS A c p) n (c - p)) W := by
  have e := run_part0 A len c p (p + n) (by omega) h W
  rw [Int.natCast_add, Nat.add_sub_cancel_left] at e
  exact e
theorem getD_some {l : List ByteArray} {j : Nat} (h : j < l.length) : l.getD j ByteArray.empty = l[j] := by simp [List.getD, h]
theorem eq_words {w : World} {P B : Nat} {A : Option Addr} {c : Nat} {W : List ByteArray} {p : Nat} (h : Rd w P B A c W p) (Al : Option Addr) (cl : Nat) (L : List ByteArray) (hL : Lx.StrA w Al L) (hp : p + L.length ≤ W.length) :
    Calls Tryz.prog 75 #[.slice (restS A c p) L.length (c - p), .slice Al L.length cl] w fun e w' => e = .returned (.bool (decide ((W.drop p).take L.length = L))) ∧ ∃ q, w' = w.drewN q := by
  rcases Nat.eq_zero_or_pos L.length with h0 | h0
  · obtain rfl : L = [] := List.eq_nil_of_length_eq_zero h0
    exact (Tryz.slices_Equal_string_empty (restS A c p) Al (c - p) 0 cl w (by omega)).mono fun e w' ⟨he, hw⟩ => ⟨by rw [he]; rfl, 0, hw⟩
  · obtain ⟨b, off, rfl, hb, hbp, hcs⟩ := h.row (by omega)
    obtain ⟨bl, ol, rfl, hbl, hcl⟩ := hL h0
    have hroom := h.room
    have hfew := h.few
    have e : restS (some ⟨b, off, none⟩) c p = some ⟨b, off + p, none⟩ := by
      unfold restS
      rw [if_neg (by omega)]
      simp [Go.WideShapes.add_plain]
    rw [e]
    have hxl : ((W.drop p).take L.length).length = L.length := by simp; omega
    refine (Tryz.slices_Equal_string b (off + p) L.length (c - p) bl ol L.length cl ((W.drop p).take L.length) L w (by omega) (Nat.le_refl _) (by omega) (by omega) (fun j hj => ?_) (fun j hj => ?_)).mono fun e w' ⟨he, hw⟩ => ⟨by rw [he, List.take_take, Nat.min_self, List.take_length], hw⟩
    · rw [getD_some hj, List.getElem_take, List.getElem_drop, Nat.add_assoc]
      exact hcs (p + j) (by omega)
    · rw [getD_some hj]
      exact hcl j hj
theorem enterTake : ∀ args w, (callFunc 74 args).run Tryz.prog w = .ok (.enter 74 args) w := enters_of Tryz.func74 (by kernel_rfl) rfl
theorem enterEnd : ∀ args w, (callFunc 73 args).run Tryz.prog w = .ok (.enter 73 args) w := enters_of Tryz.func73 (by kernel_rfl) rfl
theorem enterScal : ∀ args w, (callFunc 76 args).run Tryz.prog w = .ok (.enter 76 args) w := enters_of Tryz.func76 (by kernel_rfl) rfl

set_option maxHeartbeats 1000000 in
theorem take_no {w : World} {P B : Nat} {A : Option Addr} {c : Nat} {W : List ByteArray} {p : Nat} (h : Rd w P B A c W p) (Al : Option Addr) (cl : Nat) (L : List ByteArray) (hL : Lx.StrA w Al L) (hp : p + L.length ≤ W.length) (hm : (W.drop p).take L.length ≠ L) :
    Calls Tryz.prog 74 #[.slice Al L.length cl, pA P, pA B] w fun e w' => e = .returned (.bool false) ∧ ∃ q, w' = w.drewN q := by
  have HE := Lib.hid (eq_words h Al cl L hL hp)
  rw [decide_eq_false hm] at HE
  have c0 := h.cp
  have c1 := h.cb
  have hroom := h.room
  have hfew := h.few
  have hrun := fun W' => run_part A W.length c p L.length (by omega) W'
  have k1 : IntKind.i64.wrap ((p : Int) + (L.length : Int)) = (p : Int) + L.length := IntWalk.i64_in _ (by omega)
  have k2 : decide ((W.length : Int) < (p : Int) + (L.length : Int)) = false := by simp; omega
  clear hm h hL
  go_enter Tryz.func74, Tryz.ntmps74
  go_wp2_with (fail)
  refine HE.out.mono ?_
  rintro e w1 ⟨rfl, q, rfl⟩
  go_wp2_with (fail)
  go_ret
  exact ⟨rfl, q, rfl⟩

set_option maxHeartbeats 1000000 in
theorem take_yes {w : World} {P B : Nat} {A : Option Addr} {c : Nat} {W : List ByteArray} {p : Nat} (h : Rd w P B A c W p) (Al : Option Addr) (cl : Nat) (L : List ByteArray) (hL : Lx.StrA w Al L) (hp : p + L.length ≤ W.length) (hm : (W.drop p).take L.length = L) :
    Calls Tryz.prog 74 #[.slice Al L.length cl, pA P, pA B] w fun e w' => e = .returned (.bool true) ∧ Rd w' P B A c W (p + L.length) ∧ w.grownBy w' (some P) := by
  have HE := Lib.hid (eq_words h Al cl L hL hp)
  rw [decide_eq_true hm] at HE
  have HRD := Lib.hid h
  have c0 := h.cp
  have c1 := h.cb
  have hroom := h.room
  have hfew := h.few
  have f0 := h.fz
  have hrun := fun W' => run_part A W.length c p L.length (by omega) W'
  have k1 : IntKind.i64.wrap ((p : Int) + (L.length : Int)) = (p : Int) + L.length := IntWalk.i64_in _ (by omega)
  have k2 : decide ((W.length : Int) < (p : Int) + (L.length : Int)) = false := by simp; omega
  clear hm h hL
  go_enter Tryz.func74, Tryz.ntmps74
  go_wp2_with (fail)
  refine HE.out.mono ?_
  rintro e w1 ⟨rfl, q, rfl⟩
  go_wp2_with (fail)
  go_ret
  have hd : Rd (w.drewN q) P B A c W p := ⟨HRD.out.hp, HRD.out.hb, HRD.out.bp, HRD.out.room, HRD.out.few, HRD.out.row⟩
  obtain ⟨h1, h2⟩ := hd.set_ (p + L.length)
  rw [Int.natCast_add] at h1 h2
  exact ⟨rfl, h1, ⟨h2.os, h2.tape, h2.output, h2.size, h2.block⟩⟩

set_option maxHeartbeats 1000000 in
theorem ended_any {w : World} {P B : Nat} {A : Option Addr} {c : Nat} {W : List ByteArray} {p : Nat} (h : Rd w P B A c W p) :
    Calls Tryz.prog 73 #[pA P, pA B] w fun e w' => e = .returned (.bool (decide (p = W.length))) ∧ w = w' := by
  have c0 := h.cp
  have c1 := h.cb
  clear h
  go_enter Tryz.func73, Tryz.ntmps73
  go_wp2_with (fail)
  go_ret
  refine ⟨?_, rfl⟩
  by_cases e : p = W.length
  · rw [decide_eq_true e, e]; simp
  · rw [decide_eq_false e]; simp; omega
end Go.Proofs.YtoopnddlcofhoaaGreatDoor
set_option linter.unusedVariables false
namespace Go.Proofs.YtoopnddlcofhoaaGreatDoor
open Go.RowKit Go.Shelf

/-- the table of powers of ten -/
abbrev Tab10 (w : World) : Prop := Lib.TabIs Tryz.prog w "internal/strconv.uint64pow10" .u64 Lib.pow10Tab
theorem dig_conv (n : Nat) (w : World) : (convert 68 9 (.slice (some ⟨w.heap.size, 0, none⟩) 1 1)).run Tryz.prog (w.alloc (.cells #[.int .u8 (48 + (n : Int) % 10)] 5)) = .ok (.string ⟨#[UInt8.ofNat (48 + n % 10)]⟩) (w.alloc (.cells #[.int .u8 (48 + (n : Int) % 10)] 5)) := by
  have h := run_convert_bytes_arg (P := Tryz.prog) (w.alloc (.cells #[.int .u8 (48 + (n : Int) % 10)] 5)) 68 5 Tryz.underlying68 Tryz.underlying5 w.heap.size 0 1 1 [48 + (n : Int) % 10] rfl (fun i hi => by
    obtain rfl : i = 0 := by omega
    exact Lib.cell_of_heap (heap_alloc_new w _) 0) 9 Tryz.underlying9
  rw [h]
  have e : (48 + (n : Int) % 10).toNat = 48 + n % 10 := by omega
  simp [strOfNums, e]
theorem dec_len : ∀ (k n : Nat), n < 10 ^ (k + 1) → (Lib.decDigits n).length ≤ k + 1
  | 0, n, h => by rw [Lib.decDigits_one (by omega)]; simp
  | k + 1, n, h => by
    by_cases h10 : n < 10
    · rw [Lib.decDigits_one h10]; simp
    · have e : n / 10 < 10 ^ (k + 1) := by rw [Nat.pow_succ] at h; omega
      have ih := dec_len k (n / 10) e
      rw [Lib.decDigits, dif_neg h10, List.length_append]
      simp
      omega
/-- the text of a type -/
def fmtS (t : TyV) : ByteArray :=
  if t.kind = 1 then ⟨#[105, 110, 116]⟩ else if t.kind = 2 then ⟨#[98, 111, 111, 108]⟩ else if t.kind = 3 then (if t.len < 0 then ⟨#[]⟩ else ((⟨#[105, 110, 116, 91]⟩ : ByteArray) ++ ⟨(Lib.decDigits t.len.toNat).toArray⟩) ++ ⟨#[93]⟩)
  else if t.kind = 4 then t.nm else if t.kind = 5 then ⟨#[97, 114, 114, 97, 121]⟩ else if t.kind = 6 then ⟨#[105, 110, 116, 32, 111, 114, 32, 98, 111, 111, 108]⟩ else ⟨#[]⟩
abbrev tyObj (t : TyV) : Obj := .cells #[.int .i64 t.kind, .int .i64 t.len, .string t.nm] 23
end Go.Proofs.YtoopnddlcofhoaaGreatDoor
set_option linter.unusedVariables false
namespace Go.Proofs.YtoopnddlcofhoaaGreatDoor
open Go.RowKit

/-- what stands in front of the scalars, and behind them -/
def frontS (t : TyV) : ByteArray := if t.kind = 3 then ⟨#[91]⟩ else if t.kind = 4 then t.nm ++ ⟨#[40]⟩ else ⟨#[]⟩
def backS (t : TyV) : ByteArray := if t.kind = 3 then ⟨#[93]⟩ else if t.kind = 4 then ⟨#[41]⟩ else ⟨#[]⟩
theorem brk_front (t : TyV) (n : Nat) (h : t.nm.size ≤ n) : (frontS t).size ≤ n + 1 := by
  unfold frontS
  split
  · show 1 ≤ n + 1; omega
  · split
    · rw [ByteArray.size_append]; show _ + 1 ≤ n + 1; omega
    · show 0 ≤ n + 1; omega
theorem brk_back (t : TyV) : (backS t).size ≤ 1 := by
  unfold backS
  split
  · exact Nat.le_refl 1
  · split
    · exact Nat.le_refl 1
    · exact Nat.zero_le 1

set_option maxHeartbeats 1000000 in
theorem brackets_any (t : TyV) (w : World) (h : t.nm.size ≤ 1000) : Calls Tryz.prog 26 #[.agg #[.int .i64 t.kind, .int .i64 t.len, .string t.nm]] w fun e w' => e = .returned (.tuple #[.string (frontS t), .string (backS t)]) ∧ Below w.heap.size w w' := by
  obtain ⟨W2, HW2, hb2, hz2, ht2⟩ := va_start t w
  obtain ⟨c0, c1, c2⟩ := ht2.now
  have HB := Lib.hid hb2
  clear hb2 hz2 ht2
  by_cases k3 : t.kind = 3
  · have HF := Lib.hid (show frontS t = ⟨#[91]⟩ ∧ backS t = ⟨#[93]⟩ from by unfold frontS backS; rw [if_pos k3, if_pos k3]; exact ⟨rfl, rfl⟩)
    have e3 : (t.kind == 3) = true := by rw [k3]; rfl
    clear k3
    go_enter Tryz.func26, Tryz.ntmps26
    go_wp2_with (fail)
    go_ret2
    exact ⟨by rw [HF.out.1, HF.out.2]; rfl, HB.out⟩
  have e3 : (t.kind == 3) = false := by simpa using k3
  by_cases k4 : t.kind = 4
  · have HF := Lib.hid (show frontS t = t.nm ++ ⟨#[40]⟩ ∧ backS t = ⟨#[41]⟩ from by unfold frontS backS; rw [if_neg k3, if_neg k3, if_pos k4, if_pos k4]; exact ⟨rfl, rfl⟩)
    have e4 : (t.kind == 4) = true := by rw [k4]; rfl
    have hs : (⟨#[40]⟩ : ByteArray).size = 1 := rfl
    clear k3 k4
    go_enter Tryz.func26, Tryz.ntmps26
    go_wp2_with (fail)
    go_ret2
    exact ⟨by rw [HF.out.1, HF.out.2]; rfl, HB.out⟩
  · have HF := Lib.hid (show frontS t = ⟨#[]⟩ ∧ backS t = ⟨#[]⟩ from by unfold frontS backS; rw [if_neg k3, if_neg k3, if_neg k4, if_neg k4]; exact ⟨rfl, rfl⟩)
    have e4 : (t.kind == 4) = false := by simpa using k4
    clear k3 k4
    go_enter Tryz.func26, Tryz.ntmps26
    go_wp2_with (fail)
    go_ret2
    exact ⟨by rw [HF.out.1, HF.out.2]; rfl, HB.out⟩

/-- the text of a scalar -/
def scS (q : Bool) (n : Int) : ByteArray := if q then (if n = 0 then ⟨#[102, 97, 108, 115, 101]⟩ else ⟨#[116, 114, 117, 101]⟩) else ⟨(Lib.itoa n).toArray⟩
/-- the texts of scalars -/
def scSs : List TyV → List Int → List ByteArray
  | t :: ts, n :: ns => scS (t.kind == 2) n :: scSs ts ns
  | _, _ => []
theorem scSs_len : ∀ (ts : List TyV) (m : List Int), ts.length = m.length → (scSs ts m).length = ts.length
  | [], [], _ => rfl
  | t :: ts, n :: ns, h => by simp [scSs, scSs_len ts ns (by simpa using h)]
  | [], _ :: _, h => by simp at h
  | _ :: _, [], h => by simp at h
theorem scSs_get : ∀ (ts : List TyV) (m : List Int) (k : Nat) (h1 : k < ts.length) (h2 : k < m.length), (scSs ts m)[k]? = some (scS (ts[k].kind == 2) m[k])
  | t :: ts, n :: ns, 0, _, _ => by simp [scSs]
  | t :: ts, n :: ns, k + 1, h1, h2 => by
    have h := scSs_get ts ns k (by simpa using h1) (by simpa using h2)
    simpa [scSs] using h
  | [], _, _, h1, _ => by simp at h1
  | _ :: _, [], _, _, h2 => by simp at h2
theorem scSs_take (ts : List TyV) (m : List Int) (k : Nat) (h1 : k < ts.length) (h2 : k < m.length) (h : ts.length = m.length) : (scSs ts m).take (k + 1) = (scSs ts m).take k ++ [scS (ts[k].kind == 2) m[k]] := by
  have hl := scSs_len ts m h
  have hg := scSs_get ts m k h1 h2
  rw [List.take_add_one, hg]
  rfl
/-- the text of a value -/
def fmtL (ts : List TyV) (m : List Int) : List UInt8 := Lib.join ((scSs ts m).map (·.data.toList)) [44, 32]
def valS (t : TyV) (l : List RcV) (m : List Int) : ByteArray := frontS t ++ (⟨(fmtL (scalT [t] l) m).toArray⟩ : ByteArray) ++ backS t

theorem fmt_start2 (t : TyV) (w : World) : ∃ W2, (w.alloc (tyObj t)).alloc (tyObj t) = W2 ∧ Below w.heap.size w W2 ∧ W2.heap.size = w.heap.size + 2 ∧ TCells W2 w.heap.size 0 t ∧ TCells W2 (w.heap.size + 1) 0 t := by
  have z1 : (w.alloc (tyObj t)).heap.size = w.heap.size + 1 := by simp
  have b1 := (Below.refl w.heap.size w).alloc (Nat.le_refl _) (tyObj t)
  have b2 := (Below.refl (w.alloc (tyObj t)).heap.size (w.alloc (tyObj t))).alloc (Nat.le_refl _) (tyObj t)
  have t1 : TCells (w.alloc (tyObj t)) w.heap.size 0 t := TCells.of_box (x := t)
  have t2 : TCells ((w.alloc (tyObj t)).alloc (tyObj t)) (w.alloc (tyObj t)).heap.size 0 t := TCells.of_box (x := t)
  rw [z1] at t2
  exact ⟨_, rfl, b1.alloc (by omega) _, by simp, t1.below b2 (by omega), t2⟩

theorem sjoin_own {w : World} {B : Nat} {v : Value} {L : List ByteArray} (h : w.ownsRow B 9 1 v L.length (scells L)) (sep : ByteArray) (hlen : (Lib.join (L.map (·.data.toList)) sep.data.toList).length ≤ 140737488355328) (hL : L.length ≤ 1000000) (W : World) (hb : Below w.heap.size w W) :
    Calls Tryz.prog 11 #[v, .string sep] W fun e w' => e = .returned (.string ⟨(Lib.join (L.map (·.data.toList)) sep.data.toList).toArray⟩) ∧ Below W.heap.size W w' := by
  rcases Nat.eq_zero_or_pos L.length with h0 | h0
  · obtain rfl : L = [] := List.eq_nil_of_length_eq_zero h0
    obtain ⟨A, m, c, rfl, _⟩ := own_formZ h
    have e0 : m = 0 := by
      rcases h.2 with ⟨h1, _⟩ | ⟨g, cap, cur, h1, _⟩
      · injection h1
      · injection h1
    subst e0
    exact (sjoin_none A c sep W).mono fun e w' ⟨he, hw⟩ => ⟨by rw [he]; rfl, hw ▸ Below.refl _ _⟩
  · obtain ⟨g, c, rfl, hc, hg, hcs⟩ := str_own h h0
    exact sjoin_any g 0 c L sep W (fun j x hj => (hb.cell (p := ⟨g, 0 + j, none⟩) hg).trans (hcs j x hj)) (by have := hb.size; omega) (by omega) hc hlen

set_option maxRecDepth 100000 in
set_option maxHeartbeats 8000000 in
theorem vformat_any (t : TyV) (A C : Option Addr) (c cc : Nat) (l : List RcV) (m : List Int) (w : World) (hr : RRow w.heap.size w A l) (hz : ZRow w.heap.size w C m) (hl : l.length ≤ 1000000000) (h20 : ∀ r ∈ l, r.flds.length ≤ 20)
    (hv : validB t l = true) (hm : (scalT [t] l).length = m.length) (hi64 : ∀ n ∈ m, -9223372036854775808 ≤ n ∧ n ≤ 9223372036854775807) (hnm : t.nm.size ≤ 1000) (hsz : (fmtL (scalT [t] l) m).length ≤ 1000000) (htab : Tab10 w) :
    Calls Tryz.prog 8 #[.agg #[.int .i64 t.kind, .int .i64 t.len, .string t.nm], .slice A l.length c, .slice C m.length cc] w fun e w' => e = .returned (.string (valS t l m)) ∧ Below w.heap.size w w' := by
  obtain ⟨i0, hi0, hz0, hz1, hz2⟩ := info_parts infoStr
  have HR := Lib.hid hr
  have HL := Lib.hid hz
  have H20 := Lib.hid h20
  have HTB := Lib.hid htab
  have H64 := Lib.hid hi64
  have HNM := Lib.hid hnm
  have HSZ := Lib.hid hsz
  have HM := Lib.hid hm
  have HVT := Lib.hid hv
  clear hr hz h20 htab hi64 hnm hsz hm hv
  obtain ⟨W2, HW2, hb2, hz2', ht0, ht1⟩ := fmt_start2 t w
  have HB2 := Lib.hid hb2
  have HZ2 := Lib.hid hz2'
  have HT0 := Lib.hid ht0
  have HT1 := Lib.hid ht1
  obtain ⟨c0, c1, c2⟩ := (TCells.of_box (w := w) (x := t)).now
  clear hb2 hz2' ht0 ht1
  go_enter Tryz.func8, Tryz.ntmps8
  go_wp2_with (fail)
  clear c0 c1 c2
  have HS := Lib.hid (scalars_any A (some ⟨w.heap.size + 1, 0, none⟩) c 1 l [t] W2 ((HR.out.later HB2.out)) (fun _ => ⟨w.heap.size + 1, 0, rfl, by have := HZ2.out; omega, fun i h => by
    obtain rfl : i = 0 := by simpa using h
    exact HT1.out⟩) hl H20.out (by simp))
  clear HW2
  refine HS.out.mono ?_
  rintro e w3 ⟨v, rfl, hown, hb3⟩
  obtain ⟨A3, c3, rfl, hrow⟩ := types_own hown
  have HB3 := Lib.hid (HB2.out.trans (hb3.mono HB2.out.size))
  have HT3 := Lib.hid (HT0.out.below hb3 (by have := HZ2.out; omega))
  have HZ3 := Lib.hid (show w.heap.size < w3.heap.size from by have := hb3.size; have := HZ2.out; omega)
  obtain ⟨c0, c1, c2⟩ := HT3.out.now
  obtain ⟨ts, HTS⟩ : ∃ ts, Hid (scalT [t] l = ts) := ⟨_, Lib.hid rfl⟩
  have htl : ts.length ≤ 20 := by rw [← HTS.out]; exact scalT_len t l H20.out
  rw [HTS.out] at hrow HM HSZ
  have HVS := Lib.hid (show valS t l m = frontS t ++ (⟨(fmtL ts m).toArray⟩ : ByteArray) ++ backS t from by unfold valS; rw [HTS.out])
  have hne : ((ts.length : Int) != (m.length : Int)) = false := by have := HM.out; simp; omega
  have hml : m.length ≤ 20 := by have := HM.out; omega
  rw [HTS.out]
  have HROW := Lib.hid hrow
  clear hown hb3 hrow HS HT0 HT1
  go_wp2_with (fail)
  refine (ty_valid_f t A c l w3 true HVT.out (HR.out.later HB3.out) hl).mono ?_
  rintro e w4 ⟨rfl, hb4⟩
  have HB4 := Lib.hid (HB3.out.trans (hb4.mono HB3.out.size))
  have HT4 := Lib.hid (HT3.out.below hb4 HZ3.out)
  have HROW4 := Lib.hid (HROW.out.later hb4)
  have HZ4 := Lib.hid (show w.heap.size < w4.heap.size from by have := hb4.size; have := HZ3.out; omega)
  have HL4 := Lib.hid (HL.out.later HB4.out)
  have HTB4 := Lib.hid (Lib.tabBelow_of_tabIs HTB.out _ HB4.out)
  clear hb4 c0 c1 c2 HT3 HROW HZ3 HL
  go_wp2_with (fail)
  go_loopw [8, 31] (fun v i wr => ∃ k : Nat, k ≤ ts.length ∧ i = .int .i64 (k : Int) ∧ Hid (wr.ownsRow w4.heap.size 9 1 v k (scells ((scSs ts m).take k))) ∧ Hid (Below w4.heap.size w4 wr)) (fun _ i _ => ts.length - (intOf i).toNat)
  case atStart => exact ⟨0, Nat.zero_le _, rfl, Lib.hid (World.ownsRow_nil _ _ _ _), Lib.hid (Below.refl _ _)⟩
  case round =>
    obtain ⟨k, hk, rfl, hown, hbw⟩ := hrel
    by_cases hlt : k < ts.length
    · have hlt2 : k < m.length := by have := HM.out; omega
      obtain ⟨b, off, hA, hb, hcs⟩ := (HROW4.out.below hbw.out) (by omega)
      obtain ⟨c0, c1, c2⟩ := hcs k hlt
      obtain ⟨bl, ol, hC, hbl, hcl⟩ := (HL4.out.below hbw.out) (by omega)
      have cl := hcl k hlt2
      have HE3 := Lib.hid (scSs_take ts m k hlt hlt2 HM.out)
      have HN64 := Lib.hid (H64.out m[k] (List.getElem_mem hlt2))
      clear hcs hcl
      generalize ts[k] = x at *
      generalize m[k] = n at *
      have hzw := hbw.out.size
      obtain ⟨hal, hc0, hza⟩ := box_ty wr x
      have cla := (hal.cell (p := ⟨bl, ol + k, none⟩) (by show bl < wr.heap.size; omega)).trans cl
      obtain ⟨d0, d1, d2⟩ := hc0.now
      have HAL := Lib.hid hal
      have HZA := Lib.hid hza
      have HOA := Lib.hid (str_below hown.out hal)
      have HBA := Lib.hid (hbw.out.trans (hal.mono hzw))
      have HLT := Lib.hid (fun b e => hown.out.lt b e)
      have HBL := Lib.hid (show bl < wr.heap.size from by omega)
      have hk0 : (0 : Int) ≤ (k : Int) := by omega
      have hk1 : (k : Int) < (m.length : Int) := by omega
      have HIT := Lib.hid (fun (W : World) (hb : Below wr.heap.size wr W) => Tryz.strconv_Itoa n HN64.out.1 HN64.out.2 W (Lib.tabBelow_of_tabIs HTB4.out _ (hbw.out.trans (hb.mono hzw))))
      clear hb hbl cl hal hc0 hza hown
      rw [hA, hC]
      clear hA hC
      have HD := Lib.hid (And.intro d0 cla)
      go_wp2_with (fail)
      clear d1 d2 c0 c1 c2 d0 cla
      generalize (wr.alloc (.cells #[.int .i64 x.kind, .int .i64 x.len, .string x.nm] 23)) = wa at *
      refine (HIT.out wa HAL.out).mono ?_
      rintro e w5 ⟨rfl, q5, o5, hg5⟩
      have hb5 : Below wa.heap.size wa w5 := by rw [hg5]; exact (Lib.below_grow _ _ (Nat.le_refl _) q5 o5)
      have d0 := (hb5.cell (p := ⟨wr.heap.size, 0, none⟩) (by have := HZA.out; show wr.heap.size < wa.heap.size; omega)).trans HD.out.1
      have cla := (hb5.cell (p := ⟨bl, ol + k, none⟩) (by have := HZA.out; have := HBL.out; show bl < wa.heap.size; omega)).trans HD.out.2
      have HO5 := Lib.hid (str_below HOA.out hb5)
      have HB5 := Lib.hid (HBA.out.trans (hb5.mono HBA.out.size))
      have HLT5 := Lib.hid (fun b e => HO5.out.lt b e)
      clear hg5 hb5 HIT HD
      obtain ⟨q, hq⟩ : ∃ q, (x.kind == 2) = q := ⟨_, rfl⟩
      rw [hq] at HE3
      cases q with
      | false =>
        have HSC := Lib.hid (show scS false n = ⟨(Lib.itoa n).toArray⟩ from by unfold scS; rw [if_neg (by decide)])
        obtain ⟨sv, HSV⟩ : ∃ sv : ByteArray, Hid ((⟨(Lib.itoa n).toArray⟩ : ByteArray) = sv) := ⟨_, Lib.hid rfl⟩
        rw [HSV.out] at HSC ⊢
        rw [HSC.out] at HE3
        go_wp2_with (at_builtin; refine wpList_append_lies _ rfl _ _ 38 rfl w4.heap.size 9 i0 _ 1 16 Tryz.underlying38 hi0 hz0 hz1 hz2 rfl (by decide) _ _ _ rfl (HO5.out.alloc _) ⟨w5.heap.size, 0, none⟩ 1 1 [.string sv] rfl rfl (World.news_of_block (cs := #[.string sv]) (heap_alloc_new w5 _)) (by simp [Value.oneCell']) (by decide) ?c3 ?c4 ?c5 (w5.heap.size + 1) (by simp) ?_)
        case c3 => unfold maxLen; omega
        case c4 => omega
        case c5 => have := HB5.out.size; simp; omega
        intro g cap w7 hown7 hgr hsel hgl
        have HO7 := Lib.hid hown7
        have HB7 := Lib.hid ((HB5.out.alloc (by have := HB5.out.size; omega) (.cells #[.string sv] 9)).grown hgr (by have := HB5.out.size; simp; omega) (fun b e => (HLT5.out b e).1))
        clear hown7 hgr hsel hgl
        go_wp2_with (fail)
        exact ⟨⟨k + 1, by omega, by go_num, by rw [HE3.out, show scells ((scSs ts m).take k ++ [sv]) = scells ((scSs ts m).take k) ++ [.string sv] by simp [scells]]; exact HO7, HB7⟩, by simp [intOf]; omega⟩
      | true =>
        obtain ⟨z, hz⟩ : ∃ z, (n != 0) = z := ⟨_, rfl⟩
        have HSC := Lib.hid (show scS true n = (if z then ⟨#[116, 114, 117, 101]⟩ else ⟨#[102, 97, 108, 115, 101]⟩) from by
          unfold scS
          rw [if_pos rfl, ← hz]
          by_cases h : n = 0
          · rw [if_pos h, if_neg (by simp [h])]
          · rw [if_neg h, if_pos (by simpa using h)])
        have HFB := Lib.hid (fun W : World => fbool_any z W)
        obtain ⟨sv, HSV⟩ : ∃ sv : ByteArray, Hid ((if z then ⟨#[116, 114, 117, 101]⟩ else ⟨#[102, 97, 108, 115, 101]⟩) = sv) := ⟨_, Lib.hid rfl⟩
        rw [HSV.out] at HSC HFB
        rw [HSC.out] at HE3
        go_wp2_with (fail)
        refine (HFB.out _).mono ?_
        rintro e w6 ⟨rfl, rfl⟩
        clear hz hq
        go_wp2_with (at_builtin; refine wpList_append_lies _ rfl _ _ 38 rfl w4.heap.size 9 i0 _ 1 16 Tryz.underlying38 hi0 hz0 hz1 hz2 rfl (by decide) _ _ _ rfl (HO5.out.alloc _) ⟨w6.heap.size, 0, none⟩ 1 1 [.string sv] rfl rfl (World.news_of_block (cs := #[.string sv]) (heap_alloc_new w6 _)) (by simp [Value.oneCell']) (by decide) ?c3 ?c4 ?c5 (w6.heap.size + 1) (by simp) ?_)
        case c3 => unfold maxLen; omega
        case c4 => omega
        case c5 => have := HB5.out.size; simp; omega
        intro g cap w7 hown7 hgr hsel hgl
        have HO7 := Lib.hid hown7
        have HB7 := Lib.hid ((HB5.out.alloc (by have := HB5.out.size; omega) (.cells #[.string sv] 9)).grown hgr (by have := HB5.out.size; simp; omega) (fun b e => (HLT5.out b e).1))
        clear hown7 hgr hsel hgl
        go_wp2_with (fail)
        exact ⟨⟨k + 1, by omega, by go_num, by rw [HE3.out, show scells ((scSs ts m).take k ++ [sv]) = scells ((scSs ts m).take k) ++ [.string sv] by simp [scells]]; exact HO7, HB7⟩, by simp [intOf]; omega⟩
    · have HLN := Lib.hid (scSs_len ts m HM.out)
      have hown2 : wr.ownsRow w4.heap.size 9 1 u8 (scSs ts m).length (scells (scSs ts m)) := by
        have h := hown.out
        rw [List.take_of_length_le (by have := HLN.out; omega)] at h
        have e : k = (scSs ts m).length := by have := HLN.out; omega
        rw [e] at h
        exact h
      have HB5 := Lib.hid (HB4.out.trans (hbw.out.mono HB4.out.size))
      obtain ⟨c0, c1, c2⟩ := (HT4.out.below hbw.out HZ4.out).now
      have HJ := Lib.hid (fun (W : World) (hb : Below wr.heap.size wr W) => sjoin_own hown2 ⟨#[44, 32]⟩ (by have h := HSZ.out; unfold fmtL at h; exact Nat.le_trans h (by omega)) (by have := HLN.out; omega) W hb)
      have HBR := Lib.hid (brackets_any t wr HNM.out)
      have HFS := Lib.hid (brk_front t 1000 HNM.out)
      have HBS := Lib.hid (brk_back t)
      clear hown hbw hown2
      obtain ⟨F, HF⟩ : ∃ F, Hid (frontS t = F) := ⟨_, Lib.hid rfl⟩
      obtain ⟨K, HK⟩ : ∃ K, Hid (backS t = K) := ⟨_, Lib.hid rfl⟩
      obtain ⟨J, HJJ⟩ : ∃ J : ByteArray, Hid ((⟨(Lib.join ((scSs ts m).map (·.data.toList)) (⟨#[44, 32]⟩ : ByteArray).data.toList).toArray⟩ : ByteArray) = J) := ⟨_, Lib.hid rfl⟩
      have hjs : J.size ≤ 1000000 := by
        rw [← HJJ.out]
        have h := HSZ.out
        unfold fmtL at h
        simpa [ByteArray.size] using h
      rw [HJJ.out] at HJ
      rw [HF.out] at HBR HFS HVS
      rw [HK.out] at HBR HBS HVS
      have hfs := HFS.out
      have hbs := HBS.out
      have hfj : (F ++ J).size ≤ 1002001 := by rw [ByteArray.size_append]; omega
      go_wp2_with (fail)
      refine HBR.out.mono ?_
      rintro e w6 ⟨rfl, hb6⟩
      have HB6 := Lib.hid (HB5.out.trans (hb6.mono HB5.out.size))
      have HJ6 := Lib.hid (HJ.out w6 hb6)
      clear hb6 HJ HBR
      go_wp2_with (fail)
      refine HJ6.out.mono ?_
      rintro e w7 ⟨rfl, hb7⟩
      have HB7 := Lib.hid (HB6.out.trans (hb7.mono HB6.out.size))
      clear hb7
      go_wp2_with (fail)
      go_ret
      exact ⟨by rw [HVS.out, ← HJJ.out]; rfl, HB7.out⟩
end Go.Proofs.YtoopnddlcofhoaaGreatDoor
