/- What is proved: the first mark of a row that a mark excludes. -/
import Derived.Test.YtmamajillkajoaaDoorCoCommon
set_option linter.unusedVariables false
namespace Go.Proofs.YtmamajillkajoaaDoor
open Go.RowKit Go.Shelf

/-- the boxes of chainFrom: the graph, the mark -/
structure Bx (g : Gp) (b3 b4 m : Nat) (W : World) : Prop where
  h3 : W.heap[b3]? = some (.cells #[.pointer (some ⟨g.gb, 0, none⟩)] 45 (0, 0))
  h4 : W.heap[b4]? = some (.cells #[.int .i64 (m : Int)] 3 (0, 0))
theorem Bx.below {g : Gp} {b3 b4 m : Nat} {W W' : World} (h : Bx g b3 b4 m W) (hb : Below W.heap.size W W') : Bx g b3 b4 m W' :=
  ⟨(hb.block _ (Array.getElem?_eq_some_iff.1 h.h3).1).trans h.h3, (hb.block _ (Array.getElem?_eq_some_iff.1 h.h4).1).trans h.h4⟩
theorem markAt_eq {l : List Con} {i : Nat} (h : i < l.length) : markAt l i = l[i].mark := by unfold markAt; rw [List.getElem?_eq_getElem h]
/-- what the excluding function's region reads -/
structure Ex (g : Gp) (b3 b4 m i ab off : Nat) (W : World) : Prop where
  a : W.cell? ⟨b3, 0, none⟩ = some (.pointer (some ⟨g.gb, 0, none⟩))
  b : W.cell? ⟨b4, 0, none⟩ = some (.int .i64 (m : Int))
  c : W.cell? ⟨g.gb, 0, none⟩ = some (.slice (some ⟨ab, off, none⟩) g.l.length g.c)
  m0 : W.cell? ⟨ab, off + m * 8 + 3, none⟩ = some (.int .i64 (markAt g.l m).kind)
  m1 : W.cell? ⟨ab, off + m * 8 + 4, none⟩ = some (.int .i64 (markAt g.l m).len)
  m2 : W.cell? ⟨ab, off + m * 8 + 5, none⟩ = some (.string (markAt g.l m).nm)
  i0 : W.cell? ⟨ab, off + i * 8 + 3, none⟩ = some (.int .i64 (markAt g.l i).kind)
  i1 : W.cell? ⟨ab, off + i * 8 + 4, none⟩ = some (.int .i64 (markAt g.l i).len)
  i2 : W.cell? ⟨ab, off + i * 8 + 5, none⟩ = some (.string (markAt g.l i).nm)
theorem Ex.of {g : Gp} {s : Int} {Q : Nat → Int} {Y : Option Addr} {cY : Nat} {vs : List Vis} {b3 b4 m i : Nat} {W : World} (hg : GD g s Q Y cY vs W) (hb : Bx g b3 b4 m W) (hm : m < g.l.length) (hi : i < g.l.length) : ∃ ab off, g.A = some ⟨ab, off, none⟩ ∧ ∀ W', Below W.heap.size W W' → Ex g b3 b4 m i ab off W' := by
  obtain ⟨ab, off, hA, hab, hcs⟩ := hg.con (by omega)
  refine ⟨ab, off, hA, fun W' hw => ?_⟩
  have hgs := hg.size
  have hg' := hb.below hw
  have hbx := (hw.block g.gb (Array.getElem?_eq_some_iff.1 hg.box).1).trans hg.box
  have c0 := Lib.cell_of_heap hbx 0
  rw [hA] at c0
  have hlt : ab < W.heap.size := by
    rcases Nat.lt_or_ge ab W.heap.size with h | h
    · exact h
    · have hc := (hcs m hm).1
      rw [World.cell?] at hc
      rw [Array.getElem?_eq_none (by simpa using h)] at hc
      cases hc
  obtain ⟨q0, q1, q2, q3, q4, q5, q6, q7⟩ := hcs m hm
  obtain ⟨p0, p1, p2, p3, p4, p5, p6, p7⟩ := hcs i hi
  have em := markAt_eq hm
  have ei := markAt_eq hi
  exact ⟨Lib.cell_of_heap hg'.h3 0, Lib.cell_of_heap hg'.h4 0, c0, (hw.cell (p := ⟨ab, off + m * 8 + 3, none⟩) hlt).trans (by rw [em]; exact q3), (hw.cell (p := ⟨ab, off + m * 8 + 4, none⟩) hlt).trans (by rw [em]; exact q4), (hw.cell (p := ⟨ab, off + m * 8 + 5, none⟩) hlt).trans (by rw [em]; exact q5), (hw.cell (p := ⟨ab, off + i * 8 + 3, none⟩) hlt).trans (by rw [ei]; exact p3), (hw.cell (p := ⟨ab, off + i * 8 + 4, none⟩) hlt).trans (by rw [ei]; exact p4), (hw.cell (p := ⟨ab, off + i * 8 + 5, none⟩) hlt).trans (by rw [ei]; exact p5)⟩

set_option maxRecDepth 100000 in
set_option maxHeartbeats 4000000 in
theorem excluding_any (g : Gp) (ho : GpOk g) (w : World) (s : Int) (Q : Nat → Int) (Y : Option Addr) (cY : Nat) (vs : List Vis) (hg : GD g s Q Y cY vs w) (b3 b4 m i : Nat) (hb : Bx g b3 b4 m w) (hm : m < g.l.length) (hi : i < g.l.length) (x : Bool) (hx : exclB (markAt g.l m) (markAt g.l i) = x) :
    Calls Tryd.prog 44 #[.int .i64 (i : Int), .pointer (some ⟨b3, 0, none⟩), .pointer (some ⟨b4, 0, none⟩)] w fun e w' => e = .returned (.bool x) ∧ Below w.heap.size w w' := by
  obtain ⟨ab, off, hA, hex⟩ := Ex.of hg hb hm hi
  have HX := Lib.hid hex
  have HC := Lib.hid (fun W => excl_f (markAt g.l m) (markAt g.l i) x hx W)
  have hl6 := ho.len
  clear hex hg hb hx
  obtain ⟨e1, e2, e3, e4, e5, e6, e7, e8, e9⟩ := HX.out w (Below.refl _ _)
  have HD := Lib.hid ((Below.refl w.heap.size w).drew)
  go_enter Tryd.func44, Tryd.ntmps44
  go_wp2_with (fail)
  go_region_held3 (fun w' => w'.cell? ⟨b3, 0, none⟩ = some (.pointer (some ⟨g.gb, 0, none⟩)) ∧ w'.cell? ⟨b4, 0, none⟩ = some (.int .i64 (m : Int)) ∧ w'.cell? ⟨g.gb, 0, none⟩ = some (.slice (some ⟨ab, off, none⟩) g.l.length g.c) ∧ w'.cell? ⟨ab, off + m * 8 + 3, none⟩ = some (.int .i64 (markAt g.l m).kind) ∧ w'.cell? ⟨ab, off + m * 8 + 4, none⟩ = some (.int .i64 (markAt g.l m).len) ∧ w'.cell? ⟨ab, off + m * 8 + 5, none⟩ = some (.string (markAt g.l m).nm) ∧ w'.cell? ⟨ab, off + i * 8 + 3, none⟩ = some (.int .i64 (markAt g.l i).kind) ∧ w'.cell? ⟨ab, off + i * 8 + 4, none⟩ = some (.int .i64 (markAt g.l i).len) ∧ w'.cell? ⟨ab, off + i * 8 + 5, none⟩ = some (.string (markAt g.l i).nm)) (first | exact HS.out | go_keep) ((first | (go_at_call 35; refine (HC.out w.drew).mono ?_; rintro e w3 ⟨rfl, hb3⟩; have HB3 := Lib.hid (HD.out.trans hb3); have HS := Lib.hid (show w3.cell? ⟨b3, 0, none⟩ = some (.pointer (some ⟨g.gb, 0, none⟩)) ∧ w3.cell? ⟨b4, 0, none⟩ = some (.int .i64 (m : Int)) ∧ w3.cell? ⟨g.gb, 0, none⟩ = some (.slice (some ⟨ab, off, none⟩) g.l.length g.c) ∧ w3.cell? ⟨ab, off + m * 8 + 3, none⟩ = some (.int .i64 (markAt g.l m).kind) ∧ w3.cell? ⟨ab, off + m * 8 + 4, none⟩ = some (.int .i64 (markAt g.l m).len) ∧ w3.cell? ⟨ab, off + m * 8 + 5, none⟩ = some (.string (markAt g.l m).nm) ∧ w3.cell? ⟨ab, off + i * 8 + 3, none⟩ = some (.int .i64 (markAt g.l i).kind) ∧ w3.cell? ⟨ab, off + i * 8 + 4, none⟩ = some (.int .i64 (markAt g.l i).len) ∧ w3.cell? ⟨ab, off + i * 8 + 5, none⟩ = some (.string (markAt g.l i).nm) from (by have h := HX.out w3 HB3.out; exact ⟨h.a, h.b, h.c, h.m0, h.m1, h.m2, h.i0, h.i1, h.i2⟩)); clear hb3)))
  all_goals
    go_wp2_with (fail)
    go_ret
    exact ⟨rfl, HB3.out⟩

theorem find_take {α : Type} {l : List α} {p : α → Bool} {k : Nat} (h : k < l.length) (hno : (l.take k).find? p = none) (hp : p l[k] = true) : l.find? p = some l[k] := by
  have e : l.find? p = (l.take k ++ (l[k] :: l.drop (k + 1))).find? p := by rw [← List.drop_eq_getElem_cons h, List.take_append_drop]
  rw [e, List.find?_append, hno, List.find?_cons, hp]
  rfl
theorem find_step {α : Type} {l : List α} {p : α → Bool} {k : Nat} (h : k < l.length) (hno : (l.take k).find? p = none) (hp : p l[k] = false) : (l.take (k + 1)).find? p = none := by
  rw [List.take_succ_eq_append_getElem h, List.find?_append, hno]
  simp [hp]
/-- the index of the first one -/
def Fst (ms : List Nat) (p : Nat → Bool) (r : Int) : Prop := (r = -1 ∧ ms.find? p = none) ∨ ∃ (k : Nat) (h : k < ms.length), r = (k : Int) ∧ ms.find? p = some ms[k]

set_option maxRecDepth 100000 in
set_option maxHeartbeats 4000000 in
theorem idxF_any (g : Gp) (ho : GpOk g) (w : World) (s : Int) (Q : Nat → Int) (Y : Option Addr) (cY : Nat) (vs : List Vis) (hg : GD g s Q Y cY vs w) (b3 b4 m : Nat) (hb : Bx g b3 b4 m w) (hm : m < g.l.length) (Xr : Option Addr) (cr : Nat) (ms : List Nat) (hms : ∀ e ∈ ms, e < g.l.length) (hml : ms.length ≤ 1000000000) (hrow : 0 < ms.length → ∃ b, Xr = some ⟨b, 0, none⟩ ∧ b < w.heap.size ∧ ∀ (i : Nat) (h : i < ms.length), w.cell? ⟨b, i, none⟩ = some (.int .i64 ((ms[i] : Nat) : Int))) :
    Calls Tryd.prog 46 #[.slice Xr ms.length cr, .func (.func 44) #[] #[.pointer (some ⟨b3, 0, none⟩), .pointer (some ⟨b4, 0, none⟩)]] w fun e w' => ∃ r : Int, e = .returned (.int .i64 r) ∧ Fst ms (fun i => exclB (markAt g.l m) (markAt g.l i)) r ∧ Below w.heap.size w w' := by
  have HG := Lib.hid hg
  have HO := Lib.hid ho
  have HB := Lib.hid hb
  have HMS := Lib.hid hms
  have HR := Lib.hid hrow
  clear hg ho hb hms hrow
  go_enter Tryd.func46, Tryd.ntmps46
  go_wp2_with (fail)
  go_loopw [8] (fun i wr => ∃ k : Nat, k ≤ ms.length ∧ i = .int .i64 (k : Int) ∧ Hid ((ms.take k).find? (fun i => exclB (markAt g.l m) (markAt g.l i)) = none) ∧ Hid (Below w.heap.size w wr)) (fun i _ => ms.length - (intOf i).toNat)
  case atStart => exact ⟨0, Nat.zero_le _, rfl, Lib.hid rfl, Lib.hid (Below.refl _ _)⟩
  case round =>
    obtain ⟨k, hk, rfl, hno, hbw⟩ := hrel
    by_cases hlt : k < ms.length
    · obtain ⟨b, rfl, hbz, hcs⟩ := HR.out (by omega)
      have r0 := (hbw.out.cell (p := ⟨b, k, none⟩) hbz).trans (hcs k hlt)
      clear hcs
      obtain ⟨e, HE⟩ : ∃ e, Hid (ms[k] = e) := ⟨_, Lib.hid rfl⟩
      have hel : e < g.l.length := by rw [← HE.out]; exact HMS.out _ (List.getElem_mem hlt)
      rw [HE.out] at r0
      obtain ⟨x, HX⟩ : ∃ x, Hid (exclB (markAt g.l m) (markAt g.l e) = x) := ⟨_, Lib.hid rfl⟩
      have HC := Lib.hid (excluding_any g HO.out wr s Q Y cY vs (HG.out.below HO.out hbw.out) b3 b4 m e (HB.out.below hbw.out) hm hel x HX.out)
      go_wp2_with (fail)
      refine HC.out.mono ?_
      rintro e' w2 ⟨rfl, hb2⟩
      have HB2 := Lib.hid (hbw.out.trans (hb2.mono hbw.out.size))
      clear hb2
      cases x with
      | true =>
        have HF := Lib.hid (find_take (p := fun i => exclB (markAt g.l m) (markAt g.l i)) hlt hno.out (by rw [HE.out]; exact HX.out))
        go_wp2_with (fail)
        go_ret
        exact ⟨_, rfl, .inr ⟨k, hlt, rfl, HF.out⟩, HB2.out⟩
      | false =>
        have HF := Lib.hid (find_step (p := fun i => exclB (markAt g.l m) (markAt g.l i)) hlt hno.out (by rw [HE.out]; exact HX.out))
        go_wp2_with (fail)
        exact ⟨⟨k + 1, by omega, by go_num, HF, HB2⟩, by simp [intOf]; omega⟩
    · obtain rfl : k = ms.length := by omega
      have HF := Lib.hid (show ms.find? (fun i => exclB (markAt g.l m) (markAt g.l i)) = none by have h := hno.out; rw [List.take_length] at h; exact h)
      go_wp2_with (fail)
      go_ret
      exact ⟨_, rfl, .inl ⟨rfl, HF.out⟩, hbw.out⟩
end Go.Proofs.YtmamajillkajoaaDoor
