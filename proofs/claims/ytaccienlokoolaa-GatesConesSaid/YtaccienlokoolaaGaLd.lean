/- What is proved: which nodes lead to literals, on both sides. -/
import Derived.Test.YtaccienlokoolaaGaEv2
set_option linter.unusedVariables false
set_option linter.unusedSimpArgs false
namespace Go.Proofs.Ytaccienlokoolaa
open Go.RowKit Go.Maps

/-- the truth values of the nodes, in a block -/
structure LdS (w0 : World) (B lb cb N : Nat) (I : Int) (A : Option Addr) (n c : Nat) (f : Nat → Bool) (w : World) : Prop where
  arr : BArr w lb N f
  ck : CBx w cb I A n c
  bel : Below B w0 w
  lo : B ≤ lb ∧ B ≤ cb ∧ lb ≠ cb ∧ B ≤ w.heap.size
theorem LdS.later {w0 w w' : World} {B lb cb N : Nat} {I : Int} {A : Option Addr} {n c : Nat} {f : Nat → Bool} (h : LdS w0 B lb cb N I A n c f w) (hb : Below w.heap.size w w') : LdS w0 B lb cb N I A n c f w' :=
  ⟨h.arr.later hb, h.ck.later hb, h.bel.trans (hb.mono h.lo.2.2.2), h.lo.1, h.lo.2.1, h.lo.2.2.1, Nat.le_trans h.lo.2.2.2 hb.size⟩
theorem LdS.set {w0 w : World} {B lb cb N : Nat} {I : Int} {A : Option Addr} {n c : Nat} {f : Nat → Bool} (h : LdS w0 B lb cb N I A n c f w) {y : Nat} (hy : y < N) : LdS w0 B lb cb N I A n c (setM f y) (w.setCell ⟨lb, y, none⟩ (.bool true)) ∧ w.frozen? ⟨lb, y, none⟩ = false ∧ w.cell? ⟨lb, y, none⟩ = some (.bool (f y)) := by
  have h1 : BArr (w.setCell ⟨lb, y, none⟩ (.bool true)) lb N (setB f y) := h.arr.set hy
  exact ⟨⟨h1, (hfar (p := ⟨lb, y, none⟩) (fun e => h.lo.2.2.1 e.symm) _).trans h.ck, h.bel.setCell (p := ⟨lb, y, none⟩) h.lo.1 _, h.lo.1, h.lo.2.1, h.lo.2.2.1, by have := h.lo.2.2.2; simp [World.setCell]; omega⟩, h.arr.frz y, h.arr.cell hy⟩
theorem LdS.ext {w0 w : World} {B lb cb N : Nat} {I : Int} {A : Option Addr} {n c : Nat} {f f' : Nat → Bool} (h : LdS w0 B lb cb N I A n c f w) (e : f = f') : LdS w0 B lb cb N I A n c f' w := e ▸ h
theorem ld_far {w : World} {gb lb go y : Nat} {i : Nat} {u v : Value} (hne : gb ≠ lb) (h : w.cell? ⟨gb, go + i * 2, none⟩ = some u ∧ w.cell? ⟨gb, go + i * 2 + 1, none⟩ = some v) : (w.setCell ⟨lb, y, none⟩ (.bool true)).cell? ⟨gb, go + i * 2, none⟩ = some u ∧ (w.setCell ⟨lb, y, none⟩ (.bool true)).cell? ⟨gb, go + i * 2 + 1, none⟩ = some v := by
  have hh : (w.setCell ⟨lb, y, none⟩ (.bool true)).heap[gb]? = w.heap[gb]? := hfar hne _
  exact ⟨(World.cell?_of_block (a := ⟨gb, _, none⟩) hh).trans h.1, (World.cell?_of_block (a := ⟨gb, _, none⟩) hh).trans h.2⟩
set_option maxRecDepth 100000 in
set_option maxHeartbeats 8000000 in
theorem leading_any (I : Int) (A : Option Addr) (c : Nat) (gs : List Gt) (AL : Option Addr) (cl : Nat) (ls : List Int) (w : World) (b : Nat) (hb0 : (b : Int) = 1 + I) (hr : GRow w A gs) (hck : CkOk I gs) (hn : gs.length ≤ 5000) (hz : ZRow w.heap.size w AL ls) (hl : ls.length ≤ 1000000) (hls : ∀ x ∈ ls, isLit I gs x) :
    Calls Try.prog 51 #[.agg #[.int .i64 I, .slice A gs.length c], .slice AL ls.length cl] w fun e w' => ∃ lb, e = .returned (.slice (some ⟨lb, 0, none⟩) (b + gs.length) (b + gs.length)) ∧ w.heap.size ≤ lb ∧ BArr w' lb (b + gs.length) (ldF b gs ls) ∧ Below w.heap.size w w' := by
  have hi1 := hck.hi
  have hi0 := hck.lo
  have hnd : nds I gs.length = ((b + gs.length : Nat) : Int) := by unfold nds; omega
  have HC := Lib.hid (fun w => count_any I (by omega) A gs.length c (by omega) w)
  rw [hnd] at HC
  have HB1 := Lib.hid ((Below.refl w.heap.size w).alloc (Nat.le_refl _) (.cells #[.int .i64 I, .slice A gs.length c] 30))
  have HBX := Lib.hid (CBx.new w I A gs.length c)
  have HR := Lib.hid hr
  have HZ := Lib.hid hz
  have HCK := Lib.hid hck
  have HLS := Lib.hid hls
  have HBI := Lib.hid hb0
  have hmk : ∀ W, (Instr.makeSlice 47 (.int .i64 ((b : Int) + (gs.length : Int))) (.int .i64 ((b : Int) + (gs.length : Int)))).run Try.prog W = .ok (.slice (some ⟨W.heap.size, 0, none⟩) (b + gs.length) (b + gs.length)) (W.alloc (.cells (hdr (fun _ => .bool false) (b + gs.length)) 4)) := fun W => by
    have := do_make_bl (b + gs.length) (by omega) W
    rw [show ((b + gs.length : Nat) : Int) = (b : Int) + (gs.length : Int) from by omega] at this
    exact this
  have hbs : b ≤ 1025 := by omega
  clear hr hz hck hls hnd hb0
  go_enter Try.func51, Try.ntmps51
  go_upto_region 1 with fail
  generalize hgw : w.alloc (.cells #[.int .i64 I, .slice A gs.length c] 30) = w1 at *
  clear hgw
  obtain ⟨b0, b1⟩ := HBX.out.cells
  go_wp2_with (fail)
  refine (HC.out _).mono ?_
  rintro e w2 ⟨rfl, hb2⟩
  have HB2 := Lib.hid (HB1.out.trans (hb2.mono HB1.out.size))
  have HX2 := Lib.hid (HBX.out.later hb2)
  clear hb2 b0 b1 HBX HB1
  go_upto_region 2 with fail
  have hba := (Below.refl w2.heap.size w2).alloc (Nat.le_refl _) (.cells (hdr (fun _ => .bool false) (b + gs.length)) 4)
  have HL0 := Lib.hid (show LdS w w.heap.size w2.heap.size w.heap.size (b + gs.length) I A gs.length c (ld0 (ls.take 0)) (w2.alloc (.cells (hdr (fun _ => .bool false) (b + gs.length)) 4)) from ⟨BArr.new w2 _, HX2.out.later hba, HB2.out.trans (hba.mono HB2.out.size), HB2.out.size, Nat.le_refl _, by have := hlt HX2.out; omega, Nat.le_trans HB2.out.size hba.size⟩)
  have HLB := Lib.hid (show w.heap.size ≤ w2.heap.size from HB2.out.size)
  clear hba hmk HX2 HB2
  generalize hgw : w2.alloc (.cells (hdr (fun _ => .bool false) (b + gs.length)) 4) = w3 at *
  clear hgw
  obtain ⟨lb, HLBE⟩ : ∃ lb, Hid (w2.heap.size = lb) := ⟨_, Lib.hid rfl⟩
  rw [HLBE.out] at HL0 HLB ⊢
  go_wp2_with (fail)
  go_loopw [14] (fun jv wr => ∃ (k : Nat), k ≤ ls.length ∧ jv = .int .i64 (k : Int) ∧ Hid (LdS w w.heap.size lb w.heap.size (b + gs.length) I A gs.length c (ld0 (ls.take k)) wr)) (fun jv _ => ls.length - (intOf jv).toNat)
  case atStart => exact ⟨0, Nat.zero_le _, rfl, HL0⟩
  case round =>
    obtain ⟨k, hk, rfl, hs⟩ := hrel
    by_cases hlt : k < ls.length
    · obtain ⟨zb, zo, hA, hzb, hc0⟩ := (HZ.out.below hs.out.bel) (by omega)
      have hx := hc0 k hlt
      subst hA
      have hxl := HLS.out _ (List.getElem_mem hlt)
      have HTK := Lib.hid (ld0_take ls hlt)
      obtain ⟨m, hm⟩ : ∃ m : Nat, ls[k] = (m : Int) := ⟨ls[k].toNat, by unfold isLit at hxl; omega⟩
      rw [hm] at hx hxl HTK
      unfold isLit at hxl
      have hml : m / 2 < b + gs.length := by have := HBI.out; omega
      obtain ⟨h1, h2, h3⟩ := hs.out.set hml
      have HE := Lib.hid (h1.ext (show setM (ld0 (ls.take k)) (m / 2) = ld0 (ls.take (k + 1)) by rw [HTK.out, show ((m : Int) / 2).toNat = m / 2 by omega]))
      have hq7 : (m : Int) / 2 < ((b : Int) + (gs.length : Int)) := by have := HBI.out; omega
      clear hc0 hm hxl HTK h1 hs
      go_wp2_with (fail)
      generalize hgw : wr.setCell ⟨lb, m / 2, none⟩ (.bool true) = w5 at *
      clear hgw
      exact ⟨⟨k + 1, by omega, by go_num, HE⟩, by simp [intOf]; omega⟩
    · obtain rfl : k = ls.length := by omega
      rw [List.take_length] at hs
      have HS0 := Lib.hid (show LdS w w.heap.size lb w.heap.size (b + gs.length) I A gs.length c (ldS b gs (ld0 ls) 0) wr from hs.out)
      obtain ⟨b0, b1⟩ := hs.out.ck.cells
      have hw1 : IntKind.i64.wrap ((gs.length : Int) - 1) = (gs.length : Int) - 1 := IntWalk.i64_in _ (by omega)
      clear hs
      go_wp2_with (fail)
      clear b0 b1
      go_loopw [8] (fun jv wr => ∃ (k : Nat) (q : Int), k ≤ gs.length ∧ jv = .int .i64 q ∧ Hid (q = (gs.length : Int) - 1 - (k : Int)) ∧ Hid (LdS w w.heap.size lb w.heap.size (b + gs.length) I A gs.length c (ldS b gs (ld0 ls) k) wr)) (fun jv _ => (intOf jv + 1).toNat)
      case atStart => exact ⟨0, (gs.length : Int) - 1, Nat.zero_le _, rfl, Lib.hid (by simp), HS0⟩
      case round =>
        obtain ⟨k, q, hk, rfl, hq, hs⟩ := hrel
        obtain ⟨b0, b1⟩ := hs.out.ck.cells
        by_cases hlt : k < gs.length
        · obtain ⟨i, rfl⟩ : ∃ i : Nat, q = (i : Int) := ⟨q.toNat, by have := hq.out; omega⟩
          have hki : gs.length - 1 - k = i := by have := hq.out; omega
          have hil : i < gs.length := by omega
          have hbi := HBI.out
          have hsum : (1 : Int) + I + (i : Int) = ((b + i : Nat) : Int) := by omega
          have hw2 : IntKind.i64.wrap (1 + I) = ((b : Nat) : Int) := by rw [IntWalk.i64_in _ (by omega)]; omega
          have hw3 : IntKind.i64.wrap ((b : Int) + (i : Int)) = ((b + i : Nat) : Int) := by rw [IntWalk.i64_in _ (by omega)]; omega
          have hw4 : IntKind.i64.wrap ((i : Int) - 1) = (i : Int) - 1 := IntWalk.i64_in _ (by omega)
          have hbn : b + i < b + gs.length := by omega
          have q1 := hs.out.arr.cell hbn
          have HQ := Lib.hid (show (i : Int) - 1 = (gs.length : Int) - 1 - ((k + 1 : Nat) : Int) by omega)
          have hge : decide (0 ≤ (i : Int)) = true := by simp
          cases hv : ldS b gs (ld0 ls) k (b + i) with
          | false =>
            rw [hv] at q1
            have HE := Lib.hid (hs.out.ext (ldS_no hil hki hv).symm)
            clear hki hv hq hsum hbi hs
            go_wp2_with (fail)
            exact ⟨⟨k + 1, (i : Int) - 1, by omega, rfl, HQ, HE⟩, by simp [intOf]⟩
          | true =>
            rw [hv] at q1
            have HE := Lib.hid (ldS_yes hil hki hv)
            obtain ⟨gb, go, hA, hgb, hgc⟩ := (HR.out.stays hs.out.bel.size (fun a _ hl => hs.out.bel.block _ hl)).at hil
            have ho := HCK.out.ok i hil
            subst hA
            have hgb2 := (HR.out.at hil)
            obtain ⟨gb', go', e1, hgb3, _⟩ := hgb2
            cases e1
            obtain ⟨mx, hmx⟩ : ∃ m : Nat, gs[i].x = (m : Int) := ⟨gs[i].x.toNat, by omega⟩
            obtain ⟨my, hmy⟩ : ∃ m : Nat, gs[i].y = (m : Int) := ⟨gs[i].y.toNat, by omega⟩
            obtain ⟨d0, d1⟩ := hgc
            rw [hmx] at d0 HE ho
            rw [hmy] at d1 HE ho
            rw [show ((mx : Int) / 2).toNat = mx / 2 by omega, show ((my : Int) / 2).toNat = my / 2 by omega] at HE
            have hxl : mx / 2 < b + gs.length := by omega
            have hyl : my / 2 < b + gs.length := by omega
            have hxi : (mx : Int) / 2 < ((b : Int) + (gs.length : Int)) := by omega
            have hyi : (my : Int) / 2 < ((b : Int) + (gs.length : Int)) := by omega
            have hmb : (mx : Int) ≤ 20000 ∧ (my : Int) ≤ 20000 := by omega
            have HGL := Lib.hid (show gb < w.heap.size from hgb3)
            have HQN := hq
            clear hki hv hq hsum hbi hmx hmy ho hgb hgb3
            have HS1 := hs
            clear hs
            go_upto_region 11 with fail
            have HD := Lib.hid (show Below wr.heap.size wr wr.drew from (Below.refl _ _).drew)
            have HS2 := Lib.hid (HS1.out.later HD.out)
            have HG2 := Lib.hid (show wr.drew.cell? ⟨gb, go + i * 2, none⟩ = some (.int .i64 (mx : Int)) ∧ wr.drew.cell? ⟨gb, go + i * 2 + 1, none⟩ = some (.int .i64 (my : Int)) from ⟨d0, d1⟩)
            have HNL := Lib.hid (show gb ≠ lb from fun e => by have h1 := HGL.out; have h2 := HLB.out; omega)
            clear d0 d1 b0 b1 q1 HD HS1
            refine wp_region_noPanic ?_
            refine wp_region_held_drew (S := fun w' => w'.cell? ⟨w.heap.size, 0, none⟩ = some (.int .i64 I) ∧ w'.cell? ⟨w.heap.size, 1, none⟩ = some (.slice (some ⟨gb, go, none⟩) gs.length c) ∧ w'.cell? ⟨gb, go + i * 2, none⟩ = some (.int .i64 (mx : Int)) ∧ w'.cell? ⟨gb, go + i * 2 + 1, none⟩ = some (.int .i64 (my : Int))) (by kernel_rfl) ⟨HS2.out.ck.cells.1, HS2.out.ck.cells.2, HG2.out⟩ (fun _ => ?_)
            generalize wr.drew = wq at *
            refine wpAnyH_take (i := 0) (oi := { dst := some 39, op := Op.move (Operand.tmp 5), type := 47, pos := "gates.go:110", after := #[], guard := none }) (v := .slice (some ⟨lb, 0, none⟩) (b + gs.length) (b + gs.length)) rfl (by kernel_rfl) (by kernel_rfl) (by kernel_rfl) (fun _ _ _ h => h) (Or.inl ⟨by rfl, ?_⟩) ⟨HS2.out.ck.cells.1, HS2.out.ck.cells.2, HG2.out⟩ ?_
            · (intro w' hSw; go_simp)
            simp only [Act.put, List.setIfInBounds_toArray, List.set_cons_zero, List.set_cons_succ]
            refine wpAnyH_take (i := 1) (oi := { dst := some 40, op := Op.fieldAddr 30 (Operand.tmp 2) 1, type := 0, pos := "gates.go:110", after := #[], guard := none }) (v := .pointer (some ⟨w.heap.size, 1, none⟩)) rfl (by kernel_rfl) (by kernel_rfl) (by kernel_rfl) (fun _ _ _ h => h) (Or.inl ⟨by rfl, ?_⟩) ⟨HS2.out.ck.cells.1, HS2.out.ck.cells.2, HG2.out⟩ ?_
            · (intro w' hSw; go_simp)
            simp only [Act.put, List.setIfInBounds_toArray, List.set_cons_zero, List.set_cons_succ]
            refine wpAnyH_take (i := 2) (oi := { dst := some 41, op := Op.load 28 (Operand.tmp 40), type := 28, pos := "gates.go:110", after := #[{ on := 1, ground := Ground.data }], guard := none }) (v := .slice (some ⟨gb, go, none⟩) gs.length c) rfl (by kernel_rfl) (by kernel_rfl) (by kernel_rfl) (fun _ _ _ h => h) (Or.inl ⟨by rfl, ?_⟩) ⟨HS2.out.ck.cells.1, HS2.out.ck.cells.2, HG2.out⟩ ?_
            · (intro w' hSw; obtain ⟨z0, z1, z2, z3⟩ := hSw; go_simp)
            simp only [Act.put, List.setIfInBounds_toArray, List.set_cons_zero, List.set_cons_succ]
            refine wpAnyH_take (i := 3) (oi := { dst := some 42, op := Op.move (Operand.tmp 8), type := 3, pos := "gates.go:110", after := #[], guard := none }) (v := .int .i64 (i : Int)) rfl (by kernel_rfl) (by kernel_rfl) (by kernel_rfl) (fun _ _ _ h => h) (Or.inl ⟨by rfl, ?_⟩) ⟨HS2.out.ck.cells.1, HS2.out.ck.cells.2, HG2.out⟩ ?_
            · (intro w' hSw; go_simp)
            simp only [Act.put, List.setIfInBounds_toArray, List.set_cons_zero, List.set_cons_succ]
            refine wpAnyH_take (i := 4) (oi := { dst := some 43, op := Op.indexAddr 28 (Operand.tmp 41) (Operand.tmp 42), type := 0, pos := "gates.go:110", after := #[{ on := 2, ground := Ground.data }, { on := 3, ground := Ground.data }], guard := none }) (v := .pointer (some ⟨gb, go + i * 2, none⟩)) rfl (by kernel_rfl) (by kernel_rfl) (by kernel_rfl) (fun _ _ _ h => h) (Or.inl ⟨by rfl, ?_⟩) ⟨HS2.out.ck.cells.1, HS2.out.ck.cells.2, HG2.out⟩ ?_
            · (intro w' hSw; go_simp)
            simp only [Act.put, List.setIfInBounds_toArray, List.set_cons_zero, List.set_cons_succ]
            refine wpAnyH_take (i := 5) (oi := { dst := some 44, op := Op.indexAddr 69 (Operand.tmp 43) (Operand.const (Value.int IntKind.i64 0)), type := 0, pos := "gates.go:110", after := #[{ on := 4, ground := Ground.data }], guard := none }) (v := .pointer (some ⟨gb, go + i * 2, none⟩)) rfl (by kernel_rfl) (by kernel_rfl) (by kernel_rfl) (fun _ _ _ h => h) (Or.inl ⟨by rfl, ?_⟩) ⟨HS2.out.ck.cells.1, HS2.out.ck.cells.2, HG2.out⟩ ?_
            · (intro w' hSw; go_simp)
            simp only [Act.put, List.setIfInBounds_toArray, List.set_cons_zero, List.set_cons_succ]
            refine wpAnyH_take (i := 6) (oi := { dst := some 45, op := Op.load 3 (Operand.tmp 44), type := 3, pos := "gates.go:110", after := #[{ on := 5, ground := Ground.data }], guard := none }) (v := .int .i64 (mx : Int)) rfl (by kernel_rfl) (by kernel_rfl) (by kernel_rfl) (fun _ _ _ h => h) (Or.inl ⟨by rfl, ?_⟩) ⟨HS2.out.ck.cells.1, HS2.out.ck.cells.2, HG2.out⟩ ?_
            · (intro w' hSw; obtain ⟨z0, z1, z2, z3⟩ := hSw; go_simp)
            simp only [Act.put, List.setIfInBounds_toArray, List.set_cons_zero, List.set_cons_succ]
            refine wpAnyH_take (i := 7) (oi := { dst := some 46, op := Op.binOp BinOp.quo 3 (Operand.tmp 45) (Operand.const (Value.int IntKind.i64 2)) 3, type := 3, pos := "gates.go:110", after := #[{ on := 6, ground := Ground.data }], guard := none }) (v := .int .i64 ((mx : Int) / 2)) rfl (by kernel_rfl) (by kernel_rfl) (by kernel_rfl) (fun _ _ _ h => h) (Or.inl ⟨by rfl, ?_⟩) ⟨HS2.out.ck.cells.1, HS2.out.ck.cells.2, HG2.out⟩ ?_
            · (intro w' hSw; have hq6 : IntKind.i64.wrap ((mx : Int) / 2) = (mx : Int) / 2 := IntWalk.i64_in _ (by omega); go_simp)
            simp only [Act.put, List.setIfInBounds_toArray, List.set_cons_zero, List.set_cons_succ]
            refine wpAnyH_take (i := 8) (oi := { dst := some 47, op := Op.move (Operand.tmp 5), type := 47, pos := "gates.go:110", after := #[{ on := 17, ground := Ground.gcOnly Departure.lateStores }], guard := none }) (v := .slice (some ⟨lb, 0, none⟩) (b + gs.length) (b + gs.length)) rfl (by kernel_rfl) (by kernel_rfl) (by kernel_rfl) (fun _ _ _ h => h) (Or.inl ⟨by rfl, ?_⟩) ⟨HS2.out.ck.cells.1, HS2.out.ck.cells.2, HG2.out⟩ ?_
            · (intro w' hSw; go_simp)
            simp only [Act.put, List.setIfInBounds_toArray, List.set_cons_zero, List.set_cons_succ]
            refine wpAnyH_take (i := 9) (oi := { dst := some 48, op := Op.fieldAddr 30 (Operand.tmp 2) 1, type := 0, pos := "gates.go:110", after := #[], guard := none }) (v := .pointer (some ⟨w.heap.size, 1, none⟩)) rfl (by kernel_rfl) (by kernel_rfl) (by kernel_rfl) (fun _ _ _ h => h) (Or.inl ⟨by rfl, ?_⟩) ⟨HS2.out.ck.cells.1, HS2.out.ck.cells.2, HG2.out⟩ ?_
            · (intro w' hSw; go_simp)
            simp only [Act.put, List.setIfInBounds_toArray, List.set_cons_zero, List.set_cons_succ]
            refine wpAnyH_take (i := 10) (oi := { dst := some 49, op := Op.load 28 (Operand.tmp 48), type := 28, pos := "gates.go:110", after := #[{ on := 9, ground := Ground.data }], guard := none }) (v := .slice (some ⟨gb, go, none⟩) gs.length c) rfl (by kernel_rfl) (by kernel_rfl) (by kernel_rfl) (fun _ _ _ h => h) (Or.inl ⟨by rfl, ?_⟩) ⟨HS2.out.ck.cells.1, HS2.out.ck.cells.2, HG2.out⟩ ?_
            · (intro w' hSw; obtain ⟨z0, z1, z2, z3⟩ := hSw; go_simp)
            simp only [Act.put, List.setIfInBounds_toArray, List.set_cons_zero, List.set_cons_succ]
            refine wpAnyH_take (i := 11) (oi := { dst := some 50, op := Op.move (Operand.tmp 8), type := 3, pos := "gates.go:110", after := #[], guard := none }) (v := .int .i64 (i : Int)) rfl (by kernel_rfl) (by kernel_rfl) (by kernel_rfl) (fun _ _ _ h => h) (Or.inl ⟨by rfl, ?_⟩) ⟨HS2.out.ck.cells.1, HS2.out.ck.cells.2, HG2.out⟩ ?_
            · (intro w' hSw; go_simp)
            simp only [Act.put, List.setIfInBounds_toArray, List.set_cons_zero, List.set_cons_succ]
            refine wpAnyH_take (i := 12) (oi := { dst := some 51, op := Op.indexAddr 28 (Operand.tmp 49) (Operand.tmp 50), type := 0, pos := "gates.go:110", after := #[{ on := 10, ground := Ground.data }, { on := 11, ground := Ground.data }], guard := none }) (v := .pointer (some ⟨gb, go + i * 2, none⟩)) rfl (by kernel_rfl) (by kernel_rfl) (by kernel_rfl) (fun _ _ _ h => h) (Or.inl ⟨by rfl, ?_⟩) ⟨HS2.out.ck.cells.1, HS2.out.ck.cells.2, HG2.out⟩ ?_
            · (intro w' hSw; go_simp)
            simp only [Act.put, List.setIfInBounds_toArray, List.set_cons_zero, List.set_cons_succ]
            refine wpAnyH_take (i := 13) (oi := { dst := some 52, op := Op.indexAddr 69 (Operand.tmp 51) (Operand.const (Value.int IntKind.i64 1)), type := 0, pos := "gates.go:110", after := #[{ on := 12, ground := Ground.data }], guard := none }) (v := .pointer (some ⟨gb, go + i * 2 + 1, none⟩)) rfl (by kernel_rfl) (by kernel_rfl) (by kernel_rfl) (fun _ _ _ h => h) (Or.inl ⟨by rfl, ?_⟩) ⟨HS2.out.ck.cells.1, HS2.out.ck.cells.2, HG2.out⟩ ?_
            · (intro w' hSw; go_simp)
            simp only [Act.put, List.setIfInBounds_toArray, List.set_cons_zero, List.set_cons_succ]
            refine wpAnyH_take (i := 14) (oi := { dst := some 53, op := Op.load 3 (Operand.tmp 52), type := 3, pos := "gates.go:110", after := #[{ on := 13, ground := Ground.data }], guard := none }) (v := .int .i64 (my : Int)) rfl (by kernel_rfl) (by kernel_rfl) (by kernel_rfl) (fun _ _ _ h => h) (Or.inl ⟨by rfl, ?_⟩) ⟨HS2.out.ck.cells.1, HS2.out.ck.cells.2, HG2.out⟩ ?_
            · (intro w' hSw; obtain ⟨z0, z1, z2, z3⟩ := hSw; go_simp)
            simp only [Act.put, List.setIfInBounds_toArray, List.set_cons_zero, List.set_cons_succ]
            refine wpAnyH_take (i := 15) (oi := { dst := some 54, op := Op.binOp BinOp.quo 3 (Operand.tmp 53) (Operand.const (Value.int IntKind.i64 2)) 3, type := 3, pos := "gates.go:110", after := #[{ on := 14, ground := Ground.data }], guard := none }) (v := .int .i64 ((my : Int) / 2)) rfl (by kernel_rfl) (by kernel_rfl) (by kernel_rfl) (fun _ _ _ h => h) (Or.inl ⟨by rfl, ?_⟩) ⟨HS2.out.ck.cells.1, HS2.out.ck.cells.2, HG2.out⟩ ?_
            · (intro w' hSw; have hq6 : IntKind.i64.wrap ((my : Int) / 2) = (my : Int) / 2 := IntWalk.i64_in _ (by omega); go_simp)
            simp only [Act.put, List.setIfInBounds_toArray, List.set_cons_zero, List.set_cons_succ]
            refine wpAnyH_take (i := 16) (oi := { dst := some 55, op := Op.indexAddr 47 (Operand.tmp 39) (Operand.tmp 46), type := 0, pos := "gates.go:110", after := #[{ on := 0, ground := Ground.data }, { on := 7, ground := Ground.data }, { on := 0, ground := Ground.phase }, { on := 1, ground := Ground.phase }, { on := 2, ground := Ground.phase }, { on := 3, ground := Ground.phase }, { on := 4, ground := Ground.phase }, { on := 5, ground := Ground.phase }, { on := 6, ground := Ground.phase }, { on := 7, ground := Ground.phase }, { on := 8, ground := Ground.textOnly Departure.lateStores }, { on := 9, ground := Ground.textOnly Departure.lateStores }, { on := 10, ground := Ground.textOnly Departure.lateStores }, { on := 11, ground := Ground.textOnly Departure.lateStores }, { on := 12, ground := Ground.textOnly Departure.lateStoresUnsure }, { on := 13, ground := Ground.textOnly Departure.lateStoresUnsure }, { on := 14, ground := Ground.phase }, { on := 15, ground := Ground.textOnly Departure.lateStoresUnsure }], guard := none }) (v := .pointer (some ⟨lb, mx / 2, none⟩)) rfl (by kernel_rfl) (by kernel_rfl) (by kernel_rfl) (fun _ _ _ h => h) (Or.inl ⟨by rfl, ?_⟩) ⟨HS2.out.ck.cells.1, HS2.out.ck.cells.2, HG2.out⟩ ?_
            · (intro w' hSw; have hq7 : 0 ≤ (mx : Int) / 2 ∧ (mx : Int) / 2 < ((b : Int) + (gs.length : Int)) := (by omega); have hq8 : ((mx : Int) / 2).toNat = mx / 2 := (by omega); rw [← hq8]; go_simp)
            simp only [Act.put, List.setIfInBounds_toArray, List.set_cons_zero, List.set_cons_succ]
            refine wpAnyH_ready (rs := [17]) (by kernel_rfl) (by simp) (AllReadyH.cons (o := { dst := none, op := Op.store 4 (Operand.tmp 55) (Operand.const (Value.bool true)), type := 0, pos := "gates.go:110", after := #[{ on := 16, ground := Ground.data }, { on := 0, ground := Ground.phase }, { on := 1, ground := Ground.phase }, { on := 2, ground := Ground.phase }, { on := 3, ground := Ground.phase }, { on := 4, ground := Ground.phase }, { on := 5, ground := Ground.phase }, { on := 6, ground := Ground.phase }, { on := 7, ground := Ground.phase }, { on := 8, ground := Ground.textOnly Departure.lateStores }, { on := 9, ground := Ground.textOnly Departure.lateStores }, { on := 10, ground := Ground.textOnly Departure.lateStores }, { on := 11, ground := Ground.textOnly Departure.lateStores }, { on := 12, ground := Ground.textOnly Departure.lateStoresUnsure }, { on := 13, ground := Ground.textOnly Departure.lateStoresUnsure }, { on := 14, ground := Ground.phase }, { on := 15, ground := Ground.textOnly Departure.lateStoresUnsure }], guard := none }) rfl (fun K hK => ?_) AllReadyH.nil)
            obtain ⟨h1, h2, h3⟩ := HS2.out.set hxl
            have HS3 := Lib.hid h1
            have HG3 := Lib.hid (ld_far (lb := lb) (y := mx / 2) HNL.out HG2.out)
            clear h1
            go_simp
            clear h2 h3
            generalize wq.setCell ⟨lb, mx / 2, none⟩ (.bool true) = w3' at *
            refine hK.out _ _ ⟨HS3.out.ck.cells.1, HS3.out.ck.cells.2, HG3.out⟩ (fun _ => ?_)
            clear hK K
            try simp only [Act.put, List.setIfInBounds_toArray, List.set_cons_zero, List.set_cons_succ]
            refine wpAnyH_take (i := 18) (oi := { dst := some 56, op := Op.indexAddr 47 (Operand.tmp 47) (Operand.tmp 54), type := 0, pos := "gates.go:110", after := #[{ on := 8, ground := Ground.data }, { on := 15, ground := Ground.data }, { on := 0, ground := Ground.phase }, { on := 1, ground := Ground.phase }, { on := 2, ground := Ground.phase }, { on := 3, ground := Ground.phase }, { on := 4, ground := Ground.phase }, { on := 5, ground := Ground.phase }, { on := 6, ground := Ground.phase }, { on := 7, ground := Ground.phase }, { on := 8, ground := Ground.phase }, { on := 9, ground := Ground.phase }, { on := 10, ground := Ground.phase }, { on := 11, ground := Ground.phase }, { on := 12, ground := Ground.phase }, { on := 13, ground := Ground.phase }, { on := 14, ground := Ground.phase }, { on := 15, ground := Ground.phase }, { on := 16, ground := Ground.phase }, { on := 17, ground := Ground.phase }], guard := none }) (v := .pointer (some ⟨lb, my / 2, none⟩)) rfl (by kernel_rfl) (by kernel_rfl) (by kernel_rfl) (fun _ _ _ h => h) (Or.inl ⟨by rfl, ?_⟩) ⟨HS3.out.ck.cells.1, HS3.out.ck.cells.2, HG3.out⟩ ?_
            · (intro w' hSw; have hq7 : 0 ≤ (my : Int) / 2 ∧ (my : Int) / 2 < ((b : Int) + (gs.length : Int)) := (by omega); have hq8 : ((my : Int) / 2).toNat = my / 2 := (by omega); rw [← hq8]; go_simp)
            simp only [Act.put, List.setIfInBounds_toArray, List.set_cons_zero, List.set_cons_succ]
            refine wpAnyH_ready (rs := [19]) (by kernel_rfl) (by simp) (AllReadyH.cons (o := { dst := none, op := Op.store 4 (Operand.tmp 56) (Operand.const (Value.bool true)), type := 0, pos := "gates.go:110", after := #[{ on := 18, ground := Ground.data }, { on := 17, ground := Ground.chain }, { on := 0, ground := Ground.phase }, { on := 1, ground := Ground.phase }, { on := 2, ground := Ground.phase }, { on := 3, ground := Ground.phase }, { on := 4, ground := Ground.phase }, { on := 5, ground := Ground.phase }, { on := 6, ground := Ground.phase }, { on := 7, ground := Ground.phase }, { on := 8, ground := Ground.phase }, { on := 9, ground := Ground.phase }, { on := 10, ground := Ground.phase }, { on := 11, ground := Ground.phase }, { on := 12, ground := Ground.phase }, { on := 13, ground := Ground.phase }, { on := 14, ground := Ground.phase }, { on := 15, ground := Ground.phase }, { on := 16, ground := Ground.phase }, { on := 17, ground := Ground.phase }], guard := none }) rfl (fun K hK => ?_) AllReadyH.nil)
            obtain ⟨h1, h2, h3⟩ := HS3.out.set hyl
            have HS4 := Lib.hid h1
            have HG4 := Lib.hid (ld_far (lb := lb) (y := my / 2) HNL.out HG3.out)
            clear h1
            go_simp
            clear h2 h3
            generalize w3'.setCell ⟨lb, my / 2, none⟩ (.bool true) = w4' at *
            refine hK.out _ _ ⟨HS4.out.ck.cells.1, HS4.out.ck.cells.2, HG4.out⟩ (fun _ => ?_)
            clear hK K
            try simp only [Act.put, List.setIfInBounds_toArray, List.set_cons_zero, List.set_cons_succ]
            refine wpAnyH_done (by kernel_rfl) ?_ _
            refine NoPanic.normal ?_
            go_wp2_with (fail)
            exact ⟨⟨k + 1, (i : Int) - 1, by omega, rfl, HQ, Lib.hid (HS4.out.ext HE.out.symm)⟩, by simp [intOf]⟩
        · have hqn : q = -1 := by have := hq.out; omega
          subst hqn
          have hk2 : k = gs.length := by omega
          have HE := Lib.hid (show LdS w w.heap.size lb w.heap.size (b + gs.length) I A gs.length c (ldF b gs ls) wr from by unfold ldF; have h9 := hs.out; rw [hk2] at h9; exact h9)
          clear hq hs hk2
          go_wp2_with (fail)
          go_ret
          exact ⟨lb, by first | rfl | (congr 1; simp), HLB.out, HE.out.arr, HE.out.bel⟩
set_option maxRecDepth 100000 in
set_option maxHeartbeats 8000000 in
theorem needed_any (I : Int) (A : Option Addr) (c : Nat) (gs : List Gt) (AL : Option Addr) (cl : Nat) (ls : List Int) (w : World) (b : Nat) (hb0 : (b : Int) = 1 + I) (hr : GRow w A gs) (hck : CkOk I gs) (hn : gs.length ≤ 5000) (hz : ZRow w.heap.size w AL ls) (hl : ls.length ≤ 1000000) (hls : ∀ x ∈ ls, isLit I gs x) :
    Calls Try.prog 52 #[.agg #[.int .i64 I, .slice A gs.length c], .slice AL ls.length cl] w fun e w' => ∃ lb, e = .returned (.slice (some ⟨lb, 0, none⟩) (b + gs.length) (b + gs.length)) ∧ w.heap.size ≤ lb ∧ BArr w' lb (b + gs.length) (ldF b gs ls) ∧ Below w.heap.size w w' := by
  have hi1 := hck.hi
  have hi0 := hck.lo
  have hnd : nds I gs.length = ((b + gs.length : Nat) : Int) := by unfold nds; omega
  have HC := Lib.hid (fun w => r_nodes_any I (by omega) A gs.length c (by omega) w)
  rw [hnd] at HC
  have HB1 := Lib.hid ((Below.refl w.heap.size w).alloc (Nat.le_refl _) (.cells #[.int .i64 I, .slice A gs.length c] 30))
  have HBX := Lib.hid (CBx.new w I A gs.length c)
  have HR := Lib.hid hr
  have HZ := Lib.hid hz
  have HCK := Lib.hid hck
  have HLS := Lib.hid hls
  have HBI := Lib.hid hb0
  have hmk : ∀ W, (Instr.makeSlice 47 (.int .i64 ((b : Int) + (gs.length : Int))) (.int .i64 ((b : Int) + (gs.length : Int)))).run Try.prog W = .ok (.slice (some ⟨W.heap.size, 0, none⟩) (b + gs.length) (b + gs.length)) (W.alloc (.cells (hdr (fun _ => .bool false) (b + gs.length)) 4)) := fun W => by
    have := do_make_bl (b + gs.length) (by omega) W
    rw [show ((b + gs.length : Nat) : Int) = (b : Int) + (gs.length : Int) from by omega] at this
    exact this
  have hbs : b ≤ 1025 := by omega
  clear hr hz hck hls hnd hb0
  go_enter Try.func52, Try.ntmps52
  go_upto_region 1 with fail
  generalize hgw : w.alloc (.cells #[.int .i64 I, .slice A gs.length c] 30) = w1 at *
  clear hgw
  obtain ⟨b0, b1⟩ := HBX.out.cells
  go_wp2_with (fail)
  refine (HC.out _).mono ?_
  rintro e w2 ⟨rfl, hb2⟩
  have HB2 := Lib.hid (HB1.out.trans (hb2.mono HB1.out.size))
  have HX2 := Lib.hid (HBX.out.later hb2)
  clear hb2 b0 b1 HBX HB1
  go_upto_region 2 with fail
  have hba := (Below.refl w2.heap.size w2).alloc (Nat.le_refl _) (.cells (hdr (fun _ => .bool false) (b + gs.length)) 4)
  have HL0 := Lib.hid (show LdS w w.heap.size w2.heap.size w.heap.size (b + gs.length) I A gs.length c (ld0 (ls.take 0)) (w2.alloc (.cells (hdr (fun _ => .bool false) (b + gs.length)) 4)) from ⟨BArr.new w2 _, HX2.out.later hba, HB2.out.trans (hba.mono HB2.out.size), HB2.out.size, Nat.le_refl _, by have := hlt HX2.out; omega, Nat.le_trans HB2.out.size hba.size⟩)
  have HLB := Lib.hid (show w.heap.size ≤ w2.heap.size from HB2.out.size)
  clear hba hmk HX2 HB2
  generalize hgw : w2.alloc (.cells (hdr (fun _ => .bool false) (b + gs.length)) 4) = w3 at *
  clear hgw
  obtain ⟨lb, HLBE⟩ : ∃ lb, Hid (w2.heap.size = lb) := ⟨_, Lib.hid rfl⟩
  rw [HLBE.out] at HL0 HLB ⊢
  go_wp2_with (fail)
  go_loopw [6] (fun jv wr => ∃ (k : Nat), k ≤ ls.length ∧ jv = .int .i64 (k : Int) ∧ Hid (LdS w w.heap.size lb w.heap.size (b + gs.length) I A gs.length c (ld0 (ls.take k)) wr)) (fun jv _ => ls.length - (intOf jv).toNat)
  case atStart => exact ⟨0, Nat.zero_le _, rfl, HL0⟩
  case round =>
    obtain ⟨k, hk, rfl, hs⟩ := hrel
    by_cases hlt : k < ls.length
    · obtain ⟨zb, zo, hA, hzb, hc0⟩ := (HZ.out.below hs.out.bel) (by omega)
      have hx := hc0 k hlt
      subst hA
      have hxl := HLS.out _ (List.getElem_mem hlt)
      have HTK := Lib.hid (ld0_take ls hlt)
      obtain ⟨m, hm⟩ : ∃ m : Nat, ls[k] = (m : Int) := ⟨ls[k].toNat, by unfold isLit at hxl; omega⟩
      rw [hm] at hx hxl HTK
      unfold isLit at hxl
      have hml : m / 2 < b + gs.length := by have := HBI.out; omega
      obtain ⟨h1, h2, h3⟩ := hs.out.set hml
      have HE := Lib.hid (h1.ext (show setM (ld0 (ls.take k)) (m / 2) = ld0 (ls.take (k + 1)) by rw [HTK.out, show ((m : Int) / 2).toNat = m / 2 by omega]))
      have hq7 : (m : Int) / 2 < ((b : Int) + (gs.length : Int)) := by have := HBI.out; omega
      clear hc0 hm hxl HTK h1 hs
      go_wp2_with (fail)
      generalize hgw : wr.setCell ⟨lb, m / 2, none⟩ (.bool true) = w5 at *
      clear hgw
      exact ⟨⟨k + 1, by omega, by go_num, HE⟩, by simp [intOf]; omega⟩
    · obtain rfl : k = ls.length := by omega
      rw [List.take_length] at hs
      have HS0 := Lib.hid (show LdS w w.heap.size lb w.heap.size (b + gs.length) I A gs.length c (ldS b gs (ld0 ls) 0) wr from hs.out)
      obtain ⟨b0, b1⟩ := hs.out.ck.cells
      have hw1 : IntKind.i64.wrap ((gs.length : Int) - 1) = (gs.length : Int) - 1 := IntWalk.i64_in _ (by omega)
      clear hs
      go_wp2_with (fail)
      clear b0 b1
      go_loopw [7] (fun jv wr => ∃ (k : Nat) (q : Int), k ≤ gs.length ∧ jv = .int .i64 q ∧ Hid (q = (gs.length : Int) - 1 - (k : Int)) ∧ Hid (LdS w w.heap.size lb w.heap.size (b + gs.length) I A gs.length c (ldS b gs (ld0 ls) k) wr)) (fun jv _ => (intOf jv + 1).toNat)
      case atStart => exact ⟨0, (gs.length : Int) - 1, Nat.zero_le _, rfl, Lib.hid (by simp), HS0⟩
      case round =>
        obtain ⟨k, q, hk, rfl, hq, hs⟩ := hrel
        obtain ⟨b0, b1⟩ := hs.out.ck.cells
        by_cases hlt : k < gs.length
        · obtain ⟨i, rfl⟩ : ∃ i : Nat, q = (i : Int) := ⟨q.toNat, by have := hq.out; omega⟩
          have hki : gs.length - 1 - k = i := by have := hq.out; omega
          have hil : i < gs.length := by omega
          have hbi := HBI.out
          have hsum : (1 : Int) + I + (i : Int) = ((b + i : Nat) : Int) := by omega
          have hw2 : IntKind.i64.wrap (1 + I) = ((b : Nat) : Int) := by rw [IntWalk.i64_in _ (by omega)]; omega
          have hw3 : IntKind.i64.wrap ((b : Int) + (i : Int)) = ((b + i : Nat) : Int) := by rw [IntWalk.i64_in _ (by omega)]; omega
          have hw4 : IntKind.i64.wrap ((i : Int) - 1) = (i : Int) - 1 := IntWalk.i64_in _ (by omega)
          have hbn : b + i < b + gs.length := by omega
          have q1 := hs.out.arr.cell hbn
          have HQ := Lib.hid (show (i : Int) - 1 = (gs.length : Int) - 1 - ((k + 1 : Nat) : Int) by omega)
          have hge : decide (0 ≤ (i : Int)) = true := by simp
          cases hv : ldS b gs (ld0 ls) k (b + i) with
          | false =>
            rw [hv] at q1
            have HE := Lib.hid (hs.out.ext (ldS_no hil hki hv).symm)
            clear hki hv hq hsum hbi hs
            go_wp2_with (fail)
            exact ⟨⟨k + 1, (i : Int) - 1, by omega, rfl, HQ, HE⟩, by simp [intOf]⟩
          | true =>
            rw [hv] at q1
            have HE := Lib.hid (ldS_yes hil hki hv)
            obtain ⟨gb, go, hA, hgb, hgc⟩ := (HR.out.stays hs.out.bel.size (fun a _ hl => hs.out.bel.block _ hl)).at hil
            have ho := HCK.out.ok i hil
            subst hA
            have hgb2 := (HR.out.at hil)
            obtain ⟨gb', go', e1, hgb3, _⟩ := hgb2
            cases e1
            obtain ⟨mx, hmx⟩ : ∃ m : Nat, gs[i].x = (m : Int) := ⟨gs[i].x.toNat, by omega⟩
            obtain ⟨my, hmy⟩ : ∃ m : Nat, gs[i].y = (m : Int) := ⟨gs[i].y.toNat, by omega⟩
            obtain ⟨d0, d1⟩ := hgc
            rw [hmx] at d0 HE ho
            rw [hmy] at d1 HE ho
            rw [show ((mx : Int) / 2).toNat = mx / 2 by omega, show ((my : Int) / 2).toNat = my / 2 by omega] at HE
            have hxl : mx / 2 < b + gs.length := by omega
            have hyl : my / 2 < b + gs.length := by omega
            have hxi : (mx : Int) / 2 < ((b : Int) + (gs.length : Int)) := by omega
            have hyi : (my : Int) / 2 < ((b : Int) + (gs.length : Int)) := by omega
            have hmb : (mx : Int) ≤ 20000 ∧ (my : Int) ≤ 20000 := by omega
            have HGL := Lib.hid (show gb < w.heap.size from hgb3)
            have HQN := hq
            clear hki hv hq hsum hbi hmx hmy ho hgb hgb3
            obtain ⟨h1, h2, h3⟩ := hs.out.set hxl
            have HS3 := Lib.hid h1
            have HNL := Lib.hid (show gb ≠ lb from fun e => by have h1 := HGL.out; have h2 := HLB.out; omega)
            have HG3 := Lib.hid (ld_far (lb := lb) (y := mx / 2) HNL.out ⟨d0, d1⟩)
            clear h1 hs
            go_upto_region 11 with fail
            clear h2 h3 d0 d1 b0 b1 q1
            generalize hgw : wr.setCell ⟨lb, mx / 2, none⟩ (.bool true) = w3' at *
            clear hgw
            obtain ⟨b0, b1⟩ := HS3.out.ck.cells
            obtain ⟨d0, d1⟩ := HG3.out
            obtain ⟨h1, h2, h3⟩ := HS3.out.set hyl
            have HS4 := Lib.hid h1
            clear h1 HS3
            go_wp2_with (fail)
            generalize hgw : w3'.setCell ⟨lb, my / 2, none⟩ (.bool true) = w4' at *
            clear hgw
            exact ⟨⟨k + 1, (i : Int) - 1, by omega, rfl, HQ, Lib.hid (HS4.out.ext HE.out.symm)⟩, by simp [intOf]⟩
        · have hqn : q = -1 := by have := hq.out; omega
          subst hqn
          have hk2 : k = gs.length := by omega
          have HE := Lib.hid (show LdS w w.heap.size lb w.heap.size (b + gs.length) I A gs.length c (ldF b gs ls) wr from by unfold ldF; have h9 := hs.out; rw [hk2] at h9; exact h9)
          clear hq hs hk2
          go_wp2_with (fail)
          go_ret
          exact ⟨lb, by first | rfl | (congr 1; simp), HLB.out, HE.out.arr, HE.out.bel⟩
end Go.Proofs.Ytaccienlokoolaa
