/- What is proved: the reference's Other and Reverse. -/
import Derived.Test.YtbdpdbeekbbehaaDoRvP
set_option linter.unusedVariables false
namespace Go.Proofs.Ytbdpdbeekbbehaa
open Go.RowKit Go.Shelf

theorem other_any (n : Nat) (hn : n ≤ 1000000) (w : World) : Calls Try.prog 35 #[.int .i64 (n : Int)] w fun e W => e = .returned (.int .i64 (oth n : Nat)) ∧ W = w := by
  by_cases h : n < 2
  · have e : ((oth n : Nat) : Int) = 1 - (n : Int) := by unfold oth; rw [if_pos h]; omega
    rw [e]
    have h1 : (n : Int) < 2 := by omega
    clear e
    go_enter Try.func35, Try.ntmps35
    go_wp2_with (fail)
    go_ret
    exact ⟨rfl, rfl⟩
  · have e : oth n = n := by unfold oth; rw [if_neg h]
    rw [e]
    have h1 : ¬ (n : Int) < 2 := by omega
    clear e
    go_enter Try.func35, Try.ntmps35
    go_wp2_with (fail)
    go_ret
    exact ⟨rfl, rfl⟩
/-- points in a block: nothing but where their edges lead -/
def PBlk (w : World) (b n : Nat) (R : Nat → Value) : Prop :=
  ∃ cs, w.heap[b]? = some (.cells cs 44 (0, 0)) ∧ cs.size = n * 3 ∧ ∀ v, v < n → cs[v * 3]? = some (.int .i64 0) ∧ cs[v * 3 + 1]? = some (.int .i64 0) ∧ cs[v * 3 + 2]? = some (R v)
section
variable {w w' : World} {b n : Nat} {R : Nat → Value}
theorem PBlk.lt (h : PBlk w b n R) : b < w.heap.size := by obtain ⟨cs, h1, _⟩ := h; exact hlt h1
theorem PBlk.eq (h : PBlk w b n R) (hb : w'.heap[b]? = w.heap[b]?) : PBlk w' b n R := by
  obtain ⟨cs, h1, h2⟩ := h
  exact ⟨cs, hb.trans h1, h2⟩
theorem PBlk.later (h : PBlk w b n R) (hb : Below w.heap.size w w') : PBlk w' b n R := h.eq (hb.block _ h.lt)
theorem PBlk.cell (h : PBlk w b n R) {v : Nat} (hv : v < n) : w.cell? ⟨b, v * 3, none⟩ = some (.int .i64 0) ∧ w.cell? ⟨b, v * 3 + 1, none⟩ = some (.int .i64 0) ∧ w.cell? ⟨b, v * 3 + 2, none⟩ = some (R v) := by
  obtain ⟨cs, h1, _, h3⟩ := h
  obtain ⟨g1, g2, g3⟩ := h3 v hv
  exact ⟨(Lib.cell_of_heap h1 _).trans g1, (Lib.cell_of_heap h1 _).trans g2, (Lib.cell_of_heap h1 _).trans g3⟩
theorem PBlk.frz (h : PBlk w b n R) (i : Nat) : w.frozen? ⟨b, i, none⟩ = false := by
  obtain ⟨cs, h1, _⟩ := h
  exact hfrz h1 i
theorem PBlk.set (h : PBlk w b n R) {x : Nat} (hx : x < n) (u : Value) : PBlk (w.setCell ⟨b, x * 3 + 2, none⟩ u) b n (upd R x u) := by
  obtain ⟨cs, h1, h2, h3⟩ := h
  refine ⟨_, hset h1 _, by simpa using h2, fun v hv => ?_⟩
  obtain ⟨g1, g2, g3⟩ := h3 v hv
  refine ⟨?_, ?_, ?_⟩
  · rw [Array.getElem?_setIfInBounds_ne (by omega)]; exact g1
  · rw [Array.getElem?_setIfInBounds_ne (by omega)]; exact g2
  · by_cases e : v = x
    · subst e
      rw [upd_same]
      have : v * 3 + 2 < cs.size := by omega
      simp [this]
    · rw [upd_ne e, Array.getElem?_setIfInBounds_ne (by omega)]
      exact g3
end
theorem rv_make (n : Nat) (hn : n ≤ 1000000) (W : World) : ∃ o, (Instr.makeSlice 22 (.int .i64 (n : Int)) (.int .i64 (n : Int))).run Try.prog W = .ok (.slice (some ⟨W.heap.size, 0, none⟩) n n) (W.alloc o) ∧ PBlk (W.alloc o) W.heap.size n (fun _ => .slice none 0 0) := by
  obtain ⟨i0, hi, hz0, hz1, hz2⟩ := info_parts infoPt
  have h := run_make (P := Try.prog) W 22 44 i0 _ Try.underlying22 hi hz0 .i64 .i64 (n : Int) (n : Int) (by omega) (Int.le_refl _) (by rw [hz2]; omega) (by omega)
  rw [hz1] at h
  simp only [Int.toNat_natCast] at h
  refine ⟨_, h, _, heap_alloc_new _ _, ?_, ?_⟩
  · simp [madeCells]
  · intro v hv
    have e : (Value.agg #[.int .i64 0, .int .i64 0, .slice none 0 0]).cells = #[.int .i64 0, .int .i64 0, .slice none 0 0] := rfl
    rw [e]
    have h0 : v * 3 < n * 3 := by omega
    have h1 : v * 3 + 1 < n * 3 := by omega
    have h2 : v * 3 + 2 < n * 3 := by omega
    have m0 : v * 3 % 3 = 0 := by omega
    have m1 : (v * 3 + 1) % 3 = 1 := by omega
    have m2 : (v * 3 + 2) % 3 = 2 := by omega
    refine ⟨?_, ?_, ?_⟩
    · simp [madeCells, h0, m0]
    · simp [madeCells, h1, m1]
    · simp [madeCells, h2, m2]
/-- Reverse under way -/
structure RvS (w : World) (A : Option Addr) (c : Nat) (l : List PtV) (rb ob pb B : Nat) (L : Nat → List Nat) (W : World) : Prop where
  fb : FBx W w.heap.size A c l
  rx : Bx W rb 24 (.slice none 0 0)
  ox : Bx W ob 24 (.slice (some ⟨pb, 0, none⟩) l.length l.length)
  blk : ∃ R, PBlk W pb l.length R ∧ Rw W B l.length R L
  below : Below w.heap.size w W
  l1 : w.heap.size ≤ pb ∧ w.heap.size < B ∧ rb < B ∧ ob < B ∧ pb < B ∧ rb ≠ pb ∧ ob ≠ pb ∧ w.heap.size ≠ pb ∧ B ≤ W.heap.size ∧ w.heap.size ≤ rb
section
variable {w W W' : World} {A : Option Addr} {c : Nat} {l : List PtV} {rb ob pb B : Nat} {L : Nat → List Nat}
theorem RvS.later (h : RvS w A c l rb ob pb B L W) (hb : Below W.heap.size W W') : RvS w A c l rb ob pb B L W' := by
  obtain ⟨R, h1, h2⟩ := h.blk
  have hl := h.l1
  have hz := hb.size
  exact ⟨h.fb.later hb, h.rx.later hb, h.ox.later hb, ⟨R, h1.later hb, h2.stays fun b cs _ e => hb.block b (hlt e)⟩, h.below.trans (hb.mono h.below.size), by omega⟩
/-- one edge more -/
theorem RvS.step (h : RvS w A c l rb ob pb B L W) {R : Nat → Value} (h1 : PBlk W pb l.length R) (h2 : Rw W B l.length R L) {x y : Nat} (hx : x < l.length) {o : Obj} {v : Value} {w4 : World} (hown : w4.ownsRow B 3 1 v ((L x).length + 1) (zcells (zl (L x)) ++ [.int .i64 (y : Int)])) (hg : (W.alloc o).grownBy w4 (R x).ownBlock) (hnew : ∀ b, v.ownBlock = some b → (R x).ownBlock = some b ∨ b = (W.alloc o).heap.size) :
    RvS w A c l rb ob pb B (upd L x (L x ++ [y])) (w4.setCell ⟨pb, x * 3 + 2, none⟩ v) ∧ PBlk w4 pb l.length R ∧ Bx w4 ob 24 (.slice (some ⟨pb, 0, none⟩) l.length l.length) := by
  have hl := h.l1
  have hz1 : (W.alloc o).heap.size = W.heap.size + 1 := by simp
  have hz4 := hg.size
  have r2 : Rw (W.alloc o) B l.length R L := h2.stays fun b cs _ e => heap_alloc_old _ _ (hlt e)
  have hx4 : ZOwn w4 B v (zl (L x ++ [y])) := by
    unfold ZOwn
    rw [zl_append, zcells_append, List.length_append, zl_len]
    exact hown
  have r4 := r2.grow hx hx4 (fun b hb hne => hg.block b hb hne) hnew
  have far : ∀ b, b < B → w4.heap[b]? = W.heap[b]? := fun b hlt' => by
    refine (hg.block b (by omega) (fun e => ?_)).trans (heap_alloc_old _ _ (by omega))
    have := (own_block' (h2.own x hx) e.symm).1
    omega
  have p4 : PBlk w4 pb l.length R := h1.eq (far pb (by omega))
  have k : ∀ b, b < B → b ≠ pb → (w4.setCell ⟨pb, x * 3 + 2, none⟩ v).heap[b]? = W.heap[b]? := fun b hb hne => (hfar hne _).trans (far b hb)
  refine ⟨⟨(k _ (by omega) (by omega)).trans h.fb, (k _ (by omega) (by omega)).trans h.rx, (k _ (by omega) (by omega)).trans h.ox, ⟨_, p4.set hx v, r4.stays fun b cs hB _ => hfar (by simp; omega) _⟩, ?_, by simp [World.setCell]; omega⟩, p4, (far ob (by omega)).trans h.ox⟩
  refine ((h.below.alloc h.below.size o).grown hg (by have := h.below.size; omega) (fun b e => ?_)).setCell (by simp; omega) _
  have := (own_block' (h2.own x hx) e).1
  omega
end
theorem rv_succ {E : Nat → List Nat} {k j s : Nat} (h : j < (E k).length) (hs : (E k)[j] = s) : (fun v => (bkp (othE E) k (j + 1) v).map oth) = upd (fun v => (bkp (othE E) k j v).map oth) (oth s) ((bkp (othE E) k j (oth s)).map oth ++ [oth k]) := by
  have h2 : j < (othE E k).length := by unfold othE; simpa using h
  rw [bkp_succ h2 (x := oth s) (by simp [othE, hs])]
  funext v
  by_cases e : v = oth s
  · subst e
    rw [upd_same, upd_same, List.map_append]
    rfl
  · rw [upd_ne e, upd_ne e]
/-- what Reverse gives -/
def RvRes (l : List PtV) (w : World) (e : Ending) (W : World) : Prop :=
  ∃ (pb : Nat) (R : Nat → Option Addr × Nat), e = .returned (.agg #[.slice (some ⟨pb, 0, none⟩) l.length l.length]) ∧ PRow W.heap.size W (some ⟨pb, 0, none⟩) (rvL R (edg l) l.length) ∧ Below w.heap.size w W
theorem rv_fin {W : World} {l : List PtV} {pb B : Nat} (h : ∃ R, PBlk W pb l.length R ∧ Rw W B l.length R (rvE (edg l) l.length)) : ∃ R : Nat → Option Addr × Nat, PRow W.heap.size W (some ⟨pb, 0, none⟩) (rvL R (edg l) l.length) := by
  obtain ⟨R, h1, h2⟩ := h
  have hex : ∀ v, v < l.length → ∃ X : Option Addr × Nat, R v = .slice X.1 (rvE (edg l) l.length v).length X.2 ∧ ZRow W.heap.size W X.1 (zl (rvE (edg l) l.length v)) ∧ (rvE (edg l) l.length v).length ≤ X.2 := fun v hv => by
    have ho := h2.own v hv
    obtain ⟨X, cX, hR, hc, _⟩ := ho.form
    rw [hR] at ho
    rw [zl_len] at hR hc
    exact ⟨(X, cX), hR, ho.row.2.2, hc⟩
  obtain ⟨RR, hRR⟩ : ∃ RR : Nat → Option Addr × Nat, ∀ v, v < l.length → R v = .slice (RR v).1 (rvE (edg l) l.length v).length (RR v).2 ∧ ZRow W.heap.size W (RR v).1 (zl (rvE (edg l) l.length v)) ∧ (rvE (edg l) l.length v).length ≤ (RR v).2 := by
    refine ⟨fun v => if hv : v < l.length then (hex v hv).choose else (none, 0), fun v hv => ?_⟩
    simp only [dif_pos hv]
    exact (hex v hv).choose_spec
  refine ⟨RR, fun h0 => ⟨pb, 0, rfl, h1.lt, fun i hi => ?_⟩, fun p hp => ?_⟩
  · have hil : i < l.length := by rw [rvL_len] at hi; exact hi
    obtain ⟨g1, g2, g3⟩ := h1.cell hil
    have e : (rvL RR (edg l) l.length)[i]'hi = ⟨0, 0, (RR i).1, (RR i).2, zl (rvE (edg l) l.length i)⟩ := by simp [rvL]
    rw [e, Nat.zero_add]
    refine ⟨g1, g2, ?_⟩
    rw [(hRR i hil).1] at g3
    show W.cell? ⟨pb, i * 3 + 2, none⟩ = some (.slice (RR i).1 (zl (rvE (edg l) l.length i)).length (RR i).2)
    rw [zl_len]
    exact g3
  · unfold rvL at hp
    obtain ⟨v, hv, rfl⟩ := List.mem_map.1 hp
    have hvl := List.mem_range.1 hv
    refine ⟨(hRR v hvl).2.1, ?_⟩
    show (zl (rvE (edg l) l.length v)).length ≤ (RR v).2
    rw [zl_len]
    exact (hRR v hvl).2.2

set_option maxRecDepth 100000 in
set_option maxHeartbeats 4000000 in
theorem reverse_any (A : Option Addr) (c : Nat) (l : List PtV) (w : World) (hl : FlOk l) (hs : smB 14 l = true) (hp : PRow w.heap.size w A l) :
    Calls Try.prog 34 #[.agg #[.slice A l.length c]] w (RvRes l w) := by
  have hln := hl.n
  have h2n := hl.two
  have HL := Lib.hid hl
  have HPP := Lib.hid hp
  have HFB := Lib.hid (show FBx (w.alloc (.cells #[.slice A l.length c] 24)) w.heap.size A c l from heap_alloc_new w _)
  have hal := (Below.refl w.heap.size w).alloc (Nat.le_refl _) (.cells #[.slice A l.length c] 24)
  have HB1 := Lib.hid hal
  have c0 := HFB.out.cell
  clear hl hp hal
  go_enter Try.func34, Try.ntmps34
  go_upto_region 1 with (fail)
  have ha2 := (Below.refl _ _).alloc (Nat.le_refl (w.alloc (.cells #[.slice A l.length c] 24)).heap.size) (.cells #[.slice none 0 0] 24)
  have HF2 := Lib.hid (show FBx _ w.heap.size A c l from HFB.out.later ha2)
  have HB2 := Lib.hid (HB1.out.trans (ha2.mono HB1.out.size))
  have hrx := heap_alloc_new (w.alloc (.cells #[.slice A l.length c] 24)) (.cells #[.slice none 0 0] 24)
  rw [World.size_alloc] at hrx
  have HRX := Lib.hid (show Bx _ (w.heap.size + 1) 24 (.slice none 0 0) from hrx)
  have HZ2 := Lib.hid (show ((w.alloc (.cells #[.slice A l.length c] 24)).alloc (.cells #[.slice none 0 0] 24)).heap.size = w.heap.size + 1 + 1 by simp)
  have c0 := HF2.out.cell
  clear ha2 hrx HFB HB1
  generalize ((w.alloc (.cells #[.slice A l.length c] 24)).alloc (.cells #[.slice none 0 0] 24)) = w2 at *
  obtain ⟨o, hmk, hpb⟩ := rv_make l.length (by omega) w2
  have HPB := Lib.hid hpb
  have hz2 := HZ2.out
  have ha3 := (Below.refl w2.heap.size w2).alloc (Nat.le_refl _) o
  have ha4 := (Below.refl _ _).alloc (Nat.le_refl (w2.alloc o).heap.size) (.cells #[.slice (some ⟨w2.heap.size, 0, none⟩) l.length l.length] 24)
  have hox := heap_alloc_new (w2.alloc o) (.cells #[.slice (some ⟨w2.heap.size, 0, none⟩) l.length l.length] 24)
  rw [World.size_alloc] at hox
  have HS0 := Lib.hid (show RvS w A c l (w.heap.size + 1) (w2.heap.size + 1) w2.heap.size (w2.heap.size + 1 + 1) (fun v => (bkp (othE (edg l)) 0 0 v).map oth) ((w2.alloc o).alloc (.cells #[.slice (some ⟨w2.heap.size, 0, none⟩) l.length l.length] 24)) from
    ⟨(HF2.out.later ha3).later ha4, (HRX.out.later ha3).later ha4, hox, ⟨_, HPB.out.later ha4, (show Rw _ _ _ _ _ by
      have e : (fun v => (bkp (othE (edg l)) 0 0 v).map oth) = fun _ => [] := by funext v; rfl
      rw [e]; exact Rw.none _ _ _)⟩, (HB2.out.trans (ha3.mono HB2.out.size)).trans (ha4.mono (by have := HB2.out.size; have := ha3.size; omega)), by simp; omega⟩)
  clear hpb ha3 ha4 hox hz2
  go_upto_region 2 with (fail)
  clear hmk c0 HPB HF2 HRX
  generalize ((w2.alloc o).alloc (.cells #[.slice (some ⟨w2.heap.size, 0, none⟩) l.length l.length] 24)) = w3 at *
  generalize w2.heap.size + 1 = ob at *
  generalize w.heap.size + 1 = rb at *
  generalize w2.heap.size = pb at *
  have H8 := Lib.hid (fun u => othE_len hs u)
  clear hs
  go_wp2_with (fail)
  go_loopw [4] (fun i wr => ∃ k : Nat, i = .int .i64 (k : Int) ∧ k ≤ l.length ∧ Hid (RvS w A c l rb ob pb (ob + 1) (fun v => (bkp (othE (edg l)) k 0 v).map oth) wr)) (fun i _ => l.length - (intOf i).toNat)
  case atStart => exact ⟨0, rfl, Nat.zero_le _, HS0⟩
  case round =>
    obtain ⟨k, rfl, hk, hrs⟩ := hrel
    generalize wr = wo at *
    have c0 := hrs.out.fb.cell
    by_cases hkl : k < l.length
    · obtain ⟨h1, h2⟩ := edg_zl HL.out.ok hkl
      obtain ⟨qb, off, rfl, hqb, e1, e2, e3, hz, hc⟩ := HPP.out.at hkl
      have hz0 := (HPP.out.2 _ (List.getElem_mem hkl)).1
      rw [h1] at hz0 hc e3
      rw [zl_len] at e3 hc
      have HZ := Lib.hid (NRow.of hz0)
      have HE2 := Lib.hid h2
      have hdg := HL.out.edg k
      have HE3 := Lib.hid (show ∀ W, Below w.heap.size w W → W.cell? ⟨qb, off + k * 3 + 2, none⟩ = some (.slice l[k].A (edg l k).length l[k].c) from fun W hW => (hW.cell (p := ⟨qb, off + k * 3 + 2, none⟩) hqb).trans e3)
      have HKL := Lib.hid hkl
      generalize l[k].A = A2 at *
      generalize l[k].c = c2 at *
      clear h1 h2 hz hz0 e1 e2 e3 hc
      obtain ⟨n2, HEN⟩ : ∃ n, Hid ((edg l k).length = n) := ⟨_, Lib.hid rfl⟩
      rw [HEN.out] at hdg HE3
      go_wp2_with (fail)
      clear c0
      go_loopw [5] (fun i wr => ∃ j : Nat, i = .int .i64 (j : Int) ∧ j ≤ n2 ∧ Hid (RvS w (some ⟨qb, off, none⟩) c l rb ob pb (ob + 1) (fun v => (bkp (othE (edg l)) k j v).map oth) wr)) (fun i _ => n2 - (intOf i).toNat)
      case atStart => exact ⟨0, rfl, Nat.zero_le _, hrs⟩
      case round =>
        obtain ⟨j, rfl, hj, hrj⟩ := hrel
        have c0 := hrj.out.fb.cell
        have e3 := HE3.out wr hrj.out.below
        by_cases hjl : j < n2
        · have hjE : j < (edg l k).length := by rw [HEN.out]; exact hjl
          obtain ⟨eb, eo, rfl, heb, hec⟩ := (HZ.out.below hrj.out.below) (by omega)
          have r0 := hec j hjE
          have HSN := Lib.hid (HE2.out _ (List.getElem_mem hjE)).2
          obtain ⟨s, HS1⟩ : ∃ s, Hid ((edg l k)[j] = s) := ⟨_, Lib.hid rfl⟩
          have HSU := Lib.hid (rv_succ (E := edg l) (k := k) hjE HS1.out)
          rw [HS1.out] at r0 HSN
          clear hec
          have HJ1 := Lib.hid (show j + 1 ≤ n2 ∧ n2 - (j + 1) < n2 - j by omega)
          have HOS := Lib.hid (other_any s (by have := HSN.out; omega))
          have HOK := Lib.hid (other_any k (by have := HKL.out; omega))
          have hx : oth s < l.length := oth_lt h2n HSN.out
          have HLN := Lib.hid (bkp_len H8.out k j (oth s))
          obtain ⟨x, HX⟩ : ∃ x, Hid (oth s = x) := ⟨_, Lib.hid rfl⟩
          obtain ⟨y, HY⟩ : ∃ y, Hid (oth k = y) := ⟨_, Lib.hid rfl⟩
          rw [HX.out] at HOS hx HSU HLN
          rw [HY.out] at HOK HSU
          obtain ⟨LL, HLL⟩ : ∃ LL, Hid ((fun v => (bkp (othE (edg l)) k j v).map oth) = LL) := ⟨_, Lib.hid rfl⟩
          have HRJ := hrj
          rw [HLL.out] at HRJ HSU
          have HSU2 := Lib.hid (show (fun v => (bkp (othE (edg l)) k (j + 1) v).map oth) = upd LL x (LL x ++ [y]) from by rw [HSU.out, ← HLL.out])
          have hlx : (LL x).length ≤ 1000 := by
            rw [← HLL.out]
            simp only [List.length_map]
            have := HLN.out
            have := HKL.out
            omega
          obtain ⟨R, hp1, hr1⟩ := HRJ.out.blk
          have HP1 := Lib.hid hp1
          have HR1 := Lib.hid hr1
          obtain ⟨A5, c5, hrx, hc5, _⟩ := (hr1.own x hx).form
          rw [zl_len] at hrx hc5
          have HRX := Lib.hid hrx
          have k2 := (hp1.cell hx).2.2
          rw [hrx] at k2
          obtain ⟨xs, HXS⟩ : ∃ xs, Hid (LL x = xs) := ⟨_, Lib.hid rfl⟩
          rw [HXS.out] at k2 hc5 hlx HRX
          have k1 := HRJ.out.ox.cell
          have hba := (Below.refl wr.heap.size wr).alloc (Nat.le_refl _) (.cells #[.int .i64 (y : Int)] 3)
          have HBA := Lib.hid hba
          have k3 : (wr.alloc (.cells #[.int .i64 (y : Int)] 3)).cell? ⟨ob, 0, none⟩ = some (.slice (some ⟨pb, 0, none⟩) l.length l.length) := (HRJ.out.ox.later hba).cell
          have k4 : (wr.alloc (.cells #[.int .i64 (y : Int)] 3)).cell? ⟨pb, x * 3 + 2, none⟩ = some (.slice A5 xs.length c5) := (hba.cell (p := ⟨pb, x * 3 + 2, none⟩) hp1.lt).trans k2
          have HC1 := Lib.hid (show xs.length + 1 ≤ maxLen by unfold maxLen; omega)
          have HC2 := Lib.hid (show (xs.length + 1) * 8 ≤ 140737488355328 by omega)
          have HOW := Lib.hid (show wr.ownsRow (ob + 1) 3 1 (.slice A5 xs.length c5) xs.length (zcells (zl xs)) from by have h := hr1.own x hx; unfold ZOwn at h; rw [HRX.out, HXS.out, zl_len] at h; exact h)
          have HNB := Lib.hid (show ∀ (j : Nat) (u : Value), ([.int .i64 (y : Int)] : List Value)[j]? = some u → (wr.alloc (.cells #[.int .i64 (y : Int)] 3)).drew.cell? ((⟨wr.heap.size, 0, none⟩ : Addr).add j) = some u from World.news_of_block (cs := #[.int .i64 (y : Int)]) (heap_alloc_new wr _))
          have HOA := Lib.hid (show (wr.alloc (.cells #[.int .i64 (y : Int)] 3)).drew.ownsRow (ob + 1) 3 1 (.slice A5 xs.length c5) xs.length (zcells (zl xs)) from HOW.out.alloc _)
          have HLA := Lib.hid (show ob + 1 ≤ (wr.alloc (.cells #[.int .i64 (y : Int)] 3)).drew.heap.size by have := HRJ.out.l1; show ob + 1 ≤ (wr.alloc _).heap.size; rw [World.size_alloc]; omega)
          have HSA := Lib.hid (show (wr.alloc (.cells #[.int .i64 (y : Int)] 3)).drew.heap.size = wr.heap.size + 1 from World.size_alloc _ _)
          have STEP := Lib.hid (fun (w4 : World) (g cap : Nat) (hown : w4.ownsRow (ob + 1) 3 1 (.slice (some ⟨g, 0, none⟩) (xs.length + 1) cap) (xs.length + 1) (zcells (zl xs) ++ [.int .i64 (y : Int)])) (hgr : (wr.alloc (.cells #[.int .i64 (y : Int)] 3)).drew.grownBy w4 (Value.slice A5 xs.length c5).ownBlock) (hsel : (Value.slice A5 xs.length c5).ownBlock = some g ∨ g = wr.heap.size + 1) => HRJ.out.step (w4 := w4) (v := .slice (some ⟨g, 0, none⟩) (xs.length + 1) cap) (o := .cells #[.int .i64 (y : Int)] 3) (y := y) HP1.out HR1.out hx (by rw [HXS.out]; exact hown) (by rw [HRX.out]; exact ⟨hgr.os, hgr.tape, hgr.output, hgr.size, hgr.block⟩) (fun b e => by rw [HRX.out]; cases e; exact hsel.elim .inl (fun h => .inr (by rw [h]; simp))))
          obtain ⟨i0, hi0, hz0, hz1, hz2⟩ := info_parts infoInt
          have HXN := Lib.hid hx
          clear hp1 hr1 hrx hba
          go_upto_region 9 with (fail)
          go_wp2_with (fail)
          refine (HOS.out _).mono ?_
          rintro e wx ⟨rfl, hwx⟩
          obtain rfl := hwx.symm
          clear HOS c0 e3 r0
          have c0 := hrj.out.fb.cell
          go_upto_region 10 with (fail)
          go_region_law (first | (go_simp; go_at_call 35; refine (HOK.out _).mono ?_; rintro e wx ⟨rfl, rfl⟩) | (refine step_append_lies _ (by rfl) _ _ _ (by rfl) (ob + 1) 3 i0 _ 1 8 Try.underlying29 hi0 hz0 hz1 hz2 rfl (by decide) (.slice A5 xs.length c5) xs.length (zcells (zl xs)) (by rfl) HOA.out ⟨wr.heap.size, 0, none⟩ 1 1 [.int .i64 (y : Int)] (by rfl) (by rfl) HNB.out (by simp [Value.oneCell']) (by decide) HC1.out HC2.out HLA.out (wr.heap.size + 1) HSA.out ?_; intro g cap w4 hown hgr hsel hgl; obtain ⟨hst, hp4, hb4⟩ := STEP.out w4 g cap hown hgr hsel; have k7 := hb4.cell; have HST := Lib.hid hst; have hfz := hp4.frz (x * 3 + 2); have k6 := (hp4.cell HXN.out).2.2; rw [HRX.out] at k6; clear hown hgr hsel hgl hst hp4 hb4))
          all_goals
            rw [← HSU2.out] at HST
            go_wp2_with (fail)
            exact ⟨⟨j + 1, by go_num, HJ1.out.1, HST⟩, by have := HJ1.out.2; simp only [intOf, Int.toNat_natCast]; first | exact this | (simp; omega)⟩
        · obtain rfl : j = n2 := by omega
          have HN := Lib.hid (show RvS w (some ⟨qb, off, none⟩) c l rb ob pb (ob + 1) (fun v => (bkp (othE (edg l)) (k + 1) 0 v).map oth) wr from by
            have e : (fun v => (bkp (othE (edg l)) (k + 1) 0 v).map oth) = fun v => (bkp (othE (edg l)) k j v).map oth := by
              funext v
              rw [bkp_zero, ← bkp_all]
              unfold othE
              rw [List.length_map, HEN.out]
            rw [e]
            exact hrj.out)
          go_wp2_with (fail)
          exact ⟨⟨k + 1, by go_num, by omega, HN⟩, by simp [intOf]; omega⟩
    · obtain rfl : k = l.length := by omega
      have HFN := Lib.hid (show RvS w A c l rb ob pb (ob + 1) (rvE (edg l) l.length) wo from by
        have e : rvE (edg l) l.length = fun v => (bkp (othE (edg l)) l.length 0 v).map oth := by
          funext v
          rw [bkp_zero]
          rfl
        rw [e]
        exact hrs.out)
      have k1 := hrs.out.ox.cell
      have k2 := hrs.out.rx.cell
      have k3 := hrs.out.rx.frz
      have HX := Lib.hid (hrs.out.rx.set (.slice (some ⟨pb, 0, none⟩) l.length l.length)).cell
      have HL1 := Lib.hid hrs.out.l1
      have HPF := Lib.hid (rv_fin (W := wo.setCell ⟨rb, 0, none⟩ (.slice (some ⟨pb, 0, none⟩) l.length l.length)) (l := l) (pb := pb) (B := ob + 1) (by
        obtain ⟨R, h1, h2⟩ := HFN.out.blk
        exact ⟨R, h1.eq (hfar (by have := HL1.out; simp; omega) _), h2.stays fun b cs hB _ => hfar (by have := HL1.out; simp; omega) _⟩))
      have HBF := Lib.hid (show Below w.heap.size w (wo.setCell ⟨rb, 0, none⟩ (.slice (some ⟨pb, 0, none⟩) l.length l.length)) from hrs.out.below.setCell (by have := HL1.out; simp; omega) _)
      go_wp2_with (fail)
      have v0 := HX.out
      obtain ⟨RR, hRR⟩ := HPF.out
      exact bodyPost_ret (v := .agg #[.slice (some ⟨pb, 0, none⟩) l.length l.length]) (by simp [results, Try.results34, go_sem, v0]) rfl ⟨pb, RR, rfl, hRR, HBF.out⟩
end Go.Proofs.Ytbdpdbeekbbehaa
