/- What is proved: forward gives the edges of a flow and the same ones reversed. -/
import Derived.Test.YtbdpdbeekbbehaaDoNext
set_option linter.unusedVariables false
namespace Go.Proofs.Ytbdpdbeekbbehaa
open Go.RowKit Go.Shelf

/-- forward under way -/
structure FwS (w : World) (A : Option Addr) (c : Nat) (l : List PtV) (L : Nat → List Nat) (W : World) : Prop where
  fb : FBx W w.heap.size A c l
  rb : W.heap[w.heap.size + 1]? = some (.cells #[.int .i64 0, .int .i64 0, .nilFunc, .nilFunc] 57 (0, 0))
  rows : ∃ R, HdR W (w.heap.size + 2) l.length (w.heap.size + 4) R L
  bb : Bx W (w.heap.size + 3) 39 (.slice (some ⟨w.heap.size + 2, 0, none⟩) l.length l.length)
  below : Below w.heap.size w W
/-- a flow and its edges reversed, in variables from a block on -/
def Vw (n₀ : Nat) (A : Option Addr) (c : Nat) (l : List PtV) (a b : Nat) (W : World) : Prop :=
  ∃ hb B R, n₀ ≤ a ∧ n₀ ≤ b ∧ n₀ ≤ hb ∧ FBx W a A c l ∧ HdR W hb l.length B R (bk (edg l) l.length) ∧ Bx W b 39 (.slice (some ⟨hb, 0, none⟩) l.length l.length)
theorem Vw.set {n₀ : Nat} {A : Option Addr} {c : Nat} {l : List PtV} {a b : Nat} {W : World} (h : Vw n₀ A c l a b W) {p : Addr} (hp : p.block < n₀) (v : Value) : Vw n₀ A c l a b (W.setCell p v) := by
  obtain ⟨hb, B, R, h1, h2, h3, h4, h5, h6⟩ := h
  have := h5.lo
  exact ⟨hb, B, R, h1, h2, h3, h4.other (by omega) _, h5.set (by omega) (by omega) _, h6.other (by omega) _⟩
theorem Vw.later {n₀ : Nat} {A : Option Addr} {c : Nat} {l : List PtV} {a b : Nat} {W W' : World} (h : Vw n₀ A c l a b W) (hb : Below W.heap.size W W') : Vw n₀ A c l a b W' := by
  obtain ⟨hb', B, R, h1, h2, h3, h4, h5, h6⟩ := h
  exact ⟨hb', B, R, h1, h2, h3, h4.later hb, h5.later hb, h6.later hb⟩
theorem Vw.mono {n₀ n₁ : Nat} {A : Option Addr} {c : Nat} {l : List PtV} {a b : Nat} {W : World} (h : Vw n₀ A c l a b W) (hn : n₁ ≤ n₀) : Vw n₁ A c l a b W := by
  obtain ⟨hb', B, R, h1, h2, h3, h4, h5, h6⟩ := h
  exact ⟨hb', B, R, by omega, by omega, by omega, h4, h5, h6⟩
theorem Vw.nx {n₀ : Nat} {A : Option Addr} {c : Nat} {l : List PtV} {a b : Nat} {W : World} (h : Vw n₀ A c l a b W) (hl : FlOk l) (hp : PRow W.heap.size W A l) : NxOk (edg l) l.length 65 #[.pointer (some ⟨a, 0, none⟩)] W ∧ NxOk (bk (edg l) l.length) l.length 66 #[.pointer (some ⟨b, 0, none⟩)] W := by
  obtain ⟨hb, B, R, h1, h2, h3, h4, h5, h6⟩ := h
  exact ⟨next_ok hl h4 hp, back_ok h5 h6 (by have := hl.n; omega)⟩
abbrev nxV (a : Nat) : Value := .func (.func 65) #[] #[.pointer (some ⟨a, 0, none⟩)]
abbrev bkV (b : Nat) : Value := .func (.func 66) #[] #[.pointer (some ⟨b, 0, none⟩)]
/-- what forward gives -/
def FwRes (w : World) (A : Option Addr) (c : Nat) (l : List PtV) (e : Ending) (W : World) : Prop :=
  ∃ a b, e = .returned (.agg #[.int .i64 (l.length : Int), .int .i64 0, nxV a, bkV b]) ∧ Vw w.heap.size A c l a b W ∧ Below w.heap.size w W
theorem al4 (w : World) (o0 o1 o2 o3 : Obj) {W : World} (h : W = (((w.alloc o0).alloc o1).alloc o2).alloc o3) : W.heap[w.heap.size]? = some o0 ∧ W.heap[w.heap.size + 1]? = some o1 ∧ W.heap[w.heap.size + 2]? = some o2 ∧ W.heap[w.heap.size + 3]? = some o3 ∧ W.heap.size = w.heap.size + 4 ∧ Below w.heap.size w W := by
  subst h
  have s1 : (w.alloc o0).heap.size = w.heap.size + 1 := by simp
  have s2 : ((w.alloc o0).alloc o1).heap.size = w.heap.size + 2 := by simp
  have s3 : (((w.alloc o0).alloc o1).alloc o2).heap.size = w.heap.size + 3 := by simp
  have n0 := heap_alloc_new w o0
  have n1 := heap_alloc_new (w.alloc o0) o1
  have n2 := heap_alloc_new ((w.alloc o0).alloc o1) o2
  have n3 := heap_alloc_new (((w.alloc o0).alloc o1).alloc o2) o3
  rw [s1] at n1
  rw [s2] at n2
  rw [s3] at n3
  refine ⟨?_, ?_, ?_, n3, by simp, ((((Below.refl _ _).alloc (Nat.le_refl _) _).alloc (by simp) _).alloc (by simp; omega) _).alloc (by simp; omega) _⟩
  · exact (heap_alloc_old _ _ (by omega)).trans ((heap_alloc_old _ _ (by omega)).trans ((heap_alloc_old _ _ (by omega)).trans n0))
  · exact (heap_alloc_old _ _ (by omega)).trans ((heap_alloc_old _ _ (by omega)).trans n1)
  · exact (heap_alloc_old _ _ (by omega)).trans n2
theorem FwS.later {w : World} {A : Option Addr} {c : Nat} {l : List PtV} {L : Nat → List Nat} {W W' : World} (h : FwS w A c l L W) (hb : Below W.heap.size W W') : FwS w A c l L W' := by
  obtain ⟨R, h1⟩ := h.rows
  have hs := h.below.size
  exact ⟨h.fb.later hb, (hb.block _ (hlt h.rb)).trans h.rb, ⟨R, h1.later hb⟩, h.bb.later hb, h.below.trans (hb.mono hs)⟩

theorem FwS.step {w : World} {A : Option Addr} {c : Nat} {l : List PtV} {L L' : Nat → List Nat} {W w4 w6 : World} {R R' : Nat → Value} {o : Obj} {v0 : Value} {x : Nat} (h : FwS w A c l L W) (hd : HdR W (w.heap.size + 2) l.length (w.heap.size + 4) R L) (hx : x < l.length) (hg : (W.alloc o).grownBy w4 v0.ownBlock) {v : Value} (e6 : w6 = w4.setCell ⟨w.heap.size + 2, x, none⟩ v) (s1 : HdR w6 (w.heap.size + 2) l.length (w.heap.size + 4) R' L') (s2 : ∀ b, b < w.heap.size + 4 → b ≠ w.heap.size + 2 → w6.heap[b]? = W.heap[b]?) (hv : R x = v0) : FwS w A c l L' w6 := by
  have hs := hd.hi
  refine ⟨(s2 _ (by omega) (by omega)).trans h.fb, (s2 _ (by omega) (by omega)).trans h.rb, ⟨R', s1⟩, (s2 _ (by omega) (by omega)).trans h.bb, ?_⟩
  rw [e6]
  refine ((h.below.alloc (by omega) o).grown hg (by simp; omega) (fun b e => ?_)).setCell (by simp) _
  rw [← hv] at e
  have := (own_block' (hd.rows.own x hx) e).1
  omega

theorem FwS.ret {w : World} {A : Option Addr} {c : Nat} {l : List PtV} {L : Nat → List Nat} {W : World} (h : FwS w A c l L W) (v0 v1 v2 v3 : Value) {W' : World} (e : W' = ((((W.setCell ⟨w.heap.size + 1, 0, none⟩ v0).setCell ⟨w.heap.size + 1, 1, none⟩ v1).setCell ⟨w.heap.size + 1, 2, none⟩ v2).setCell ⟨w.heap.size + 1, 3, none⟩ v3)) :
    W'.heap[w.heap.size + 1]? = some (.cells #[v0, v1, v2, v3] 57 (0, 0)) ∧ FBx W' w.heap.size A c l ∧ (∃ R, HdR W' (w.heap.size + 2) l.length (w.heap.size + 4) R L) ∧ Bx W' (w.heap.size + 3) 39 (.slice (some ⟨w.heap.size + 2, 0, none⟩) l.length l.length) ∧ Below w.heap.size w W' := by
  subst e
  obtain ⟨R, hd⟩ := h.rows
  exact ⟨hset (hset (hset (hset h.rb _) _) _) _, (((h.fb.other (by simp) _).other (by simp) _).other (by simp) _).other (by simp) _, ⟨R, (((hd.set (by simp) (by simp) _).set (by simp) (by simp) _).set (by simp) (by simp) _).set (by simp) (by simp) _⟩, (((h.bb.other (by simp) _).other (by simp) _).other (by simp) _).other (by simp) _, (((h.below.setCell (by simp) _).setCell (by simp) _).setCell (by simp) _).setCell (by simp) _⟩

set_option maxRecDepth 100000 in
set_option maxHeartbeats 2000000 in
theorem forward_any (A : Option Addr) (c : Nat) (l : List PtV) (w : World) (hl : FlOk l) (hp : PRow w.heap.size w A l) :
    Calls Try.prog 45 #[.agg #[.slice A l.length c]] w (FwRes w A c l) := by
  have HL := Lib.hid hl
  have HP := Lib.hid hp
  have hln := hl.n
  have hmk := do_make_sl l.length (by omega)
  clear hl hp
  go_enter Try.func45, Try.ntmps45
  go_wp2_with (fail)
  have HF0 := Lib.hid (show ∀ W, W = _ → FwS w A c l (bk (edg l) 0) W from fun W hW => by
    obtain ⟨h0, h1, h2, h3, h4, h5⟩ := al4 w (.cells #[.slice A l.length c] 24) (.cells #[.int .i64 0, .int .i64 0, .nilFunc, .nilFunc] 57) (.cells (hdr (fun _ => .slice none 0 0) l.length) 29) (.cells #[.slice (some ⟨w.heap.size + 2, 0, none⟩) l.length l.length] 39) hW
    exact ⟨h0, h1, ⟨_, h2, Rw.none _ _ _, by omega, by omega⟩, h3, h5⟩)
  have HF1 := Lib.hid (HF0.out _ rfl)
  clear HF0 hmk
  generalize ((((w.alloc (.cells #[.slice A l.length c] 24)).alloc (.cells #[.int .i64 0, .int .i64 0, .nilFunc, .nilFunc] 57)).alloc (.cells (hdr (fun _ => .slice none 0 0) l.length) 29)).alloc (.cells #[.slice (some ⟨w.heap.size + 2, 0, none⟩) l.length l.length] 39)) = w1 at *
  go_loopw [17] (fun i wr => ∃ k : Nat, i = .int .i64 (k : Int) ∧ k ≤ l.length ∧ Hid (FwS w A c l (bk (edg l) k) wr)) (fun i _ => l.length - (intOf i).toNat)
  case atStart => exact ⟨0, rfl, Nat.zero_le _, HF1⟩
  case round =>
    obtain ⟨k, rfl, hk, hfw⟩ := hrel
    by_cases hlt' : k < l.length
    · obtain ⟨h1, h2⟩ := edg_zl HL.out.ok hlt'
      obtain ⟨pb, off, rfl, hpb, e1, e2, e3, hz, hc⟩ := (HP.out.below hfw.out.below).at hlt'
      have hz0 := (HP.out.2 _ (List.getElem_mem hlt')).1
      rw [h1] at hz0 hc e3
      rw [zl_len] at e3 hc
      have HZ := Lib.hid (NRow.of hz0)
      have HE2 := Lib.hid h2
      have HDG := Lib.hid (HL.out.edg k)
      generalize l[k].A = A2 at *
      generalize l[k].c = c2 at *
      generalize l[k].kind = p0 at *
      generalize l[k].node = p1 at *
      clear h1 h2 hz hz0
      go_upto_region 6 with fail
      have HF2 := Lib.hid (hfw.out.later ((Below.refl wr.heap.size wr).alloc (Nat.le_refl _) (.cells #[.int .i64 p0, .int .i64 p1, .slice A2 (edg l k).length c2] 44)))
      generalize (wr.alloc (.cells #[.int .i64 p0, .int .i64 p1, .slice A2 (edg l k).length c2] 44)) = w2 at *
      generalize wr = wo at *
      go_wp2_with (fail)
      go_loopw [25] (fun i wq => ∃ j : Nat, i = .int .i64 (j : Int) ∧ j ≤ (edg l k).length ∧ Hid (FwS w (some ⟨pb, off, none⟩) c l (bkp (edg l) k j) wq)) (fun i _ => (edg l k).length - (intOf i).toNat)
      case atStart => exact ⟨0, rfl, Nat.zero_le _, by rw [bkp_zero]; exact HF2⟩
      case round =>
        obtain ⟨j, rfl, hj, HW1⟩ := hrel
        by_cases hjt : j < (edg l k).length
        · obtain ⟨eb, eo, rfl, heb, hec⟩ := (HZ.out.below (HW1.out.below)) (by omega)
          have HJ1 := Lib.hid (show j + 1 ≤ (edg l k).length ∧ (edg l k).length - (j + 1) < (edg l k).length - j by omega)
          have r0 := hec j hjt
          have HX2 := Lib.hid (HE2.out _ (List.getElem_mem hjt))
          have HBS := Lib.hid (bkp_succ (E := edg l) hjt rfl)
          obtain ⟨x, HX⟩ : ∃ x, Hid ((edg l k)[j] = x) := ⟨_, Lib.hid rfl⟩
          rw [HX.out] at r0 HX2 HBS
          clear hec
          have HLL := Lib.hid (show (bkp (edg l) k j x).length ≤ 1000000000 by have h1 := bkp_len HL.out.edg k j x; have h2 : (k + 1) * 1000 ≤ 31 * 1000 := Nat.mul_le_mul_right _ (by omega); omega)
          obtain ⟨R, hd1⟩ := HW1.out.rows
          have HD1 := Lib.hid hd1
          have HXN := Lib.hid HX2.out.2
          have hxn := HX2.out.2
          have HS0 := Lib.hid (show wr.heap[w.heap.size + 3]? = some (.cells #[.slice (some ⟨w.heap.size + 2, 0, none⟩) l.length l.length] 39 (0, 0)) from HW1.out.bb)
          have HSA := Lib.hid (show (wr.alloc (.cells #[.int .i64 (k : Int)] 3)).heap[w.heap.size + 3]? = some (.cells #[.slice (some ⟨w.heap.size + 2, 0, none⟩) l.length l.length] 39 (0, 0)) from (heap_alloc_old _ _ (hlt HW1.out.bb)).trans HW1.out.bb)
          clear hd1
          go_upto_region 8 with fail
          as_aux_lemma =>
            obtain ⟨i0, hi0, hz0, hz1, hz2⟩ := info_parts infoInt
            obtain ⟨v0, HV0⟩ : ∃ v0, Hid (R x = v0) := ⟨_, Lib.hid rfl⟩
            obtain ⟨xs, HXS⟩ : ∃ xs, Hid (bkp (edg l) k j x = xs) := ⟨_, Lib.hid rfl⟩
            have HOW : Hid (wr.ownsRow (w.heap.size + 4) 3 1 v0 xs.length (zcells (zl xs))) := Lib.hid (by have h := HD1.out.rows.own x HXN.out; unfold ZOwn at h; rw [HV0.out, HXS.out, zl_len] at h; exact h)
            have hxl : xs.length ≤ 1000000000 := by rw [← HXS.out]; exact HLL.out
            have hcap1 : xs.length + 1 ≤ maxLen := by unfold maxLen; omega
            have hcap2 : (xs.length + 1) * 8 ≤ 140737488355328 := by omega
            have HCA := Lib.hid (show wr.cell? ⟨w.heap.size + 2, x, none⟩ = some v0 by rw [← HV0.out]; exact HD1.out.cell HXN.out)
            have HCB := Lib.hid (show (wr.alloc (.cells #[.int .i64 (k : Int)] 3)).cell? ⟨w.heap.size + 2, x, none⟩ = some v0 from (World.cell?_of_block (a := ⟨w.heap.size + 2, x, none⟩) (heap_alloc_old _ _ (hlt HD1.out.hd))).trans HCA.out)
            have HOA := Lib.hid (HOW.out.alloc (.cells #[.int .i64 (k : Int)] 3))
            have HHI := Lib.hid (show w.heap.size + 4 ≤ (wr.alloc (.cells #[.int .i64 (k : Int)] 3)).heap.size by have := HD1.out.hi; simp; omega)
            refine wp_region_noPanic ?_
            refine wp_region_held_drew (S := fun w' => (w').heap[w.heap.size + 3]? = some (.cells #[.slice (some ⟨w.heap.size + 2, 0, none⟩) l.length l.length] 39 (0, 0))) (by kernel_rfl) HS0.out (fun _ => ?_)
            refine wpAnyH_take (i := 0) (oi := { dst := some 29, op := Op.load 39 (Operand.tmp 3), type := 39, pos := "view.go:28", after := #[], guard := none }) (v := .slice (some ⟨w.heap.size + 2, 0, none⟩) l.length l.length) rfl (by kernel_rfl) (by kernel_rfl) (by kernel_rfl) (fun _ _ _ h => h) (Or.inl ⟨by rfl, ?_⟩) HS0.out ?_
            · (intro w' hSw; have z := Lib.cell_of_heap hSw 0; go_simp)
            simp only [Act.put, List.setIfInBounds_toArray, List.set_cons_zero, List.set_cons_succ]
            refine wpAnyH_take (i := 1) (oi := { dst := some 30, op := Op.move (Operand.tmp 7), type := 3, pos := "view.go:28", after := #[], guard := none }) (v := .int .i64 (x : Int)) rfl (by kernel_rfl) (by kernel_rfl) (by kernel_rfl) (fun _ _ _ h => h) (Or.inl ⟨by rfl, ?_⟩) HS0.out ?_
            · (intro w' hSw; go_simp)
            simp only [Act.put, List.setIfInBounds_toArray, List.set_cons_zero, List.set_cons_succ]
            refine wpAnyH_take (i := 2) (oi := { dst := some 31, op := Op.load 39 (Operand.tmp 3), type := 39, pos := "view.go:28", after := #[], guard := none }) (v := .slice (some ⟨w.heap.size + 2, 0, none⟩) l.length l.length) rfl (by kernel_rfl) (by kernel_rfl) (by kernel_rfl) (fun _ _ _ h => h) (Or.inl ⟨by rfl, ?_⟩) HS0.out ?_
            · (intro w' hSw; have z := Lib.cell_of_heap hSw 0; go_simp)
            simp only [Act.put, List.setIfInBounds_toArray, List.set_cons_zero, List.set_cons_succ]
            refine wpAnyH_take (i := 3) (oi := { dst := some 32, op := Op.move (Operand.tmp 7), type := 3, pos := "view.go:28", after := #[], guard := none }) (v := .int .i64 (x : Int)) rfl (by kernel_rfl) (by kernel_rfl) (by kernel_rfl) (fun _ _ _ h => h) (Or.inl ⟨by rfl, ?_⟩) HS0.out ?_
            · (intro w' hSw; go_simp)
            simp only [Act.put, List.setIfInBounds_toArray, List.set_cons_zero, List.set_cons_succ]
            refine wpAnyH_take (i := 4) (oi := { dst := some 33, op := Op.indexAddr 39 (Operand.tmp 31) (Operand.tmp 32), type := 0, pos := "view.go:28", after := #[{ on := 2, ground := Ground.data }, { on := 3, ground := Ground.data }], guard := none }) (v := .pointer (some ⟨w.heap.size + 2, x, none⟩)) rfl (by kernel_rfl) (by kernel_rfl) (by kernel_rfl) (fun _ _ _ h => h) (Or.inl ⟨by rfl, ?_⟩) HS0.out ?_
            · (intro w' hSw; go_simp)
            simp only [Act.put, List.setIfInBounds_toArray, List.set_cons_zero, List.set_cons_succ]
            refine wpAnyH_take (i := 6) (oi := { dst := some 35, op := Op.move (Operand.tmp 4), type := 3, pos := "view.go:28", after := #[], guard := none }) (v := .int .i64 (k : Int)) rfl (by kernel_rfl) (by kernel_rfl) (by kernel_rfl) (fun _ _ _ h => h) (Or.inl ⟨by rfl, ?_⟩) HS0.out ?_
            · (intro w' hSw; go_simp)
            simp only [Act.put, List.setIfInBounds_toArray, List.set_cons_zero, List.set_cons_succ]
            refine wpAnyH_ready (rs := [5, 7]) (by kernel_rfl) (by simp) (AllReadyH.cons (o := { dst := some 34, op := Op.load 29 (Operand.tmp 33), type := 29, pos := "view.go:28", after := #[{ on := 4, ground := Ground.data }], guard := none }) rfl (fun K hK => ?_) (AllReadyH.cons (o := { dst := some 36, op := Op.buildSlice 29 1 #[(0, Operand.tmp 35)], type := 29, pos := "view.go:28", after := #[{ on := 6, ground := Ground.data }], guard := none }) rfl (fun K hK => ?_) AllReadyH.nil))
            · have ca := HCA.out
              go_simp
              clear ca
              refine hK.out _ _ HS0.out (fun _ => ?_)
              clear hK K
              try simp only [Act.put, List.setIfInBounds_toArray, List.set_cons_zero, List.set_cons_succ]
              refine wpAnyH_ready (rs := [7]) (by kernel_rfl) (by simp) (AllReadyH.cons (o := { dst := some 36, op := Op.buildSlice 29 1 #[(0, Operand.tmp 35)], type := 29, pos := "view.go:28", after := #[{ on := 6, ground := Ground.data }], guard := none }) rfl (fun K hK => ?_) AllReadyH.nil)
              go_simp
              refine hK.out _ _ HSA.out (fun _ => ?_)
              clear hK K
              try simp only [Act.put, List.setIfInBounds_toArray, List.set_cons_zero, List.set_cons_succ]
              refine wpAnyH_ready (rs := [8]) (by kernel_rfl) (by simp) (AllReadyH.cons (o := { dst := some 37, op := Op.call { callee := Callee.builtin Builtin.append, args := #[Operand.tmp 34, Operand.tmp 36], argTypes := #[29, 29] }, type := 29, pos := "view.go:28", after := #[{ on := 5, ground := Ground.data }, { on := 7, ground := Ground.data }], guard := none }) rfl (fun K hK => ?_) AllReadyH.nil)
              refine step_append_lies _ (by rfl) _ _ 29 (by rfl) (w.heap.size + 4) 3 i0 _ 1 8 Try.underlying29 hi0 hz0 hz1 hz2 rfl (by decide) v0 xs.length (zcells (zl xs)) (by rfl) HOA.out ⟨wr.heap.size, 0, none⟩ 1 1 [.int .i64 (k : Int)] (by rfl) (by rfl) (World.news_of_block (cs := #[.int .i64 (k : Int)]) (heap_alloc_new wr _)) (by simp [Value.oneCell']) (by decide) hcap1 hcap2 HHI.out (wr.heap.size + 1) (by simp) ?_
              intro g cap w4 hown hgr hsel hgl
              have hst := HD1.out.step (x := x) (y := k) (o := (.cells #[.int .i64 (k : Int)] 3)) (w4 := w4) (v := .slice (some ⟨g, 0, none⟩) (xs.length + 1) cap) HXN.out (by rw [HXS.out]; exact hown) (fun b h1 h2 => by rw [HV0.out] at h2; exact hgr.block b h1 h2) hgr.size (fun b e => by rw [HV0.out]; cases e; rcases hsel with h | h; exact .inl h; exact .inr (by rw [h]; simp))
              have HST := Lib.hid hst
              have hfz : w4.frozen? ⟨w.heap.size + 2, x, none⟩ = false := hfrz (hst.2.2.1.trans HD1.out.hd) _
              obtain ⟨u, hcz⟩ : ∃ u, w4.cell? ⟨w.heap.size + 2, x, none⟩ = some u := ⟨_, (World.cell?_of_block (a := ⟨w.heap.size + 2, x, none⟩) hst.2.2.1).trans HCA.out⟩
              have HB4 := Lib.hid (show Below wr.heap.size wr w4 ∨ True from .inr trivial)
              have HG4 := Lib.hid (show (wr.alloc (.cells #[.int .i64 (k : Int)] 3)).grownBy w4 v0.ownBlock from ⟨hgr.os, hgr.tape, hgr.output, hgr.size, hgr.block⟩)
              have HS4 := Lib.hid (show (w4).heap[w.heap.size + 3]? = some (.cells #[.slice (some ⟨w.heap.size + 2, 0, none⟩) l.length l.length] 39 (0, 0)) from (HST.out.2.2.2 _ (by omega)).trans HW1.out.bb)
              clear hown hgr hsel hgl hst
              refine hK.out _ _ HS4.out (fun _ => ?_)
              clear hK K
              try simp only [Act.put, List.setIfInBounds_toArray, List.set_cons_zero, List.set_cons_succ]
              refine wpAnyH_take (i := 9) (oi := { dst := some 38, op := Op.indexAddr 39 (Operand.tmp 29) (Operand.tmp 30), type := 0, pos := "view.go:28", after := #[{ on := 0, ground := Ground.data }, { on := 1, ground := Ground.data }, { on := 0, ground := Ground.phase }, { on := 1, ground := Ground.phase }, { on := 2, ground := Ground.phase }, { on := 3, ground := Ground.phase }, { on := 4, ground := Ground.phase }, { on := 5, ground := Ground.phase }, { on := 6, ground := Ground.phase }, { on := 7, ground := Ground.phase }, { on := 8, ground := Ground.phase }], guard := none }) (v := .pointer (some ⟨w.heap.size + 2, x, none⟩)) rfl (by kernel_rfl) (by kernel_rfl) (by kernel_rfl) (fun _ _ _ h => h) (Or.inl ⟨by rfl, ?_⟩) HS4.out ?_
              · (intro w' hSw; go_simp)
              simp only [Act.put, List.setIfInBounds_toArray, List.set_cons_zero, List.set_cons_succ]
              refine wpAnyH_ready (rs := [10]) (by kernel_rfl) (by simp) (AllReadyH.cons (o := { dst := none, op := Op.store 29 (Operand.tmp 38) (Operand.tmp 37), type := 0, pos := "view.go:28", after := #[{ on := 9, ground := Ground.data }, { on := 8, ground := Ground.data }, { on := 8, ground := Ground.chain }, { on := 0, ground := Ground.phase }, { on := 1, ground := Ground.phase }, { on := 2, ground := Ground.phase }, { on := 3, ground := Ground.phase }, { on := 4, ground := Ground.phase }, { on := 5, ground := Ground.phase }, { on := 6, ground := Ground.phase }, { on := 7, ground := Ground.phase }, { on := 8, ground := Ground.phase }], guard := none }) rfl (fun K hK => ?_) AllReadyH.nil)
              go_simp
              refine hK.out _ _ (show ((w4.setCell ⟨w.heap.size + 2, x, none⟩ (.slice (some ⟨g, 0, none⟩) (xs.length + 1) cap))).heap[w.heap.size + 3]? = some (.cells #[.slice (some ⟨w.heap.size + 2, 0, none⟩) l.length l.length] 39 (0, 0)) from (hfar (by simp) _).trans HS4.out) (fun _ => ?_)
              clear hK K
              try simp only [Act.put, List.setIfInBounds_toArray, List.set_cons_zero, List.set_cons_succ]
              refine wpAnyH_done (by kernel_rfl) ?_ _
              refine NoPanic.normal ?_
              clear hfz hcz
              have HW6 := Lib.hid (HW1.out.step HD1.out HXN.out HG4.out rfl HST.out.1 HST.out.2.1 HV0.out)
              rw [← HBS.out] at HW6
              generalize (w4.setCell ⟨w.heap.size + 2, x, none⟩ (.slice (some ⟨g, 0, none⟩) (xs.length + 1) cap)) = w6 at *
              clear HST HG4 HS4 HB4 HS0 HSA
              have hdg := HDG.out
              go_wp2_with (fail)
              exact ⟨⟨j + 1, by go_num, HJ1.out.1, HW6⟩, by have := HJ1.out.2; simp only [intOf, Int.toNat_natCast]; first | exact this | (simp; omega)⟩
            · go_simp
              refine hK.out _ _ HSA.out (fun _ => ?_)
              clear hK K
              try simp only [Act.put, List.setIfInBounds_toArray, List.set_cons_zero, List.set_cons_succ]
              refine wpAnyH_ready (rs := [5]) (by kernel_rfl) (by simp) (AllReadyH.cons (o := { dst := some 34, op := Op.load 29 (Operand.tmp 33), type := 29, pos := "view.go:28", after := #[{ on := 4, ground := Ground.data }], guard := none }) rfl (fun K hK => ?_) AllReadyH.nil)
              have ca := HCB.out
              go_simp
              clear ca
              refine hK.out _ _ HSA.out (fun _ => ?_)
              clear hK K
              try simp only [Act.put, List.setIfInBounds_toArray, List.set_cons_zero, List.set_cons_succ]
              refine wpAnyH_ready (rs := [8]) (by kernel_rfl) (by simp) (AllReadyH.cons (o := { dst := some 37, op := Op.call { callee := Callee.builtin Builtin.append, args := #[Operand.tmp 34, Operand.tmp 36], argTypes := #[29, 29] }, type := 29, pos := "view.go:28", after := #[{ on := 5, ground := Ground.data }, { on := 7, ground := Ground.data }], guard := none }) rfl (fun K hK => ?_) AllReadyH.nil)
              refine step_append_lies _ (by rfl) _ _ 29 (by rfl) (w.heap.size + 4) 3 i0 _ 1 8 Try.underlying29 hi0 hz0 hz1 hz2 rfl (by decide) v0 xs.length (zcells (zl xs)) (by rfl) HOA.out ⟨wr.heap.size, 0, none⟩ 1 1 [.int .i64 (k : Int)] (by rfl) (by rfl) (World.news_of_block (cs := #[.int .i64 (k : Int)]) (heap_alloc_new wr _)) (by simp [Value.oneCell']) (by decide) hcap1 hcap2 HHI.out (wr.heap.size + 1) (by simp) ?_
              intro g cap w4 hown hgr hsel hgl
              have hst := HD1.out.step (x := x) (y := k) (o := (.cells #[.int .i64 (k : Int)] 3)) (w4 := w4) (v := .slice (some ⟨g, 0, none⟩) (xs.length + 1) cap) HXN.out (by rw [HXS.out]; exact hown) (fun b h1 h2 => by rw [HV0.out] at h2; exact hgr.block b h1 h2) hgr.size (fun b e => by rw [HV0.out]; cases e; rcases hsel with h | h; exact .inl h; exact .inr (by rw [h]; simp))
              have HST := Lib.hid hst
              have hfz : w4.frozen? ⟨w.heap.size + 2, x, none⟩ = false := hfrz (hst.2.2.1.trans HD1.out.hd) _
              obtain ⟨u, hcz⟩ : ∃ u, w4.cell? ⟨w.heap.size + 2, x, none⟩ = some u := ⟨_, (World.cell?_of_block (a := ⟨w.heap.size + 2, x, none⟩) hst.2.2.1).trans HCA.out⟩
              have HB4 := Lib.hid (show Below wr.heap.size wr w4 ∨ True from .inr trivial)
              have HG4 := Lib.hid (show (wr.alloc (.cells #[.int .i64 (k : Int)] 3)).grownBy w4 v0.ownBlock from ⟨hgr.os, hgr.tape, hgr.output, hgr.size, hgr.block⟩)
              have HS4 := Lib.hid (show (w4).heap[w.heap.size + 3]? = some (.cells #[.slice (some ⟨w.heap.size + 2, 0, none⟩) l.length l.length] 39 (0, 0)) from (HST.out.2.2.2 _ (by omega)).trans HW1.out.bb)
              clear hown hgr hsel hgl hst
              refine hK.out _ _ HS4.out (fun _ => ?_)
              clear hK K
              try simp only [Act.put, List.setIfInBounds_toArray, List.set_cons_zero, List.set_cons_succ]
              refine wpAnyH_take (i := 9) (oi := { dst := some 38, op := Op.indexAddr 39 (Operand.tmp 29) (Operand.tmp 30), type := 0, pos := "view.go:28", after := #[{ on := 0, ground := Ground.data }, { on := 1, ground := Ground.data }, { on := 0, ground := Ground.phase }, { on := 1, ground := Ground.phase }, { on := 2, ground := Ground.phase }, { on := 3, ground := Ground.phase }, { on := 4, ground := Ground.phase }, { on := 5, ground := Ground.phase }, { on := 6, ground := Ground.phase }, { on := 7, ground := Ground.phase }, { on := 8, ground := Ground.phase }], guard := none }) (v := .pointer (some ⟨w.heap.size + 2, x, none⟩)) rfl (by kernel_rfl) (by kernel_rfl) (by kernel_rfl) (fun _ _ _ h => h) (Or.inl ⟨by rfl, ?_⟩) HS4.out ?_
              · (intro w' hSw; go_simp)
              simp only [Act.put, List.setIfInBounds_toArray, List.set_cons_zero, List.set_cons_succ]
              refine wpAnyH_ready (rs := [10]) (by kernel_rfl) (by simp) (AllReadyH.cons (o := { dst := none, op := Op.store 29 (Operand.tmp 38) (Operand.tmp 37), type := 0, pos := "view.go:28", after := #[{ on := 9, ground := Ground.data }, { on := 8, ground := Ground.data }, { on := 8, ground := Ground.chain }, { on := 0, ground := Ground.phase }, { on := 1, ground := Ground.phase }, { on := 2, ground := Ground.phase }, { on := 3, ground := Ground.phase }, { on := 4, ground := Ground.phase }, { on := 5, ground := Ground.phase }, { on := 6, ground := Ground.phase }, { on := 7, ground := Ground.phase }, { on := 8, ground := Ground.phase }], guard := none }) rfl (fun K hK => ?_) AllReadyH.nil)
              go_simp
              refine hK.out _ _ (show ((w4.setCell ⟨w.heap.size + 2, x, none⟩ (.slice (some ⟨g, 0, none⟩) (xs.length + 1) cap))).heap[w.heap.size + 3]? = some (.cells #[.slice (some ⟨w.heap.size + 2, 0, none⟩) l.length l.length] 39 (0, 0)) from (hfar (by simp) _).trans HS4.out) (fun _ => ?_)
              clear hK K
              try simp only [Act.put, List.setIfInBounds_toArray, List.set_cons_zero, List.set_cons_succ]
              refine wpAnyH_done (by kernel_rfl) ?_ _
              refine NoPanic.normal ?_
              clear hfz hcz
              have HW6 := Lib.hid (HW1.out.step HD1.out HXN.out HG4.out rfl HST.out.1 HST.out.2.1 HV0.out)
              rw [← HBS.out] at HW6
              generalize (w4.setCell ⟨w.heap.size + 2, x, none⟩ (.slice (some ⟨g, 0, none⟩) (xs.length + 1) cap)) = w6 at *
              clear HST HG4 HS4 HB4 HS0 HSA
              have hdg := HDG.out
              go_wp2_with (fail)
              exact ⟨⟨j + 1, by go_num, HJ1.out.1, HW6⟩, by have := HJ1.out.2; simp only [intOf, Int.toNat_natCast]; first | exact this | (simp; omega)⟩
        · obtain rfl : j = (edg l k).length := by omega
          rw [bkp_all] at HW1
          go_wp2_with (fail)
          exact ⟨⟨k + 1, by go_num, by omega, HW1⟩, by simp [intOf]; omega⟩
    · obtain rfl : k = l.length := by omega
      obtain ⟨R, hd1⟩ := hfw.out.rows
      have HFW := hfw
      have HD1 := Lib.hid hd1
      have f0 := hfw.out.fb.cell
      have r0 := Lib.cell_of_heap hfw.out.rb
      have r1 := r0 1
      have r2 := r0 2
      have r3 := r0 3
      have r00 := r0 0
      have z0 := hfrz hfw.out.rb 0
      have z1 := hfrz hfw.out.rb 1
      have z2 := hfrz hfw.out.rb 2
      have z3 := hfrz hfw.out.rb 3
      clear hd1 r0
      go_wp2_with (fail)
      obtain ⟨t0, t1, ⟨R', t2⟩, t3, t4⟩ := HFW.out.ret _ _ _ _ rfl
      have q := Lib.cell_of_heap t0
      have q0 := q 0
      have q1 := q 1
      have q2 := q 2
      have q3 := q 3
      have HFIN := Lib.hid (show FwRes w A c l (.returned (.agg #[.int .i64 (l.length : Int), .int .i64 0, nxV w.heap.size, bkV (w.heap.size + 3)])) _ from
        ⟨w.heap.size, w.heap.size + 3, rfl, ⟨w.heap.size + 2, w.heap.size + 4, R', Nat.le_refl _, by omega, by omega, t1, t2, t3⟩, t4⟩)
      exact bodyPost_ret (v := .agg #[.int .i64 (l.length : Int), .int .i64 0, .func (.func 65) #[] #[.pointer (some ⟨w.heap.size, 0, none⟩)], .func (.func 66) #[] #[.pointer (some ⟨w.heap.size + 3, 0, none⟩)]]) (by simp [results, Try.results45, go_sem, q0, q1, q2, q3]) rfl HFIN.out
end Go.Proofs.Ytbdpdbeekbbehaa
