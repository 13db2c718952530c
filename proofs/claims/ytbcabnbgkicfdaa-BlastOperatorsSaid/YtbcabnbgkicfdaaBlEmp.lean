/- What is proved: package blast: empty. -/
import Derived.Test.YtbcabnbgkicfdaaBlCat
set_option linter.unusedVariables false
namespace Go.Proofs.Ytbcabnbgkicfdaa
open Go.RowKit Go.Maps

def EmpH (x z : List Int) (v : Int → Bool) (d : Int → Prop) : Prop := (∀ (j : Nat) (h : j < z.length), v z[j] = decide (un v (x.drop j) = 0)) ∧ (Dps d x → Dps d z)
def EmpP (x : List Int) (k : Nat) (z : List Int) (v : Int → Bool) (d : Int → Prop) : Prop := (∀ (j : Nat) (h : j < z.length), x.length - k ≤ j → v z[j] = decide (un v (x.drop j) = 0)) ∧ (Dps d x → Dps d z)
theorem un_drop (v : Int → Bool) (x : List Int) {i : Nat} (h : i < x.length) : un v (x.drop i) = b2n (v x[i]) + 2 * un v (x.drop (i + 1)) := by
  rw [List.drop_eq_getElem_cons h]
  rfl
theorem emp_start {x : List Int} {v : Int → Bool} {d : Int → Prop} (ho : VOk v d) : EmpP x 0 ((List.replicate (x.length + 1) 0).set x.length 1) v d := by
  refine ⟨fun j h hj => ?_, fun _ a ha => ?_⟩
  · have : j = x.length := by simp at h; omega
    subst this
    simp [un, ho.one]
  · rcases List.mem_or_eq_of_mem_set ha with h | h
    · rw [(List.mem_replicate.1 h).2]; exact ho.d0
    · rw [h]; exact ho.d1
theorem emp_step {x z : List Int} {i k : Nat} {s : Int} {v : Int → Bool} {d : Int → Prop} (hi : i < x.length) (hz : z.length = x.length + 1) (hk : k + i + 1 = x.length) (hi1 : i + 1 < z.length) (h : EmpP x k z v d) (h1 : v s = (v z[i + 1] && !(v x[i])) ∧ (d z[i + 1] → d x[i] → d s)) : EmpP x (k + 1) (z.set i s) v d := by
  refine ⟨fun j hj hjk => ?_, fun dx a ha => ?_⟩
  · by_cases e : j = i
    · subst e
      rw [List.getElem_set_self, h1.1, h.1 (j + 1) hi1 (by omega), un_drop v x hi]
      have l := un_lo v (x.drop (j + 1))
      generalize un v (x.drop (j + 1)) = X at *
      cases v x[j] <;> simp [b2n] <;> omega
    · rw [List.getElem_set_ne (fun h => e h.symm)]
      have hj' : j < z.length := by simpa using hj
      by_cases e2 : j < i
      · omega
      · exact h.1 j hj' (by omega)
  · rcases List.mem_or_eq_of_mem_set ha with hm | hm
    · exact h.2 dx a hm
    · rw [hm]; exact h1.2 ((h.2 dx).at hi1) (dx.at hi)
theorem ZBlk.newset (w : World) (N i : Nat) (x : Int) : ZBlk (w.alloc (.cells ((hdr (fun _ => .int .i64 0) N).setIfInBounds i (.int .i64 x)) 3)) w.heap.size ((List.replicate N 0).set i x) := by
  have h := ZBlk.new w N
  unfold ZBlk at *
  rw [heap_alloc_new] at h
  simp only [Option.some.injEq, Obj.cells.injEq] at h
  rw [heap_alloc_new, h.1, List.setIfInBounds_toArray]
  simp only [zcells, List.map_set]
section
variable {n₀ bb mb : Nat} {rv : Value} {I : Int} {gs : List Gt} {w : World}
theorem Lts.set {l : List Int} (h : Lts I gs l) (i : Nat) {x : Int} (hx : isLit I gs x) : Lts I gs (l.set i x) := fun a ha => by
  rcases List.mem_or_eq_of_mem_set ha with hm | hm
  · exact h a hm
  · rw [hm]; exact hx
set_option maxRecDepth 100000 in
set_option maxHeartbeats 4000000 in
theorem empty_any (A : Option Addr) (cx : Nat) (x : List Int) (h : Bld w n₀ bb mb rv I gs 0) (hX : WRow w.heap.size w A x) (lx : Lts I gs x) (hl : x.length ≤ 20) (hf : gs.length + x.length ≤ 5000) :
    Calls Try.prog 105 #[.pointer (some ⟨bb, 0, none⟩), .slice A x.length cx] w (WdG n₀ bb mb rv I gs x.length w (x.length + 1) (EmpH x)) := by
  obtain ⟨N, HN⟩ : ∃ N, Hid (x.length + 1 = N) := ⟨_, Lib.hid rfl⟩
  have hmk := do_make_in N (by have := HN.out; omega)
  have hb0 := (Below.refl w.heap.size w).alloc (Nat.le_refl _) (.cells (hdr (fun _ => .int .i64 0) N) 3)
  have hz0 := ZBlk.new w N
  have hnl : x.length < (List.replicate N (0 : Int)).length := by have := HN.out; simp; omega
  have y1 := hz0.cell hnl
  rw [List.getElem_replicate] at y1
  have y2 := hz0.frz x.length
  have HS0 := Lib.hid ((Stp.refl h).later ((Below.refl w.heap.size w).alloc (Nat.le_refl _) (.cells ((hdr (fun _ => .int .i64 0) N).setIfInBounds x.length (.int .i64 1)) 3)) h)
  have HZ0 := Lib.hid (ZBlk.newset w N x.length 1)
  have HL0 := Lib.hid ((lts_zeros h N).set x.length (show isLit I gs 1 from ⟨by omega, by have := h.ck.lo; omega⟩))
  have HH0 : Hid (Hol I gs (EmpP x 0 ((List.replicate N 0).set x.length 1))) := Lib.hid (Hol.triv fun v d ho => by rw [← HN.out]; exact emp_start ho)
  have HT := Lib.hid h
  have HX := Lib.hid hX
  have LX := Lib.hid lx
  have HF := Lib.hid hf
  have hlN : x.length < N := by have := HN.out; omega
  have hw1 : IntKind.i64.wrap ((x.length : Int) + 1) = (N : Int) := by rw [IntWalk.i64_in _ (by omega)]; have := HN.out; omega
  have hw2 : (x.length : Int) + 1 = (N : Int) := by have := HN.out; omega
  have hw3 : IntKind.i64.wrap ((x.length : Int) - 1) = (x.length : Int) - 1 := IntWalk.i64_in _ (by omega)
  rw [HN.out]
  clear h hX lx hf hb0 hz0 hnl
  go_enter Try.func105, Try.ntmps105
  go_wp2_with (fail)
  clear hmk y1 y2 hw1 hw2
  generalize hgw : w.alloc (.cells ((hdr (fun _ => .int .i64 0) N).setIfInBounds x.length (.int .i64 1)) 3) = w1 at *
  clear hgw
  obtain ⟨zb, HZB⟩ : ∃ zb, Hid (w.heap.size = zb) := ⟨_, Lib.hid rfl⟩
  rw [HZB.out] at HZ0 ⊢
  go_loopw [6] (fun jv wr => ∃ (k : Nat) (q : Int) (z : List Int) (rv1 : Value) (gs1 : List Gt), k ≤ x.length ∧ jv = .int .i64 q ∧ Hid (q = (x.length : Int) - 1 - (k : Int)) ∧ Hid (Stp n₀ bb mb rv I gs k w wr rv1 gs1) ∧ Hid (ZBlk wr zb z) ∧ Hid (z.length = x.length + 1) ∧ Hid (Lts I gs1 z) ∧ Hid (Hol I gs1 (EmpP x k z))) (fun jv _ => (intOf jv + 1).toNat)
  case atStart => exact ⟨0, (x.length : Int) - 1, _, rv, gs, Nat.zero_le _, rfl, Lib.hid (by simp), HS0, HZ0, Lib.hid (by simp; exact HN.out.symm), HL0, HH0⟩
  case round =>
    obtain ⟨k, q, z, rv1, gs1, hk, rfl, hq, hst, hzb, hzl, hlz, hho⟩ := hrel
    by_cases hlt : k < x.length
    · obtain ⟨i, rfl⟩ : ∃ i : Nat, q = (i : Int) := ⟨q.toNat, by have := hq.out; omega⟩
      have hki : k + i + 1 = x.length := by have := hq.out; omega
      have hi : i < x.length := by omega
      have hi1 : i + 1 < z.length := by have := hzl.out; omega
      have hi0 : i < z.length := by omega
      have hdr : Below wr.heap.size wr wr.drew := (Below.refl _ _).drew
      have HST := Lib.hid (hst.out.later hdr HT.out)
      have HZ1 := Lib.hid (hzb.out.later hdr)
      obtain ⟨b1, o1, hA, q1⟩ := (HX.out.stp HT.out HST.out).at hi
      have q2 := HZ1.out.cell hi1
      have HGL := Lib.hid (show gs1.length + 1 ≤ 5000 by have := hst.out.len; have := HF.out; omega)
      have HLX := Lib.hid ((LX.out.at hi).more hst.out.grow)
      have HLZ := Lib.hid (hlz.out.at hi1)
      have HSM := Lib.hid (fun v d (s : Int) => @emp_step x z i k s v d hi hzl.out hki hi1)
      have HRX := Lib.hid (fun (m : Nat) (w2 : World) (rv2 : Value) (gs2 : List Gt) (hs : Stp n₀ bb mb rv I gs m w w2 rv2 gs2) => (HX.out.stp HT.out hs).at hi)
      have HRZ := Lib.hid (fun (w2 : World) (hb : ZBlk w2 zb z) => hb.cell hi1)
      have HRI := Lib.hid (fun (w2 : World) (hb : ZBlk w2 zb z) => hb.cell hi0)
      have HRS := Lib.hid (fun (w2 : World) (s : Int) (hb : ZBlk w2 zb (z.set i s)) => show w2.cell? ⟨zb, i + 1, none⟩ = some (.int .i64 z[i + 1]) from by
        have := hb.cell (i := i + 1) (by simpa using hi1)
        rwa [List.getElem_set_ne (by omega)] at this)
      obtain ⟨p, HP⟩ : ∃ p, Hid (x[i] = p) := ⟨_, Lib.hid rfl⟩
      obtain ⟨u, HU⟩ : ∃ u, Hid (z[i + 1] = u) := ⟨_, Lib.hid rfl⟩
      rw [HP.out] at q1 HLX HSM HRX
      rw [HU.out] at q2 HLZ HSM HRZ HRS
      subst hA
      have HRX := Lib.hid (fun (m : Nat) (w2 : World) (rv2 : Value) (gs2 : List Gt) (hs : Stp n₀ bb mb rv I gs m w w2 rv2 gs2) => show w2.cell? ⟨b1, o1 + i, none⟩ = some (.int .i64 p) by obtain ⟨b, o, e, h⟩ := HRX.out _ _ _ _ hs; cases e; exact h)
      have HSS := Lib.hid (And.intro q2 q1)
      have HNT := Lib.hid (fun W => not_any p (by have := bl_small hst.out.tab HLX.out; omega) W)
      have HAN := Lib.hid (a_And u (notP p) HST.out.tab HLZ.out HLX.out.not HGL.out)
      have hw4 : IntKind.i64.wrap ((i : Int) - 1) = (i : Int) - 1 := IntWalk.i64_in _ (by omega)
      have hw5 : IntKind.i64.wrap ((i : Int) + 1) = ((i + 1 : Nat) : Int) := by rw [IntWalk.i64_in _ (by omega)]; omega
      have hge : decide (0 ≤ (i : Int)) = true := by simp
      have hiN : i < N := by have := HN.out; omega
      have hiN1 : i + 1 < N := by have := HN.out; omega
      have hiN2 : (i : Int) + 1 < (N : Int) := by omega
      have hiN3 : ¬ (N : Int) ≤ (i : Int) + 1 := by omega
      have hiN4 : ¬ (i : Int) + 1 < 0 := by omega
      have hiN5 : 0 ≤ (i : Int) + 1 := by omega
      have HQ := Lib.hid (show (i : Int) - 1 = (x.length : Int) - 1 - ((k + 1 : Nat) : Int) by omega)
      have HKI := Lib.hid hki
      clear q1 q2 hst hdr hki hq hzb
      go_upto_region 6 with fail
      rename_i K hKK
      refine wp_region_noPanic ?_
      refine wp_region_held_drew (S := fun w' => w'.cell? ⟨zb, i + 1, none⟩ = some (.int .i64 u) ∧ w'.cell? ⟨b1, o1 + i, none⟩ = some (.int .i64 p)) (by kernel_rfl) HSS.out (fun _ => ?_)
      generalize wr.drew = w2 at *
      refine wpAnyH_take (i := 0) (oi := { dst := some 22, op := Op.move (Operand.tmp 5), type := 47, pos := "arithmetic.go:118", after := #[], guard := none }) (v := .slice (some ⟨zb, 0, none⟩) N N) rfl (by kernel_rfl) (by kernel_rfl) (by kernel_rfl) (fun _ _ _ h => h) (Or.inl ⟨by rfl, ?_⟩) HSS.out ?_
      · (intro w' hSw; go_simp)
      simp only [Act.put, List.setIfInBounds_toArray, List.set_cons_zero, List.set_cons_succ]
      refine wpAnyH_take (i := 1) (oi := { dst := some 23, op := Op.move (Operand.tmp 6), type := 3, pos := "arithmetic.go:118", after := #[], guard := none }) (v := .int .i64 (i : Int)) rfl (by kernel_rfl) (by kernel_rfl) (by kernel_rfl) (fun _ _ _ h => h) (Or.inl ⟨by rfl, ?_⟩) HSS.out ?_
      · (intro w' hSw; go_simp)
      simp only [Act.put, List.setIfInBounds_toArray, List.set_cons_zero, List.set_cons_succ]
      refine wpAnyH_take (i := 2) (oi := { dst := some 24, op := Op.move (Operand.tmp 0), type := 24, pos := "arithmetic.go:118", after := #[], guard := none }) (v := .pointer (some ⟨bb, 0, none⟩)) rfl (by kernel_rfl) (by kernel_rfl) (by kernel_rfl) (fun _ _ _ h => h) (Or.inl ⟨by rfl, ?_⟩) HSS.out ?_
      · (intro w' hSw; go_simp)
      simp only [Act.put, List.setIfInBounds_toArray, List.set_cons_zero, List.set_cons_succ]
      refine wpAnyH_take (i := 3) (oi := { dst := some 25, op := Op.move (Operand.tmp 5), type := 47, pos := "arithmetic.go:118", after := #[], guard := none }) (v := .slice (some ⟨zb, 0, none⟩) N N) rfl (by kernel_rfl) (by kernel_rfl) (by kernel_rfl) (fun _ _ _ h => h) (Or.inl ⟨by rfl, ?_⟩) HSS.out ?_
      · (intro w' hSw; go_simp)
      simp only [Act.put, List.setIfInBounds_toArray, List.set_cons_zero, List.set_cons_succ]
      refine wpAnyH_take (i := 4) (oi := { dst := some 26, op := Op.move (Operand.tmp 6), type := 3, pos := "arithmetic.go:118", after := #[], guard := none }) (v := .int .i64 (i : Int)) rfl (by kernel_rfl) (by kernel_rfl) (by kernel_rfl) (fun _ _ _ h => h) (Or.inl ⟨by rfl, ?_⟩) HSS.out ?_
      · (intro w' hSw; go_simp)
      simp only [Act.put, List.setIfInBounds_toArray, List.set_cons_zero, List.set_cons_succ]
      refine wpAnyH_take (i := 5) (oi := { dst := some 27, op := Op.binOp BinOp.add 3 (Operand.tmp 26) (Operand.const (Value.int IntKind.i64 1)) 3, type := 3, pos := "arithmetic.go:118", after := #[{ on := 4, ground := Ground.data }], guard := none }) (v := .int .i64 ((i : Int) + 1)) rfl (by kernel_rfl) (by kernel_rfl) (by kernel_rfl) (fun _ _ _ h => h) (Or.inl ⟨by rfl, ?_⟩) HSS.out ?_
      · (intro w' hSw; go_simp)
      simp only [Act.put, List.setIfInBounds_toArray, List.set_cons_zero, List.set_cons_succ]
      refine wpAnyH_take (i := 6) (oi := { dst := some 28, op := Op.indexAddr 47 (Operand.tmp 25) (Operand.tmp 27), type := 0, pos := "arithmetic.go:118", after := #[{ on := 3, ground := Ground.data }, { on := 5, ground := Ground.data }], guard := none }) (v := .pointer (some ⟨zb, i + 1, none⟩)) rfl (by kernel_rfl) (by kernel_rfl) (by kernel_rfl) (fun _ _ _ h => h) (Or.inl ⟨by rfl, ?_⟩) HSS.out ?_
      · (intro w' hSw; go_simp)
      simp only [Act.put, List.setIfInBounds_toArray, List.set_cons_zero, List.set_cons_succ]
      refine wpAnyH_take (i := 7) (oi := { dst := some 29, op := Op.load 3 (Operand.tmp 28), type := 3, pos := "arithmetic.go:118", after := #[{ on := 6, ground := Ground.data }], guard := none }) (v := .int .i64 u) rfl (by kernel_rfl) (by kernel_rfl) (by kernel_rfl) (fun _ _ _ h => h) (Or.inl ⟨by rfl, ?_⟩) HSS.out ?_
      · (intro w' hSw; obtain ⟨z0, z1⟩ := hSw; go_simp)
      simp only [Act.put, List.setIfInBounds_toArray, List.set_cons_zero, List.set_cons_succ]
      refine wpAnyH_take (i := 8) (oi := { dst := some 30, op := Op.move (Operand.tmp 1), type := 47, pos := "arithmetic.go:118", after := #[], guard := none }) (v := .slice (some ⟨b1, o1, none⟩) x.length cx) rfl (by kernel_rfl) (by kernel_rfl) (by kernel_rfl) (fun _ _ _ h => h) (Or.inl ⟨by rfl, ?_⟩) HSS.out ?_
      · (intro w' hSw; go_simp)
      simp only [Act.put, List.setIfInBounds_toArray, List.set_cons_zero, List.set_cons_succ]
      refine wpAnyH_take (i := 9) (oi := { dst := some 31, op := Op.move (Operand.tmp 6), type := 3, pos := "arithmetic.go:118", after := #[], guard := none }) (v := .int .i64 (i : Int)) rfl (by kernel_rfl) (by kernel_rfl) (by kernel_rfl) (fun _ _ _ h => h) (Or.inl ⟨by rfl, ?_⟩) HSS.out ?_
      · (intro w' hSw; go_simp)
      simp only [Act.put, List.setIfInBounds_toArray, List.set_cons_zero, List.set_cons_succ]
      refine wpAnyH_take (i := 10) (oi := { dst := some 32, op := Op.indexAddr 47 (Operand.tmp 30) (Operand.tmp 31), type := 0, pos := "arithmetic.go:118", after := #[{ on := 8, ground := Ground.data }, { on := 9, ground := Ground.data }], guard := none }) (v := .pointer (some ⟨b1, o1 + i, none⟩)) rfl (by kernel_rfl) (by kernel_rfl) (by kernel_rfl) (fun _ _ _ h => h) (Or.inl ⟨by rfl, ?_⟩) HSS.out ?_
      · (intro w' hSw; go_simp)
      simp only [Act.put, List.setIfInBounds_toArray, List.set_cons_zero, List.set_cons_succ]
      refine wpAnyH_take (i := 11) (oi := { dst := some 33, op := Op.load 3 (Operand.tmp 32), type := 3, pos := "arithmetic.go:118", after := #[{ on := 10, ground := Ground.data }], guard := none }) (v := .int .i64 p) rfl (by kernel_rfl) (by kernel_rfl) (by kernel_rfl) (fun _ _ _ h => h) (Or.inl ⟨by rfl, ?_⟩) HSS.out ?_
      · (intro w' hSw; obtain ⟨z0, z1⟩ := hSw; go_simp)
      simp only [Act.put, List.setIfInBounds_toArray, List.set_cons_zero, List.set_cons_succ]
      refine wpAnyH_ready (rs := [12]) (by kernel_rfl) (by simp) (AllReadyH.cons (o := { dst := some 34, op := Op.call { callee := Callee.value (Operand.func 18), args := #[Operand.tmp 33], argTypes := #[3] }, type := 3, pos := "arithmetic.go:118", after := #[{ on := 11, ground := Ground.data }], guard := none }) rfl (fun K hK => ?_) AllReadyH.nil)
      go_simp
      go_at_call 18
      refine (HNT.out _).mono ?_
      rintro e wx ⟨rfl, hwx⟩
      obtain rfl := hwx.symm
      clear hwx
      refine hK.out _ _ HSS.out (fun _ => ?_)
      clear hK K
      try simp only [Act.put, List.setIfInBounds_toArray, List.set_cons_zero, List.set_cons_succ]
      refine wpAnyH_ready (rs := [13]) (by kernel_rfl) (by simp) (AllReadyH.cons (o := { dst := some 35, op := Op.call { callee := Callee.value (Operand.func 46), args := #[Operand.tmp 24, Operand.tmp 29, Operand.tmp 34], argTypes := #[24, 3, 3] }, type := 3, pos := "arithmetic.go:118", after := #[{ on := 2, ground := Ground.data }, { on := 7, ground := Ground.data }, { on := 12, ground := Ground.data }, { on := 12, ground := Ground.chain }], guard := none }) rfl (fun K hK => ?_) AllReadyH.nil)
      go_simp
      go_at_call 46
      refine HAN.out.mono ?_
      rintro e w3 ⟨s, rv3, gs3, rfl, hs3, hl3, hh3⟩
      have HST3 := Lib.hid (show Stp n₀ bb mb rv I gs (k + 1) w w3 rv3 gs3 from HST.out.trans hs3 HT.out)
      have HL3 := Lib.hid hl3
      have HZ3 := Lib.hid (HZ1.out.stp HST.out.tab hs3)
      have HLZ3 := Lib.hid ((hlz.out.more hs3.grow).set i hl3)
      have HH3 : Hid (Hol I gs3 (EmpP x (k + 1) (z.set i s))) := Lib.hid ((hho.out.more hs3.pre).mp2 hh3 fun v d ho a ⟨b1, b2⟩ => HSM.out _ _ s a ⟨by rw [b1, ho.not], fun e1 e2 => b2 e1 ((ho.dnot _).2 e2)⟩)
      have HSS3 := Lib.hid (And.intro (HRZ.out _ HZ3.out) (HRX.out _ _ _ _ HST3.out))
      have y1 := HRI.out _ HZ3.out
      have y2 := HZ3.out.frz i
      have HST4 := Lib.hid (HST3.out.put HZ3.out (Nat.le_of_eq HZB.out) i (.int .i64 s))
      have HZ4 := Lib.hid (HZ3.out.set i s)
      have HSS4 := Lib.hid (And.intro (HRS.out _ _ HZ4.out) (HRX.out _ _ _ _ HST4.out))
      clear hs3 hl3 hh3 HAN HST HSS HGL HZ1 hho hlz
      refine hK.out _ _ HSS3.out (fun _ => ?_)
      clear hK K
      try simp only [Act.put, List.setIfInBounds_toArray, List.set_cons_zero, List.set_cons_succ]
      refine wpAnyH_take (i := 14) (oi := { dst := some 36, op := Op.indexAddr 47 (Operand.tmp 22) (Operand.tmp 23), type := 0, pos := "arithmetic.go:118", after := #[{ on := 0, ground := Ground.data }, { on := 1, ground := Ground.data }, { on := 0, ground := Ground.phase }, { on := 1, ground := Ground.phase }, { on := 2, ground := Ground.phase }, { on := 3, ground := Ground.phase }, { on := 4, ground := Ground.phase }, { on := 5, ground := Ground.phase }, { on := 6, ground := Ground.phase }, { on := 7, ground := Ground.phase }, { on := 8, ground := Ground.phase }, { on := 9, ground := Ground.phase }, { on := 10, ground := Ground.phase }, { on := 11, ground := Ground.phase }, { on := 12, ground := Ground.phase }, { on := 13, ground := Ground.phase }], guard := none }) (v := .pointer (some ⟨zb, i, none⟩)) rfl (by kernel_rfl) (by kernel_rfl) (by kernel_rfl) (fun _ _ _ h => h) (Or.inl ⟨by rfl, ?_⟩) HSS3.out ?_
      · (intro w' hSw; go_simp)
      simp only [Act.put, List.setIfInBounds_toArray, List.set_cons_zero, List.set_cons_succ]
      refine wpAnyH_ready (rs := [15]) (by kernel_rfl) (by simp) (AllReadyH.cons (o := { dst := none, op := Op.store 3 (Operand.tmp 36) (Operand.tmp 35), type := 0, pos := "arithmetic.go:118", after := #[{ on := 14, ground := Ground.data }, { on := 13, ground := Ground.data }, { on := 13, ground := Ground.chain }, { on := 0, ground := Ground.phase }, { on := 1, ground := Ground.phase }, { on := 2, ground := Ground.phase }, { on := 3, ground := Ground.phase }, { on := 4, ground := Ground.phase }, { on := 5, ground := Ground.phase }, { on := 6, ground := Ground.phase }, { on := 7, ground := Ground.phase }, { on := 8, ground := Ground.phase }, { on := 9, ground := Ground.phase }, { on := 10, ground := Ground.phase }, { on := 11, ground := Ground.phase }, { on := 12, ground := Ground.phase }, { on := 13, ground := Ground.phase }], guard := none }) rfl (fun K hK => ?_) AllReadyH.nil)
      go_simp
      clear y1 y2
      refine hK.out _ _ HSS4.out (fun _ => ?_)
      clear hK K
      try simp only [Act.put, List.setIfInBounds_toArray, List.set_cons_zero, List.set_cons_succ]
      refine wpAnyH_done (by kernel_rfl) ?_ _
      refine NoPanic.normal ?_
      generalize w3.setCell ⟨zb, i, none⟩ (.int .i64 s) = w4 at *
      have HZL4 : Hid ((z.set i s).length = x.length + 1) := Lib.hid (by rw [List.length_set]; exact hzl.out)
      go_wp2_with (fail)
      exact ⟨⟨k + 1, (i : Int) - 1, z.set i s, rv3, gs3, by omega, rfl, HQ, HST4, HZ4, HZL4, HLZ3, HH3⟩, by simp [intOf]⟩
    · obtain rfl : k = x.length := by omega
      obtain rfl : q = -1 := by have := hq.out; omega
      have HE : Hid (Hol I gs1 (EmpH x z)) := Lib.hid (hho.out.mp fun v d _ a => ⟨fun j h => a.1 j h (by omega), a.2⟩)
      have HO : Hid (ZOwn wr w.heap.size (.slice (some ⟨zb, 0, none⟩) N N) z) := Lib.hid (hzb.out.own (Nat.le_of_eq HZB.out) (by rw [hzl.out, HN.out]) (by have := hzl.out; omega))
      have HZL2 := Lib.hid (show z.length = N by rw [hzl.out, HN.out])
      clear hho hq
      go_wp2_with (fail)
      go_ret
      exact ⟨_, N, z, rv1, gs1, rfl, ⟨hst.out, HO.out, hlz.out⟩, HZL2.out, HE.out⟩
end
end Go.Proofs.Ytbcabnbgkicfdaa
