/- What is proved: package blast: sum, difference, negative, choose, sign, signed, absolute. -/
import Derived.Test.YtbcabnbgkicfdaaBlTot
set_option linter.unusedVariables false
namespace Go.Proofs.Ytbcabnbgkicfdaa
open Go.RowKit Go.Maps

theorem un_map {v : Int → Bool} : ∀ {l m : List Int}, l.map v = m.map v → un v l = un v m := by
  intro l
  induction l with
  | nil => intro m h; cases m with | nil => rfl | cons => simp at h
  | cons x l ih =>
    intro m h
    cases m with
    | nil => simp at h
    | cons y m =>
      simp only [List.map_cons, List.cons.injEq] at h
      simp only [un, h.1, ih h.2]
/-- the last literal of a word -/
def sg (x : List Int) : Int := (x[x.length - 1]?).getD 0
theorem sg_at {x : List Int} (h : 0 < x.length) : sg x = x[x.length - 1]'(by omega) := by
  unfold sg
  rw [List.getElem?_eq_getElem (by omega)]
  rfl
theorem un_sg (v : Int → Bool) {x : List Int} (h : 0 < x.length) : un v x = un v (x.take (x.length - 1)) + pw (x.length - 1) * b2n (v (sg x)) := by
  have := un_take v x (i := x.length - 1) (by omega)
  rw [show x.length - 1 + 1 = x.length by omega, List.take_length] at this
  rw [this, sg_at h]
theorem un_sg_lo (v : Int → Bool) {x : List Int} (h : 0 < x.length) : (v (sg x) = true → pw (x.length - 1) ≤ un v x) ∧ (v (sg x) = false → un v x < pw (x.length - 1)) := by
  have e := un_sg v h
  have l := un_lo v (x.take (x.length - 1))
  rw [List.length_take, Nat.min_eq_left (by omega)] at l
  refine ⟨fun hv => ?_, fun hv => ?_⟩
  · rw [hv] at e; simp [b2n] at e; omega
  · rw [hv] at e; simp [b2n] at e; omega
theorem pw_pred {n : Nat} (h : 0 < n) : pw n = 2 * pw (n - 1) := by
  obtain ⟨m, rfl⟩ : ∃ m, n = m + 1 := ⟨n - 1, by omega⟩
  exact pw_succ m
def AddH (x y z : List Int) (v : Int → Bool) (d : Int → Prop) : Prop := (∃ q : Int, 0 ≤ q ∧ q ≤ 1 ∧ un v z + pw x.length * q = un v x + un v y) ∧ (Dps d x → Dps d y → Dps d z)
def SubH (x y z : List Int) (v : Int → Bool) (d : Int → Prop) : Prop := (∃ q : Int, 0 ≤ q ∧ q ≤ 1 ∧ un v z + pw x.length * q = un v x + pw x.length - un v y) ∧ (Dps d x → Dps d y → Dps d z)
def NegH (x z : List Int) (v : Int → Bool) (d : Int → Prop) : Prop := (∃ q : Int, 0 ≤ q ∧ q ≤ 1 ∧ un v z + pw x.length * q = pw x.length - un v x) ∧ (Dps d x → Dps d z)
def ChoH (c : Int) (x y z : List Int) (v : Int → Bool) (d : Int → Prop) : Prop := z.map v = (if v c then x.map v else y.map v) ∧ (d c → Dps d x → Dps d y → Dps d z)
def SigH (c : Int) (x z : List Int) (v : Int → Bool) (d : Int → Prop) : Prop := (∃ q : Int, 0 ≤ q ∧ q ≤ 1 ∧ (v c = true → un v z + pw x.length * q = pw x.length - un v x) ∧ (v c = false → un v z = un v x)) ∧ (d c → Dps d x → Dps d z)
def AbsH (x z : List Int) (v : Int → Bool) (d : Int → Prop) : Prop := un v z = (if v (sg x) then pw x.length - un v x else un v x) ∧ (Dps d x → Dps d z)
theorem abs_sig {x z : List Int} {v : Int → Bool} {d : Int → Prop} (h0 : 0 < x.length) (hz : z.length = x.length) (h : SigH (sg x) x z v d) : AbsH x z v d := by
  obtain ⟨⟨q, h1, h2, h3, h4⟩, h5⟩ := h
  refine ⟨?_, fun hx => h5 (by rw [sg_at h0]; exact hx.at _) hx⟩
  have l := un_lo v z
  have k := un_sg_lo v h0
  have p := pw_pos (x.length - 1)
  have e := pw_pred h0
  rw [hz] at l
  cases hv : v (sg x) with
  | true =>
    have a := h3 hv
    have b := k.1 hv
    rw [if_pos rfl]
    have : q = 0 ∨ q = 1 := by omega
    rcases this with rfl | rfl <;> omega
  | false => exact h4 hv
theorem ints_same_word {v : Int → Bool} {x y z : List Int} {c : Int} {d : Int → Prop} (h : ChoH c x y z v d) : un v z = (if v c then un v x else un v y) := by
  have e := h.1
  split at e
  · rename_i hc; rw [if_pos hc]; exact un_map e
  · rename_i hc; rw [if_neg hc]; exact un_map e
section
variable {n₀ bb mb : Nat} {rv : Value} {I : Int} {gs : List Gt} {w : World}
/-- what an operator on words gives -/
def WdG (n₀ bb mb : Nat) (rv : Value) (I : Int) (gs : List Gt) (n : Nat) (w : World) (m : Nat) (φ : List Int → (Int → Bool) → (Int → Prop) → Prop) (e : Ending) (w' : World) : Prop :=
  ∃ A' c' z rv' gs', e = .returned (.slice A' m c') ∧ Acc n₀ bb mb rv I gs w n w' (.slice A' m c') z rv' gs' ∧ z.length = m ∧ Hol I gs' (φ z)
theorem sum_any (A : Option Addr) (cx : Nat) (x : List Int) (B : Option Addr) (cy : Nat) (y : List Int) (h : Bld w n₀ bb mb rv I gs 0) (hX : WRow w.heap.size w A x) (hY : WRow w.heap.size w B y) (lx : Lts I gs x) (ly : Lts I gs y) (hl : x.length ≤ 100) (hxy : y.length = x.length) (hf : gs.length + 7 * x.length ≤ 5000) :
    Calls Try.prog 78 #[.pointer (some ⟨bb, 0, none⟩), .slice A x.length cx, .slice B y.length cy] w (WdG n₀ bb mb rv I gs (7 * x.length) w x.length (AddH x y)) := by
  have HC := Lib.hid (total_any A cx x B cy y 0 h hX hY lx ly ⟨by omega, by have := h.ck.lo; omega⟩ hl hxy hf)
  clear h hX hY lx ly hxy hf
  go_enter Try.func78, Try.ntmps78
  go_wp2_with (fail)
  refine HC.out.mono ?_
  rintro e w1 ⟨A', c', z, rv1, gs1, rfl, hac, hz, hh⟩
  have HAC := Lib.hid hac
  have HZ := Lib.hid hz
  have HH : Hid (Hol I gs1 (AddH x y z)) := Lib.hid (hh.mp fun v d ho ⟨⟨q, h1, h2, h3⟩, h4⟩ => ⟨⟨q, h1, h2, by rw [h3, ho.zero]; simp [b2n]⟩, fun a b => h4 a b ho.d0⟩)
  clear hac hz hh HC
  go_wp2_with (fail)
  go_ret
  exact ⟨A', c', z, rv1, gs1, rfl, HAC.out, HZ.out, HH.out⟩
theorem difference_any (A : Option Addr) (cx : Nat) (x : List Int) (B : Option Addr) (cy : Nat) (y : List Int) (h : Bld w n₀ bb mb rv I gs 0) (hX : WRow w.heap.size w A x) (hY : WRow w.heap.size w B y) (lx : Lts I gs x) (ly : Lts I gs y) (hl : x.length ≤ 100) (hxy : y.length = x.length) (hf : gs.length + 7 * x.length ≤ 5000) :
    Calls Try.prog 80 #[.pointer (some ⟨bb, 0, none⟩), .slice A x.length cx, .slice B y.length cy] w (WdG n₀ bb mb rv I gs (7 * x.length) w x.length (SubH x y)) := by
  have HN := Lib.hid (bnot_any B cy y w hY (fun l hl => bl_small h (ly l hl)) (by omega))
  have HT := Lib.hid h
  have HX := Lib.hid hX
  have LX := Lib.hid lx
  have LY := Lib.hid ly.not
  have HXY := Lib.hid hxy
  have HF := Lib.hid hf
  clear h hX hY lx ly hxy hf
  go_enter Try.func80, Try.ntmps80
  go_wp2_with (fail)
  refine HN.out.mono ?_
  rintro e w1 ⟨A', c', rfl, ho, hb⟩
  have HB := Lib.hid hb
  obtain ⟨e1, e2, e3⟩ := ho.wrow
  have hml : (y.map notP).length = y.length := List.length_map _
  have HC := Lib.hid (total_any (w := w1) A cx x A' c' (y.map notP) 1 (HT.out.later hb) ((HX.out.later hb).mono hb.size) e3 LX.out LY.out ⟨by omega, by have := HT.out.ck.lo; omega⟩ hl (by rw [hml]; exact HXY.out) HF.out)
  rw [hml] at HC
  clear hb ho e1 e2 e3 hml HN
  go_wp2_with (fail)
  refine HC.out.mono ?_
  rintro e w2 ⟨A2, c2, z, rv1, gs1, rfl, hac, hz, hh⟩
  have HAC := Lib.hid (hac.ahead HB.out)
  have HZ := Lib.hid hz
  have HH : Hid (Hol I gs1 (SubH x y z)) := Lib.hid (hh.mp fun v d ho ⟨⟨q, h1, h2, h3⟩, h4⟩ => ⟨⟨q, h1, h2, by rw [h3, ho.one, un_not ho, HXY.out]; simp [b2n]; omega⟩, fun a b => h4 a (fun l hl => by obtain ⟨m, hm, rfl⟩ := List.mem_map.1 hl; exact (ho.dnot m).2 (b m hm)) ho.d1⟩)
  clear hac hz hh HC
  go_wp2_with (fail)
  go_ret
  exact ⟨A2, c2, z, rv1, gs1, rfl, HAC.out, HZ.out, HH.out⟩
theorem wrow_zeros (W : World) (n : Nat) : WRow (W.alloc (.cells (hdr (fun _ => .int .i64 0) n) 3)).heap.size (W.alloc (.cells (hdr (fun _ => .int .i64 0) n) 3)) (some ⟨W.heap.size, 0, none⟩) (List.replicate n 0) := fun h0 => by
  refine ⟨W.heap.size, 0, _, rfl, by simp, heap_alloc_new W _, fun i hi => ?_⟩
  rw [Nat.zero_add, hdr_get _ (by simpa using hi)]
  simp
theorem lts_zeros (h : Bld w n₀ bb mb rv I gs 0) (n : Nat) : Lts I gs (List.replicate n 0) := fun x hx => by
  rw [(List.mem_replicate.1 hx).2]
  exact ⟨by omega, by have := h.ck.lo; omega⟩
theorem negative_any (A : Option Addr) (cx : Nat) (x : List Int) (h : Bld w n₀ bb mb rv I gs 0) (hX : WRow w.heap.size w A x) (lx : Lts I gs x) (hl : x.length ≤ 100) (hf : gs.length + 7 * x.length ≤ 5000) :
    Calls Try.prog 76 #[.pointer (some ⟨bb, 0, none⟩), .slice A x.length cx] w (WdG n₀ bb mb rv I gs (7 * x.length) w x.length (NegH x)) := by
  have hmk := do_make_in x.length (by omega)
  have hb := (Below.refl w.heap.size w).alloc (Nat.le_refl _) (.cells (hdr (fun _ => .int .i64 0) x.length) 3)
  have HB := Lib.hid hb
  have HC := difference_any (w := w.alloc (.cells (hdr (fun _ => .int .i64 0) x.length) 3)) (some ⟨w.heap.size, 0, none⟩) x.length (List.replicate x.length 0) A cx x (h.later hb) (wrow_zeros w x.length) ((hX.later hb).mono hb.size) (lts_zeros h _) lx (by simpa using hl) (by simp) (by simpa using hf)
  simp only [List.length_replicate] at HC
  have HC := Lib.hid HC
  clear hb h hX lx hf
  go_enter Try.func76, Try.ntmps76
  go_wp2_with (fail)
  refine HC.out.mono ?_
  rintro e w2 ⟨A2, c2, z, rv1, gs1, rfl, hac, hz, hh⟩
  have HAC := Lib.hid (hac.ahead HB.out)
  have HZ := Lib.hid hz
  have HH : Hid (Hol I gs1 (NegH x z)) := Lib.hid (hh.mp fun v d ho ⟨⟨q, h1, h2, h3⟩, h4⟩ => ⟨⟨q, h1, h2, by rw [List.length_replicate, un_zeros ho] at h3; omega⟩, fun b => h4 (fun l hl => by rw [(List.mem_replicate.1 hl).2]; exact ho.d0) b⟩)
  clear hac hz hh HC
  go_wp2_with (fail)
  go_ret
  exact ⟨A2, c2, z, rv1, gs1, rfl, HAC.out, HZ.out, HH.out⟩
theorem sign_any (A : Option Addr) (cx : Nat) (x : List Int) (n : Nat) (hX : WRow n w A x) (h0 : 0 < x.length) (hl : x.length ≤ 100) :
    Calls Try.prog 107 #[.slice A x.length cx] w fun e w' => e = .returned (.int .i64 (sg x)) ∧ w' = w := by
  obtain ⟨b, off, rfl, q⟩ := hX.at (i := x.length - 1) (by omega)
  rw [← sg_at h0] at q
  obtain ⟨m, hm⟩ : ∃ m, x.length = m + 1 := ⟨x.length - 1, by omega⟩
  rw [hm, show m + 1 - 1 = m by omega] at q
  rw [hm]
  have e1 : IntKind.i64.wrap (((m + 1 : Nat) : Int) - 1) = (m : Int) := by rw [IntWalk.i64_in _ (by omega)]; omega
  have e2 : ((m + 1 : Nat) : Int) - 1 = (m : Int) := by omega
  generalize sg x = s at *
  have hm' : m ≤ 100 := by omega
  clear hX h0 hl hm
  go_enter Try.func107, Try.ntmps107
  go_wp2_with (fail)
  go_ret
  exact ⟨rfl, rfl⟩
def ChoP (c : Int) (x y : List Int) (k : Nat) (z : List Int) (v : Int → Bool) (d : Int → Prop) : Prop := z.map v = (if v c then (x.take k).map v else (y.take k).map v) ∧ (d c → Dps d x → Dps d y → Dps d z)
theorem cho_step {c s : Int} {x y z : List Int} {k : Nat} {v : Int → Bool} {d : Int → Prop} (hk : k < x.length) (hk2 : k < y.length) (h : ChoP c x y k z v d) (h1 : v s = (if v c then v x[k] else v y[k]) ∧ (d c → d x[k] → d y[k] → d s)) : ChoP c x y (k + 1) (z ++ [s]) v d := by
  refine ⟨?_, fun dc dx dy => (h.2 dc dx dy).snoc (h1.2 dc (dx.at hk) (dy.at hk2))⟩
  rw [List.map_append, h.1, List.take_succ_eq_append_getElem hk, List.take_succ_eq_append_getElem hk2, List.map_append, List.map_append]
  simp only [List.map_cons, List.map_nil, h1.1]
  cases v c <;> rfl
set_option maxRecDepth 100000 in
set_option maxHeartbeats 4000000 in
theorem choose_any (c : Int) (A : Option Addr) (cx : Nat) (x : List Int) (B : Option Addr) (cy : Nat) (y : List Int) (h : Bld w n₀ bb mb rv I gs 0) (hc : isLit I gs c) (hX : WRow w.heap.size w A x) (hY : WRow w.heap.size w B y) (lx : Lts I gs x) (ly : Lts I gs y) (hl : x.length ≤ 100) (hxy : y.length = x.length) (hf : gs.length + 3 * x.length ≤ 5000) :
    Calls Try.prog 84 #[.pointer (some ⟨bb, 0, none⟩), .int .i64 c, .slice A x.length cx, .slice B y.length cy] w (WdG n₀ bb mb rv I gs (3 * x.length) w x.length (ChoH c x y)) := by
  have HT := Lib.hid h
  have HX := Lib.hid hX
  have HY := Lib.hid hY
  have LX := Lib.hid lx
  have LY := Lib.hid ly
  have LC := Lib.hid hc
  have HF := Lib.hid hf
  have HXY := Lib.hid hxy
  have HA0 := Lib.hid (Acc.start h)
  have HH0 : Hid (Hol I gs (ChoP c x y 0 [])) := Lib.hid (Hol.triv fun v d _ => ⟨by cases v c <;> rfl, fun _ _ _ => Dps.nil d⟩)
  clear h hX hY lx ly hf hxy hc
  go_enter Try.func84, Try.ntmps84
  go_wp2_with (fail)
  go_loopw [9, 13] (fun u9 jv wr => ∃ (k : Nat) (z : List Int) (rv1 : Value) (gs1 : List Gt), k ≤ x.length ∧ jv = .int .i64 (k : Int) ∧ Hid (Acc n₀ bb mb rv I gs w (3 * k) wr u9 z rv1 gs1) ∧ Hid (z.length = k) ∧ Hid (Hol I gs1 (ChoP c x y k z))) (fun _ jv _ => x.length - (intOf jv).toNat)
  case atStart => exact ⟨0, [], rv, gs, Nat.zero_le _, rfl, HA0, Lib.hid rfl, HH0⟩
  case round =>
    obtain ⟨k, z, rv1, gs1, hk, rfl, hac, hzl, hho⟩ := hrel
    by_cases hlt : k < x.length
    · have hlt2 : k < y.length := by have := HXY.out; omega
      have hdr : Below wr.heap.size wr wr.drew := (Below.refl _ _).drew
      have HAC := Lib.hid (hac.out.later hdr HT.out)
      obtain ⟨b1, o1, hA, q1⟩ := (HX.out.stp HT.out HAC.out.st).at hlt
      obtain ⟨b2, o2, hB, q2⟩ := (HY.out.stp HT.out HAC.out.st).at hlt2
      have HGL := Lib.hid (show gs1.length + 3 ≤ 5000 by have := hac.out.st.len; have := HF.out; omega)
      have HLX := Lib.hid ((LX.out.at hlt).more hac.out.st.grow)
      have HLY := Lib.hid ((LY.out.at hlt2).more hac.out.st.grow)
      have HLC := Lib.hid (LC.out.more hac.out.st.grow)
      have HST := Lib.hid (fun v d (s : Int) => @cho_step c s x y z k v d hlt hlt2)
      have HRX := Lib.hid (fun (m : Nat) (w2 : World) (rv2 : Value) (gs2 : List Gt) (hs : Stp n₀ bb mb rv I gs m w w2 rv2 gs2) => (HX.out.stp HT.out hs).at hlt)
      have HRY := Lib.hid (fun (m : Nat) (w2 : World) (rv2 : Value) (gs2 : List Gt) (hs : Stp n₀ bb mb rv I gs m w w2 rv2 gs2) => (HY.out.stp HT.out hs).at hlt2)
      obtain ⟨p, HP⟩ : ∃ p, Hid (x[k] = p) := ⟨_, Lib.hid rfl⟩
      obtain ⟨q, HQ⟩ : ∃ q, Hid (y[k] = q) := ⟨_, Lib.hid rfl⟩
      rw [HP.out] at q1 HLX HST HRX
      rw [HQ.out] at q2 HLY HST HRY
      subst hA
      subst hB
      have HRX := Lib.hid (fun (m : Nat) (w2 : World) (rv2 : Value) (gs2 : List Gt) (hs : Stp n₀ bb mb rv I gs m w w2 rv2 gs2) => show w2.cell? ⟨b1, o1 + k, none⟩ = some (.int .i64 p) by obtain ⟨b, o, e, h⟩ := HRX.out _ _ _ _ hs; cases e; exact h)
      have HRY := Lib.hid (fun (m : Nat) (w2 : World) (rv2 : Value) (gs2 : List Gt) (hs : Stp n₀ bb mb rv I gs m w w2 rv2 gs2) => show w2.cell? ⟨b2, o2 + k, none⟩ = some (.int .i64 q) by obtain ⟨b, o, e, h⟩ := HRY.out _ _ _ _ hs; cases e; exact h)
      have HSS := Lib.hid (And.intro q1 q2)
      have HHF := Lib.hid (a_Mux c p q HAC.out.st.tab HLC.out HLX.out HLY.out (by have := HGL.out; omega))
      clear q1 q2 hac hdr
      go_upto_region 5 with fail
      rename_i K hKK
      refine wp_region_noPanic ?_
      refine wp_region_held_drew (S := fun w' => w'.cell? ⟨b1, o1 + k, none⟩ = some (.int .i64 p) ∧ w'.cell? ⟨b2, o2 + k, none⟩ = some (.int .i64 q)) (by kernel_rfl) HSS.out (fun _ => ?_)
      generalize wr.drew = w1 at *
      refine wpAnyH_take (i := 0) (oi := { dst := some 16, op := Op.move (Operand.tmp 9), type := 47, pos := "arithmetic.go:84", after := #[], guard := none }) (v := u9) rfl (by kernel_rfl) (by kernel_rfl) (by kernel_rfl) (fun _ _ _ h => h) (Or.inl ⟨by rfl, ?_⟩) HSS.out ?_
      · (intro w' hSw; go_simp)
      simp only [Act.put, List.setIfInBounds_toArray, List.set_cons_zero, List.set_cons_succ]
      refine wpAnyH_take (i := 1) (oi := { dst := some 17, op := Op.move (Operand.tmp 0), type := 24, pos := "arithmetic.go:84", after := #[], guard := none }) (v := .pointer (some ⟨bb, 0, none⟩)) rfl (by kernel_rfl) (by kernel_rfl) (by kernel_rfl) (fun _ _ _ h => h) (Or.inl ⟨by rfl, ?_⟩) HSS.out ?_
      · (intro w' hSw; go_simp)
      simp only [Act.put, List.setIfInBounds_toArray, List.set_cons_zero, List.set_cons_succ]
      refine wpAnyH_take (i := 2) (oi := { dst := some 18, op := Op.move (Operand.tmp 1), type := 3, pos := "arithmetic.go:84", after := #[], guard := none }) (v := .int .i64 c) rfl (by kernel_rfl) (by kernel_rfl) (by kernel_rfl) (fun _ _ _ h => h) (Or.inl ⟨by rfl, ?_⟩) HSS.out ?_
      · (intro w' hSw; go_simp)
      simp only [Act.put, List.setIfInBounds_toArray, List.set_cons_zero, List.set_cons_succ]
      refine wpAnyH_take (i := 3) (oi := { dst := some 19, op := Op.move (Operand.tmp 2), type := 47, pos := "arithmetic.go:84", after := #[], guard := none }) (v := .slice (some ⟨b1, o1, none⟩) x.length cx) rfl (by kernel_rfl) (by kernel_rfl) (by kernel_rfl) (fun _ _ _ h => h) (Or.inl ⟨by rfl, ?_⟩) HSS.out ?_
      · (intro w' hSw; go_simp)
      simp only [Act.put, List.setIfInBounds_toArray, List.set_cons_zero, List.set_cons_succ]
      refine wpAnyH_take (i := 4) (oi := { dst := some 20, op := Op.move (Operand.tmp 10), type := 3, pos := "arithmetic.go:84", after := #[], guard := none }) (v := .int .i64 (k : Int)) rfl (by kernel_rfl) (by kernel_rfl) (by kernel_rfl) (fun _ _ _ h => h) (Or.inl ⟨by rfl, ?_⟩) HSS.out ?_
      · (intro w' hSw; go_simp)
      simp only [Act.put, List.setIfInBounds_toArray, List.set_cons_zero, List.set_cons_succ]
      refine wpAnyH_take (i := 5) (oi := { dst := some 21, op := Op.indexAddr 47 (Operand.tmp 19) (Operand.tmp 20), type := 0, pos := "arithmetic.go:84", after := #[{ on := 3, ground := Ground.data }, { on := 4, ground := Ground.data }], guard := none }) (v := .pointer (some ⟨b1, o1 + k, none⟩)) rfl (by kernel_rfl) (by kernel_rfl) (by kernel_rfl) (fun _ _ _ h => h) (Or.inl ⟨by rfl, ?_⟩) HSS.out ?_
      · (intro w' hSw; go_simp)
      simp only [Act.put, List.setIfInBounds_toArray, List.set_cons_zero, List.set_cons_succ]
      refine wpAnyH_take (i := 6) (oi := { dst := some 22, op := Op.load 3 (Operand.tmp 21), type := 3, pos := "arithmetic.go:84", after := #[{ on := 5, ground := Ground.data }], guard := none }) (v := .int .i64 p) rfl (by kernel_rfl) (by kernel_rfl) (by kernel_rfl) (fun _ _ _ h => h) (Or.inl ⟨by rfl, ?_⟩) HSS.out ?_
      · (intro w' hSw; obtain ⟨z0, z1⟩ := hSw; go_simp)
      simp only [Act.put, List.setIfInBounds_toArray, List.set_cons_zero, List.set_cons_succ]
      refine wpAnyH_take (i := 7) (oi := { dst := some 23, op := Op.move (Operand.tmp 3), type := 47, pos := "arithmetic.go:84", after := #[], guard := none }) (v := .slice (some ⟨b2, o2, none⟩) y.length cy) rfl (by kernel_rfl) (by kernel_rfl) (by kernel_rfl) (fun _ _ _ h => h) (Or.inl ⟨by rfl, ?_⟩) HSS.out ?_
      · (intro w' hSw; go_simp)
      simp only [Act.put, List.setIfInBounds_toArray, List.set_cons_zero, List.set_cons_succ]
      refine wpAnyH_take (i := 8) (oi := { dst := some 24, op := Op.move (Operand.tmp 10), type := 3, pos := "arithmetic.go:84", after := #[], guard := none }) (v := .int .i64 (k : Int)) rfl (by kernel_rfl) (by kernel_rfl) (by kernel_rfl) (fun _ _ _ h => h) (Or.inl ⟨by rfl, ?_⟩) HSS.out ?_
      · (intro w' hSw; go_simp)
      simp only [Act.put, List.setIfInBounds_toArray, List.set_cons_zero, List.set_cons_succ]
      refine wpAnyH_take (i := 9) (oi := { dst := some 25, op := Op.indexAddr 47 (Operand.tmp 23) (Operand.tmp 24), type := 0, pos := "arithmetic.go:84", after := #[{ on := 7, ground := Ground.data }, { on := 8, ground := Ground.data }], guard := none }) (v := .pointer (some ⟨b2, o2 + k, none⟩)) rfl (by kernel_rfl) (by kernel_rfl) (by kernel_rfl) (fun _ _ _ h => h) (Or.inl ⟨by rfl, ?_⟩) HSS.out ?_
      · (intro w' hSw; go_simp)
      simp only [Act.put, List.setIfInBounds_toArray, List.set_cons_zero, List.set_cons_succ]
      refine wpAnyH_take (i := 10) (oi := { dst := some 26, op := Op.load 3 (Operand.tmp 25), type := 3, pos := "arithmetic.go:84", after := #[{ on := 9, ground := Ground.data }], guard := none }) (v := .int .i64 q) rfl (by kernel_rfl) (by kernel_rfl) (by kernel_rfl) (fun _ _ _ h => h) (Or.inl ⟨by rfl, ?_⟩) HSS.out ?_
      · (intro w' hSw; obtain ⟨z0, z1⟩ := hSw; go_simp)
      simp only [Act.put, List.setIfInBounds_toArray, List.set_cons_zero, List.set_cons_succ]
      refine wpAnyH_ready (rs := [11]) (by kernel_rfl) (by simp) (AllReadyH.cons (o := { dst := some 27, op := Op.call { callee := Callee.value (Operand.func 56), args := #[Operand.tmp 17, Operand.tmp 18, Operand.tmp 22, Operand.tmp 26], argTypes := #[24, 3, 3, 3] }, type := 3, pos := "arithmetic.go:84", after := #[{ on := 1, ground := Ground.data }, { on := 2, ground := Ground.data }, { on := 6, ground := Ground.data }, { on := 10, ground := Ground.data }], guard := none }) rfl (fun K hK => ?_) AllReadyH.nil)
      go_simp
      go_at_call 56
      refine HHF.out.mono ?_
      rintro e w2 ⟨s, rv2, gs2, rfl, hs2, hl2, hh2⟩
      have HAC2 := Lib.hid (HAC.out.go hs2 HT.out)
      have HH2 : Hid (Hol I gs2 (ChoP c x y (k + 1) (z ++ [s]))) := Lib.hid ((hho.out.more hs2.pre).mp2 hh2 fun v d _ a b => HST.out _ _ s a b)
      have HSS2 := Lib.hid (And.intro (HRX.out _ _ _ _ HAC2.out.st) (HRY.out _ _ _ _ HAC2.out.st))
      obtain ⟨X, cap, w4, hrun, hac4⟩ := HAC2.out.push HT.out (by have := hzl.out; omega) hl2
      have hzl2 := hzl.out
      have HZL : Hid ((z ++ [s]).length = k + 1) := Lib.hid (by rw [List.length_append, hzl2]; rfl)
      rw [hzl2] at hrun hac4
      have HRUN := Lib.hid hrun
      have HSB := Lib.hid (And.intro (HRX.out _ _ _ _ (HAC2.out.later ((Below.refl w2.heap.size w2).alloc (Nat.le_refl _) (.cells #[.int .i64 s] 3)) HT.out).st) (HRY.out _ _ _ _ (HAC2.out.later ((Below.refl w2.heap.size w2).alloc (Nat.le_refl _) (.cells #[.int .i64 s] 3)) HT.out).st))
      have HAC4 := Lib.hid (fun w9 (e : Hid (w9 = w4)) => show Acc n₀ bb mb rv I gs w (3 * (k + 1)) w9 (.slice X (k + 1) cap) (z ++ [s]) rv2 gs2 from by obtain rfl := e.out; exact hac4.mono (by omega))
      clear hs2 hl2 hh2 hac4 hzl2 hrun hho HHF HAC HSS HGL
      refine hK.out _ _ HSS2.out (fun _ => ?_)
      clear hK K
      try simp only [Act.put, List.setIfInBounds_toArray, List.set_cons_zero, List.set_cons_succ]
      refine wpAnyH_ready (rs := [12]) (by kernel_rfl) (by simp) (AllReadyH.cons (o := { dst := some 28, op := Op.buildSlice 47 1 #[(0, Operand.tmp 27)], type := 47, pos := "arithmetic.go:84", after := #[{ on := 11, ground := Ground.data }], guard := none }) rfl (fun K hK => ?_) AllReadyH.nil)
      go_simp
      refine hK.out _ _ HSB.out (fun _ => ?_)
      clear hK K
      try simp only [Act.put, List.setIfInBounds_toArray, List.set_cons_zero, List.set_cons_succ]
      refine wpAnyH_ready (rs := [13]) (by kernel_rfl) (by simp) (AllReadyH.cons (o := { dst := some 29, op := Op.call { callee := Callee.builtin Builtin.append, args := #[Operand.tmp 16, Operand.tmp 28], argTypes := #[47, 47] }, type := 47, pos := "arithmetic.go:84", after := #[{ on := 0, ground := Ground.data }, { on := 12, ground := Ground.data }, { on := 11, ground := Ground.chain }], guard := none }) rfl (fun K hK => ?_) AllReadyH.nil)
      refine step_app_by (by rfl) _ _ 47 47 (by rfl) _ _ (by rfl) (by rfl) _ _ HRUN.out ?_
      intro w9 hw9
      have HAC5 := Lib.hid (HAC4.out w9 hw9)
      have HSS5 := Lib.hid (And.intro (HRX.out _ _ _ _ HAC5.out.st) (HRY.out _ _ _ _ HAC5.out.st))
      refine hK.out _ _ HSS5.out (fun _ => ?_)
      clear hK K
      try simp only [Act.put, List.setIfInBounds_toArray, List.set_cons_zero, List.set_cons_succ]
      refine wpAnyH_take (i := 14) (oi := { dst := some 9, op := Op.assign (Operand.tmp 29), type := 47, pos := "arithmetic.go:84", after := #[{ on := 13, ground := Ground.data }, { on := 13, ground := Ground.chain }, { on := 0, ground := Ground.phase }, { on := 1, ground := Ground.phase }, { on := 2, ground := Ground.phase }, { on := 3, ground := Ground.phase }, { on := 4, ground := Ground.phase }, { on := 5, ground := Ground.phase }, { on := 6, ground := Ground.phase }, { on := 7, ground := Ground.phase }, { on := 8, ground := Ground.phase }, { on := 9, ground := Ground.phase }, { on := 10, ground := Ground.phase }, { on := 11, ground := Ground.phase }, { on := 12, ground := Ground.phase }, { on := 13, ground := Ground.phase }], guard := none }) (v := .slice X (k + 1) cap) rfl (by kernel_rfl) (by kernel_rfl) (by kernel_rfl) (fun _ _ _ h => h) (Or.inl ⟨by rfl, ?_⟩) HSS5.out ?_
      · (intro w' hSw; go_simp)
      simp only [Act.put, List.setIfInBounds_toArray, List.set_cons_zero, List.set_cons_succ]
      refine wpAnyH_done (by kernel_rfl) ?_ _
      refine NoPanic.normal ?_
      go_wp2_with (fail)
      exact ⟨⟨k + 1, z ++ [s], rv2, gs2, by omega, by go_num, HAC5, HZL, HH2⟩, by simp [intOf]; omega⟩
    · obtain rfl : k = x.length := by omega
      obtain ⟨A', c', hu, _, _⟩ := hac.out.form
      rw [hzl.out] at hu
      subst hu
      have HE : Hid (Hol I gs1 (ChoH c x y z)) := Lib.hid (hho.out.mp fun v d _ a => ⟨by have := a.1; rwa [List.take_length, ← HXY.out, List.take_length] at this, a.2⟩)
      clear hho
      go_wp2_with (fail)
      go_ret
      exact ⟨A', c', z, rv1, gs1, rfl, hac.out, hzl.out, HE.out⟩
theorem signed_any (c : Int) (A : Option Addr) (cx : Nat) (x : List Int) (h : Bld w n₀ bb mb rv I gs 0) (hc : isLit I gs c) (hX : WRow w.heap.size w A x) (lx : Lts I gs x) (hl : x.length ≤ 100) (hf : gs.length + 10 * x.length ≤ 5000) :
    Calls Try.prog 106 #[.pointer (some ⟨bb, 0, none⟩), .int .i64 c, .slice A x.length cx] w (WdG n₀ bb mb rv I gs (10 * x.length) w x.length (SigH c x)) := by
  have HN := Lib.hid (negative_any A cx x h hX lx hl (by omega))
  have HT := Lib.hid h
  have HX := Lib.hid hX
  have LX := Lib.hid lx
  have LC := Lib.hid hc
  have HF := Lib.hid hf
  clear h hX lx hf hc
  go_enter Try.func106, Try.ntmps106
  go_wp2_with (fail)
  refine HN.out.mono ?_
  rintro e w1 ⟨A1, c1, z1, rv1, gs1, rfl, hac, hz, hh⟩
  have HAC := Lib.hid hac
  have HZ := Lib.hid hz
  have HH := Lib.hid hh
  have HC := choose_any c A1 c1 z1 A cx x hac.st.tab (LC.out.more hac.st.grow) hac.own.wrow.2.2 ((HX.out.stp HT.out hac.st).mono hac.st.size) hac.lts (LX.out.more hac.st.grow) (by omega) hz.symm (by have := hac.st.len; have := HF.out; omega)
  rw [hz] at HC
  have HC := Lib.hid HC
  clear hac hz hh HN
  go_wp2_with (fail)
  refine HC.out.mono ?_
  rintro e w2 ⟨A2, c2, z, rv2, gs2, rfl, hac, hz, hh⟩
  have HAC2 := Lib.hid ((hac.over HAC.out.st HT.out).mono (m := 10 * x.length) (by omega))
  have HZ2 := Lib.hid hz
  have HH2 : Hid (Hol I gs2 (SigH c x z)) := Lib.hid (hh.mp2 (HH.out.more hac.st.pre) fun v d ho a ⟨⟨q, h1, h2, h3⟩, h4⟩ => ⟨⟨q, h1, h2, fun hv => by rw [ints_same_word a, if_pos hv]; exact h3, fun hv => by rw [ints_same_word a, if_neg (by rw [hv]; simp)]⟩, fun dc dx => a.2 dc (h4 dx) dx⟩)
  clear hac hz hh HC
  go_wp2_with (fail)
  go_ret
  exact ⟨A2, c2, z, rv2, gs2, rfl, HAC2.out, HZ2.out, HH2.out⟩
theorem absolute_any (A : Option Addr) (cx : Nat) (x : List Int) (h : Bld w n₀ bb mb rv I gs 0) (hX : WRow w.heap.size w A x) (lx : Lts I gs x) (h0 : 0 < x.length) (hl : x.length ≤ 100) (hf : gs.length + 10 * x.length ≤ 5000) :
    Calls Try.prog 103 #[.pointer (some ⟨bb, 0, none⟩), .slice A x.length cx] w (WdG n₀ bb mb rv I gs (10 * x.length) w x.length (AbsH x)) := by
  have HS := Lib.hid (sign_any A cx x _ hX h0 hl)
  have HC := Lib.hid (signed_any (sg x) A cx x h (by rw [sg_at h0]; exact lx.at _) hX lx hl hf)
  have H0 := Lib.hid h0
  clear h hX lx hf h0
  go_enter Try.func103, Try.ntmps103
  go_wp2_with (fail)
  refine HS.out.mono ?_
  rintro e wx ⟨rfl, hwx⟩
  obtain rfl := hwx.symm
  go_wp2_with (fail)
  refine HC.out.mono ?_
  rintro e w2 ⟨A2, c2, z, rv2, gs2, rfl, hac, hz, hh⟩
  have HAC2 := Lib.hid hac
  have HZ2 := Lib.hid hz
  have HH2 : Hid (Hol I gs2 (AbsH x z)) := Lib.hid (hh.mp fun v d ho a => abs_sig H0.out HZ2.out a)
  clear hac hz hh HC
  go_wp2_with (fail)
  go_ret
  exact ⟨A2, c2, z, rv2, gs2, rfl, HAC2.out, HZ2.out, HH2.out⟩
end
end Go.Proofs.Ytbcabnbgkicfdaa
