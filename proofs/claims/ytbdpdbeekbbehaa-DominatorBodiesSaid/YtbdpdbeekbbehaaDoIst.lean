/- What is proved: what lies in memory while immediate runs, and what stays. -/
import Derived.Test.YtbdpdbeekbbehaaDoAbv
import Derived.Test.YtbdpdbeekbbehaaDoRep
import Derived.Test.YtbdpdbeekbbehaaDoBack
set_option linter.unusedVariables false
namespace Go.Proofs.Ytbdpdbeekbbehaa
open Go.RowKit Go.Shelf

/-- where the parts of immediate lie -/
structure Im where
  N : Nat
  pb : Nat
  ob : Nat
  ox : Nat
  fb : Nat
  n : Nat
  r : Nat
  L : List Nat
  pl : Nat → Nat
  vc : Array Value
structure Im.Ok (m : Im) : Prop where
  a : m.N < m.pb
  b : m.N < m.fb
  c : m.fb < m.pb
  d : m.pb + 1 < m.ob
  e : m.ob < m.ox
/-- immediate under way: what stands over each point; whether it has changed; the marks of the loops that have been -/
structure ISt (m : Im) (w : World) (ov : Nat → Int) (ch : Bool) (cb : Nat) (ds : List Nat) (W : World) : Prop where
  vb : W.heap[m.N]? = some (.cells m.vc 57 (0, 0))
  px : Bx W (m.pb + 1) 29 (.slice (some ⟨m.pb, 0, none⟩) m.n m.n)
  pa : IArr W m.pb m.n (fun v => (m.pl v : Int))
  ox : Bx W m.ox 29 (.slice (some ⟨m.ob, 0, none⟩) m.n m.n)
  oa : IArr W m.ob m.n ov
  fc : ∀ (i : Nat) (h : i < m.L.length), W.cell? ⟨m.fb, i, none⟩ = some (.int .i64 ((m.L[i] : Nat) : Int))
  cx : Bx W cb 4 (.bool ch)
  cl : m.ox < cb
  be : Below m.N w W
  mks : ∀ d ∈ ds, W.heap[d]? = some (.deferred (some []))
  nd : ds.Nodup
  dn : ∀ d ∈ ds, m.N ≤ d
section
variable {m : Im} {w W W' : World} {ov : Nat → Int} {ch : Bool} {cb : Nat} {ds : List Nat}
/-- what its blocks are -/
theorem ISt.keep (h : ISt m w ov ch cb ds W) (hm : m.Ok) (hb : Below m.N W W') (hk : ∀ b, b < W.heap.size → b = m.N ∨ b = m.pb + 1 ∨ b = m.pb ∨ b = m.ox ∨ b = m.ob ∨ b = m.fb ∨ b = cb ∨ b ∈ ds → W'.heap[b]? = W.heap[b]?) : ISt m w ov ch cb ds W' := by
  have k : ∀ b o, W.heap[b]? = some o → (b = m.N ∨ b = m.pb + 1 ∨ b = m.pb ∨ b = m.ox ∨ b = m.ob ∨ b = m.fb ∨ b = cb ∨ b ∈ ds) → W'.heap[b]? = some o := fun b o e h => (hk b (hlt e) h).trans e
  refine ⟨k _ _ h.vb (by simp), k _ _ h.px (by simp), h.pa.eq (hk _ h.pa.lt (by simp)), k _ _ h.ox (by simp), h.oa.eq (hk _ h.oa.lt (by simp)), fun i hi => (World.cell?_of_block (a := ⟨m.fb, i, none⟩) (hk m.fb (World.block_lt_of_cell? W _ (h.fc i hi)) (by simp))).trans (h.fc i hi), k _ _ h.cx (by simp), h.cl, h.be.trans hb, fun d hd => k _ _ (h.mks d hd) (by simp [hd]), h.nd, h.dn⟩
theorem ISt.later (h : ISt m w ov ch cb ds W) (hm : m.Ok) (hb : Below W.heap.size W W') : ISt m w ov ch cb ds W' :=
  h.keep hm (hb.mono (Nat.le_of_lt (hlt h.vb))) fun b hb' _ => hb.block b hb'
theorem ISt.mkne (h : ISt m w ov ch cb ds W) {b : Nat} {cs : Array Value} {t : TypeId} {fr : Nat × Nat} (hb : W.heap[b]? = some (.cells cs t fr)) : b ∉ ds := fun hd => by
  have := h.mks b hd
  rw [hb] at this
  cases this
/-- whether it has changed is set -/
theorem ISt.setC (h : ISt m w ov ch cb ds W) (hm : m.Ok) (c2 : Bool) : ISt m w ov c2 cb ds (W.setCell ⟨cb, 0, none⟩ (.bool c2)) := by
  obtain ⟨h1, h2, h3, h4, h5⟩ := hm
  have hc := h.cl
  have k : ∀ b, b ≠ cb → (W.setCell ⟨cb, 0, none⟩ (.bool c2)).heap[b]? = W.heap[b]? := fun b hb => hfar hb _
  refine ⟨(k _ (by omega)).trans h.vb, (k _ (by omega)).trans h.px, h.pa.eq (k _ (by omega)), (k _ (by omega)).trans h.ox, h.oa.eq (k _ (by omega)), fun i hi => (World.cell?_of_block (a := ⟨m.fb, i, none⟩) (k _ (by show m.fb ≠ cb; omega))).trans (h.fc i hi), h.cx.set _, h.cl, h.be.setCell (by simp; omega) _, fun d hd => (k _ (fun e => h.mkne h.cx (e ▸ hd))).trans (h.mks d hd), h.nd, h.dn⟩
/-- what stands over a point is set -/
theorem ISt.setO (h : ISt m w ov ch cb ds W) (hm : m.Ok) {p : Nat} (hp : p < m.n) (a : Int) : ISt m w (setO ov p a) ch cb ds (W.setCell ⟨m.ob, p, none⟩ (.int .i64 a)) := by
  obtain ⟨h1, h2, h3, h4, h5⟩ := hm
  have hc := h.cl
  have k : ∀ b, b ≠ m.ob → (W.setCell ⟨m.ob, p, none⟩ (.int .i64 a)).heap[b]? = W.heap[b]? := fun b hb => hfar hb _
  have hne : m.ob ∉ ds := by obtain ⟨cs, e, _⟩ := h.oa; exact h.mkne e
  refine ⟨(k _ (by omega)).trans h.vb, (k _ (by omega)).trans h.px, h.pa.eq (k _ (by omega)), (k _ (by omega)).trans h.ox, h.oa.set hp a, fun i hi => (World.cell?_of_block (a := ⟨m.fb, i, none⟩) (k _ (by show m.fb ≠ m.ob; omega))).trans (h.fc i hi), (k _ (by omega)).trans h.cx, h.cl, h.be.setCell (by simp; omega) _, fun d hd => (k _ (fun e => hne (e ▸ hd))).trans (h.mks d hd), h.nd, h.dn⟩
/-- a new variable for whether it has changed -/
theorem ISt.newC (h : ISt m w ov ch cb ds W) (hm : m.Ok) : ISt m w ov ch W.heap.size ds (W.alloc (.cells #[.bool ch] 4)) := by
  have h2 := h.later hm ((Below.refl W.heap.size W).alloc (Nat.le_refl _) (.cells #[.bool ch] 4))
  exact ⟨h2.vb, h2.px, h2.pa, h2.ox, h2.oa, h2.fc, heap_alloc_new W _, hlt h.ox, h2.be, h2.mks, h2.nd, h2.dn⟩
/-- one more mark -/
theorem ISt.mark (h : ISt m w ov ch cb ds W) {D : Nat} (hD : W.heap[D]? = some (.deferred (some []))) (hN : m.N ≤ D) (hn : D ∉ ds) : ISt m w ov ch cb (D :: ds) W :=
  ⟨h.vb, h.px, h.pa, h.ox, h.oa, h.fc, h.cx, h.cl, h.be, fun d hd => by
    rcases List.mem_cons.1 hd with rfl | hd
    · exact hD
    · exact h.mks d hd, List.nodup_cons.2 ⟨hn, h.nd⟩, fun d hd => by
    rcases List.mem_cons.1 hd with rfl | hd
    · exact hN
    · exact h.dn d hd⟩
theorem ISt.bound (h : ISt m w ov ch cb ds W) : ∀ b, (b = m.N ∨ b = m.pb + 1 ∨ b = m.pb ∨ b = m.ox ∨ b = m.ob ∨ b = cb ∨ b ∈ ds) → b < W.heap.size := fun b hb => by
  rcases hb with rfl | rfl | rfl | rfl | rfl | rfl | hb
  · exact hlt h.vb
  · exact h.px.lt
  · exact h.pa.lt
  · exact h.ox.lt
  · exact h.oa.lt
  · exact h.cx.lt
  · exact hlt (h.mks b hb)
end
/-- marks that stand among the deferred calls -/
def marks (ds : List Nat) : List Deferred := ds.map fun D => { target := .collected D, args := #[] }
/-- they are taken off at the end -/
theorem leaves_marks {P : Program} {F : Fence} {n : Nat} {fn : Func} {tmps : Array Value} {R : Ending → World → Prop} {v : Value} (K : World → Prop) (Dn : Nat → Prop) (hv : ∀ W, (results fn tmps).run P W = .ok v W) (hR : ∀ W, K W → R (.returned v) W)
    (hK : ∀ W d, K W → Dn d → W.heap[d]? = some (.deferred (some [])) → K (W.putObj d (.deferred none))) : ∀ (ds : List Nat) (W : World), (∀ d ∈ ds, Dn d) → ds.Nodup → (∀ d ∈ ds, W.heap[d]? = some (.deferred (some []))) → K W → LeavesInM F n P fn tmps R (marks ds) .returning W
  | [], W, _, _, _, hk => ⟨v, hv W, hR W hk⟩
  | d :: ds, W, hd, hn, hm, hk => by
    rw [List.nodup_cons] at hn
    refine ⟨by simp, .inl ⟨d, _, rfl, run_takeDeferred (hm d (by simp)), ?_⟩⟩
    refine leaves_marks K Dn hv hR hK ds _ (fun e he => hd e (by simp [he])) hn.2 (fun e he => ?_) (hK W d hk (hd d (by simp)) (hm d (by simp)))
    have e2 : d ≠ e := fun h => hn.1 (by rw [h]; exact he)
    have e3 : (W.putObj d (.deferred none)).heap[e]? = W.heap[e]? := World.putObj_heap_other (by first | exact e2 | exact e2.symm)
    exact e3.trans (hm e (by simp [he]))

/-- a pass, of which j points have been -/
structure PSt (E B : Nat → List Nat) (r : Nat) (L : List Nat) (pl : Nat → Nat) (ov0 ov : Nat → Int) (ch : Bool) (j : Nat) : Prop where
  le : j ≤ L.length - 1
  iv : Ivr E B r L pl ov (L.length - 1 - j)
  t : ch = true → farL L.length pl ov L < farL L.length pl ov0 L
  f : ch = false → ov = ov0 ∧ ∀ v ∈ L, v ≠ r → L.length - 1 - j ≤ pl v → Near ov r (B v) (ov v)
theorem PSt.start {E B : Nat → List Nat} {r : Nat} {L : List Nat} {pl : Nat → Nat} {ov : Nat → Int} (hf : Post E r L) (hp : Pl L pl) (h : Ivr E B r L pl ov (L.length - 1)) : PSt E B r L pl ov ov false 0 := by
  obtain ⟨hr, hr1, hr2⟩ := hf.root hp
  refine ⟨Nat.zero_le _, h, fun h => (by cases h), fun _ => ⟨rfl, fun v hv hvr hk => ?_⟩⟩
  obtain ⟨h1, h2⟩ := hp.at hv
  exact absurd (hp.inj hv hr (by omega)) hvr
theorem PSt.step {E B : Nat → List Nat} {r : Nat} {L : List Nat} {pl : Nat → Nat} {ov0 ov : Nat → Int} {ch : Bool} {j : Nat} (hf : Post E r L) (hp : Pl L pl) (hB : ∀ q x, q ∈ B x ↔ x ∈ E q) (h : PSt E B r L pl ov0 ov ch j) {k : Nat} (hk : L.length - 1 - j = k + 1) {p : Nat} (hpL : ∃ hk : k < L.length, L[k] = p) {a : Int} (hn : Near ov r (B p) a) :
    ∃ c : Nat, a = (c : Int) ∧ p ∈ L ∧ PSt E B r L pl ov0 (setO ov p (c : Int)) (ch || !decide ((c : Int) = ov p)) (j + 1) := by
  obtain ⟨hr, hr1, hr2⟩ := hf.root hp
  obtain ⟨hkl, rfl⟩ := hpL
  have hpm : L[k] ∈ L := List.getElem_mem hkl
  have hpk := hp k hkl
  have hpr : L[k] ≠ r := fun e => by rw [e, hr1] at hpk; omega
  have hiv := h.iv
  rw [hk] at hiv
  obtain ⟨c, rfl, hpc, hup, hiv2⟩ := hiv.set hf hp hB hpm hpk hpr hn
  have e1 : L.length - 1 - (j + 1) = k := by omega
  have hcl : pl c ≤ L.length := by
    have := (hiv2.t.next (show setO ov L[k] (c : Int) L[k] = (c : Int) from setO_same _ _ _)).2.1
    exact Nat.le_of_lt (hp.at this).1
  have hlt : (c : Int) ≠ ov L[k] → farL L.length pl (setO ov L[k] (c : Int)) L < farL L.length pl ov L := fun hne => by
    refine farL_set hcl ?_ hf.nd hpm
    by_cases h0 : ov L[k] < 0
    · exact .inl h0
    · right
      obtain ⟨d, hd⟩ : ∃ d : Nat, ov L[k] = (d : Int) := ⟨(ov L[k]).toNat, by omega⟩
      rw [hd] at hne ⊢
      simp only [Int.toNat_natCast]
      exact hiv.t.lt (hup d hd) (fun e => hne (by rw [e]))
  have heq : (c : Int) = ov L[k] → setO ov L[k] (c : Int) = ov := fun e => by
    funext v
    by_cases hv : v = L[k]
    · rw [hv, setO_same, e]
    · exact setO_ne hv
  refine ⟨c, rfl, hpm, ⟨by omega, by rw [e1]; exact hiv2, fun ht => ?_, fun hff => ?_⟩⟩
  · cases ch with
    | true =>
      have h1 := h.t rfl
      by_cases e : (c : Int) = ov L[k]
      · rw [heq e]; exact h1
      · have := hlt e; omega
    | false =>
      have hne : (c : Int) ≠ ov L[k] := by simpa using ht
      rw [(h.f rfl).1] at hne hlt ⊢
      exact hlt hne
  · simp only [Bool.or_eq_false_iff, Bool.not_eq_false', decide_eq_true_eq] at hff
    obtain ⟨hc, he⟩ := hff
    subst hc
    obtain ⟨h1, h2⟩ := h.f rfl
    rw [heq he, e1]
    refine ⟨h1, fun v hv hvr hkv => ?_⟩
    by_cases e : v = L[k]
    · subst e; rw [← he]; exact hn
    · refine h2 v hv hvr ?_
      have : pl v ≠ k := fun e2 => e (hp.inj hv hpm (by omega))
      omega
/-- which element comes -/
theorem bkL_elem {l : List Nat} {pre post : List (Nat × Nat)} {x : Nat × Nat} (h : bkL l = pre ++ x :: post) : ∃ k, ∃ hk : k < l.length, x = (k, l[k]) ∧ l.length - pre.length = k + 1 ∧ pre.length < l.length := by
  have h1 : pre.length < l.length := by
    have := congrArg List.length h
    rw [bkL_len] at this
    simp at this
    omega
  refine ⟨l.length - (pre.length + 1), by omega, ?_, by omega, h1⟩
  have h2 := bkL_get l (k := l.length - (pre.length + 1)) (by omega)
  rw [show l.length - (l.length - (pre.length + 1) + 1) = pre.length by omega, h] at h2
  simp at h2
  exact h2
end Go.Proofs.Ytbdpdbeekbbehaa
