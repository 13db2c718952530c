/- What is proved: the passes in which each point is set to the nearest point over those that lead to it keep what a tree of dominators must be, lead upwards, and end in it: mathematics. -/
import Derived.Test.YtbdpdbeekbbehaaDoGraph
set_option linter.unusedVariables false
namespace Go.Proofs.Ytbdpdbeekbbehaa

/-- a pass under way: the points of place k and above have been set in it; B: the points that lead to each one -/
structure Ivr (E B : Nat → List Nat) (r : Nat) (found : List Nat) (pl : Nat → Nat) (ov : Nat → Int) (k : Nat) : Prop where
  t : Tr r found pl ov
  p : ∀ v c : Nat, ov v = (c : Int) → Rch E (fun x => x = c ∨ pl x < pl c) c v
  s : ∀ v, Pr ov r v → ∀ y, Dom E r y v → Up ov v y
  e1 : ∀ x q c : Nat, ov x = (c : Int) → x ∈ E q → q ∈ found → pl x < pl q → k ≤ pl x → Up ov q c
  e2 : ∀ x q c v : Nat, ov x = (c : Int) → x ∈ E q → q ∈ found → pl x < pl q → pl x < k → Up ov c v → pl v < k → Up ov q v
  m : ∀ x c : Nat, ov x = (c : Int) → ∀ y, (∀ q, x ∈ E q → Pr ov r q → Up ov q y) → Up ov c y
  f : ∀ v ∈ found, k ≤ pl v → Pr ov r v

section
variable {E B : Nat → List Nat} {r : Nat} {found : List Nat} {pl : Nat → Nat} {ov : Nat → Int} {k : Nat}
theorem Ivr.way (h : Ivr E B r found pl ov k) {q c : Nat} (hu : Up ov q c) : Rch E (fun x => x = c ∨ pl x < pl c) c q := by induction hu with
  | refl a => exact .here (.inl rfl)
  | @step a b c e u ih =>
    have hb := h.p a b e
    have hle := h.t.le u
    refine ih.trans (hb.mono fun x hx => ?_)
    rcases hx with rfl | hx
    · exact ih.last
    · exact .inr (by omega)

theorem Ivr.start (hf : Post E r found) (hp : Pl found pl) : Ivr E B r found pl (fun _ => -1) (found.length - 1) := by
  obtain ⟨hr, hr1, hr2⟩ := hf.root hp
  refine ⟨⟨rfl, fun v h => by omega, fun v h => rfl⟩, fun v c h => by omega, fun v hv y hy => ?_, fun x q c h => by omega, fun x q c v h => by omega, fun x c h => by omega, fun v hv hk => ?_⟩
  · rcases hv with rfl | hv
    · by_cases e : y = v
      · subst e; exact .refl _
      · exact absurd (Rch.here (fun e2 => e e2.symm)) hy.2
    · have hv' : (0 : Int) ≤ -1 := hv
      omega
  · obtain ⟨h1, h2⟩ := hp.at hv
    exact .inl (hp.inj hv hr (by omega))

theorem Ivr.again (hf : Post E r found) (hp : Pl found pl) (h : Ivr E B r found pl ov 0) : Ivr E B r found pl ov (found.length - 1) := by
  obtain ⟨hr, hr1, hr2⟩ := hf.root hp
  refine ⟨h.t, h.p, h.s, fun x q c e hx hq hl hk => ?_, fun x q c v e hx hq hl _ hu _ => (h.e1 x q c e hx hq hl (Nat.zero_le _)).trans hu, h.m, fun v hv _ => h.f v hv (Nat.zero_le _)⟩
  exact h.e1 x q c e hx hq hl (Nat.zero_le _)

/-- one point is set -/
theorem Ivr.set (hf : Post E r found) (hp : Pl found pl) (hB : ∀ q x, q ∈ B x ↔ x ∈ E q) (h : Ivr E B r found pl ov (k + 1)) {p : Nat} (hpf : p ∈ found) (hpk : pl p = k) (hpr : p ≠ r) {a : Int} (hn : Near ov r (B p) a) :
    ∃ c : Nat, a = (c : Int) ∧ pl p < pl c ∧ (∀ d : Nat, ov p = (d : Int) → Up ov d c) ∧ Ivr E B r found pl (setO ov p (c : Int)) k := by
  obtain ⟨hr, hr1, hr2⟩ := hf.root hp
  obtain ⟨q0, hq0, hq1, hq2⟩ := hf.par' hp hpf hpr
  have hq3 : Pr ov r q0 := h.f q0 hq0 (by omega)
  rcases hn with ⟨_, hno⟩ | ⟨c, rfl, hc, _, hc1, hc2⟩
  · exact absurd hq3 (hno q0 ((hB _ _).2 hq1))
  have hqc := h.t.le (hc1 q0 ((hB _ _).2 hq1) hq3)
  have hpc : pl p < pl c := by omega
  have hcf := h.t.mem hr hc
  have hup : ∀ d : Nat, ov p = (d : Int) → Up ov d c := fun d e => h.m p d e c fun q hq hpq => hc1 q ((hB _ _).2 hq) hpq
  have hupp : 0 ≤ ov p → Up ov p c := fun h0 => by
    obtain ⟨_, d, e, _⟩ := h.t.up p h0
    exact .step e (hup d e)
  have hpr' : ∀ v, Pr ov r v → Pr (setO ov p (c : Int)) r v := fun v hv => by
    rcases hv with hv | hv
    · exact .inl hv
    · refine .inr ?_
      by_cases e : v = p
      · subst e; rw [setO_same]; omega
      · rw [setO_ne e]; exact hv
  have hprb : ∀ v, v ≠ p → Pr (setO ov p (c : Int)) r v → Pr ov r v := fun v hv hq => by
    rcases hq with hq | hq
    · exact .inl hq
    · rw [setO_ne hv] at hq; exact .inr hq
  have ht : Tr r found pl (setO ov p (c : Int)) := by
    refine ⟨(setO_ne (fun e => hpr e.symm)).trans h.t.rt, fun v hv => ?_, fun v hv => ?_⟩
    · by_cases e : v = p
      · subst e
        exact ⟨hpf, c, setO_same _ _ _, hcf, hpc, hpr' _ hc⟩
      · rw [setO_ne e] at hv ⊢
        obtain ⟨h1, d, h2, h3, h4, h5⟩ := h.t.up v hv
        exact ⟨h1, d, h2, h3, h4, hpr' _ h5⟩
    · by_cases e : v = p
      · subst e; rw [setO_same] at hv; omega
      · rw [setO_ne e] at hv ⊢
        exact h.t.neg v hv
  have hcp : ∀ {v}, Up ov c v → Up (setO ov p (c : Int)) c v := fun {v} hu => by
    rcases up_to (p := p) (c := c) hu with h1 | ⟨_, h2, _⟩
    · exact h1
    · have := h.t.le h2; omega
  have hpp : ∀ {v}, Up ov c v → Up (setO ov p (c : Int)) p v := fun {v} hu => .step (setO_same _ _ _) (hcp hu)
  -- dominators of p
  have hdp : ∀ y, Dom E r y p → Up (setO ov p (c : Int)) p y := fun y hy => by
    by_cases e : y = p
    · subst e; exact .refl _
    · refine hpp (hc2 y fun q hq hpq => h.s q hpq y ⟨(hf.mem q).1 (h.t.mem hr hpq), fun hx => hy.2 ?_⟩)
      exact .step hx ((hB _ _).1 hq) (fun e2 => e e2.symm)
  refine ⟨c, rfl, hpc, hup, ⟨ht, fun v d e => ?_, fun v hv y hy => ?_, fun x q d e hx hq hl hk => ?_, fun x q d v e hx hq hl hk hu hv => ?_, fun x d e y hy => ?_, fun v hv hk => ?_⟩⟩
  · by_cases e1 : v = p
    · subst e1
      rw [setO_same] at e
      obtain rfl : c = d := by omega
      exact .step (h.way (hc1 q0 ((hB _ _).2 hq1) hq3)) hq1 (.inr hpc)
    · rw [setO_ne e1] at e
      exact h.p v d e
  · by_cases e1 : v = p
    · subst e1; exact hdp y hy
    · have hv' := hprb v e1 hv
      rcases up_to (p := p) (c := c) (h.s v hv' y hy) with h1 | ⟨h1, h2, h3, h4⟩
      · exact h1
      · refine h1.trans (hdp y ?_)
        by_cases hd : Dom E r y p
        · exact hd
        · exfalso
          have hpl := h.t.lt h3 h4
          have hrp : Rch E (fun x => x ≠ y) r p := Classical.byContradiction fun hx => hd ⟨(hf.mem p).1 hpf, hx⟩
          refine hy.2 (hrp.trans ((h.way h2).mono fun x hx e2 => ?_))
          subst e2
          rcases hx with hx | hx
          · exact h4 hx.symm
          · omega
  · by_cases e1 : x = p
    · subst e1
      rw [setO_same] at e
      obtain rfl : c = d := by omega
      rcases up_to (p := x) (c := c) (hc1 q ((hB _ _).2 hx) (h.f q hq (by omega))) with h1 | ⟨_, h2, _⟩
      · exact h1
      · have := h.t.le h2; omega
    · rw [setO_ne e1] at e
      have hxf := (h.t.next e).1
      have : pl x ≠ k := fun e2 => e1 (hp.inj hxf hpf (by omega))
      rcases up_to (p := p) (c := c) (h.e1 x q d e hx hq hl (by omega)) with h1 | ⟨_, h2, _⟩
      · exact h1
      · have := h.t.le h2; omega
  · have e1 : x ≠ p := fun e2 => by subst e2; omega
    rw [setO_ne e1] at e
    rcases up_from h.t hpc hu with hu' | ⟨_, hu'⟩
    · rcases up_to (p := p) (c := c) (h.e2 x q d v e hx hq hl (by omega) hu' (by omega)) with h1 | ⟨_, _, h2, h3⟩
      · exact h1
      · have := h.t.lt h2 h3; omega
    · have := h.t.le hu'; omega
  · by_cases e1 : x = p
    · subst e1
      rw [setO_same] at e
      obtain rfl : c = d := by omega
      by_cases hcy : Up ov c y
      · exact hcp hcy
      · refine hcp (hc2 y fun q hq hpq => ?_)
        rcases up_from h.t hpc (hy q ((hB _ _).1 hq) (hpr' _ hpq)) with h1 | ⟨_, h1⟩
        · exact h1
        · exact absurd h1 hcy
    · rw [setO_ne e1] at e
      have hdy : Up ov d y := h.m x d e y fun q hq hpq => by
        rcases up_from h.t hpc (hy q hq (hpr' _ hpq)) with h1 | ⟨h1, h2⟩
        · exact h1
        · rcases h.t.prU h1 hpq with h3 | h3
          · exact absurd h3 hpr
          · exact h1.trans ((hupp h3).trans h2)
      rcases up_to (p := p) (c := c) hdy with h1 | ⟨h1, h2, h3, h4⟩
      · exact h1
      · refine h1.trans ?_
        have hxd := (h.t.next e).2.2.1
        have hdp' := h.t.le h2
        have hxr : x ≠ r := fun e2 => by subst e2; rw [h.t.rt] at e; omega
        obtain ⟨q, hqf, hqx, hql⟩ := hf.par' hp (h.t.next e).1 hxr
        have hqp := h.e2 x q d p e hqx hqf hql (by omega) h2 (by omega)
        have hqp' : Up (setO ov p (c : Int)) q p := by
          rcases up_to (p := p) (c := c) hqp with h5 | ⟨h5, _⟩
          · exact h5
          · exact h5
        have hqpr : Pr (setO ov p (c : Int)) r q := by
          rcases hqp.cases' with rfl | ⟨b, e2, _⟩
          · exact .inr (by rw [setO_same]; omega)
          · exact hpr' _ (.inr (by omega))
        have hqy := hy q hqx hqpr
        have hpy := h.t.lt h3 h4
        rcases hqp'.line hqy with h5 | h5
        · exact h5
        · have := ht.le h5; omega
  · by_cases e1 : v = p
    · subst e1; exact .inr (by rw [setO_same]; omega)
    · exact hpr' _ (h.f v hv (by
        have : pl v ≠ k := fun e2 => e1 (hp.inj hv hpf (by omega))
        omega))

/-- the tree of dominators: a point dominates another one if and only if it stands over it -/
structure DTree (E : Nat → List Nat) (r : Nat) (ov : Nat → Int) : Prop where
  rt : ov r = -1
  non : ∀ v, ¬ Rea E r v → ov v = -1
  pos : ∀ v, Rea E r v → v ≠ r → ∃ c : Nat, ov v = (c : Int) ∧ Rea E r c
  dom : ∀ v y, Rea E r v → (Up ov v y ↔ Dom E r y v)
  anti : ∀ a b, Up ov a b → Up ov b a → a = b
  rk : ∃ (pl : Nat → Nat) (N : Nat), ∀ v c : Nat, ov v = (c : Int) → pl v < pl c ∧ pl c ≤ N
theorem Ivr.fin (hf : Post E r found) (hp : Pl found pl) (hB : ∀ q x, q ∈ B x ↔ x ∈ E q) (h : Ivr E B r found pl ov 0) (hx : ∀ v ∈ found, v ≠ r → Near ov r (B v) (ov v)) : DTree E r ov := by
  obtain ⟨hr, hr1, hr2⟩ := hf.root hp
  refine ⟨h.t.rt, fun v hv => ?_, fun v hv hvr => ?_, fun v y hv => ⟨fun hu => ⟨hv, fun hpa => ?_⟩, fun hd => h.s v (h.f v ((hf.mem v).2 hv) (Nat.zero_le _)) y hd⟩, fun a b h1 h2 => h.t.anti h1 h2, pl, found.length, fun v c e => ⟨(h.t.next e).2.2.1, Nat.le_of_lt (hp.at (h.t.next e).2.1).1⟩⟩
  · refine h.t.neg v ?_
    by_cases e : 0 ≤ ov v
    · exact absurd ((hf.mem v).1 (h.t.up v e).1) hv
    · omega
  · rcases h.f v ((hf.mem v).2 hv) (Nat.zero_le _) with e | e
    · exact absurd e hvr
    · obtain ⟨_, c, e1, e2, _⟩ := h.t.up v e
      exact ⟨c, e1, (hf.mem c).1 e2⟩
  · have key : ∀ v, Rch E (fun x => x ≠ y) r v → ¬ Up ov v y := fun v hpa => by
      induction hpa with
      | here hn => exact fun hu => hn (h.t.root hu).symm
      | @step b v hb hv hn ih =>
        intro hu
        have hrb : Rea E r b := hb.mono fun _ _ => trivial
        have hvf : v ∈ found := (hf.mem v).2 (.step hrb hv trivial)
        rcases hu.cases' with e | ⟨c, e, hu2⟩
        · exact hn e
        · have hvr : v ≠ r := fun e2 => by subst e2; rw [h.t.rt] at e; omega
          rcases hx v hvf hvr with ⟨h1, _⟩ | ⟨d, h1, _, _, h2, _⟩
          · omega
          · have : d = c := by omega
            subst this
            exact ih ((h2 b ((hB _ _).2 hv) (h.f b ((hf.mem b).2 hrb) (Nat.zero_le _))).trans hu2)
    exact key v hpa hu
end

/-- how far the points of a list are from their ends -/
def far (N : Nat) (pl : Nat → Nat) (ov : Nat → Int) (v : Nat) : Nat := if ov v < 0 then N + 1 else N - pl (ov v).toNat
def farL (N : Nat) (pl : Nat → Nat) (ov : Nat → Int) : List Nat → Nat
  | [] => 0
  | v :: l => far N pl ov v + farL N pl ov l
theorem farL_same {N : Nat} {pl : Nat → Nat} {ov ov' : Nat → Int} : ∀ {l : List Nat}, (∀ v ∈ l, ov v = ov' v) → farL N pl ov l = farL N pl ov' l
  | [], _ => rfl
  | v :: l, h => by
    unfold farL far
    rw [h v (by simp), farL_same fun x hx => h x (by simp [hx])]
theorem farL_set {N : Nat} {pl : Nat → Nat} {ov : Nat → Int} {p c : Nat} (hc : pl c ≤ N) (hlt : ov p < 0 ∨ pl (ov p).toNat < pl c) : ∀ {l : List Nat}, l.Nodup → p ∈ l → farL N pl (setO ov p (c : Int)) l < farL N pl ov l
  | [], _, h => by simp at h
  | v :: l, hn, h => by
    rw [List.nodup_cons] at hn
    unfold farL
    by_cases e : v = p
    · subst e
      have h1 : farL N pl (setO ov v (c : Int)) l = farL N pl ov l := farL_same fun x hx => setO_ne fun e => hn.1 (e ▸ hx)
      have h2 : far N pl (setO ov v (c : Int)) v < far N pl ov v := by
        unfold far
        rw [setO_same, if_neg (by omega)]
        split
        · omega
        · rcases hlt with h3 | h3
          · omega
          · simp only [Int.toNat_natCast]; omega
      omega
    · have h1 : p ∈ l := by simpa [Ne.symm e] using h
      have h2 := farL_set (ov := ov) hc hlt hn.2 h1
      have h3 : far N pl (setO ov p (c : Int)) v = far N pl ov v := by unfold far; rw [setO_ne e]
      omega
end Go.Proofs.Ytbdpdbeekbbehaa
