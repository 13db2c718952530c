/- What is proved: what GatesCones wants of the mathematics, over what the functions answer. -/
import Derived.Test.YtaccienlokoolaaGaPtLaw
set_option linter.unusedVariables false
namespace Go.Proofs.Ytaccienlokoolaa
open Go.RowKit Go.Maps

/-- the inputs that are put in place of others, k of them -/
def mixL (inp oth : List Bool) (sv : List Int) : Nat → List Bool
  | 0 => oth
  | k + 1 => match sv[k]? with
    | some x => (mixL inp oth sv k).set x.toNat (inp.getD x.toNat false)
    | none => mixL inp oth sv k
theorem mix_len (inp oth : List Bool) (sv : List Int) : ∀ k, (mixL inp oth sv k).length = oth.length := by
  intro k
  induction k with
  | zero => rfl
  | succ k ih =>
    unfold mixL
    split
    · rw [List.length_set, ih]
    · exact ih
theorem mix_step {inp oth : List Bool} {sv : List Int} {k : Nat} (hk : k < sv.length) (hi : sv[k].toNat < inp.length) : mixL inp oth sv (k + 1) = (mixL inp oth sv k).set sv[k].toNat inp[sv[k].toNat] := by
  simp only [mixL, List.getElem?_eq_getElem hk]
  simp [List.getD_eq_getElem?_getD, List.getElem?_eq_getElem hi]
theorem mix_get {inp oth : List Bool} {sv : List Int} (hl : oth.length = inp.length) (hs : ∀ x ∈ sv, x.toNat < inp.length) : ∀ k, k ≤ sv.length → ∀ x ∈ sv.take k, (mixL inp oth sv k)[x.toNat]? = inp[x.toNat]? := by
  intro k
  induction k with
  | zero => intro _ x hx; simp at hx
  | succ k ih =>
    intro hk x hx
    have hk' : k < sv.length := by omega
    have hi := hs _ (List.getElem_mem hk')
    rw [mix_step hk' hi]
    by_cases e : x.toNat = sv[k].toNat
    · rw [e, List.getElem?_set_self (by rw [mix_len]; omega), List.getElem?_eq_getElem hi]
    · rw [List.getElem?_set_ne (fun h => e h.symm)]
      rw [List.take_succ_eq_append_getElem hk', List.mem_append] at hx
      rcases hx with hx | hx
      · exact ih (by omega) x hx
      · simp only [List.mem_singleton] at hx
        exact absurd (by rw [hx]) e
structure CoFacts (I : Int) (gs : List Gt) (ls : List Int) (inp oth : List Bool) : Prop where
  e1 : coE I gs ls = 0
  i1 : coI I gs ls = I
  e2 : coE I (coG I gs ls) (coL I gs ls) = 0
  i2 : coI I (coG I gs ls) (coL I gs ls) = I
  g2 : coG I (coG I gs ls) (coL I gs ls) = coG I gs ls
  l2 : coL I (coG I gs ls) (coL I gs ls) = coL I gs ls
  v1 : evE I (coG I gs ls) inp (coL I gs ls) = 0
  v2 : evL I (coG I gs ls) inp (coL I gs ls) = evL I gs inp ls
  vd : vldB I (coG I gs ls) = true
  sv : ∀ x ∈ supV I gs ls, 0 ≤ x ∧ x < I
  m1 : evE I gs (mixL inp oth (supV I gs ls) (supV I gs ls).length) ls = 0
  m2 : evL I gs (mixL inp oth (supV I gs ls) (supV I gs ls).length) ls = evL I gs inp ls
theorem co_facts {I : Int} {gs : List Gt} {ls : List Int} {inp oth : List Bool} (hv : fitB I gs ls = true) (hI : (inp.length : Int) = I) (hQ : (oth.length : Int) = I) (hn : gs.length ≤ 5000) : CoFacts I gs ls inp oth := by
  obtain ⟨⟨hck, hbig⟩, hls⟩ := fit_iff.1 hv
  have hlo := hck.lo
  have hhi := hck.hi
  obtain ⟨b, hb⟩ : ∃ b : Nat, (b : Int) = 1 + I := ⟨(1 + I).toNat, by omega⟩
  have hbn : (1 + I).toNat = b := by omega
  have hd : Dn b gs (ldF b gs ls) := fun i hi h => ldF_down hck hb ls i hi h
  obtain ⟨q1, q2, q3, q4⟩ := co_yes hv hb
  have hck2 := cn_ok hck hb hd
  have hsm := cn_small (ldF b gs ls) b gs
  have hlit : ∀ x ∈ ls, ldF b gs ls (x / 2).toNat = true := fun x hx => ldF_lit ls hx
  have hv2 : fitB I (cnA (ldF b gs ls) b gs) (ls.map (mvL (ldF b gs ls) b)) = true := fit_iff.2 ⟨⟨hck2, by omega⟩, fun x hx => by
    obtain ⟨y, hy, rfl⟩ := List.mem_map.1 hx
    exact cn_isLit hck hb (hls y hy) (hlit y hy)⟩
  obtain ⟨r1, r2, r3, r4⟩ := co_yes hv2 hb
  obtain ⟨t1, t2⟩ := cn_twice hck hb ls hls
  have hsv : supV I gs ls = supL (ldF b gs ls) I.toNat := by unfold supV; rw [if_pos hv, hbn]
  have hsm2 : ∀ x ∈ supV I gs ls, 0 ≤ x ∧ x < I := fun x hx => by
    rw [hsv] at hx
    have := sup_small _ _ x hx
    omega
  have hml : ((mixL inp oth (supV I gs ls) (supV I gs ls).length).length : Int) = I := by rw [mix_len]; exact hQ
  have ev0 := ev_yes hv hI
  have ev1 := ev_yes hv2 hI
  have ev2 := ev_yes hv hml
  refine ⟨q4, q2, by rw [q1, q3]; exact r4, by rw [q1, q3]; exact r2, by rw [q1, q3, r1]; exact t1, by rw [q1, q3, r3]; exact t2, by rw [q1, q3]; exact ev1.2, ?_, by rw [q1]; exact vld_iff.2 ⟨hck2, by omega⟩, hsm2, ev2.2, ?_⟩
  · rw [q1, q3, ev1.1, ev0.1, List.map_map]
    refine List.map_congr_left fun x hx => ?_
    exact cn_lit hck hb hd hI (hls x hx) (hlit x hx)
  · rw [ev2.1, ev0.1]
    refine List.map_congr_left fun x hx => ?_
    refine (sup_lit hck hb hd hI hml (fun i hi hf => ?_) (hls x hx) (hlit x hx)).symm
    have hmem : (i : Int) ∈ supV I gs ls := by
      rw [hsv]
      exact (supL_mem _).2 ⟨i, rfl, by omega, hf⟩
    have h := mix_get (inp := inp) (oth := oth) (sv := supV I gs ls) (by omega) (fun y hy => by have := hsm2 y hy; omega) _ (Nat.le_refl _) (i : Int) (by rw [List.take_length]; exact hmem)
    simp only [Int.toNat_natCast] at h
    exact h.symm
theorem BOwn.put {w : World} {B g n c : Nat} {l : List Bool} (hn : n = l.length) (h : BOwn w B (.slice (some ⟨g, 0, none⟩) n c) l) (i : Nat) (x : Bool) : BOwn (w.setCell ⟨g, i, none⟩ (.bool x)) B (.slice (some ⟨g, 0, none⟩) n c) (l.set i x) := by
  subst hn
  have h9 := h
  unfold BOwn at h9 ⊢
  rw [List.length_set, show bcells (l.set i x) = (bcells l).set i (.bool x) by unfold bcells; rw [List.map_set]]
  exact (h9.stored i (.bool x)).1
end Go.Proofs.Ytaccienlokoolaa
