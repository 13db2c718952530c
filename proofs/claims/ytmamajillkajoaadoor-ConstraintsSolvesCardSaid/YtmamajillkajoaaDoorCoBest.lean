/- What is proved: the best chain of a class as the reference finds it, and the type of a class: plain mathematics. -/
import Derived.Test.YtmamajillkajoaaDoorCoWayR
import Derived.Test.YtmamajillkajoaaDoorCoTyp
set_option linter.unusedVariables false
namespace Go.Proofs.YtmamajillkajoaaDoor
open Go.RowKit

/-- the reference's order of chains -/
def befB (a b : List Nat) : Bool := decide (b.length = 0) || (if a.length = b.length then ltx a b else decide (a.length < b.length))
theorem bef_true {a b : List Nat} (h : befB a b = true) : b = [] ∨ ltL a b := by
  unfold befB at h
  rw [Bool.or_eq_true] at h
  rcases h with h | h
  · exact .inl (List.eq_nil_of_length_eq_zero (by simpa using h))
  · split at h
    · rename_i e; exact .inr (.inr ⟨e, h⟩)
    · exact .inr (.inl (by simpa using h))
theorem bef_false {a b : List Nat} (h : befB a b = false) : b ≠ [] ∧ leL b a := by
  unfold befB at h
  rw [Bool.or_eq_false_iff] at h
  obtain ⟨h1, h2⟩ := h
  have hb : b ≠ [] := fun e => by rw [e] at h1; simp at h1
  refine ⟨hb, ?_⟩
  split at h2
  · rename_i e
    rcases ltx_total e with g | g | g
    · rw [g] at h2; cases h2
    · rw [g]; exact leL.refl _
    · exact .inr ⟨e.symm, .inr g⟩
  · rename_i e
    have : ¬ a.length < b.length := by simpa using h2
    exact .inl (by omega)
theorem ltx_at : ∀ {a b : List Nat} {i : Nat} (ha : i < a.length) (hb : i < b.length), (∀ j (h : j < a.length) (h' : j < b.length), j < i → a[j] = b[j]) → a[i] ≠ b[i] → ltx a b = decide (a[i] < b[i])
  | [], _, _, ha, _, _, _ => by simp at ha
  | _ :: _, [], _, _, hb, _, _ => by simp at hb
  | x :: xs, y :: ys, 0, _, _, _, hne => by
    have hne' : x ≠ y := hne
    rw [ltx, if_neg hne']
    rfl
  | x :: xs, y :: ys, i + 1, ha, hb, heq, hne => by
    have h0 : x = y := heq 0 (by simp) (by simp) (by omega)
    rw [ltx, if_pos h0]
    simp only [List.getElem_cons_succ] at hne ⊢
    exact ltx_at (by simpa using ha) (by simpa using hb) (fun j h h' hj => by
      have := heq (j + 1) (by simpa using h) (by simpa using h') (by omega)
      simpa using this) hne
theorem ltx_same : ∀ {a b : List Nat}, a.length = b.length → (∀ j (h : j < a.length) (h' : j < b.length), a[j] = b[j]) → ltx a b = false
  | [], [], _, _ => rfl
  | [], _ :: _, h, _ => by simp at h
  | _ :: _, [], h, _ => by simp at h
  | x :: xs, y :: ys, hl, heq => by
    have h0 : x = y := heq 0 (by simp) (by simp)
    rw [ltx, if_pos h0]
    exact ltx_same (by simpa using hl) (fun j h h' => by
      have := heq (j + 1) (by simpa using h) (by simpa using h')
      simpa using this)

/-- the pair of marks has been looked at -/
def Seen2 (kk i i' k' : Nat) : Prop := i' < k' ∧ (k' < kk ∨ k' = kk ∧ i' < i)
/-- the best chain so far -/
def BestI (l : List Con) (n r kk i : Nat) (best : List Nat) : Prop :=
  (best = [] ∧ ∀ (i' k' : Nat) (es : List Nat) (ci ck : Con), Seen2 kk i i' k' → ¬ TC l r i' k' es ci ck) ∨
  ((∃ (i0 k0 : Nat) (es : List Nat) (ci ck : Con), best = i0 :: (es ++ [k0]) ∧ i0 < k0 ∧ TC l r i0 k0 es ci ck ∧ es.length ≤ n) ∧
    ∀ (i' k' : Nat) (es : List Nat) (ci ck : Con), Seen2 kk i i' k' → TC l r i' k' es ci ck → leL best (i' :: (es ++ [k'])))
theorem BestI.start (l : List Con) (n r : Nat) : BestI l n r 0 0 [] := .inl ⟨rfl, fun i' k' es ci ck h => by have := h.2; omega⟩
theorem BestI.len {l : List Con} {n r kk i : Nat} {best : List Nat} (h : BestI l n r kk i best) : best.length ≤ n + 2 := by
  rcases h with ⟨rfl, _⟩ | ⟨⟨i0, k0, es, ci, ck, rfl, _, _, hl⟩, _⟩
  · simp
  · simp; omega
theorem BestI.same {l : List Con} {n r kk i kk' j : Nat} {best : List Nat} (h : BestI l n r kk i best) (hs : ∀ i' k', Seen2 kk' j i' k' → Seen2 kk i i' k' ∨ ∀ es ci ck, ¬ TC l r i' k' es ci ck) : BestI l n r kk' j best := by
  rcases h with ⟨h1, h2⟩ | ⟨h1, h2⟩
  · refine .inl ⟨h1, fun i' k' es ci ck hk => ?_⟩
    rcases hs i' k' hk with g | g
    · exact h2 i' k' es ci ck g
    · exact g es ci ck
  · refine .inr ⟨h1, fun i' k' es ci ck hk ht => ?_⟩
    rcases hs i' k' hk with g | g
    · exact h2 i' k' es ci ck g ht
    · exact absurd ht (g es ci ck)
/-- a mark that is none, or of another class -/
theorem BestI.skipK {l : List Con} {n r kk : Nat} {best : List Nat} (h : BestI l n r kk 0 best) (hn : ∀ i es ci ck, ¬ TC l r i kk es ci ck) : BestI l n r (kk + 1) 0 best :=
  h.same fun i' k' hk => by
    obtain ⟨h1, h2⟩ := hk
    by_cases e : k' = kk
    · subst e; exact .inr (fun es ci ck => hn i' es ci ck)
    · exact .inl ⟨h1, .inl (by omega)⟩
theorem BestI.endK {l : List Con} {n r kk : Nat} {best : List Nat} (h : BestI l n r kk kk best) : BestI l n r (kk + 1) 0 best :=
  h.same fun i' k' hk => by
    obtain ⟨h1, h2⟩ := hk
    by_cases e : k' = kk
    · subst e; exact .inl ⟨h1, .inr ⟨rfl, h1⟩⟩
    · exact .inl ⟨h1, .inl (by omega)⟩
theorem BestI.skipI {l : List Con} {n r kk i : Nat} {best : List Nat} (h : BestI l n r kk i best) (hn : ∀ es ci ck, ¬ TC l r i kk es ci ck) : BestI l n r kk (i + 1) best :=
  h.same fun i' k' hk => by
    obtain ⟨h1, h2⟩ := hk
    by_cases e : k' = kk ∧ i' = i
    · obtain ⟨rfl, rfl⟩ := e; exact .inr hn
    · exact .inl ⟨h1, by omega⟩
/-- a pair whose chains are all later -/
theorem BestI.later {l : List Con} {n r kk i : Nat} {best : List Nat} (h : BestI l n r kk i best) (hne : best ≠ []) (hn : ∀ es ci ck, TC l r i kk es ci ck → leL best (i :: (es ++ [kk]))) : BestI l n r kk (i + 1) best := by
  rcases h with ⟨h1, _⟩ | ⟨h1, h2⟩
  · exact absurd h1 hne
  · refine .inr ⟨h1, fun i' k' es ci ck hk ht => ?_⟩
    obtain ⟨g1, g2⟩ := hk
    by_cases e : k' = kk ∧ i' = i
    · obtain ⟨rfl, rfl⟩ := e; exact hn es ci ck ht
    · exact h2 i' k' es ci ck ⟨g1, by omega⟩ ht
/-- a pair with a better chain -/
theorem BestI.take {l : List Con} {n r kk i : Nat} {best W : List Nat} {ci ck : Con} (h : BestI l n r kk i best) (hik : i < kk) (ht : TC l r i kk W ci ck) (hW : W.length ≤ n) (hmin : ∀ es, wlk l ci.a es = some ck.a → leL W es) (hb : best = [] ∨ ltL (i :: (W ++ [kk])) best) : BestI l n r kk (i + 1) (i :: (W ++ [kk])) := by
  refine .inr ⟨⟨i, kk, W, ci, ck, rfl, hik, ht, hW⟩, fun i' k' es ci' ck' hk ht' => ?_⟩
  obtain ⟨g1, g2⟩ := hk
  by_cases e : k' = kk ∧ i' = i
  · obtain ⟨rfl, rfl⟩ := e
    have e1 : ci' = ci := by have := ht'.gi; rw [ht.gi] at this; simpa using this.symm
    have e2 : ck' = ck := by have := ht'.gk; rw [ht.gk] at this; simpa using this.symm
    subst e1
    subst e2
    exact ((hmin es ht'.leads).snoc (Nat.le_refl _)).cons (Nat.le_refl _)
  · have hs : Seen2 kk i i' k' := ⟨g1, by omega⟩
    rcases h with ⟨h1, h2⟩ | ⟨⟨i0, k0, es0, c0, d0, h1, _⟩, h2⟩
    · exact absurd ht' (h2 i' k' es ci' ck' hs)
    · rcases hb with hb | hb
      · rw [hb] at h1; cases h1
      · exact (hb.trans_le (h2 i' k' es ci' ck' hs ht')).le
theorem TC.connK {l : List Con} {n r i k : Nat} {es : List Nat} {ci ck : Con} (hp : ∀ x ∈ l, posB n x = true) (h : TC l r i k es ci ck) : Conn l r ck.a.toNat := by
  have hpi := pos_cases (hp ci (List.mem_of_getElem? h.gi))
  obtain ⟨u, hu⟩ : ∃ u : Nat, ci.a = (u : Int) := ⟨ci.a.toNat, by omega⟩
  have hl := h.leads
  have hc := h.conn
  rw [hu] at hl hc
  rw [Int.toNat_natCast] at hc
  obtain ⟨v, hv, hr⟩ := wlk_rk (l2 := l) hp es u ck.a hl (fun _ _ c hc => List.mem_of_getElem? hc)
  rw [hv, Int.toNat_natCast]
  exact hc.trans ⟨_, hr⟩
/-- the end -/
theorem best_fin {l : List Con} {n r : Nat} {best : List Nat} (hp : ∀ x ∈ l, posB n x = true) (hr : r < n) (h : BestI l n r l.length 0 best) : (best = [] ∧ (typ l (cls l n r)).2 = true) ∨ (best ≠ [] ∧ typ l (cls l n r) = (noT, false) ∧ chain l n (cls l n r) = best) := by
  have hall : ∀ i' k' es ci ck, i' < k' → TC l r i' k' es ci ck → Seen2 l.length 0 i' k' := fun i' k' es ci ck hlt ht => ⟨hlt, .inl (List.getElem?_eq_some_iff.1 ht.gk).1⟩
  rcases h with ⟨h1, h2⟩ | ⟨⟨i0, k0, es, ci, ck, h1, hik, ht, hl⟩, h2⟩
  · left
    refine ⟨h1, ?_⟩
    cases hc : (typ l (cls l n r)).2 with
    | true => rfl
    | false =>
      obtain ⟨m, q, es, hok, hcn⟩ := chain_form hp hr (chain_conflict hp hr hc)
      obtain ⟨cm, cq, hI, hva⟩ := hok.isCh
      have ht : TC l r m q es cm cq := ⟨hI.gm, hI.gq, hI.km, hI.kq, by rw [hva, Int.toNat_natCast]; exact hcn, hI.leads, hI.excl⟩
      exact absurd ht (h2 m q es cm cq (hall m q es cm cq hI.lt ht))
  · right
    refine ⟨by rw [h1]; simp, ?_, ?_⟩
    · have hpi := pos_cases (hp ci (List.mem_of_getElem? ht.gi))
      obtain ⟨u, hu⟩ : ∃ u : Nat, ci.a = (u : Int) := ⟨ci.a.toNat, by omega⟩
      have hlu := ht.leads
      have hcn := ht.conn
      rw [hu] at hlu hcn
      rw [Int.toNat_natCast] at hcn
      obtain ⟨v, hv, hrk⟩ := wlk_rk (l2 := l) hp es u ck.a hlu (fun _ _ c hc => List.mem_of_getElem? hc)
      exact typ_conflict hp hr (d := es.length) ⟨u, v, ci.mark, ck.mark, hcn, ⟨i0, ci, ht.gi, by rw [ht.ki]; rfl, hu, rfl⟩, ⟨k0, ck, ht.gk, by rw [ht.kk]; rfl, hv, rfl⟩, hrk, ht.excl⟩
    · rw [h1]
      exact chain_uniq hp hr ht (fun i' k' es' ci' ck' hlt ht' => by
        rw [← h1]
        exact h2 i' k' es' ci' ck' (hall i' k' es' ci' ck' hlt ht') ht')

/-- the last mark that is one type, of the class, among the first k constraints -/
def lastT (l : List Con) (f : Nat → Int) : Nat → TyV
  | 0 => noT
  | k + 1 => match l[k]? with
    | some c => if c.kind == 0 && (decide (0 ≤ f c.a.toNat) && ((c.mark.kind != 5) && (c.mark.kind != 6))) then c.mark else lastT l f k
    | none => lastT l f k
theorem lastT_spec {l : List Con} {n r : Nat} {f : Nat → Int} (hp : ∀ x ∈ l, posB n x = true) (hf : DOk l n r f) : ∀ k, k ≤ l.length → (lastT l f k = noT ∧ ∀ j c, j < k → l[j]? = some c → c.kind = 0 → Conn l r c.a.toNat → c.mark.kind = 5 ∨ c.mark.kind = 6) ∨ (MarkOf l r (lastT l f k) ∧ (lastT l f k).kind ≠ 5 ∧ (lastT l f k).kind ≠ 6)
  | 0, _ => .inl ⟨rfl, fun j c hj => by omega⟩
  | k + 1, hk => by
    have ih := lastT_spec hp hf k (by omega)
    obtain ⟨c, hc⟩ : ∃ c, l[k]? = some c := ⟨_, List.getElem?_eq_getElem (by omega)⟩
    have hpc := pos_cases (hp c (List.mem_of_getElem? hc))
    rw [lastT, hc]
    dsimp only
    have hcn := hf.conn (v := c.a.toNat) (by omega)
    cases hb : (c.kind == 0 && (decide (0 ≤ f c.a.toNat) && ((c.mark.kind != 5) && (c.mark.kind != 6)))) with
    | true =>
      rw [if_pos rfl]
      right
      simp only [Bool.and_eq_true, decide_eq_true_eq, bne_iff_ne, beq_iff_eq] at hb
      obtain ⟨h1, h2, h3, h4⟩ := hb
      exact ⟨⟨c.a.toNat, hcn.1 h2, k, c, hc, by rw [h1]; rfl, by omega, rfl⟩, h3, h4⟩
    | false =>
      rw [if_neg (by decide)]
      refine ih.imp (fun ⟨h1, h2⟩ => ⟨h1, fun j c' hj hc' hk' hcn' => ?_⟩) id
      rcases Nat.lt_or_ge j k with h' | h'
      · exact h2 j c' h' hc' hk' hcn'
      · obtain rfl : j = k := by omega
        rw [hc] at hc'
        obtain rfl : c = c' := by simpa using hc'
        have h5 := hcn.2 hcn'
        by_cases e5 : c.mark.kind = 5
        · exact .inl e5
        · by_cases e6 : c.mark.kind = 6
          · exact .inr e6
          · exfalso
            rw [hk'] at hb
            simp [h5, e5, e6] at hb
theorem cov_56 {x u : TyV} (h : covB x u = true) : x.kind = 5 ∨ x.kind = 6 := by
  unfold covB at h
  split at h
  · left; assumption
  · split at h
    · right; assumption
    · cases h
/-- the type of a class that is not in conflict -/
theorem typ_last {l : List Con} {n r : Nat} {f : Nat → Int} (hp : ∀ x ∈ l, posB n x = true) (hr : r < n) (hf : DOk l n r f) (h : (typ l (cls l n r)).2 = true) : (typ l (cls l n r)).1 = lastT l f l.length := by
  unfold typ at h ⊢
  cases hc : cmn l (mks l (cls l n r)) noT with
  | none => rw [hc] at h; cases h
  | some u =>
    dsimp only
    have hJ := (cmn_cls hp hr).2 u hc
    rcases lastT_spec hp hf l.length (Nat.le_refl _) with ⟨h1, h2⟩ | ⟨h1, h2, h3⟩
    · rw [h1]
      rcases hJ with ⟨g, _⟩ | ⟨⟨v, hv1, k, c, hk, hkk, hca, hcm⟩, _⟩
      · rw [g]; rfl
      · have := h2 k c (List.getElem?_eq_some_iff.1 hk).1 hk (by simpa using hkk) (by rw [hca, Int.toNat_natCast]; exact hv1)
        rw [hcm] at this
        rcases this with e | e <;> rw [e] <;> rfl
    · have : lastT l f l.length = u := by
        rcases hJ with ⟨_, g⟩ | ⟨_, g⟩
        · exact absurd h1 (g _)
        · rcases g _ h1 with e | e
          · exact e
          · rcases cov_56 e with e | e
            · exact absurd e h2
            · exact absurd e h3
      rw [this] at h2 h3 ⊢
      rw [if_neg]
      simp [h2, h3]
end Go.Proofs.YtmamajillkajoaaDoor
