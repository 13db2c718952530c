/- What is proved: the types of vertices: equal where equalities lead, none in a conflict, none that a mark excludes: plain mathematics. -/
import Derived.Test.YtmamajillkajoaaDoorCoAlone
set_option linter.unusedVariables false
namespace Go.Proofs.YtmamajillkajoaaDoor
open Go.RowKit

theorem find_same {l : List Con} {n u v : Nat} (hp : ∀ x ∈ l, posB n x = true) (h : Conn l u v) : ∀ cs : List (List Nat), (∀ c ∈ cs, ∃ r, r < n ∧ c = cls l n r) → cs.find? (fun c => c.contains u) = cs.find? (fun c => c.contains v)
  | [], _ => rfl
  | c :: cs, hc => by
    have ih := find_same hp h cs (fun x hx => hc x (List.mem_cons_of_mem _ hx))
    obtain ⟨r, hr, rfl⟩ := hc c (List.mem_cons_self ..)
    have e : (cls l n r).contains u = (cls l n r).contains v := by
      rw [Bool.eq_iff_iff, List.contains_iff_mem, List.contains_iff_mem, cls_iff hp hr, cls_iff hp hr]
      exact ⟨fun g => g.trans h, fun g => g.trans h.symm⟩
    rw [List.find?_cons, List.find?_cons, e, ih]
theorem tyL_conn {l : List Con} {n u v : Nat} (hp : ∀ x ∈ l, posB n x = true) (h : Conn l u v) : tyL l (clss l n n) u = tyL l (clss l n n) v := by
  unfold tyL
  rw [find_same hp h _ (fun c hc => clss_cls hp (List.mem_reverse.1 hc))]
theorem tyL_cls {l : List Con} {n v : Nat} (hp : ∀ x ∈ l, posB n x = true) (hv : v < n) : ∃ r, r < n ∧ Conn l r v ∧ tyL l (clss l n n) v = (typ l (cls l n r)).1 := by
  obtain ⟨r, hr, hc, hcn⟩ := clss_has hp n (Nat.le_refl _) hv
  unfold tyL
  cases hf : (clss l n n).reverse.find? (fun c => c.contains v) with
  | none =>
    have := List.find?_eq_none.1 hf _ (List.mem_reverse.2 hc)
    exact (this (List.contains_iff_mem.2 ((cls_iff hp hr).2 hcn))).elim
  | some c =>
    obtain ⟨r', hr', rfl⟩ := clss_cls hp (List.mem_reverse.1 (List.mem_of_find?_eq_some hf))
    exact ⟨r', hr', (cls_iff hp hr').1 (List.contains_iff_mem.1 (List.find?_some (p := fun c : List Nat => c.contains v) hf)), rfl⟩
theorem tyL_none {l : List Con} {n d r0 u : Nat} (hp : ∀ x ∈ l, posB n x = true) (hu : u < n) (hr : Conn l r0 u) (h : Far l r0 d) : tyL l (clss l n n) u = noT := by
  obtain ⟨r, hr', hc, e⟩ := tyL_cls hp hu
  obtain ⟨x, y, t1, t2, f1, f2, f3, f4, f5⟩ := h
  rw [e, typ_conflict hp hr' ⟨x, y, t1, t2, (hc.trans hr.symm).trans f1, f2, f3, f4, f5⟩]
theorem tyL_mark {l : List Con} {n v : Nat} {t : TyV} (hp : ∀ x ∈ l, posB n x = true) (hv : v < n) (h : Mk l v t) : exclB t (tyL l (clss l n n) v) = false := by
  obtain ⟨r, hr, hc, e⟩ := tyL_cls hp hv
  have hno : exclB t noT = false := by rw [exclB_symm]; rfl
  rw [e]
  unfold typ
  cases hcm : cmn l (mks l (cls l n r)) noT with
  | none => exact hno
  | some s =>
    dsimp only
    split
    · exact hno
    · rcases (cmn_cls hp hr).2 s hcm with ⟨hs, _⟩ | ⟨hs, _⟩
      · rw [hs]; exact hno
      · exact ((cmn_cls hp hr).2 s hcm).calm (fun x hx => hx.mark hp) ⟨v, hc, h⟩ hs
/-- what the law asks of the constraints one by one -/
theorem tyL_con {l : List Con} {n : Nat} (hp : ∀ x ∈ l, posB n x = true) {c : Con} (hc : c ∈ l) :
    (c.kind = 1 → tyL l (clss l n n) c.a.toNat = tyL l (clss l n n) c.b.toNat) ∧ (c.kind = 0 → exclB c.mark (tyL l (clss l n n) c.a.toNat) = false) := by
  have hpc := pos_cases (hp c hc)
  have ha : c.a = ((c.a.toNat : Nat) : Int) := by have := hpc.1; omega
  refine ⟨fun hk => ?_, fun hk => ?_⟩
  · rcases hpc.2 with ⟨k0, _⟩ | ⟨_, b1, b2⟩
    · omega
    · exact tyL_conn hp ⟨1, c.a.toNat, rfl, adj_of hc hk (.inl ⟨ha, by omega⟩)⟩
  · exact tyL_mark hp (by have := hpc.1; omega) (mk_of hc hk ha)
/-- .. and of each chain -/
theorem chain_none {l : List Con} {n : Nat} (hp : ∀ x ∈ l, posB n x = true) {ch : List Nat} (h : ch ∈ slvC l n) : ∃ m q es cm cq, IsCh l ch m q es cm cq ∧ tyL l (clss l n n) cm.a.toNat = noT ∧ (∀ x ∈ alone l ch, posB n x = true) ∧ ∃ x, slvC (alone l ch) n = [x] ∧ x.length = ch.length := by
  obtain ⟨r, m, q, es, hr, hch, _, ht, hok, hcn⟩ := slvC_ok hp h
  obtain ⟨cm, cq, hI, hva⟩ := hok.isCh
  have hum : vertAt l m < n := by
    have := (pos_cases (hp cm (List.mem_of_getElem? hI.gm))).1
    omega
  obtain ⟨a1, a2⟩ := alone_chain hp hr hch hok hcn
  refine ⟨m, q, es, cm, cq, hI, ?_, a1, a2⟩
  rw [show cm.a.toNat = vertAt l m by omega]
  have hF : Far l r es.length := ⟨vertAt l m, vertAt l q, markAt l m, markAt l q, hcn, (mk_iff hp).1 ⟨m, hok.m_in, rfl⟩, (mk_iff hp).1 ⟨q, hok.q_in, rfl⟩, hok.rk, hok.excl⟩
  exact tyL_none hp hum hcn hF
end Go.Proofs.YtmamajillkajoaaDoor
