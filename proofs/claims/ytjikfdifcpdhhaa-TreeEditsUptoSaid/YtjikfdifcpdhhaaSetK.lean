/- What is proved: a tree in blocks of its own, of which the kids of one node are set in memory. -/
import Derived.Test.YtjikfdifcpdhhaaSep
set_option linter.unusedVariables false
namespace Go.Proofs.Ytjikfdifcpdhhaa
open Go.RowKit

namespace NT
/-- the tree in which the node with a path has other kids -/
def setK (A' : Option Addr) (c' : Nat) (l' : List NT) : List Int → NT → NT
  | [], n => mk n.kind n.text n.lo n.hi A' c' l'
  | i :: p, n => if h : 0 ≤ i ∧ i.toNat < n.kids.length then mk n.kind n.text n.lo n.hi n.A n.c (n.kids.set i.toNat (setK A' c' l' p (n.kids[i.toNat]'h.2))) else n
/-- where the five cells of the node with a path lie, the root's being at b, o -/
def adr : Nat → Nat → List Int → NT → Nat × Nat
  | b, o, [], _ => (b, o)
  | b, o, i :: p, n => if h : 0 ≤ i ∧ i.toNat < n.kids.length then adr ((n.A.map (·.block)).getD 0) ((n.A.map (·.off)).getD 0 + i.toNat * 5) p (n.kids[i.toNat]'h.2) else (b, o)
theorem setK_nil (A' : Option Addr) (c' : Nat) (l' : List NT) (n : NT) : setK A' c' l' [] n = mk n.kind n.text n.lo n.hi A' c' l' := rfl
theorem setK_yes {A' : Option Addr} {c' : Nat} {l' : List NT} {i : Int} {p : List Int} {n : NT} (h0 : 0 ≤ i) (h : i.toNat < n.kids.length) : setK A' c' l' (i :: p) n = mk n.kind n.text n.lo n.hi n.A n.c (n.kids.set i.toNat (setK A' c' l' p n.kids[i.toNat])) := by simp [setK, h0, h]
theorem adr_yes {b o a off : Nat} {i : Int} {p : List Int} {n : NT} (h0 : 0 ≤ i) (h : i.toNat < n.kids.length) (hA : n.A = some ⟨a, off, none⟩) : adr b o (i :: p) n = adr a (off + i.toNat * 5) p n.kids[i.toNat] := by simp [adr, h0, h, hA]

theorem strip_setK (A' A'' : Option Addr) (c' c'' : Nat) {l' l'' : List NT} (hl : l'.map strip = l''.map strip) : ∀ (p : List Int) (m n : NT), strip m = strip n → strip (setK A' c' l' p m) = strip (setK A'' c'' l'' p n) := by
  intro p
  induction p with
  | nil =>
    intro m n h
    have h' := (strip_iff m n).1 h
    exact (strip_iff _ _).2 ⟨h'.1, h'.2.1, h'.2.2.1, h'.2.2.2.1, hl⟩
  | cons i p ih =>
    intro m n h
    have h' := (strip_iff m n).1 h
    have hlen := strip_kids_len h
    by_cases hi : 0 ≤ i ∧ i.toNat < n.kids.length
    · have hi2 : i.toNat < m.kids.length := by omega
      rw [setK_yes hi.1 hi2, setK_yes hi.1 hi.2]
      refine (strip_iff _ _).2 ⟨h'.1, h'.2.1, h'.2.2.1, h'.2.2.2.1, ?_⟩
      show (m.kids.set _ _).map strip = (n.kids.set _ _).map strip
      rw [List.map_set, List.map_set, h'.2.2.2.2, ih _ _ (strip_kid h _ hi2 hi.2)]
    · unfold setK
      rw [dif_neg (by rw [hlen]; exact hi), dif_neg hi]
      exact h
/-- copies have copies at the same paths -/
theorem getZ_strip : ∀ (p : List Int) (m n : NT), strip m = strip n → ∀ x, getZ n p = some x → ∃ y, getZ m p = some y ∧ strip y = strip x := by
  intro p
  induction p with
  | nil =>
    intro m n h x hx
    simp only [getZ, Option.some.injEq] at hx
    subst hx
    exact ⟨m, rfl, h⟩
  | cons i p ih =>
    intro m n h x hx
    have hlen := strip_kids_len h
    by_cases hi : 0 ≤ i ∧ i.toNat < n.kids.length
    · have hi2 : i.toNat < m.kids.length := by omega
      rw [getZ_yes hi.1 hi.2] at hx
      rw [getZ_yes hi.1 hi2]
      exact ih _ _ (strip_kid h _ hi2 hi.2) x hx
    · rw [getZ_no (by omega)] at hx
      cases hx
end NT

theorem nodup_kids {l : List NT} (h : (NT.blkss l).Nodup) : ∀ (i j : Nat) (hi : i < l.length) (hj : j < l.length), i ≠ j → ∀ b ∈ NT.blks l[i], b ∉ NT.blks l[j] := by
  induction l with
  | nil => intro i j hi; simp at hi
  | cons x xs ih =>
    intro i j hi hj hne b hb hb'
    simp only [NT.blkss, List.nodup_append] at h
    cases i with
    | zero =>
      cases j with
      | zero => exact hne rfl
      | succ j => exact h.2.2 b (by simpa using hb) b ((NT.mem_blkss _).2 ⟨_, List.getElem_mem (by simpa using hj), by simpa using hb'⟩) rfl
    | succ i =>
      cases j with
      | zero => exact h.2.2 b (by simpa using hb') b ((NT.mem_blkss _).2 ⟨_, List.getElem_mem (by simpa using hi), by simpa using hb⟩) rfl
      | succ j => exact ih h.2.1 i j (by simpa using hi) (by simpa using hj) (by omega) b (by simpa using hb) (by simpa using hb')
theorem nodup_kid {l : List NT} (h : (NT.blkss l).Nodup) : ∀ k ∈ l, (NT.blks k).Nodup := by
  induction l with
  | nil => simp
  | cons x xs ih =>
    simp only [NT.blkss, List.nodup_append] at h
    intro k hk
    rcases List.mem_cons.1 hk with rfl | hk
    · exact h.1
    · exact ih h.2.1 k hk
theorem InS.row {S : Nat → Prop} {w : World} {n : NT} (h : InS S w n) : RowS S w n.A n.kids := ((inS_iff n).1 h).1
theorem InS.cap {S : Nat → Prop} {w : World} {n : NT} (h : InS S w n) : n.kids.length ≤ n.c := ((inS_iff n).1 h).2.1
theorem InS.kid {S : Nat → Prop} {w : World} {n k : NT} (h : InS S w n) (hk : k ∈ n.kids) : InS S w k := ((inS_iff n).1 h).2.2 k hk
/-- what a node with kids says of its blocks -/
theorem blks_cons {S : Nat → Prop} {w : World} {n : NT} (h : InS S w n) (h0 : 0 < n.kids.length) : ∃ a off, n.A = some ⟨a, off, none⟩ ∧ S a ∧ (∀ (i : Nat) (hi : i < n.kids.length), Cells5 w a (off + i * 5) n.kids[i]) ∧ NT.blks n = a :: NT.blkss n.kids := by
  obtain ⟨a, off, hA, hlt, hc⟩ := h.row h0
  refine ⟨a, off, hA, hlt, hc, ?_⟩
  rw [NT.blks_eq, hA]
  cases hk : n.kids with
  | nil => rw [hk] at h0; simp at h0
  | cons x xs => simp [NT.blk0]
theorem cell_set_far (w : World) {g q b o : Nat} (h : b ≠ g ∨ o ≠ q) (v : Value) : (w.setCell ⟨g, q, none⟩ v).cell? ⟨b, o, none⟩ = w.cell? ⟨b, o, none⟩ := by
  by_cases hb : b = g
  · subst hb
    have ho : o ≠ q := by rcases h with h | h; exact absurd rfl h; exact h
    simp only [World.setCell, World.cell?, Array.getElem?_modify]
    cases hw : w.heap[b]? with
    | none => simp
    | some x => cases x <;> simp [Ne.symm ho]
  · exact World.cell?_of_block (Below.heap_setCell w ⟨g, q, none⟩ v b (by show b ≠ g; exact hb))
theorem cells5_far {w : World} {g q b o : Nat} {n : NT} (h : Cells5 w b o n) (hf : b ≠ g ∨ ∀ j, j < 5 → o + j ≠ q) (v : Value) : Cells5 (w.setCell ⟨g, q, none⟩ v) b o n := by
  obtain ⟨h0, h1, h2, h3, h4⟩ := h
  have key : ∀ j, j < 5 → b ≠ g ∨ o + j ≠ q := fun j hj => hf.imp id (fun f => f j hj)
  exact ⟨(cell_set_far w (key 0 (by omega)) v).trans h0, (cell_set_far w (key 1 (by omega)) v).trans h1, (cell_set_far w (key 2 (by omega)) v).trans h2, (cell_set_far w (key 3 (by omega)) v).trans h3, (cell_set_far w (key 4 (by omega)) v).trans h4⟩
theorem inS_set {S : Nat → Prop} {w : World} {g q : Nat} (v : Value) : ∀ n : NT, InS S w n → g ∉ NT.blks n → InS S (w.setCell ⟨g, q, none⟩ v) n := NT.ind fun n ih h hg => by
  refine (inS_iff n).2 ⟨fun h0 => ?_, h.cap, fun k hk => ih k hk (h.kid hk) (fun hm => hg ?_)⟩
  · obtain ⟨a, off, hA, hlt, hc, hb⟩ := blks_cons h h0
    rw [hb] at hg
    exact ⟨a, off, hA, hlt, fun i hi => cells5_far (hc i hi) (.inl (fun e => hg (by rw [e]; simp))) v⟩
  · rw [NT.blks_eq]
    exact List.mem_append_right _ ((NT.mem_blkss _).2 ⟨k, hk, hm⟩)

/-- the node's cells lie in the root's block or in one of the tree's; not in one of its own -/
theorem adr_mem {S : Nat → Prop} {w : World} : ∀ (p : List Int) (n x : NT) (b o : Nat), NT.getZ n p = some x → InS S w n → (NT.adr b o p n).1 = b ∨ (NT.adr b o p n).1 ∈ NT.blks n := by
  intro p
  induction p with
  | nil => intro n x b o _ _; exact .inl rfl
  | cons i p ih =>
    intro n x b o hx hi
    by_cases h : 0 ≤ i ∧ i.toNat < n.kids.length
    · rw [NT.getZ_yes h.1 h.2] at hx
      obtain ⟨a, off, hA, _, _, hb⟩ := blks_cons hi (by omega)
      rw [NT.adr_yes h.1 h.2 hA, hb]
      rcases ih _ x a (off + i.toNat * 5) hx (hi.kid (List.getElem_mem h.2)) with e | e
      · exact .inr (by rw [e]; simp)
      · exact .inr (List.mem_cons_of_mem _ ((NT.mem_blkss _).2 ⟨_, List.getElem_mem h.2, e⟩))
    · rw [NT.getZ_no (by omega)] at hx; cases hx
theorem adr_not {S : Nat → Prop} {w : World} : ∀ (p : List Int) (n x : NT) (b o : Nat), NT.getZ n p = some x → InS S w n → (NT.blks n).Nodup → b ∉ NT.blks n → (NT.adr b o p n).1 ∉ NT.blks x := by
  intro p
  induction p with
  | nil => intro n x b o hx _ _ hb; simp only [NT.getZ, Option.some.injEq] at hx; subst hx; exact hb
  | cons i p ih =>
    intro n x b o hx hi hn hb
    by_cases h : 0 ≤ i ∧ i.toNat < n.kids.length
    · rw [NT.getZ_yes h.1 h.2] at hx
      obtain ⟨a, off, hA, _, _, hbl⟩ := blks_cons hi (by omega)
      rw [NT.adr_yes h.1 h.2 hA]
      rw [hbl, List.nodup_cons] at hn
      exact ih _ x a (off + i.toNat * 5) hx (hi.kid (List.getElem_mem h.2)) (nodup_kid hn.2 _ (List.getElem_mem h.2)) (fun hm => hn.1 ((NT.mem_blkss _).2 ⟨_, List.getElem_mem h.2, hm⟩))
    · rw [NT.getZ_no (by omega)] at hx; cases hx

/-- **the kids of the node with a path are set in memory: so the tree reads** -/
theorem set_in {S : Nat → Prop} {w : World} (A' : Option Addr) (c' : Nat) (l' : List NT) : ∀ (p : List Int) (n x : NT) (b o : Nat), NT.getZ n p = some x → InS S w n → (NT.blks n).Nodup → b ∉ NT.blks n → Cells5 w b o n →
    InS S w (.mk 0 ⟨#[]⟩ 0 0 A' c' l') → (NT.adr b o p n).1 ∉ NT.blks (.mk 0 ⟨#[]⟩ 0 0 A' c' l') →
    InS S (w.setCell ⟨(NT.adr b o p n).1, (NT.adr b o p n).2 + 4, none⟩ (.slice A' l'.length c')) (NT.setK A' c' l' p n) ∧ Cells5 (w.setCell ⟨(NT.adr b o p n).1, (NT.adr b o p n).2 + 4, none⟩ (.slice A' l'.length c')) b o (NT.setK A' c' l' p n) := by
  intro p
  induction p with
  | nil =>
    intro n x b o hx hi hn hb hc hnew hgn
    have hgn' : b ∉ NT.blks (.mk 0 ⟨#[]⟩ 0 0 A' c' l') := hgn
    have hnew' := inS_set (q := o + 4) (.slice A' l'.length c') _ hnew hgn'
    show InS S (w.setCell ⟨b, o + 4, none⟩ (.slice A' l'.length c')) (.mk n.kind n.text n.lo n.hi A' c' l') ∧ Cells5 (w.setCell ⟨b, o + 4, none⟩ (.slice A' l'.length c')) b o (.mk n.kind n.text n.lo n.hi A' c' l')
    obtain ⟨h0, h1, h2, h3, h4⟩ := hc
    refine ⟨(inS_iff _).2 ⟨hnew'.row, hnew'.cap, fun k hk => hnew'.kid hk⟩, ?_⟩
    refine ⟨(cell_set_far w (.inr (by omega)) _).trans h0, (cell_set_far w (.inr (by omega)) _).trans h1, (cell_set_far w (.inr (by omega)) _).trans h2, (cell_set_far w (.inr (by omega)) _).trans h3, ?_⟩
    show (w.setCell ⟨b, o + 4, none⟩ (.slice A' l'.length c')).cell? ⟨b, o + 4, none⟩ = some (.slice A' l'.length c')
    exact World.cell?_setCell_same' w _ _ (by rw [h4]; rfl)
  | cons i p ih =>
    intro n x b o hx hi hn hb hc hnew hgn
    by_cases h : 0 ≤ i ∧ i.toNat < n.kids.length
    · rw [NT.getZ_yes h.1 h.2] at hx
      obtain ⟨a, off, hA, hlt, hcs, hbl⟩ := blks_cons hi (by omega)
      have hn2 := hn
      rw [hbl, List.nodup_cons] at hn2
      have hyi := hi.kid (List.getElem_mem h.2)
      have hya : a ∉ NT.blks n.kids[i.toNat] := fun hm => hn2.1 ((NT.mem_blkss _).2 ⟨_, List.getElem_mem h.2, hm⟩)
      rw [NT.adr_yes h.1 h.2 hA] at hgn ⊢
      rw [NT.setK_yes h.1 h.2]
      have hI := ih n.kids[i.toNat] x a (off + i.toNat * 5) hx hyi (nodup_kid hn2.2 _ (List.getElem_mem h.2)) hya (hcs _ h.2) hnew hgn
      have hmem := adr_mem p n.kids[i.toNat] x a (off + i.toNat * 5) hx hyi
      have hq : (NT.adr a (off + i.toNat * 5) p n.kids[i.toNat]).1 = a → (NT.adr a (off + i.toNat * 5) p n.kids[i.toNat]).2 = off + i.toNat * 5 := by
        cases p with
        | nil => intro _; rfl
        | cons i2 p2 =>
          intro e
          by_cases h2 : 0 ≤ i2 ∧ i2.toNat < n.kids[i.toNat].kids.length
          · rw [NT.getZ_yes h2.1 h2.2] at hx
            obtain ⟨a2, off2, hA2, _, _, hbl2⟩ := blks_cons hyi (by omega)
            rw [NT.adr_yes h2.1 h2.2 hA2] at e
            have hm2 := adr_mem p2 _ x a2 (off2 + i2.toNat * 5) hx (hyi.kid (List.getElem_mem h2.2))
            exfalso
            apply hya
            rw [hbl2]
            rcases hm2 with e2 | e2
            · rw [← e, e2]; simp
            · rw [e] at e2
              exact List.mem_cons_of_mem _ ((NT.mem_blkss _).2 ⟨_, List.getElem_mem h2.2, e2⟩)
          · rw [NT.getZ_no (by omega)] at hx; cases hx
      generalize hG : (NT.adr a (off + i.toNat * 5) p n.kids[i.toNat]).1 = g at *
      generalize hQ : (NT.adr a (off + i.toNat * 5) p n.kids[i.toNat]).2 = q at *
      have hgn2 : g ∈ NT.blks n := by
        rw [hbl]
        rcases hmem with e | e
        · rw [e]; simp
        · exact List.mem_cons_of_mem _ ((NT.mem_blkss _).2 ⟨_, List.getElem_mem h.2, e⟩)
      have hbg : b ≠ g := fun e => hb (by rw [e]; exact hgn2)
      refine ⟨(inS_iff _).2 ⟨fun _ => ⟨a, off, hA, hlt, fun j hj => ?_⟩, by show (n.kids.set _ _).length ≤ n.c; rw [List.length_set]; exact hi.cap, fun k hk => ?_⟩, ?_⟩
      · have hj' : j < n.kids.length := by simpa [NT.kids] using hj
        have key : ∀ hjs : j < (n.kids.set i.toNat (NT.setK A' c' l' p n.kids[i.toNat])).length, Cells5 (w.setCell ⟨g, q + 4, none⟩ (.slice A' l'.length c')) a (off + j * 5) ((n.kids.set i.toNat (NT.setK A' c' l' p n.kids[i.toNat]))[j]'hjs) := fun hjs => by
          by_cases hji : i.toNat = j
          · subst hji
            rw [List.getElem_set_self]
            exact hI.2
          · rw [List.getElem_set_ne hji]
            refine cells5_far (hcs j hj') ?_ _
            by_cases hag : a = g
            · right
              have := hq hag.symm
              intro r hr
              omega
            · exact .inl hag
        exact key hj
      · have hk' : k ∈ n.kids.set i.toNat (NT.setK A' c' l' p n.kids[i.toNat]) := hk
        obtain ⟨j, hj, rfl⟩ := List.mem_iff_getElem.1 hk'
        have hj' : j < n.kids.length := by simpa using hj
        by_cases hji : i.toNat = j
        · subst hji
          rw [List.getElem_set_self]
          exact hI.1
        · rw [List.getElem_set_ne hji]
          refine inS_set _ _ (hi.kid (List.getElem_mem hj')) ?_
          rcases hmem with e | e
          · rw [e]; exact fun hm => hn2.1 ((NT.mem_blkss _).2 ⟨_, List.getElem_mem hj', hm⟩)
          · exact nodup_kids hn2.2 i.toNat j h.2 hj' hji g e
      · have hc' := cells5_far hc (.inl hbg) (q := q + 4) (.slice A' l'.length c')
        obtain ⟨h0, h1, h2, h3, h4⟩ := hc'
        refine ⟨h0, h1, h2, h3, ?_⟩
        show (w.setCell ⟨g, q + 4, none⟩ (.slice A' l'.length c')).cell? ⟨b, o + 4, none⟩ = some (Value.slice n.A (n.kids.set i.toNat (NT.setK A' c' l' p n.kids[i.toNat])).length n.c)
        rw [List.length_set]
        exact h4
    · rw [NT.getZ_no (by omega)] at hx; cases hx
/-- what the new kids are, in memory -/
theorem rep_new {w5 w6 w7 : World} {y : NT} {B b F T : Nat} {A7 : Option Addr} {c7 : Nat} {l' l7 : List NT} (hl7 : l7 = y.kids.take F ++ (l' ++ y.kids.drop T)) (hy : InS (fun b => B ≤ b ∧ b < w5.heap.size) w5 y) (hB : B ≤ w5.heap.size) (hb : b < w5.heap.size) (hnb : b ∉ NT.blks y) (h56 : Below w5.heap.size w5 w6) (hin : ∀ x ∈ l', InS (Fresh w5.drew w6) w6 x) (h67 : Below w6.heap.size w6 w7) (hrow : RowS (fun b => w6.heap.size + 1 ≤ b ∧ b < w7.heap.size) w7 A7 l7) (hcap : l7.length ≤ c7) :
    InS (fun b => B ≤ b ∧ b < w7.heap.size) w7 (.mk 0 ⟨#[]⟩ 0 0 A7 c7 l7) ∧ b ∉ NT.blks (.mk 0 ⟨#[]⟩ 0 0 A7 c7 l7) := by
  have z1 := h56.size
  have z2 := h67.size
  have hmem : ∀ k ∈ l7, k ∈ y.kids ∨ k ∈ l' := fun k hk => by
    rw [hl7] at hk
    rcases List.mem_append.1 hk with hk | hk
    · exact .inl (List.mem_of_mem_take hk)
    · rcases List.mem_append.1 hk with hk | hk
      · exact .inr hk
      · exact .inl (List.mem_of_mem_drop hk)
  have h57 := h56.trans (h67.mono z1)
  refine ⟨(inS_iff _).2 ⟨hrow.mono (fun b hb' => ⟨by have := hb'.1; omega, hb'.2⟩), hcap, fun k hk => ?_⟩, fun hm => ?_⟩
  · rcases hmem k hk with hk | hk
    · exact InS.mono (fun b hb' => ⟨hb'.1, by have := hb'.2; omega⟩) k (InS.keep (KeepS.of_below h57 (fun b hb' => hb'.2)) k (hy.kid hk))
    · exact InS.mono (fun b hb' => ⟨by have h1 : w5.heap.size ≤ b := hb'.1; omega, by have := hb'.2; omega⟩) k (InS.keep (KeepS.of_below h67 (fun b hb' => hb'.2)) k (hin k hk))
  · rw [NT.blks_eq] at hm
    rcases List.mem_append.1 hm with hm | hm
    · simp only [NT.A, NT.kids] at hm
      cases hc : l7 with
      | nil =>
        have h0 : NT.blk0 A7 [] = [] := by cases A7 <;> rfl
        rw [hc, h0] at hm
        cases hm
      | cons x xs =>
        obtain ⟨g, off, hA, hg, _⟩ := hrow (by rw [hc]; simp)
        rw [hc, hA] at hm
        simp [NT.blk0] at hm
        have := hg.1
        omega
    · obtain ⟨k, hk, hkb⟩ := (NT.mem_blkss _).1 hm
      rcases hmem k hk with hk | hk
      · apply hnb
        rw [NT.blks_eq]
        exact List.mem_append_right _ ((NT.mem_blkss _).2 ⟨k, hk, hkb⟩)
      · have h1 : w5.heap.size ≤ b := (NT.blks_in k (hin k hk) b hkb).1
        omega
end Go.Proofs.Ytjikfdifcpdhhaa
