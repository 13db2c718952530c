/- What is proved: the reference's parser: merged. -/
import Derived.Test.YtnpcfmoiiecadaaDoorParLex2
set_option linter.unusedVariables false
set_option linter.unusedSimpArgs false
namespace Go.Proofs.YtnpcfmoiiecadaaDoor.Par
open Go.RowKit
open Lx (Tok)

theorem mergeF_left (f : Nat) (l : List Dg) : mergeF (f + 1) [] l = l := rfl
theorem mergeF_right (f : Nat) (l : List Dg) : mergeF (f + 1) l [] = l := by cases l <;> rfl
theorem mergeF_both (f : Nat) (a b : Dg) (l m : List Dg) : mergeF (f + 1) (a :: l) (b :: m) = if a.at_ ≤ b.at_ then a :: mergeF f l (b :: m) else b :: mergeF f (a :: l) m := rfl
theorem mergeF_len : ∀ (f : Nat) (l m : List Dg), (mergeF f l m).length ≤ l.length + m.length := by
  intro f
  induction f with
  | zero => intro l m; simp [mergeF]
  | succ f ih =>
    intro l m
    cases l with
    | nil => rw [mergeF_left]; simp
    | cons a l =>
      cases m with
      | nil => rw [mergeF_right]; simp
      | cons b m =>
        rw [mergeF_both]
        split
        · have := ih l (b :: m); simp at this ⊢; omega
        · have := ih (a :: l) m; simp at this ⊢; omega

/-- what is wrong, in a row -/
def DIn (w : World) (b off : Nat) (l : List Dg) : Prop := ∀ (i : Nat) (h : i < l.length), w.cell? ⟨b, off + i * 5, none⟩ = some (.int .i64 l[i].code) ∧ w.cell? ⟨b, off + i * 5 + 1, none⟩ = some (.int .i64 l[i].at_) ∧ w.cell? ⟨b, off + i * 5 + 2, none⟩ = some (.int .i64 l[i].hi) ∧ w.cell? ⟨b, off + i * 5 + 3, none⟩ = some (.string l[i].text) ∧ w.cell? ⟨b, off + i * 5 + 4, none⟩ = some (.slice none 0 0)
theorem DIn.tail {w : World} {b off : Nat} {d : Dg} {l : List Dg} (h : DIn w b off (d :: l)) : DIn w b (off + 5) l := fun i hi => by
  have := h (i + 1) (by simpa using hi)
  rw [show off + 5 + i * 5 = off + (i + 1) * 5 by omega]
  simpa using this
theorem DIn.keep {w w' : World} {b off : Nat} {l : List Dg} (h : DIn w b off l) (kb : w'.heap[b]? = w.heap[b]?) : DIn w' b off l := fun i hi => by
  obtain ⟨h1, h2, h3, h4, h5⟩ := h i hi
  exact ⟨(World.cell?_of_block (a := ⟨b, off + i * 5, none⟩) kb).trans h1, (World.cell?_of_block (a := ⟨b, off + i * 5 + 1, none⟩) kb).trans h2, (World.cell?_of_block (a := ⟨b, off + i * 5 + 2, none⟩) kb).trans h3, (World.cell?_of_block (a := ⟨b, off + i * 5 + 3, none⟩) kb).trans h4, (World.cell?_of_block (a := ⟨b, off + i * 5 + 4, none⟩) kb).trans h5⟩
theorem DIn.head {w : World} {b off : Nat} {d : Dg} {l : List Dg} (h : DIn w b off (d :: l)) : w.cell? ⟨b, off, none⟩ = some (.int .i64 d.code) ∧ w.cell? ⟨b, off + 1, none⟩ = some (.int .i64 d.at_) ∧ w.cell? ⟨b, off + 2, none⟩ = some (.int .i64 d.hi) ∧ w.cell? ⟨b, off + 3, none⟩ = some (.string d.text) ∧ w.cell? ⟨b, off + 4, none⟩ = some (.slice none 0 0) := by
  have := h 0 (by simp)
  simpa using this
def DRow (w : World) (B : Nat) (A : Option Addr) (l : List Dg) : Prop := 0 < l.length → ∃ b off, A = some ⟨b, off, none⟩ ∧ b < B ∧ DIn w b off l
theorem DRow.below {w w' : World} {B : Nat} {A : Option Addr} {l : List Dg} (h : DRow w B A l) (hb : Below B w w') : DRow w' B A l := fun hl => by
  obtain ⟨b, off, h1, h2, h3⟩ := h hl
  exact ⟨b, off, h1, h2, h3.keep (hb.block b h2)⟩
theorem add0 (g i : Nat) : (⟨g, 0, none⟩ : Addr).add i = ⟨g, i, none⟩ := by unfold Addr.add; split <;> simp_all
theorem own_drow {w : World} {B : Nat} {v : Value} {l : List Dg} (h : w.ownsRow B 96 5 v l.length (dcells l)) : ∃ A c, v = .slice A l.length c ∧ l.length ≤ c ∧ DRow w w.heap.size A l := by
  rcases h.2 with ⟨rfl, h0⟩ | ⟨g, cap, cur, hv, hB, hg, hn, hx⟩
  · exact ⟨none, 0, by rw [h0], by omega, fun hl => by omega⟩
  · refine ⟨some ⟨g, 0, none⟩, cap, hv, hn, fun hl => ⟨g, 0, rfl, (Array.getElem?_eq_some_iff.1 hg).1, fun i hi => ?_⟩⟩
    have c := h.cells (g := g) (by rw [hv]; rfl)
    have d := dcells_get l i hi
    refine ⟨?_, ?_, ?_, ?_, ?_⟩
    · have := c _ _ d.1; rw [add0] at this; rw [Nat.zero_add]; exact this
    · have := c _ _ d.2.1; simpa [Addr.add, Nat.add_assoc] using this
    · have := c _ _ d.2.2.1; simpa [Addr.add, Nat.add_assoc] using this
    · have := c _ _ d.2.2.2.1; simpa [Addr.add, Nat.add_assoc] using this
    · have := c _ _ d.2.2.2.2; simpa [Addr.add, Nat.add_assoc] using this

theorem tail_row {w4 w3 : World} {B b off : Nat} {d : Dg} {l : List Dg} (hb : b < B) (h : DIn w4 b off (d :: l)) (k : Below B w4 w3) : DRow w3 B (some ⟨b, off + 5, none⟩) l :=
  DRow.below (fun _ => ⟨b, off + 5, rfl, hb, h.tail⟩) k
theorem mrg_grown {w wr wa w3 : World} {acc : List Dg} {v : Value} {d : Dg} {g cap : Nat} (h : wr.ownsRow w.heap.size 96 5 v acc.length (dcells acc)) (hb : Below w.heap.size w wr) (ha : Below wr.heap.size wr wa) (hg : wa.grownBy w3 v.ownBlock)
    (hown : w3.ownsRow w.heap.size 96 5 (.slice (some ⟨g, 0, none⟩) (acc.length + 1) cap) (acc.length + 1) (dcells acc ++ dcells [d])) :
    Hid (w3.ownsRow w.heap.size 96 5 (.slice (some ⟨g, 0, none⟩) (acc.length + 1) cap) (acc ++ [d]).length (dcells (acc ++ [d]))) ∧ Hid (Below w.heap.size w w3 ∧ Below w.heap.size wr w3) := by
  have b1 : Below w.heap.size wr wa := ha.mono hb.size
  have b2 := (hb.trans b1).grown hg (Nat.le_trans hb.size ha.size) (fun i hi => (own_ty (own_later h ha) i hi).2)
  refine ⟨?_, b2, ?_⟩
  · show w3.ownsRow _ _ 5 _ (acc ++ [d]).length _
    rw [dcells_append, show (acc ++ [d]).length = acc.length + 1 from by simp]
    exact hown
  · exact b1.grown hg (Nat.le_trans hb.size ha.size) (fun i hi => (own_ty (own_later h ha) i hi).2)

set_option maxRecDepth 100000 in
set_option maxHeartbeats 4000000 in
theorem merged_any (A A' : Option Addr) (c c' : Nat) (la lb : List Dg) (w : World) (ha : DRow w w.heap.size A la) (hb : DRow w w.heap.size A' lb) (hca : la.length ≤ c) (hcb : lb.length ≤ c') (hla : la.length ≤ 5000) (hlb : lb.length ≤ 5000) :
    Calls Tryd.prog 30 #[.slice A la.length c, .slice A' lb.length c'] w fun e w' => ∃ v, e = .returned v ∧ w'.ownsRow w.heap.size 96 5 v (merged la lb).length (dcells (merged la lb)) ∧ Below w.heap.size w w' := by
  obtain ⟨i0, hi0, hz0, hz1, hz2⟩ := info_parts infoDg
  have HM0 := Lib.hid (World.ownsRow_made (base := w.heap.size) (e := 96) (size := 5) w #[] 0 (Nat.le_refl _) (by unfold maxLen; omega) rfl)
  have HDA := Lib.hid ha
  have HDB := Lib.hid hb
  have HLN := Lib.hid (show la.length ≤ 5000 ∧ lb.length ≤ 5000 from ⟨hla, hlb⟩)
  have HCA := Lib.hid hca
  have HCB := Lib.hid hcb
  clear ha hb hla hlb hca hcb
  go_enter Tryd.func30, Tryd.ntmps30
  go_wp2_with (fail)
  have hB0 := (Below.refl w.heap.size w).alloc (Nat.le_refl _) (.cells #[] 96)
  have HB0 := Lib.hid hB0
  clear hB0
  generalize (w.alloc (.cells #[] 96)) = w0 at *
  have HA0 := Lib.hid (HDA.out.below HB0.out)
  have HB1 := Lib.hid (HDB.out.below HB0.out)
  go_loopw [0, 1, 5] (fun x y v wr => ∃ (P Q : Option Addr) (l m acc : List Dg) (cp cq f : Nat), x = .slice P l.length cp ∧ y = .slice Q m.length cq ∧ Hid (DRow wr w.heap.size P l) ∧ Hid (DRow wr w.heap.size Q m) ∧ l.length ≤ cp ∧ m.length ≤ cq ∧ Hid (wr.ownsRow w.heap.size 96 5 v acc.length (dcells acc)) ∧ Hid (merged la lb = acc ++ mergeF (f + 1) l m) ∧ l.length + m.length ≤ f ∧ acc.length + l.length + m.length ≤ 10000 ∧ Hid (Below w.heap.size w wr)) (fun x y _ _ => slLen x + slLen y)
  case atStart => exact ⟨A, A', la, lb, [], c, c', la.length + lb.length, rfl, rfl, HA0, HB1, HCA.out, HCB.out, HM0, rfl, Nat.le_refl _, by have := HLN.out; have : ([] : List Dg).length = 0 := rfl; omega, HB0⟩
  case round =>
    obtain ⟨P, Q, l, m, acc, cp, cq, f, rfl, rfl, HP, HQ, hcp, hcq, HO, HE, hf, hle, HB⟩ := hrel
    obtain ⟨A1, cap1, hv⟩ := own_shape HO.out
    subst hv
    cases l with
    | nil =>
      cases m with
      | nil =>
        have hz : decide ((0 : Int) < (([] : List Dg).length : Int)) = false := by simp
        go_wp2_with (fail)
        go_ret
        have e : merged la lb = acc := by rw [HE.out, mergeF_left, List.append_nil]
        rw [e]
        exact ⟨_, rfl, HO.out, HB.out⟩
      | cons y m =>
        obtain ⟨b, off, rfl, hbl, hin⟩ := HQ.out (by simp)
        simp only [List.length_cons, List.length_nil] at hcp hcq hf hle
        have z2 : decide ((0 : Int) < (m.length : Int) + 1) = true := decide_eq_true (by omega)
        have z3 : ((m.length : Int) + 1 == 0) = false := by simp; omega
        have z4 : (0 : Int) < (m.length : Int) + 1 := by omega
        have z7 : (1 : Int) ≤ (m.length : Int) + 1 := by omega
        have z8 : (m.length : Int) + 1 ≤ (cq : Int) := by omega
        have z9 : 1 ≤ m.length + 1 := by omega
        obtain ⟨f, rfl⟩ : ∃ f2, f = f2 + 1 := ⟨f - 1, by omega⟩
        obtain ⟨h0, h1, h2, h3, h4⟩ := hin.head
        go_upto_region 3 with (fail)
        go_quiet (fail)
        have BD := (below_drew wr nq).mono HB.out.size
        have HP4 := Lib.hid (HP.out.below BD)
        have HQ4 := Lib.hid (HQ.out.below BD)
        have HO4 := Lib.hid (own_later HO.out (below_drew wr nq))
        have HB4 := Lib.hid (HB.out.trans BD)
        have hin4 := hin.keep (BD.block b hbl)
        clear h0 h1 h2 h3 h4 BD HP HQ HO HB hin
        generalize wr.drewN nq = w4 at *
        obtain ⟨h0, h1, h2, h3, h4⟩ := hin4.head
        have HBA := Lib.hid ((Below.refl w4.heap.size w4).alloc (Nat.le_refl _) (.cells #[.int .i64 y.code, .int .i64 y.at_, .int .i64 y.hi, .string y.text, .slice none 0 0] 96))
        have HC1 := Lib.hid (show acc.length + 1 ≤ maxLen by unfold maxLen; omega)
        have HC2 := Lib.hid (show (acc.length + 1) * 64 ≤ 140737488355328 by omega)
        have HNB := Lib.hid (show ∀ (j : Nat) (u : Value), (dcells [y])[j]? = some u → (w4.alloc (.cells #[.int .i64 y.code, .int .i64 y.at_, .int .i64 y.hi, .string y.text, .slice none 0 0] 96)).drew.cell? ((⟨w4.heap.size, 0, none⟩ : Addr).add j) = some u from World.news_of_block (cs := #[.int .i64 y.code, .int .i64 y.at_, .int .i64 y.hi, .string y.text, .slice none 0 0]) (heap_alloc_new w4 _))
        have HOA := Lib.hid (show (w4.alloc (.cells #[.int .i64 y.code, .int .i64 y.at_, .int .i64 y.hi, .string y.text, .slice none 0 0] 96)).drew.ownsRow w.heap.size 96 5 (.slice A1 acc.length cap1) acc.length (dcells acc) from own_later HO4.out HBA.out.drew)
        have HLA := Lib.hid (show w.heap.size ≤ (w4.alloc (.cells #[.int .i64 y.code, .int .i64 y.at_, .int .i64 y.hi, .string y.text, .slice none 0 0] 96)).drew.heap.size by have := HB4.out.size; show w.heap.size ≤ (w4.alloc _).heap.size; rw [World.size_alloc]; omega)
        have HSA := Lib.hid (show (w4.alloc (.cells #[.int .i64 y.code, .int .i64 y.at_, .int .i64 y.hi, .string y.text, .slice none 0 0] 96)).drew.heap.size = w4.heap.size + 1 from World.size_alloc _ _)
        go_upto_region 5 with (fail)
        go_region_law (first | (refine step_append_lies _ (by rfl) _ _ _ (by rfl) w.heap.size 96 i0 _ 5 64 Tryd.underlying32 hi0 hz0 hz1 hz2 rfl (by decide) (.slice A1 acc.length cap1) acc.length (dcells acc) (by rfl) HOA.out ⟨w4.heap.size, 0, none⟩ 1 1 (dcells [y]) (by rfl) (by rfl) HNB.out (dcells_one _) (by decide) HC1.out HC2.out HLA.out (w4.heap.size + 1) HSA.out ?_; intro g cap w3 hown hgr hsel hgl; obtain ⟨HO5, HB5⟩ := mrg_grown (d := y) HO4.out HB4.out HBA.out.drew hgr hown; clear hown hgr hsel hgl))
        all_goals
          go_wp2_with (fail)
          all_goals
            refine ⟨⟨_, _, _, ⟨_, _, [], m, acc ++ [y], _, rfl, _, rfl, ?g1, ?g2, ?g3, ?g4, HO5, f, Lib.hid (by rw [HE.out, mergeF_left, mergeF_left, List.append_assoc]; rfl), (by simp only [List.length_cons, List.length_nil, List.length_append]; omega), (by simp only [List.length_cons, List.length_nil, List.length_append]; omega), Lib.hid HB5.out.1⟩, rfl, rfl, rfl⟩, ?g5⟩
            case g1 => exact (Lib.hid (HP4.out.below HB5.out.2))
            case g2 => exact (by first | exact Lib.hid (tail_row hbl hin4 HB5.out.2) | exact Lib.hid (fun hl => absurd hl (by omega)))
            case g3 => first | omega | (simp only [List.length_cons, List.length_nil]; omega)
            case g4 => first | omega | (simp only [List.length_cons, List.length_nil]; omega)
            case g5 => simp [slLen]
    | cons x l =>
      cases m with
      | nil =>
        obtain ⟨b, off, rfl, hbl, hin⟩ := HP.out (by simp)
        simp only [List.length_cons, List.length_nil] at hcp hcq hf hle
        have z2 : decide ((0 : Int) < (l.length : Int) + 1) = true := decide_eq_true (by omega)
        have z4 : (0 : Int) < (l.length : Int) + 1 := by omega
        have z7 : (1 : Int) ≤ (l.length : Int) + 1 := by omega
        have z8 : (l.length : Int) + 1 ≤ (cp : Int) := by omega
        have z9 : 1 ≤ l.length + 1 := by omega
        obtain ⟨f, rfl⟩ : ∃ f2, f = f2 + 1 := ⟨f - 1, by omega⟩
        obtain ⟨h0, h1, h2, h3, h4⟩ := hin.head
        go_upto_region 3 with (fail)
        go_quiet (fail)
        have BD := (below_drew wr nq).mono HB.out.size
        have HP4 := Lib.hid (HP.out.below BD)
        have HQ4 := Lib.hid (HQ.out.below BD)
        have HO4 := Lib.hid (own_later HO.out (below_drew wr nq))
        have HB4 := Lib.hid (HB.out.trans BD)
        have hin4 := hin.keep (BD.block b hbl)
        clear h0 h1 h2 h3 h4 BD HP HQ HO HB hin
        generalize wr.drewN nq = w4 at *
        obtain ⟨h0, h1, h2, h3, h4⟩ := hin4.head
        have HBA := Lib.hid ((Below.refl w4.heap.size w4).alloc (Nat.le_refl _) (.cells #[.int .i64 x.code, .int .i64 x.at_, .int .i64 x.hi, .string x.text, .slice none 0 0] 96))
        have HC1 := Lib.hid (show acc.length + 1 ≤ maxLen by unfold maxLen; omega)
        have HC2 := Lib.hid (show (acc.length + 1) * 64 ≤ 140737488355328 by omega)
        have HNB := Lib.hid (show ∀ (j : Nat) (u : Value), (dcells [x])[j]? = some u → (w4.alloc (.cells #[.int .i64 x.code, .int .i64 x.at_, .int .i64 x.hi, .string x.text, .slice none 0 0] 96)).drew.cell? ((⟨w4.heap.size, 0, none⟩ : Addr).add j) = some u from World.news_of_block (cs := #[.int .i64 x.code, .int .i64 x.at_, .int .i64 x.hi, .string x.text, .slice none 0 0]) (heap_alloc_new w4 _))
        have HOA := Lib.hid (show (w4.alloc (.cells #[.int .i64 x.code, .int .i64 x.at_, .int .i64 x.hi, .string x.text, .slice none 0 0] 96)).drew.ownsRow w.heap.size 96 5 (.slice A1 acc.length cap1) acc.length (dcells acc) from own_later HO4.out HBA.out.drew)
        have HLA := Lib.hid (show w.heap.size ≤ (w4.alloc (.cells #[.int .i64 x.code, .int .i64 x.at_, .int .i64 x.hi, .string x.text, .slice none 0 0] 96)).drew.heap.size by have := HB4.out.size; show w.heap.size ≤ (w4.alloc _).heap.size; rw [World.size_alloc]; omega)
        have HSA := Lib.hid (show (w4.alloc (.cells #[.int .i64 x.code, .int .i64 x.at_, .int .i64 x.hi, .string x.text, .slice none 0 0] 96)).drew.heap.size = w4.heap.size + 1 from World.size_alloc _ _)
        go_upto_region 4 with (fail)
        go_region_law (first | (refine step_append_lies _ (by rfl) _ _ _ (by rfl) w.heap.size 96 i0 _ 5 64 Tryd.underlying32 hi0 hz0 hz1 hz2 rfl (by decide) (.slice A1 acc.length cap1) acc.length (dcells acc) (by rfl) HOA.out ⟨w4.heap.size, 0, none⟩ 1 1 (dcells [x]) (by rfl) (by rfl) HNB.out (dcells_one _) (by decide) HC1.out HC2.out HLA.out (w4.heap.size + 1) HSA.out ?_; intro g cap w3 hown hgr hsel hgl; obtain ⟨HO5, HB5⟩ := mrg_grown (d := x) HO4.out HB4.out HBA.out.drew hgr hown; clear hown hgr hsel hgl))
        all_goals
          go_wp2_with (fail)
          all_goals
            refine ⟨⟨_, _, _, ⟨_, _, l, [], acc ++ [x], _, rfl, _, rfl, ?g1, ?g2, ?g3, ?g4, HO5, f, Lib.hid (by rw [HE.out, mergeF_right, mergeF_right, List.append_assoc]; rfl), (by simp only [List.length_cons, List.length_nil, List.length_append]; omega), (by simp only [List.length_cons, List.length_nil, List.length_append]; omega), Lib.hid HB5.out.1⟩, rfl, rfl, rfl⟩, ?g5⟩
            case g1 => exact (by first | exact Lib.hid (tail_row hbl hin4 HB5.out.2) | exact Lib.hid (fun hl => absurd hl (by omega)))
            case g2 => exact (Lib.hid (HQ4.out.below HB5.out.2))
            case g3 => first | omega | (simp only [List.length_cons, List.length_nil]; omega)
            case g4 => first | omega | (simp only [List.length_cons, List.length_nil]; omega)
            case g5 => simp [slLen]
      | cons y m =>
        obtain ⟨b, off, rfl, hbl, hin⟩ := HP.out (by simp)
        obtain ⟨b2, off2, rfl, hbl2, hin2⟩ := HQ.out (by simp)
        by_cases hxy : x.at_ ≤ y.at_
        · simp only [List.length_cons, List.length_nil] at hcp hcq hf hle
          have z1 : decide ((0 : Int) < (l.length : Int) + 1) = true := decide_eq_true (by omega)
          have z2 : decide ((0 : Int) < (m.length : Int) + 1) = true := decide_eq_true (by omega)
          have z3 : ((m.length : Int) + 1 == 0) = false := by simp; omega
          have z4 : (0 : Int) < (l.length : Int) + 1 := by omega
          have z5 : (0 : Int) < (m.length : Int) + 1 := by omega
          have z6 : decide (x.at_ ≤ y.at_) = true := by simp [hxy]
          have z7 : (1 : Int) ≤ (l.length : Int) + 1 := by omega
          have z8 : (l.length : Int) + 1 ≤ (cp : Int) := by omega
          have z9 : 1 ≤ l.length + 1 := by omega
          obtain ⟨f, rfl⟩ : ∃ f2, f = f2 + 1 := ⟨f - 1, by omega⟩
          obtain ⟨h0, h1, h2, h3, h4⟩ := hin.head
          obtain ⟨k0, k1, k2, k3, k4⟩ := hin2.head
          go_upto_region 3 with (fail)
          go_quiet (fail)
          have BD := (below_drew wr nq).mono HB.out.size
          have HP4 := Lib.hid (HP.out.below BD)
          have HQ4 := Lib.hid (HQ.out.below BD)
          have HO4 := Lib.hid (own_later HO.out (below_drew wr nq))
          have HB4 := Lib.hid (HB.out.trans BD)
          have hin4 := hin.keep (BD.block b hbl)
          have hin24 := hin2.keep (BD.block b2 hbl2)
          clear h0 h1 h2 h3 h4 k0 k1 k2 k3 k4 BD HP HQ HO HB hin hin2
          generalize wr.drewN nq = w4 at *
          obtain ⟨h0, h1, h2, h3, h4⟩ := hin4.head
          have HBA := Lib.hid ((Below.refl w4.heap.size w4).alloc (Nat.le_refl _) (.cells #[.int .i64 x.code, .int .i64 x.at_, .int .i64 x.hi, .string x.text, .slice none 0 0] 96))
          have HC1 := Lib.hid (show acc.length + 1 ≤ maxLen by unfold maxLen; omega)
          have HC2 := Lib.hid (show (acc.length + 1) * 64 ≤ 140737488355328 by omega)
          have HNB := Lib.hid (show ∀ (j : Nat) (u : Value), (dcells [x])[j]? = some u → (w4.alloc (.cells #[.int .i64 x.code, .int .i64 x.at_, .int .i64 x.hi, .string x.text, .slice none 0 0] 96)).drew.cell? ((⟨w4.heap.size, 0, none⟩ : Addr).add j) = some u from World.news_of_block (cs := #[.int .i64 x.code, .int .i64 x.at_, .int .i64 x.hi, .string x.text, .slice none 0 0]) (heap_alloc_new w4 _))
          have HOA := Lib.hid (show (w4.alloc (.cells #[.int .i64 x.code, .int .i64 x.at_, .int .i64 x.hi, .string x.text, .slice none 0 0] 96)).drew.ownsRow w.heap.size 96 5 (.slice A1 acc.length cap1) acc.length (dcells acc) from own_later HO4.out HBA.out.drew)
          have HLA := Lib.hid (show w.heap.size ≤ (w4.alloc (.cells #[.int .i64 x.code, .int .i64 x.at_, .int .i64 x.hi, .string x.text, .slice none 0 0] 96)).drew.heap.size by have := HB4.out.size; show w.heap.size ≤ (w4.alloc _).heap.size; rw [World.size_alloc]; omega)
          have HSA := Lib.hid (show (w4.alloc (.cells #[.int .i64 x.code, .int .i64 x.at_, .int .i64 x.hi, .string x.text, .slice none 0 0] 96)).drew.heap.size = w4.heap.size + 1 from World.size_alloc _ _)
          go_upto_region 4 with (fail)
          go_region_law (first | (refine step_append_lies _ (by rfl) _ _ _ (by rfl) w.heap.size 96 i0 _ 5 64 Tryd.underlying32 hi0 hz0 hz1 hz2 rfl (by decide) (.slice A1 acc.length cap1) acc.length (dcells acc) (by rfl) HOA.out ⟨w4.heap.size, 0, none⟩ 1 1 (dcells [x]) (by rfl) (by rfl) HNB.out (dcells_one _) (by decide) HC1.out HC2.out HLA.out (w4.heap.size + 1) HSA.out ?_; intro g cap w3 hown hgr hsel hgl; obtain ⟨HO5, HB5⟩ := mrg_grown (d := x) HO4.out HB4.out HBA.out.drew hgr hown; clear hown hgr hsel hgl))
          all_goals
            go_wp2_with (fail)
            all_goals
              refine ⟨⟨_, _, _, ⟨_, _, l, (y :: m), acc ++ [x], _, rfl, _, rfl, ?g1, ?g2, ?g3, ?g4, HO5, f, Lib.hid (by rw [HE.out, mergeF_both, if_pos hxy, List.append_assoc]; rfl), (by simp only [List.length_cons, List.length_nil, List.length_append]; omega), (by simp only [List.length_cons, List.length_nil, List.length_append]; omega), Lib.hid HB5.out.1⟩, rfl, rfl, rfl⟩, ?g5⟩
              case g1 => exact (by first | exact Lib.hid (tail_row hbl hin4 HB5.out.2) | exact Lib.hid (fun hl => absurd hl (by omega)))
              case g2 => exact (Lib.hid (HQ4.out.below HB5.out.2))
              case g3 => first | omega | (simp only [List.length_cons, List.length_nil]; omega)
              case g4 => first | omega | (simp only [List.length_cons, List.length_nil]; omega)
              case g5 => simp [slLen]
        · simp only [List.length_cons, List.length_nil] at hcp hcq hf hle
          have z1 : decide ((0 : Int) < (l.length : Int) + 1) = true := decide_eq_true (by omega)
          have z2 : decide ((0 : Int) < (m.length : Int) + 1) = true := decide_eq_true (by omega)
          have z3 : ((m.length : Int) + 1 == 0) = false := by simp; omega
          have z4 : (0 : Int) < (l.length : Int) + 1 := by omega
          have z5 : (0 : Int) < (m.length : Int) + 1 := by omega
          have z6 : decide (x.at_ ≤ y.at_) = false := by simp [hxy]
          have z7 : (1 : Int) ≤ (m.length : Int) + 1 := by omega
          have z8 : (m.length : Int) + 1 ≤ (cq : Int) := by omega
          have z9 : 1 ≤ m.length + 1 := by omega
          obtain ⟨f, rfl⟩ : ∃ f2, f = f2 + 1 := ⟨f - 1, by omega⟩
          obtain ⟨h0, h1, h2, h3, h4⟩ := hin.head
          obtain ⟨k0, k1, k2, k3, k4⟩ := hin2.head
          go_upto_region 3 with (fail)
          go_quiet (fail)
          have BD := (below_drew wr nq).mono HB.out.size
          have HP4 := Lib.hid (HP.out.below BD)
          have HQ4 := Lib.hid (HQ.out.below BD)
          have HO4 := Lib.hid (own_later HO.out (below_drew wr nq))
          have HB4 := Lib.hid (HB.out.trans BD)
          have hin4 := hin.keep (BD.block b hbl)
          have hin24 := hin2.keep (BD.block b2 hbl2)
          clear h0 h1 h2 h3 h4 k0 k1 k2 k3 k4 BD HP HQ HO HB hin hin2
          generalize wr.drewN nq = w4 at *
          obtain ⟨h0, h1, h2, h3, h4⟩ := hin24.head
          have HBA := Lib.hid ((Below.refl w4.heap.size w4).alloc (Nat.le_refl _) (.cells #[.int .i64 y.code, .int .i64 y.at_, .int .i64 y.hi, .string y.text, .slice none 0 0] 96))
          have HC1 := Lib.hid (show acc.length + 1 ≤ maxLen by unfold maxLen; omega)
          have HC2 := Lib.hid (show (acc.length + 1) * 64 ≤ 140737488355328 by omega)
          have HNB := Lib.hid (show ∀ (j : Nat) (u : Value), (dcells [y])[j]? = some u → (w4.alloc (.cells #[.int .i64 y.code, .int .i64 y.at_, .int .i64 y.hi, .string y.text, .slice none 0 0] 96)).drew.cell? ((⟨w4.heap.size, 0, none⟩ : Addr).add j) = some u from World.news_of_block (cs := #[.int .i64 y.code, .int .i64 y.at_, .int .i64 y.hi, .string y.text, .slice none 0 0]) (heap_alloc_new w4 _))
          have HOA := Lib.hid (show (w4.alloc (.cells #[.int .i64 y.code, .int .i64 y.at_, .int .i64 y.hi, .string y.text, .slice none 0 0] 96)).drew.ownsRow w.heap.size 96 5 (.slice A1 acc.length cap1) acc.length (dcells acc) from own_later HO4.out HBA.out.drew)
          have HLA := Lib.hid (show w.heap.size ≤ (w4.alloc (.cells #[.int .i64 y.code, .int .i64 y.at_, .int .i64 y.hi, .string y.text, .slice none 0 0] 96)).drew.heap.size by have := HB4.out.size; show w.heap.size ≤ (w4.alloc _).heap.size; rw [World.size_alloc]; omega)
          have HSA := Lib.hid (show (w4.alloc (.cells #[.int .i64 y.code, .int .i64 y.at_, .int .i64 y.hi, .string y.text, .slice none 0 0] 96)).drew.heap.size = w4.heap.size + 1 from World.size_alloc _ _)
          go_upto_region 5 with (fail)
          go_region_law (first | (refine step_append_lies _ (by rfl) _ _ _ (by rfl) w.heap.size 96 i0 _ 5 64 Tryd.underlying32 hi0 hz0 hz1 hz2 rfl (by decide) (.slice A1 acc.length cap1) acc.length (dcells acc) (by rfl) HOA.out ⟨w4.heap.size, 0, none⟩ 1 1 (dcells [y]) (by rfl) (by rfl) HNB.out (dcells_one _) (by decide) HC1.out HC2.out HLA.out (w4.heap.size + 1) HSA.out ?_; intro g cap w3 hown hgr hsel hgl; obtain ⟨HO5, HB5⟩ := mrg_grown (d := y) HO4.out HB4.out HBA.out.drew hgr hown; clear hown hgr hsel hgl))
          all_goals
            go_wp2_with (fail)
            all_goals
              refine ⟨⟨_, _, _, ⟨_, _, (x :: l), m, acc ++ [y], _, rfl, _, rfl, ?g1, ?g2, ?g3, ?g4, HO5, f, Lib.hid (by rw [HE.out, mergeF_both, if_neg (Int.not_le.2 hxy), List.append_assoc]; rfl), (by simp only [List.length_cons, List.length_nil, List.length_append]; omega), (by simp only [List.length_cons, List.length_nil, List.length_append]; omega), Lib.hid HB5.out.1⟩, rfl, rfl, rfl⟩, ?g5⟩
              case g1 => exact (Lib.hid (HP4.out.below HB5.out.2))
              case g2 => exact (by first | exact Lib.hid (tail_row hbl2 hin24 HB5.out.2) | exact Lib.hid (fun hl => absurd hl (by omega)))
              case g3 => first | omega | (simp only [List.length_cons, List.length_nil]; omega)
              case g4 => first | omega | (simp only [List.length_cons, List.length_nil]; omega)
              case g5 => simp [slLen]
end Go.Proofs.YtnpcfmoiiecadaaDoor.Par
