/- What is proved: the reference's Pairs: the relation of all points, in rows. -/
import Derived.Test.YtbdpdbeekbbehaaDoRefD
set_option linter.unusedVariables false
namespace Go.Proofs.Ytbdpdbeekbbehaa
open Go.RowKit Go.Shelf

theorem infoBs : (Try.prog.info? 62).map (fun i => (i.zero, i.size, i.bytes)) = some (some (.slice none 0 0), 1, 24) := by kernel_rfl
def bcells (n : Nat) (f : Nat → Bool) : List Value := (List.range n).map fun b => .bool (f b)
theorem bcells_len (n : Nat) (f : Nat → Bool) : (bcells n f).length = n := by simp [bcells]
theorem bcells_succ (n : Nat) (f : Nat → Bool) : bcells (n + 1) f = bcells n f ++ [.bool (f n)] := by simp [bcells, List.range_succ]
/-- a row that is owned -/
def BRow (w : World) (M : Nat) (v : Value) (n : Nat) (f : Nat → Bool) : Prop := w.ownsRow M 4 1 v n (bcells n f)
/-- where the rows are -/
def rcells (n : Nat) (rs : List (Option Addr × Nat)) : List Value := rs.map fun t => .slice t.1 n t.2
/-- rows of truth values -/
structure PaRow (w : World) (M n : Nat) (v : Value) (rs : List (Option Addr × Nat)) (F : Nat → Nat → Bool) : Prop where
  row : w.ownsRow M 62 1 v rs.length (rcells n rs)
  each : ∀ a (h : a < rs.length), BRow w M (.slice rs[a].1 n rs[a].2) n (F a)
theorem PaRow.later {w w' : World} {M n : Nat} {v : Value} {rs : List (Option Addr × Nat)} {F : Nat → Nat → Bool} (h : PaRow w M n v rs F) (hb : Below w.heap.size w w') : PaRow w' M n v rs F :=
  ⟨own_stays h.row fun b e => hb.block b (own_block' h.row e).2.1, fun a ha => own_stays (h.each a ha) fun b e => hb.block b (own_block' (h.each a ha) e).2.1⟩
theorem PaRow.more {w w' : World} {M n : Nat} {v v' : Value} {rs : List (Option Addr × Nat)} {F : Nat → Nat → Bool} (h : PaRow w M n v rs F) {t : Option Addr × Nat} (ht : BRow w M (.slice t.1 n t.2) n (F rs.length)) {o : Obj} (hg : (w.alloc o).grownBy w' v.ownBlock)
    (hown : w'.ownsRow M 62 1 v' (rs.length + 1) (rcells n rs ++ [.slice t.1 n t.2])) : PaRow w' M n v' (rs ++ [t]) F := by
  have key : ∀ (u : Value) (f : Nat → Bool), BRow w M u n f → BRow w' M u n f := fun u f hu => own_stays hu fun b e => by
    obtain ⟨_, hlt, cs, hcs⟩ := own_block' hu e
    refine (hg.block b (by simp; omega) (fun e2 => ?_)).trans (heap_alloc_old _ _ hlt)
    obtain ⟨_, _, cs2, hcs2⟩ := own_block' h.row e2.symm
    rw [hcs] at hcs2
    cases hcs2
  refine ⟨by rw [List.length_append]; unfold rcells at hown ⊢; rw [List.map_append]; exact hown, fun a ha => ?_⟩
  by_cases e : a < rs.length
  · rw [List.getElem_append_left e]
    exact key _ _ (h.each a e)
  · have e2 : a = rs.length := by rw [List.length_append, List.length_singleton] at ha; omega
    subst e2
    rw [List.getElem_append_right (Nat.le_refl _)]
    simp only [Nat.sub_self, List.getElem_singleton]
    exact key _ _ ht
/-- what the two relations are -/
def relT (post : Bool) (dB pB : Nat → Nat → Bool) : Nat → Nat → Bool := if post then pB else dB
/-- what Pairs gives -/
def PaRes (l : List PtV) (F : Nat → Nat → Bool) (w : World) (e : Ending) (W : World) : Prop :=
  ∃ v rs, e = .returned v ∧ PaRow W w.heap.size l.length v rs F ∧ rs.length = l.length ∧ Below w.heap.size w W
set_option maxRecDepth 100000 in
set_option maxHeartbeats 4000000 in
theorem pairs_any (A : Option Addr) (c : Nat) (l : List PtV) (post : Bool) (w : World) (hs : FlSm l) (hp : PRow w.heap.size w A l) (dB pB : Nat → Nat → Bool) (hd : ∀ a b, dB a b = true ↔ DomS (edg l) 0 l (a : Int) (b : Int)) (hpB : ∀ a b, pB a b = true ↔ DomS (bke l) 1 l (a : Int) (b : Int)) :
    Calls Try.prog 60 #[.agg #[.slice A l.length c], .bool post] w (PaRes l (relT post dB pB) w) := by
  have hln := hs.n
  have HD1 := Lib.hid (fun W (a b : Nat) (hW : Below w.heap.size w W) => rdominates_any A c l a b W hs ((hp.below hW).mono hW.size) (dB a b) (hd a b))
  have HD2 := Lib.hid (fun W (a b : Nat) (hW : Below w.heap.size w W) => rpostdominates_any A c l a b W hs ((hp.below hW).mono hW.size) (pB a b) (hpB a b))
  have ha1 := (Below.refl w.heap.size w).alloc (Nat.le_refl _) (.cells #[.slice A l.length c] 24)
  have HFB := Lib.hid (show FBx (w.alloc (.cells #[.slice A l.length c] 24)) w.heap.size A c l from heap_alloc_new w _)
  have hs1 : (w.alloc (.cells #[.slice A l.length c] 24)).heap.size = w.heap.size + 1 := by simp
  have ha2 := (Below.refl _ _).alloc (Nat.le_refl (w.alloc (.cells #[.slice A l.length c] 24)).heap.size) (.cells #[] 62)
  have HF1 := Lib.hid (show FBx _ w.heap.size A c l from HFB.out.later ha2)
  have HB1 := Lib.hid (ha1.trans (ha2.mono ha1.size))
  have hrow := heap_alloc_new (w.alloc (.cells #[.slice A l.length c] 24)) (.cells #[] 62)
  rw [hs1] at hrow
  have HP0 := Lib.hid (show ∀ F, PaRow ((w.alloc (.cells #[.slice A l.length c] 24)).alloc (.cells #[] 62)) w.heap.size l.length (.slice (some ⟨w.heap.size + 1, 0, none⟩) 0 0) [] F from fun F => ⟨⟨rfl, .inr ⟨w.heap.size + 1, 0, _, rfl, by omega, hrow, Nat.le_refl _, by decide, rfl, rfl⟩⟩, fun a h => by simp at h⟩)
  have c0 := HFB.out.cell
  clear hs hp hd hpB ha1 ha2 hs1 hrow HFB
  go_enter Try.func60, Try.ntmps60
  cases post with
  | true =>
    show Code.wp _ _ (bodyPost _ _ (PaRes l pB w)) _ _
    have HP0 := Lib.hid (HP0.out pB)
    go_wp2_with (fail)
    generalize ((w.alloc (.cells #[.slice A l.length c] 24)).alloc (.cells #[] 62)) = w1 at *
    clear c0
    go_loopw [5, 6] (fun v i wr => ∃ (a : Nat) (rs : List (Option Addr × Nat)), i = .int .i64 (a : Int) ∧ a ≤ l.length ∧ rs.length = a ∧ Hid (PaRow wr w.heap.size l.length v rs pB) ∧ Hid (FBx wr w.heap.size A c l) ∧ Hid (Below w.heap.size w wr)) (fun _ i _ => l.length - (intOf i).toNat)
    case atStart => exact ⟨0, [], rfl, Nat.zero_le _, rfl, HP0, HF1, HB1⟩
    case round =>
      obtain ⟨a, rs, rfl, ha, hrs, hpa, hfb, hbw⟩ := hrel
      generalize wr = wo at *
      have c0 := hfb.out.cell
      by_cases hal : a < l.length
      · have hal2 := (Below.refl wo.heap.size wo).alloc (Nat.le_refl _) (.cells #[] 4)
        have HI0 := Lib.hid (show (wo.alloc (.cells #[] 4)).ownsRow wo.heap.size 4 1 (.slice (some ⟨wo.heap.size, 0, none⟩) 0 0) 0 (bcells 0 (pB a)) from ⟨rfl, .inr ⟨wo.heap.size, 0, _, rfl, Nat.le_refl _, heap_alloc_new wo _, Nat.le_refl _, by decide, rfl, rfl⟩⟩)
        have HB0 := Lib.hid hal2
        clear hal2
        go_wp2_with (fail)
        generalize (wo.alloc (.cells #[] 4)) = w2 at *
        clear c0
        go_loopw [7, 8] (fun v i wr => ∃ b : Nat, i = .int .i64 (b : Int) ∧ b ≤ l.length ∧ Hid (wr.ownsRow wo.heap.size 4 1 v b (bcells b (pB a))) ∧ Hid (Below wo.heap.size wo wr)) (fun _ i _ => l.length - (intOf i).toNat)
        case atStart => exact ⟨0, rfl, Nat.zero_le _, HI0, HB0⟩
        case round =>
          obtain ⟨b, rfl, hb, hin, hbi⟩ := hrel
          have c0 := (hfb.out.later hbi.out).cell
          by_cases hbl : b < l.length
          · have HBW := Lib.hid (hbw.out.trans (hbi.out.mono hbw.out.size))
            go_wp2_with (fail)
            refine (HD2.out _ a b HBW.out).mono ?_
            rintro e w3 ⟨rfl, h⟩
            have HB3 := Lib.hid (hbi.out.trans (h.mono hbi.out.size))
            have HI3 := Lib.hid (own_stays hin.out fun g e => h.block g (own_block' hin.out e).2.1)
            have hM := HB3.out.size
            obtain ⟨i0, hi0, hz0, hz1, hz2⟩ := info_parts infoBl
            clear h c0
            go_wp2_with (at_builtin; refine wpList_append_own_at _ rfl _ _ 62 rfl wo.heap.size 4 i0 _ 1 1 Try.underlying62 hi0 hz0 hz1 hz2 rfl (by decide) _ b (bcells b (pB a)) rfl (HI3.out.alloc _) ⟨w3.heap.size, 0, none⟩ 1 1 [.bool (pB a b)] rfl rfl (cell_one_new _ _ _) (by simp [Value.oneCell']) (by unfold maxLen; omega) (by omega) (by simp; omega) ?_; intro v' w4 hown hgr _ _)
            have HI4 := Lib.hid (show w4.ownsRow wo.heap.size 4 1 v' (b + 1) (bcells (b + 1) (pB a)) from by rw [bcells_succ]; exact hown)
            have HB4 := Lib.hid ((HB3.out.alloc hM _).grown hgr (by simp; omega) (fun g e => (own_block' HI3.out e).1))
            exact ⟨⟨b + 1, by go_num, by omega, HI4, HB4⟩, by simp [intOf]; omega⟩
          · obtain rfl : b = l.length := by omega
            have HPA := Lib.hid (hpa.out.later hbi.out)
            have HBW := Lib.hid (hbw.out.trans (hbi.out.mono hbw.out.size))
            have HFB := Lib.hid (hfb.out.later hbi.out)
            have hM := HBW.out.size
            obtain ⟨gX, cX, hvX, _, _⟩ := World.ownsRow.form hin.out (by omega)
            obtain ⟨X, hX⟩ : ∃ X : Option Addr, X = some ⟨gX, 0, none⟩ := ⟨_, rfl⟩
            rw [← hX] at hvX
            subst hvX
            clear hX
            have HRW := Lib.hid (own_down hin.out hbw.out.size)
            obtain ⟨i0, hi0, hz0, hz1, hz2⟩ := info_parts infoBs
            go_wp2_with (at_builtin; refine wpList_append_own_at _ rfl _ _ 69 rfl w.heap.size 62 i0 _ 1 24 Try.underlying69 hi0 hz0 hz1 hz2 rfl (by decide) _ rs.length (rcells l.length rs) rfl (HPA.out.row.alloc _) ⟨wr.heap.size, 0, none⟩ 1 1 [.slice X l.length cX] rfl rfl (cell_one_new _ _ _) (by simp [Value.oneCell']) (by unfold maxLen; omega) (by omega) (by simp; omega) ?_; intro v' w4 hown hgr _ _)
            have HP4 := Lib.hid (HPA.out.more (t := (X, cX)) (by rw [hrs]; exact HRW.out) hgr hown)
            have HF4 := Lib.hid (show FBx w4 w.heap.size A c l from by
              refine ((hgr.block w.heap.size (by simp; have := HFB.out.lt; omega) (fun e => ?_)).trans (heap_alloc_old _ _ HFB.out.lt)).trans HFB.out
              obtain ⟨_, _, cs, hcs⟩ := own_block' HPA.out.row e.symm
              have h := HFB.out
              unfold FBx Bx at h
              rw [hcs] at h
              cases h)
            have HB4 := Lib.hid ((HBW.out.alloc hM _).grown hgr (by simp; omega) (fun g e => (own_block' HPA.out.row e).1))
            exact ⟨⟨a + 1, rs ++ [(X, cX)], by go_num, by omega, by simp [hrs], HP4, HF4, HB4⟩, by simp [intOf]; omega⟩
      · obtain rfl : a = l.length := by omega
        have HFIN := Lib.hid (show PaRes l pB w (.returned u5) wo from ⟨_, rs, rfl, hpa.out, hrs, hbw.out⟩)
        go_wp2_with (fail)
        go_ret
        exact HFIN.out
  | false =>
    show Code.wp _ _ (bodyPost _ _ (PaRes l dB w)) _ _
    have HP0 := Lib.hid (HP0.out dB)
    go_wp2_with (fail)
    generalize ((w.alloc (.cells #[.slice A l.length c] 24)).alloc (.cells #[] 62)) = w1 at *
    clear c0
    go_loopw [5, 6] (fun v i wr => ∃ (a : Nat) (rs : List (Option Addr × Nat)), i = .int .i64 (a : Int) ∧ a ≤ l.length ∧ rs.length = a ∧ Hid (PaRow wr w.heap.size l.length v rs dB) ∧ Hid (FBx wr w.heap.size A c l) ∧ Hid (Below w.heap.size w wr)) (fun _ i _ => l.length - (intOf i).toNat)
    case atStart => exact ⟨0, [], rfl, Nat.zero_le _, rfl, HP0, HF1, HB1⟩
    case round =>
      obtain ⟨a, rs, rfl, ha, hrs, hpa, hfb, hbw⟩ := hrel
      generalize wr = wo at *
      have c0 := hfb.out.cell
      by_cases hal : a < l.length
      · have hal2 := (Below.refl wo.heap.size wo).alloc (Nat.le_refl _) (.cells #[] 4)
        have HI0 := Lib.hid (show (wo.alloc (.cells #[] 4)).ownsRow wo.heap.size 4 1 (.slice (some ⟨wo.heap.size, 0, none⟩) 0 0) 0 (bcells 0 (dB a)) from ⟨rfl, .inr ⟨wo.heap.size, 0, _, rfl, Nat.le_refl _, heap_alloc_new wo _, Nat.le_refl _, by decide, rfl, rfl⟩⟩)
        have HB0 := Lib.hid hal2
        clear hal2
        go_wp2_with (fail)
        generalize (wo.alloc (.cells #[] 4)) = w2 at *
        clear c0
        go_loopw [7, 8] (fun v i wr => ∃ b : Nat, i = .int .i64 (b : Int) ∧ b ≤ l.length ∧ Hid (wr.ownsRow wo.heap.size 4 1 v b (bcells b (dB a))) ∧ Hid (Below wo.heap.size wo wr)) (fun _ i _ => l.length - (intOf i).toNat)
        case atStart => exact ⟨0, rfl, Nat.zero_le _, HI0, HB0⟩
        case round =>
          obtain ⟨b, rfl, hb, hin, hbi⟩ := hrel
          have c0 := (hfb.out.later hbi.out).cell
          by_cases hbl : b < l.length
          · have HBW := Lib.hid (hbw.out.trans (hbi.out.mono hbw.out.size))
            go_wp2_with (fail)
            refine (HD1.out _ a b HBW.out).mono ?_
            rintro e w3 ⟨rfl, h⟩
            have HB3 := Lib.hid (hbi.out.trans (h.mono hbi.out.size))
            have HI3 := Lib.hid (own_stays hin.out fun g e => h.block g (own_block' hin.out e).2.1)
            have hM := HB3.out.size
            obtain ⟨i0, hi0, hz0, hz1, hz2⟩ := info_parts infoBl
            clear h c0
            go_wp2_with (at_builtin; refine wpList_append_own_at _ rfl _ _ 62 rfl wo.heap.size 4 i0 _ 1 1 Try.underlying62 hi0 hz0 hz1 hz2 rfl (by decide) _ b (bcells b (dB a)) rfl (HI3.out.alloc _) ⟨w3.heap.size, 0, none⟩ 1 1 [.bool (dB a b)] rfl rfl (cell_one_new _ _ _) (by simp [Value.oneCell']) (by unfold maxLen; omega) (by omega) (by simp; omega) ?_; intro v' w4 hown hgr _ _)
            have HI4 := Lib.hid (show w4.ownsRow wo.heap.size 4 1 v' (b + 1) (bcells (b + 1) (dB a)) from by rw [bcells_succ]; exact hown)
            have HB4 := Lib.hid ((HB3.out.alloc hM _).grown hgr (by simp; omega) (fun g e => (own_block' HI3.out e).1))
            exact ⟨⟨b + 1, by go_num, by omega, HI4, HB4⟩, by simp [intOf]; omega⟩
          · obtain rfl : b = l.length := by omega
            have HPA := Lib.hid (hpa.out.later hbi.out)
            have HBW := Lib.hid (hbw.out.trans (hbi.out.mono hbw.out.size))
            have HFB := Lib.hid (hfb.out.later hbi.out)
            have hM := HBW.out.size
            obtain ⟨gX, cX, hvX, _, _⟩ := World.ownsRow.form hin.out (by omega)
            obtain ⟨X, hX⟩ : ∃ X : Option Addr, X = some ⟨gX, 0, none⟩ := ⟨_, rfl⟩
            rw [← hX] at hvX
            subst hvX
            clear hX
            have HRW := Lib.hid (own_down hin.out hbw.out.size)
            obtain ⟨i0, hi0, hz0, hz1, hz2⟩ := info_parts infoBs
            go_wp2_with (at_builtin; refine wpList_append_own_at _ rfl _ _ 69 rfl w.heap.size 62 i0 _ 1 24 Try.underlying69 hi0 hz0 hz1 hz2 rfl (by decide) _ rs.length (rcells l.length rs) rfl (HPA.out.row.alloc _) ⟨wr.heap.size, 0, none⟩ 1 1 [.slice X l.length cX] rfl rfl (cell_one_new _ _ _) (by simp [Value.oneCell']) (by unfold maxLen; omega) (by omega) (by simp; omega) ?_; intro v' w4 hown hgr _ _)
            have HP4 := Lib.hid (HPA.out.more (t := (X, cX)) (by rw [hrs]; exact HRW.out) hgr hown)
            have HF4 := Lib.hid (show FBx w4 w.heap.size A c l from by
              refine ((hgr.block w.heap.size (by simp; have := HFB.out.lt; omega) (fun e => ?_)).trans (heap_alloc_old _ _ HFB.out.lt)).trans HFB.out
              obtain ⟨_, _, cs, hcs⟩ := own_block' HPA.out.row e.symm
              have h := HFB.out
              unfold FBx Bx at h
              rw [hcs] at h
              cases h)
            have HB4 := Lib.hid ((HBW.out.alloc hM _).grown hgr (by simp; omega) (fun g e => (own_block' HPA.out.row e).1))
            exact ⟨⟨a + 1, rs ++ [(X, cX)], by go_num, by omega, by simp [hrs], HP4, HF4, HB4⟩, by simp [intOf]; omega⟩
      · obtain rfl : a = l.length := by omega
        have HFIN := Lib.hid (show PaRes l dB w (.returned u5) wo from ⟨_, rs, rfl, hpa.out, hrs, hbw.out⟩)
        go_wp2_with (fail)
        go_ret
        exact HFIN.out
end Go.Proofs.Ytbdpdbeekbbehaa
