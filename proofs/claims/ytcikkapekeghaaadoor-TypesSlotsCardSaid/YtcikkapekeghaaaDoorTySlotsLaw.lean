/- What is proved: the law TypesSlots, over the example's contract. -/
import Derived.Test.YtcikkapekeghaaaDoorTySameLaw
import Derived.Test.YtcikkapekeghaaaDoorTyLay
set_option linter.unusedVariables false
namespace Go.Proofs.YtcikkapekeghaaaDoor
open Go.RowKit

/-- the scalars of all types are as many as the slots -/
theorem scalK_tot {l : List RcV} (vs : List VarV) : ∀ k, k ≤ vs.length → (∀ (j : Nat) (h : j < vs.length), j < k → validB vs[j].ty l = true) → (scalK (vs.map (·.ty)) l k).length = totK l vs k := by
  intro k
  induction k with
  | zero => intro _ _; rfl
  | succ k ih =>
    intro hk hv
    rw [scalK_succ l (by rw [List.length_map]; omega), totK_succ l (by omega), List.length_append, ih (by omega) (fun j h hj => hv j h (by omega))]
    have h := hv k (by omega) (by omega)
    unfold szT
    rw [h]
    simp
theorem scalT_tot {l : List RcV} {vs : List VarV} (hv : ∀ (j : Nat) (h : j < vs.length), validB vs[j].ty l = true) : (scalT (vs.map (·.ty)) l).length = totK l vs vs.length := by
  rw [scalT_good (fun j h _ => by simpa using hv j (by simpa using h))]
  have h := scalK_tot (l := l) vs vs.length (Nat.le_refl _) (fun j h _ => hv j h)
  simpa using h

theorem scal_tot (A Y : Option Addr) (c cy n : Nat) (l : List RcV) (vs : List VarV) (W : World) (hr : RRow W.heap.size W A l) (ht : TRow W.heap.size W Y (vs.map (·.ty))) (hl : l.length ≤ 1000000000) (h20 : ∀ r ∈ l, r.flds.length ≤ 20) (hvs : vs.length ≤ 1000) (hv : ∀ (j : Nat) (h : j < vs.length), validB vs[j].ty l = true) (hn : totK l vs vs.length = n) :
    Calls Tryd.prog 15 #[.slice A l.length c, .slice Y vs.length cy] W fun e w' => ∃ A' c', e = .returned (.slice A' n c') ∧ Below W.heap.size W w' := by
  have h := scalars_any A Y c cy l (vs.map (·.ty)) W hr ht hl h20 (by simpa using hvs)
  rw [List.length_map] at h
  refine h.mono ?_
  rintro e w' ⟨v, rfl, ho, hb⟩
  rw [scalT_tot hv, hn] at ho
  obtain ⟨A', c', rfl, _⟩ := own_form ho
  exact ⟨A', c', rfl, hb⟩
/-- the cells of a variable with another slot -/
theorem VCells.put {w : World} {b o : Nat} {y : VarV} {s : Int} (h : VCells w b o (y.at_ s)) : w.cell? ⟨b, o, none⟩ = some (.string y.name) ∧ w.cell? ⟨b, o + 1, none⟩ = some (.int .i64 y.ty.kind) ∧ w.cell? ⟨b, o + 2, none⟩ = some (.int .i64 y.ty.len) ∧ w.cell? ⟨b, o + 3, none⟩ = some (.string y.ty.nm) ∧
    w.cell? ⟨b, o + 4, none⟩ = some (.int .i64 s) ∧ w.cell? ⟨b, o + 5, none⟩ = some (.int .i64 y.node) ∧ w.cell? ⟨b, o + 6, none⟩ = some (.bool y.vr) ∧ w.cell? ⟨b, o + 7, none⟩ = some (.bool y.lp) := h
theorem VBox.put_cells {w : World} {b : Nat} {y : VarV} {s : Int} (h : VBox w b (y.at_ s)) : w.cell? ⟨b, 0, none⟩ = some (.string y.name) ∧ w.cell? ⟨b, 1, none⟩ = some (.int .i64 y.ty.kind) ∧ w.cell? ⟨b, 2, none⟩ = some (.int .i64 y.ty.len) ∧ w.cell? ⟨b, 3, none⟩ = some (.string y.ty.nm) ∧
    w.cell? ⟨b, 4, none⟩ = some (.int .i64 s) ∧ w.cell? ⟨b, 5, none⟩ = some (.int .i64 y.node) ∧ w.cell? ⟨b, 6, none⟩ = some (.bool y.vr) ∧ w.cell? ⟨b, 7, none⟩ = some (.bool y.lp) := h.cells
theorem layK_at {l : List RcV} {vs : List VarV} {k : Nat} (hk : k < vs.length) (h : k < (layK l vs vs.length).length) : (layK l vs vs.length)[k] = vs[k].at_ ((totK l vs k : Nat) : Int) := by
  have h1 := layK_get l vs vs.length (Nat.le_refl _) k hk
  rw [List.getElem?_eq_getElem h] at h1
  exact Option.some.inj h1

/-- what Layout answers, as the law uses it -/
def LayCase (B : Nat) (l : List RcV) (vs : List VarV) (X : Option Addr) (cc m n : Nat) (W : World) : Prop :=
  ((∀ (j : Nat) (h : j < vs.length), validB vs[j].ty l = true) ∧ n = totK l vs vs.length ∧ m = vs.length ∧ W.ownsRow B 39 8 (.slice X m cc) m (vcells (layK l vs vs.length))) ∨
  ((∃ (j : Nat) (h : j < vs.length), validB vs[j].ty l = false) ∧ n = 0 ∧ m = 0)
theorem layout_case (A D : Option Addr) (c d : Nat) (l : List RcV) (vs : List VarV) (w : World) (hr : RRow w.heap.size w A l) (hv : VRow w.heap.size w D vs) (hl : l.length ≤ 1000000000) (h20 : ∀ r ∈ l, r.flds.length ≤ 20) (hvs : vs.length ≤ 1000) :
    Calls Tryd.prog 17 #[.slice A l.length c, .slice D vs.length d] w fun e w' => ∃ (X : Option Addr) (m cc n : Nat), e = .returned (.tuple #[.slice X m cc, .int .i64 (n : Int)]) ∧ LayCase w.heap.size l vs X cc m n w' ∧ n ≤ 20000 ∧ m ≤ 1000 ∧ Below w.heap.size w w' := by
  refine (layout_any A D c d l vs w hr hv hl h20 hvs).mono ?_
  rintro e w' ⟨v, n, rfl, hb, ⟨h1, rfl, ho⟩ | ⟨h1, rfl, rfl⟩⟩
  · obtain ⟨X, cc, rfl, _⟩ := own_form ho
    refine ⟨X, vs.length, cc, totK l vs vs.length, rfl, .inl ⟨h1, rfl, rfl, ho⟩, ?_, hvs, hb⟩
    have h := totK_le (vs := vs) h20 vs.length (Nat.le_refl _)
    omega
  · exact ⟨none, 0, 0, 0, rfl, .inr ⟨h1, rfl, rfl⟩, by omega, by omega, hb⟩
theorem LayCase.later {B : Nat} {l : List RcV} {vs : List VarV} {X : Option Addr} {cc m n : Nat} {W W' : World} (h : LayCase B l vs X cc m n W) (hb : Below W.heap.size W W') : LayCase B l vs X cc m n W' := by
  rcases h with ⟨h1, h2, h3, h4⟩ | h
  · exact .inl ⟨h1, h2, h3, own_below h4 hb⟩
  · exact .inr h
/-- rows of different types lie in different blocks -/
theorem own_ne_own {w : World} {B1 B2 s1 s2 n1 n2 : Nat} {E1 E2 : TypeId} {v1 v2 : Value} {x1 x2 : List Value} (h1 : w.ownsRow B1 E1 s1 v1 n1 x1) (h2 : w.ownsRow B2 E2 s2 v2 n2 x2) (hE : E1 ≠ E2) : v1.ownBlock = none ∨ v1.ownBlock ≠ v2.ownBlock := by
  rcases h1.2 with ⟨rfl, _⟩ | ⟨g, cap, cur, rfl, _, hg, _⟩
  · exact .inl rfl
  · right
    intro e
    rcases h2.2 with ⟨rfl, _⟩ | ⟨g', cap', cur', rfl, _, hg', _⟩
    · cases e
    · cases e
      rw [show w.heap[(⟨g, 0, none⟩ : Addr).block]? = w.heap[g]? from rfl, hg] at hg'
      simp only [Option.some.injEq, Obj.cells.injEq] at hg'
      exact hE hg'.2.1
theorem LayCase.grown {B B2 s2 k : Nat} {l : List RcV} {vs : List VarV} {X : Option Addr} {cc m n : Nat} {W W' : World} {v : Value} {xs : List Value} (h : LayCase B l vs X cc m n W) (ho : W.ownsRow B2 27 s2 v k xs) (hg : W.grownBy W' v.ownBlock) : LayCase B l vs X cc m n W' := by
  rcases h with ⟨h1, h2, h3, h4⟩ | h
  · exact .inl ⟨h1, h2, h3, h4.kept hg (own_ne_own h4 ho (by decide))⟩
  · exact .inr h

set_option maxRecDepth 100000 in
set_option maxHeartbeats 4000000 in
/-- not few -/
theorem slots_many (HAW : Awakes) (A D : Option Addr) (c d : Nat) (l : List RcV) (vs : List VarV) (w : World) (hl : l.length ≤ 9223372036854775807) (hvl : vs.length ≤ 9223372036854775807) (hr : RRowW w.heap.size w A l) (hf : fewB l = false ∨ fewB l = true ∧ 20 < vs.length) :
    Calls Tryd.prog 4 #[.slice A l.length c, .slice D vs.length d] w (Yes w) := by
  have HR := Lib.hid hr
  clear hr
  rcases hf with h1 | ⟨h1, h2⟩
  all_goals
    have HF1 := Lib.hid h1
    clear h1
  · go_enter Tryd.func4, Tryd.ntmps4
    go_wp2_with (fail)
    refine (fewW_f A c l w false HF1.out hl HR.out).mono ?_
    rintro e w1 ⟨rfl, rfl⟩
    go_wp2_with (fail)
    refine (HAW w).mono ?_
    rintro e w2 ⟨rfl, hb2⟩
    have HB2 := Lib.hid hb2
    clear hb2
    go_wp2_with (fail)
    go_ret
    exact ⟨rfl, HB2.out⟩
  · have h3 : decide ((20 : Int) < (vs.length : Int)) = true := by simp; omega
    go_enter Tryd.func4, Tryd.ntmps4
    go_wp2_with (fail)
    refine (fewW_f A c l w true HF1.out hl HR.out).mono ?_
    rintro e w1 ⟨rfl, rfl⟩
    go_wp2_with (fail)
    refine (HAW w).mono ?_
    rintro e w2 ⟨rfl, hb2⟩
    have HB2 := Lib.hid hb2
    clear hb2
    go_wp2_with (fail)
    go_ret
    exact ⟨rfl, HB2.out⟩

set_option maxRecDepth 100000 in
set_option maxHeartbeats 8000000 in
/-- few -/
theorem slots_few (HAW : Awakes) (A D : Option Addr) (c d : Nat) (l : List RcV) (vs : List VarV) (w : World) (h1 : fewB l = true) (hvl : vs.length ≤ 20) (hr : RRow w.heap.size w A l) (hwr : RRowW w.heap.size w A l) (hv : VRow w.heap.size w D vs) :
    Calls Tryd.prog 4 #[.slice A l.length c, .slice D vs.length d] w (Yes w) := by
  obtain ⟨i0, hi0, hz0, hz1, hz2⟩ := info_parts infoType
  have hll := few_len h1
  have hl9 : l.length ≤ 1000000000 := by omega
  have HF1 := Lib.hid h1
  have HR := Lib.hid hr
  have HWR := Lib.hid hwr
  have HVR := Lib.hid hv
  have HAWH := Lib.hid HAW
  have H20 := Lib.hid (fun (r : RcV) (hr : r ∈ l) => few_fields HF1.out hr)
  have h3 : decide ((20 : Int) < (vs.length : Int)) = false := by simp; omega
  clear h1 hr hwr hv HAW
  go_enter Tryd.func4, Tryd.ntmps4
  go_wp2_with (fail)
  refine (fewW_f A c l w true HF1.out (by omega) HWR.out).mono ?_
  rintro e w1 ⟨rfl, rfl⟩
  go_wp2_with (fail)
  clear h3
  refine (layout_case A D c d l vs w HR.out HVR.out hl9 H20.out (by omega)).mono ?_
  rintro e w1 ⟨X, m, cc, n, rfl, hlc, hn, hm, hb1⟩
  have HLC := Lib.hid hlc
  have HB1 := Lib.hid hb1
  clear hlc hb1
  go_wp2_with (fail)
  go_loopw [7, 30] (fun v i wr => ∃ k : Nat, k ≤ vs.length ∧ i = .int .i64 (k : Int) ∧ Hid (∀ (j : Nat) (h : j < vs.length), j < k → validB vs[j].ty l = true) ∧ Hid (wr.ownsRow w.heap.size 27 3 v k (tcells ((vs.map (·.ty)).take k))) ∧ Hid (LayCase w.heap.size l vs X cc m n wr) ∧ Hid (Below w.heap.size w wr)) (fun _ i _ => vs.length - (intOf i).toNat)
  case atStart => exact ⟨0, Nat.zero_le _, rfl, Lib.hid (fun j _ h => absurd h (by omega)), Lib.hid (by simpa [tcells] using World.ownsRow_nil _ _ _ _), HLC, HB1⟩
  case round =>
    obtain ⟨k, hk, rfl, hvv, hown, hlcr, hbw⟩ := hrel
    by_cases hlt : k < vs.length
    · obtain ⟨g0, off, hD, hb, hcs⟩ := (HVR.out.below hbw.out) (by omega)
      obtain ⟨c0, c1, c2, c3, c4, c5, c6, c7⟩ := hcs k hlt
      clear hcs
      obtain ⟨y, HX⟩ : ∃ x, Hid (vs[k] = x) := ⟨_, Lib.hid rfl⟩
      rw [HX.out] at c0 c1 c2 c3 c4 c5 c6 c7
      have hzw := hbw.out.size
      rw [hD]
      go_wp2_with (fail)
      clear c0 c1 c2 c3 c4 c5 c6 c7
      obtain ⟨hal, hc0, hza⟩ := box_var wr y
      generalize (wr.alloc (.cells #[.string y.name, .int .i64 y.ty.kind, .int .i64 y.ty.len, .string y.ty.nm, .int .i64 y.slot, .int .i64 y.node, .bool y.vr, .bool y.lp] 39)) = wa at *
      have HAL := Lib.hid hal
      have HBX := Lib.hid hc0
      have HZA := Lib.hid hza
      clear hal hc0 hza
      cases hv : validB y.ty l with
      | false =>
        have HV := Lib.hid hv
        clear hv
        refine (valid_f y.ty A c l wa false HV.out ((HR.out.later hbw.out).later HAL.out) hl9).mono ?_
        rintro e w2 ⟨rfl, hb2⟩
        have HB2 := Lib.hid (hbw.out.trans ((HAL.out.trans (hb2.mono (by have := HZA.out; omega))).mono hzw))
        clear hb2
        rcases hlcr.out with ⟨hall, _⟩ | ⟨_, hn0, hm0⟩
        · exfalso
          have h := hall k hlt
          rw [HX.out, HV.out] at h
          cases h
        · subst hn0
          subst hm0
          go_wp2_with (fail)
          refine (HAWH.out w2).mono ?_
          rintro e w3 ⟨rfl, hb3⟩
          have HB3 := Lib.hid (HB2.out.trans (hb3.mono HB2.out.size))
          clear hb3
          go_wp2_with (fail)
          go_ret
          exact ⟨rfl, HB3.out⟩
      | true =>
        have HV := Lib.hid hv
        clear hv
        refine (valid_f y.ty A c l wa true HV.out ((HR.out.later hbw.out).later HAL.out) hl9).mono ?_
        rintro e w2 ⟨rfl, hb2⟩
        have HB2 := Lib.hid (hbw.out.trans ((HAL.out.trans (hb2.mono (by have := HZA.out; omega))).mono hzw))
        have HO2 := Lib.hid ((own_below (own_below hown.out HAL.out) hb2).alloc (.cells #[.int .i64 ((y.ty)).kind, .int .i64 ((y.ty)).len, .string ((y.ty)).nm] 27))
        have HLC2 := Lib.hid ((hlcr.out.later HAL.out).later hb2)
        have HLT := Lib.hid (fun q e => hown.out.lt q e)
        obtain ⟨d0, d1, d2, d3, d4, d5, d6, d7⟩ := (HBX.out.below hb2 (by have := HZA.out; omega)).cells
        have HT := Lib.hid (show tcells ((vs.map (·.ty)).take (k + 1)) = tcells ((vs.map (·.ty)).take k) ++ tcells [y.ty] by
          rw [← tcells_append, List.take_succ_eq_append_getElem (by simpa using hlt), List.getElem_map, HX.out])
        have HVK := Lib.hid (show ∀ (j : Nat) (h : j < vs.length), j < k + 1 → validB vs[j].ty l = true from fun j h hj => by
          rcases Nat.lt_or_ge j k with h' | h'
          · exact hvv.out j h h'
          · obtain rfl : j = k := by omega
            rw [HX.out]; exact HV.out)
        have HZ2 := Lib.hid (show w.heap.size ≤ w2.heap.size from HB2.out.size)
        clear hb2
        go_wp2_with (at_builtin; refine wpList_append_lies _ rfl _ _ 23 rfl w.heap.size 27 i0 _ 3 32 Tryd.underlying23 hi0 hz0 hz1 hz2 rfl (by decide) _ _ _ rfl HO2.out ⟨w2.heap.size, 0, none⟩ 1 1 (tcells [y.ty]) rfl rfl (World.news_of_block (cs := #[.int .i64 ((y.ty)).kind, .int .i64 ((y.ty)).len, .string ((y.ty)).nm]) (heap_alloc_new w2 _)) (tcells_one _) (by decide) ?c3 ?c4 ?c5 (w2.heap.size + 1) (by simp) ?_)
        case c3 => unfold maxLen; omega
        case c4 => omega
        case c5 => have := HZ2.out; simp; omega
        intro g cap w3 hown3 hgr hsel hgl
        have HO3 := Lib.hid hown3
        have HB3 := Lib.hid ((HB2.out.alloc HZ2.out (.cells #[.int .i64 ((y.ty)).kind, .int .i64 ((y.ty)).len, .string ((y.ty)).nm] 27)).grown hgr (by have := HZ2.out; simp; omega) (fun b e => (HLT.out b e).1))
        have HLC3 := Lib.hid ((HLC2.out.later ((Below.refl w2.heap.size w2).alloc (Nat.le_refl _) (.cells #[.int .i64 ((y.ty)).kind, .int .i64 ((y.ty)).len, .string ((y.ty)).nm] 27))).grown HO2.out hgr)
        clear hown3 hgr hsel hgl d0 d1 d2 d3 d4 d5 d6 d7
        go_wp2_with (fail)
        exact ⟨⟨k + 1, by omega, by go_num, HVK, by rw [HT.out]; exact HO3, HLC3, HB3⟩, by simp [intOf]; omega⟩
    · obtain rfl : k = vs.length := by omega
      rcases hlcr.out with ⟨hall, hnt, hmt, hox⟩ | ⟨⟨j, hj, hbad⟩, _⟩
      · have hone := hown.out
        rw [List.take_of_length_le (by simp)] at hone
        obtain ⟨Y, cy, hY, hty⟩ := types_own (l := vs.map (·.ty)) (by simpa using hone)
        subst hmt
        have hlen := layK_len l vs vs.length (Nat.le_refl _)
        obtain ⟨X', cc', hX, hvx⟩ := vars_own (l := layK l vs vs.length) (by rw [hlen]; exact hox)
        rw [hlen] at hX
        cases hX
        rw [List.length_map] at hY
        subst hY
        have HALL := Lib.hid hall
        have HNT := Lib.hid hnt
        have HTY := Lib.hid hty
        have HVX := Lib.hid hvx
        have HBW := Lib.hid hbw.out
        have HLEN := Lib.hid hlen
        clear hall hnt hox hty hvx hone hlen hown hlcr hbw hvv
        generalize wr = w5 at *
        go_wp2_with (fail)
        go_loopw [10, 62] (fun s i wr => ∃ k t : Nat, k ≤ vs.length ∧ t ≤ 20000 ∧ i = .int .i64 (k : Int) ∧ s = .int .i64 (t : Int) ∧ Hid (totK l vs k = t) ∧ Hid (Below w5.heap.size w5 wr)) (fun _ i _ => vs.length - (intOf i).toNat)
        case atStart => exact ⟨0, 0, Nat.zero_le _, by omega, rfl, rfl, Lib.hid rfl, Lib.hid (Below.refl _ _)⟩
        case round =>
          obtain ⟨k, t, hk, ht, rfl, rfl, htk, hbr⟩ := hrel
          have HBR := Lib.hid (HBW.out.trans (hbr.out.mono HBW.out.size))
          by_cases hlt : k < vs.length
          · obtain ⟨g0, off, hD, hb, hcs⟩ := (HVR.out.below HBR.out) (by omega)
            have hd := hcs k hlt
            obtain ⟨gx, ox, hX, hbx, hcx⟩ := (HVX.out.below hbr.out) (by rw [HLEN.out]; omega)
            have hx := hcx k (by rw [HLEN.out]; exact hlt)
            rw [layK_at hlt, htk.out] at hx
            clear hcs hcx
            obtain ⟨y, HX⟩ : ∃ x, Hid (vs[k] = x) := ⟨_, Lib.hid rfl⟩
            rw [HX.out] at hd hx
            obtain ⟨c0, c1, c2, c3, c4, c5, c6, c7⟩ := hx.put
            have hzw := hbr.out.size
            have HD := Lib.hid hd
            have HVY := Lib.hid (show validB y.ty l = true by rw [← HX.out]; exact HALL.out k hlt)
            clear hx hd
            have i0 : (0 : Int) ≤ (k : Int) := by omega
            have i1 : (k : Int) < (vs.length : Int) := by omega
            subst hX
            subst hD
            go_wp2_with (fail)
            clear c0 c1 c2 c3 c4 c5 c6 c7
            have hal := (Below.refl wr.heap.size wr).alloc (Nat.le_refl _) (.cells #[.string y.name, .int .i64 y.ty.kind, .int .i64 y.ty.len, .string y.ty.nm, .int .i64 (t : Int), .int .i64 y.node, .bool y.vr, .bool y.lp] 39)
            have hbo : VBox (wr.alloc (.cells #[.string y.name, .int .i64 y.ty.kind, .int .i64 y.ty.len, .string y.ty.nm, .int .i64 (t : Int), .int .i64 y.node, .bool y.vr, .bool y.lp] 39)) wr.heap.size (y.at_ (t : Int)) := heap_alloc_new wr _
            have hza : (wr.alloc (.cells #[.string y.name, .int .i64 y.ty.kind, .int .i64 y.ty.len, .string y.ty.nm, .int .i64 (t : Int), .int .i64 y.node, .bool y.vr, .bool y.lp] 39)).heap.size = wr.heap.size + 1 := by simp
            generalize (wr.alloc (.cells #[.string y.name, .int .i64 y.ty.kind, .int .i64 y.ty.len, .string y.ty.nm, .int .i64 (t : Int), .int .i64 y.node, .bool y.vr, .bool y.lp] 39)) = wa at *
            have HAL := Lib.hid hal
            have HZA := Lib.hid hza
            have HBO := Lib.hid hbo
            obtain ⟨e0, e1, e2, e3, e4, e5, e6, e7⟩ := hbo.put_cells
            obtain ⟨d0, d1, d2, d3, d4, d5, d6, d7⟩ := HD.out.below hal (show g0 < wr.heap.size by have := HBR.out.size; omega)
            clear hal hza hbo d4
            go_region_held3 (fun w' => w'.cell? ⟨wr.heap.size, 0, none⟩ = some (.string y.name) ∧ w'.cell? ⟨wr.heap.size, 1, none⟩ = some (.int .i64 y.ty.kind) ∧ w'.cell? ⟨wr.heap.size, 2, none⟩ = some (.int .i64 y.ty.len) ∧ w'.cell? ⟨wr.heap.size, 3, none⟩ = some (.string y.ty.nm) ∧ w'.cell? ⟨wr.heap.size, 4, none⟩ = some (.int .i64 (t : Int)) ∧ w'.cell? ⟨wr.heap.size, 5, none⟩ = some (.int .i64 y.node) ∧ w'.cell? ⟨wr.heap.size, 6, none⟩ = some (.bool y.vr) ∧ w'.cell? ⟨wr.heap.size, 7, none⟩ = some (.bool y.lp) ∧ w'.cell? ⟨g0, off + k * 8, none⟩ = some (.string y.name) ∧ w'.cell? ⟨g0, off + k * 8 + 1, none⟩ = some (.int .i64 y.ty.kind) ∧ w'.cell? ⟨g0, off + k * 8 + 2, none⟩ = some (.int .i64 y.ty.len) ∧ w'.cell? ⟨g0, off + k * 8 + 3, none⟩ = some (.string y.ty.nm) ∧ w'.cell? ⟨g0, off + k * 8 + 5, none⟩ = some (.int .i64 y.node) ∧ w'.cell? ⟨g0, off + k * 8 + 6, none⟩ = some (.bool y.vr) ∧ w'.cell? ⟨g0, off + k * 8 + 7, none⟩ = some (.bool y.lp)) (go_keep) (fail)
            go_wp2_with (fail)
            clear e0 e1 e2 e3 e4 e5 e6 e7 d0 d1 d2 d3 d5 d6 d7
            have HBA := Lib.hid (hbr.out.trans (HAL.out.drew.mono hzw))
            have HBW2 := Lib.hid (HBW.out.trans (HBA.out.mono HBW.out.size))
            obtain ⟨m, hm⟩ : ∃ m, szT y.ty l = m := ⟨_, rfl⟩
            have hm20 : m ≤ 20 := by rw [← hm]; exact szT_len HVY.out H20.out
            have HTN := Lib.hid (show totK l vs (k + 1) = t + m by rw [totK_succ l hlt, htk.out, HX.out, hm])
            have HSZ := Lib.hid (size_any y.ty A c l wa.drew (HR.out.later HBW2.out) hl9)
            rw [hm] at HSZ
            have hwr : IntKind.i64.wrap ((t : Int) + (m : Int)) = (t : Int) + (m : Int) := IntWalk.i64_in _ (by omega)
            have htm : t + m ≤ 20000 := by
              have h := totK_le (vs := vs) H20.out (k + 1) (by omega)
              rw [HTN.out] at h
              omega
            clear hm
            refine HSZ.out.mono ?_
            rintro e w6 ⟨rfl, hb6⟩
            have HB6 := Lib.hid (HBA.out.trans (hb6.mono HBA.out.size))
            clear hb6
            go_wp2_with (fail)
            exact ⟨⟨k + 1, t + m, by omega, htm, by go_num, by go_num, HTN, HB6⟩, by simp [intOf]; omega⟩
          · obtain rfl : k = vs.length := by omega
            have hnn : t = n := by rw [HNT.out, htk.out]
            subst hnn
            go_wp2_with (fail)
            refine (scal_tot A Y c cy t l vs wr (HR.out.later HBR.out) (HTY.out.later hbr.out) hl9 H20.out (by omega) HALL.out htk.out).mono ?_
            rintro e w6 ⟨A', c', rfl, hb6⟩
            have HB6 := Lib.hid (HBR.out.trans (hb6.mono HBR.out.size))
            clear hb6
            go_wp2_with (fail)
            refine (HAWH.out w6).mono ?_
            rintro e w7 ⟨rfl, hb7⟩
            have HB7 := Lib.hid (HB6.out.trans (hb7.mono HB6.out.size))
            clear hb7
            go_wp2_with (fail)
            go_ret
            exact ⟨rfl, HB7.out⟩
      · exfalso
        have h := hvv.out j hj hj
        rw [hbad] at h
        cases h

theorem typesSlots_any (HAW : Awakes) (A D : Option Addr) (c d : Nat) (l : List RcV) (vs : List VarV) (w : World) (hl : l.length ≤ 9223372036854775807) (hvl : vs.length ≤ 9223372036854775807) (hr : RRowW w.heap.size w A l) (hv : VRow w.heap.size w D vs) :
    Calls Tryd.prog 4 #[.slice A l.length c, .slice D vs.length d] w fun e w' => e = .returned (.bool true) ∧ Below w.heap.size w w' := by
  cases h1 : fewB l with
  | false => exact (slots_many HAW A D c d l vs w hl hvl hr (.inl h1)).mono fun _ _ h => h
  | true =>
    by_cases h2 : vs.length ≤ 20
    · exact (slots_few HAW A D c d l vs w h1 h2 (hr.few h1) hr hv).mono fun _ _ h => h
    · exact (slots_many HAW A D c d l vs w hl hvl hr (.inr ⟨h1, by omega⟩)).mono fun _ _ h => h
end Go.Proofs.YtcikkapekeghaaaDoor
