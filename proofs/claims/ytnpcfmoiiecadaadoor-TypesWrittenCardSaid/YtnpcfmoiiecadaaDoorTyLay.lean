/- What is proved: Layout. -/
import Derived.Test.YtnpcfmoiiecadaaDoorTyVar
import Derived.Test.YtnpcfmoiiecadaaDoorTyScal
set_option linter.unusedVariables false
namespace Go.Proofs.YtnpcfmoiiecadaaDoor
open Go.RowKit

theorem ty_own_set {w : World} {B n sz a i : Nat} {E : TypeId} {v : Value} {xs : List Value} (h : w.ownsRow B E sz v n xs) (hne : ∀ g, v.ownBlock = some g → g ≠ a) (u : Value) : (w.setCell ⟨a, i, none⟩ u).ownsRow B E sz v n xs := by
  refine ⟨h.1, ?_⟩
  rcases h.2 with h0 | ⟨g, cap, cur, hv, hb, hg, hr⟩
  · exact .inl h0
  · refine .inr ⟨g, cap, cur, hv, hb, ?_, hr⟩
    rw [Below.heap_setCell w ⟨a, i, none⟩ u g (hne g (by rw [hv]; rfl))]
    exact hg
theorem Sz.set {w : World} {b B n c a i : Nat} {A : Option Addr} (h : Sz w b B A n c) (h1 : b ≠ a) (h2 : B ≠ a) (u : Value) : Sz (w.setCell ⟨a, i, none⟩ u) b B A n c :=
  ⟨World.ownsMap.setCell h.map (a := ⟨a, i, none⟩) h1 u, (Below.heap_setCell w ⟨a, i, none⟩ u B h2).trans h.box⟩
theorem Sz.lt {w : World} {b B n c : Nat} {A : Option Addr} (h : Sz w b B A n c) : b < w.heap.size ∧ B < w.heap.size := ⟨World.ownsMap.lt h.map, (Array.getElem?_eq_some_iff.1 h.box).1⟩

theorem Sz.grown {w w' : World} {b B n c : Nat} {A : Option Addr} {row : Option Nat} (h : Sz w b B A n c) (hg : w.grownBy w' row) (h1 : ∀ q, row = some q → q ≠ b ∧ q ≠ B) : Sz w' b B A n c :=
  ⟨World.ownsMap.kept h.map hg (fun e => (h1 _ e.symm).1 rfl), (hg.block _ h.lt.2 (fun e => (h1 _ e.symm).2 rfl)).trans h.box⟩
theorem own_ne_sz {w : World} {b B n c B0 sz k : Nat} {A : Option Addr} {v : Value} {xs : List Value} (h : Sz w b B A n c) (ho : w.ownsRow B0 56 sz v k xs) : ∀ q, v.ownBlock = some q → q ≠ b ∧ q ≠ B := by
  intro q hq
  rcases ho.2 with ⟨rfl, _⟩ | ⟨g, cap, cur, rfl, _, hg, _⟩
  · cases hq
  · cases hq
    refine ⟨fun e => ?_, fun e => ?_⟩
    · have hm := h.map
      obtain ⟨es, clock, hb, _⟩ := hm
      rw [← e, show w.heap[(⟨g, 0, none⟩ : Addr).block]? = w.heap[g]? from rfl, hg] at hb
      cases hb
    · have hm := h.box
      unfold RBox at hm
      rw [← e, show w.heap[(⟨g, 0, none⟩ : Addr).block]? = w.heap[g]? from rfl, hg] at hm
      simp at hm
theorem one_m (t : TyV) (w : World) (m : Nat) (h : m = 1) : Calls Tryd.prog 57 #[.agg #[.int .i64 t.kind, .int .i64 t.len, .string t.nm]] w fun e w' => e = .returned (.int .i64 (m : Int)) ∧ Below w.heap.size w w' := by
  subst h; exact one_any t w
theorem lenOf_m (t : TyV) (w : World) (m : Nat) (h : (m : Int) = t.len) : Calls Tryd.prog 58 #[.agg #[.int .i64 t.kind, .int .i64 t.len, .string t.nm]] w fun e w' => e = .returned (.int .i64 (m : Int)) ∧ Below w.heap.size w w' := by
  rw [h]; exact lenOf_any t w
theorem count_m (t : TyV) (A : Option Addr) (c B : Nat) (l : List RcV) (r : RcV) (w : World) (m : Nat) (h : m = r.flds.length) (hB : RBox w B A l.length c) (hf : fndR l t.nm = some r) (hr : RRow w.heap.size w A l) (hl : l.length ≤ 1000000000) :
    Calls Tryd.prog 59 #[.agg #[.int .i64 t.kind, .int .i64 t.len, .string t.nm], .pointer (some ⟨B, 0, none⟩)] w fun e w' => e = .returned (.int .i64 (m : Int)) ∧ Below w.heap.size w w' := by
  subst h; exact count_any t A c B l r w hB hf hr hl

/-- variables with slots are returned, and their number -/
def LayRes (l : List RcV) (vs : List VarV) (w : World) (e : Ending) (w' : World) : Prop :=
  ∃ (v : Value) (n : Int), e = .returned (.tuple #[v, .int .i64 n]) ∧ Below w.heap.size w w' ∧
    (((∀ (j : Nat) (h : j < vs.length), validB vs[j].ty l = true) ∧ n = ((totK l vs vs.length : Nat) : Int) ∧ w'.ownsRow w.heap.size 56 8 v vs.length (vcells (layK l vs vs.length))) ∨
     ((∃ (j : Nat) (h : j < vs.length), validB vs[j].ty l = false) ∧ n = 0 ∧ v = .slice none 0 0))

set_option maxRecDepth 100000 in
set_option maxHeartbeats 4000000 in
theorem layout_any (A D : Option Addr) (c d : Nat) (l : List RcV) (vs : List VarV) (w : World) (hr : RRow w.heap.size w A l) (hv : VRow w.heap.size w D vs) (hl : l.length ≤ 1000000000) (h20 : ∀ r ∈ l, r.flds.length ≤ 20) (hvs : vs.length ≤ 1000) :
    Calls Tryd.prog 17 #[.slice A l.length c, .slice D vs.length d] w (LayRes l vs w) := by
  obtain ⟨i0, hi0, hz0, hz1, hz2⟩ := info_parts infoVar
  have HR := Lib.hid hr
  have HVR := Lib.hid hv
  have H20 := Lib.hid h20
  clear hr hv h20
  go_enter Tryd.func17, Tryd.ntmps17
  go_wp2_with (fail)
  refine (sizes_f A l.length c w).mono ?_
  rintro e w1 ⟨b, B, rfl, hsz, hb1⟩
  have HSZ1 := Lib.hid hsz
  have HB1 := Lib.hid hb1
  clear hsz hb1
  go_wp2_with (fail)
  go_loopw [7, 8, 15] (fun v s i wr => ∃ (k n : Nat), k ≤ vs.length ∧ n ≤ 20000 ∧ i = .int .i64 (k : Int) ∧ s = .int .i64 (n : Int) ∧ Hid (∀ (j : Nat) (h : j < vs.length), j < k → validB vs[j].ty l = true) ∧ Hid (totK l vs k = n) ∧ Hid (wr.ownsRow w.heap.size 56 8 v k (vcells (layK l vs k))) ∧ Hid (Sz wr b B A l.length c) ∧ Hid (Below w.heap.size w wr)) (fun _ _ i _ => vs.length - (intOf i).toNat)
  case atStart => exact ⟨0, 0, Nat.zero_le _, by omega, rfl, rfl, Lib.hid (fun j _ h => absurd h (by omega)), Lib.hid rfl, Lib.hid (by simpa [vcells, layK_zero] using World.ownsRow_nil _ _ _ _), HSZ1, HB1⟩
  case round =>
    obtain ⟨k, n, hk, hn, rfl, rfl, hvv, htn, hown, hszr, hbw⟩ := hrel
    by_cases hlt : k < vs.length
    · obtain ⟨g0, off, hD, hb, hcs⟩ := (HVR.out.below hbw.out) (by omega)
      obtain ⟨c0, c1, c2, c3, c4, c5, c6, c7⟩ := hcs k hlt
      clear hcs
      obtain ⟨y, HX⟩ : ∃ x, Hid (vs[k] = x) := ⟨_, Lib.hid rfl⟩
      rw [HX.out] at c0 c1 c2 c3 c4 c5 c6 c7
      have hzw := hbw.out.size
      rw [hD]
      go_wp2_with (fail)
      clear c0 c1 c2 c3 c4 c5 c6 c7
      obtain ⟨hal, hc0, hza⟩ := box_var wr y
      generalize (wr.alloc (.cells #[.string y.name, .int .i64 y.ty.kind, .int .i64 y.ty.len, .string y.ty.nm, .int .i64 y.slot, .int .i64 y.node, .bool y.vr, .bool y.lp] 56)) = wa at *
      have HAL := Lib.hid hal
      have HBX := Lib.hid hc0
      have HZA := Lib.hid hza
      clear hal hc0 hza
      cases hv : validB y.ty l with
      | false =>
        have HV := Lib.hid hv
        clear hv
        refine (ty_valid_f y.ty A c l wa false HV.out ((HR.out.later hbw.out).later HAL.out) hl).mono ?_
        rintro e w2 ⟨rfl, hb2⟩
        have HB2 := Lib.hid (hbw.out.trans ((HAL.out.trans (hb2.mono (by have := HZA.out; omega))).mono hzw))
        clear hb2
        go_wp2_with (fail)
        go_ret2
        exact ⟨_, 0, rfl, HB2.out, .inr ⟨⟨k, hlt, by rw [HX.out]; exact HV.out⟩, rfl, rfl⟩⟩
      | true =>
        have HV := Lib.hid hv
        clear hv
        refine (ty_valid_f y.ty A c l wa true HV.out ((HR.out.later hbw.out).later HAL.out) hl).mono ?_
        rintro e w2 ⟨rfl, hb2⟩
        have HB2 := Lib.hid (hbw.out.trans ((HAL.out.trans (hb2.mono (by have := HZA.out; omega))).mono hzw))
        have HO2 := Lib.hid (ty_own_below (ty_own_below hown.out HAL.out) hb2)
        have HSZ2 := Lib.hid ((hszr.out.below HAL.out).below hb2)
        have HBX2 := Lib.hid (HBX.out.below hb2 (by have := HZA.out; omega))
        have HS2 := Lib.hid (show wr.heap.size + 1 ≤ w2.heap.size from by have := hb2.size; have := HZA.out; omega)
        clear hb2
        obtain ⟨d0, d1, d2, d3, d4, d5, d6, d7⟩ := HBX2.out.cells
        have e4 := HBX2.out.frozen 4
        have hlts := hszr.out.lt
        have HLT := Lib.hid (fun q e => hown.out.lt q e)
        have HS3 := Lib.hid (show wr.heap.size + 1 ≤ (w2.setCell ⟨wr.heap.size, 4, none⟩ (.int .i64 (n : Int))).heap.size by have := HS2.out; simp; omega)
        have HSZ3 := Lib.hid (HSZ2.out.set (a := wr.heap.size) (i := 4) (by omega) (by omega) (.int .i64 (n : Int)))
        obtain ⟨z, HZY⟩ : ∃ z, Hid (y.at_ (n : Int) = z) := ⟨_, Lib.hid rfl⟩
        have HBX3 := Lib.hid (show VBox (w2.setCell ⟨wr.heap.size, 4, none⟩ (.int .i64 (n : Int))) wr.heap.size z by rw [← HZY.out]; exact HBX2.out.put (n : Int))
        have HVZ := Lib.hid (show validB z.ty l = true by rw [← HZY.out]; exact HV.out)
        have HMZ := Lib.hid (show szT z.ty l = szT y.ty l by rw [← HZY.out]; rfl)
        have HO3 := Lib.hid (ty_own_set (a := wr.heap.size) (i := 4) HO2.out (fun q e => by have := (HLT.out q e).2; omega) (.int .i64 (n : Int)))
        have HB3 := Lib.hid (HB2.out.setCell (p := ⟨wr.heap.size, 4, none⟩) hzw (.int .i64 (n : Int)))
        obtain ⟨f0, f1, f2, f3, f4, f5, f6, f7⟩ := HBX3.out.cells
        obtain ⟨m, hm⟩ : ∃ m, szT y.ty l = m := ⟨_, rfl⟩
        have hm20 : m ≤ 20 := by rw [← hm]; exact szT_len HV.out H20.out
        have HM := Lib.hid hm
        have HTN := Lib.hid (show totK l vs (k + 1) = n + m by rw [totK_succ l hlt, htn.out, HX.out, HM.out])
        have HLK := Lib.hid (show vcells (layK l vs (k + 1)) = vcells (layK l vs k) ++ vcells [z] by rw [layK_succ l hlt, vcells_append, htn.out, HX.out, HZY.out])
        have HVK := Lib.hid (show ∀ (j : Nat) (h : j < vs.length), j < k + 1 → validB vs[j].ty l = true from fun j h hj => by
          rcases Nat.lt_or_ge j k with h' | h'
          · exact hvv.out j h h'
          · obtain rfl : j = k := by omega
            rw [HX.out]; exact HV.out)
        have HDIS := Lib.hid (own_ne_sz hszr.out hown.out)
        clear d0 d1 d2 d3 d5 d6 d7 hm hlts
        have hcs3 := szT_cases HVZ.out
        rw [HMZ.out, HM.out] at hcs3
        rcases hcs3 with ⟨hk1, hs⟩ | ⟨hk1, hs⟩ | ⟨hk1, r, hf, hs⟩
        · have HKD := Lib.hid hk1
          have HSZT := Lib.hid hs
          clear hk1 hs
          have hrun := HSZ3.out.look1 HKD.out
          go_wp2_with (fail)
          clear hrun f0 f1 f2 f3 f4 f5 f6 f7 d4 e4
          generalize (w2.setCell ⟨wr.heap.size, 4, none⟩ (.int .i64 (n : Int))) = w3 at *
          refine (one_m z.ty _ m HSZT.out).mono ?_
          rintro e w4 ⟨rfl, hb4⟩
          have HB4 := Lib.hid (HB3.out.trans (hb4.mono HB3.out.size))
          have HBX4 := Lib.hid (HBX3.out.below hb4 (by have := HS3.out; omega))
          have HO4 := Lib.hid ((ty_own_below HO3.out hb4).alloc (.cells #[.string z.name, .int .i64 z.ty.kind, .int .i64 z.ty.len, .string z.ty.nm, .int .i64 z.slot, .int .i64 z.node, .bool z.vr, .bool z.lp] 56))
          have HSZ4 := Lib.hid (HSZ3.out.below hb4)
          obtain ⟨f0, f1, f2, f3, f4, f5, f6, f7⟩ := HBX4.out.cells
          clear hb4
          have hwr : IntKind.i64.wrap ((n : Int) + (m : Int)) = (n : Int) + (m : Int) := IntWalk.i64_in _ (by omega)
          go_wp2_with (at_builtin; refine wpList_append_lies _ rfl _ _ 51 rfl w.heap.size 56 i0 _ 8 72 Tryd.underlying51 hi0 hz0 hz1 hz2 rfl (by decide) _ _ _ rfl HO4.out ⟨w4.heap.size, 0, none⟩ 1 1 (vcells [z]) rfl rfl (World.news_of_block (cs := #[.string z.name, .int .i64 z.ty.kind, .int .i64 z.ty.len, .string z.ty.nm, .int .i64 z.slot, .int .i64 z.node, .bool z.vr, .bool z.lp]) (heap_alloc_new w4 _)) (vcells_one _) (by decide) ?c3 ?c4 ?c5 (w4.heap.size + 1) (by simp) ?_)
          case c3 => unfold maxLen; omega
          case c4 => omega
          case c5 => have := HB4.out.size; simp; omega
          intro g cap w5 hown5 hgr hsel hgl
          have HO5 := Lib.hid hown5
          have HSZ5 := Lib.hid ((HSZ4.out.below ((Below.refl w4.heap.size w4).alloc (Nat.le_refl _) (.cells #[.string z.name, .int .i64 z.ty.kind, .int .i64 z.ty.len, .string z.ty.nm, .int .i64 z.slot, .int .i64 z.node, .bool z.vr, .bool z.lp] 56))).grown hgr HDIS.out)
          have HB5 := Lib.hid ((HB4.out.alloc HB4.out.size (.cells #[.string z.name, .int .i64 z.ty.kind, .int .i64 z.ty.len, .string z.ty.nm, .int .i64 z.slot, .int .i64 z.node, .bool z.vr, .bool z.lp] 56)).grown hgr (by have := HB4.out.size; simp; omega) (fun q e => (HLT.out q e).1))
          clear hown5 hgr hsel hgl f0 f1 f2 f3 f4 f5 f6 f7 hwr
          go_wp2_with (fail)
          exact ⟨⟨k + 1, n + m, by omega, (by have h := totK_le (vs := vs) H20.out (k + 1) (by omega); rw [HTN.out] at h; omega), by go_num, by go_num, HVK, HTN, by rw [HLK.out]; exact HO5, HSZ5, HB5⟩, by simp [intOf]; omega⟩
        · have HKD := Lib.hid hk1
          have HSZT := Lib.hid hs
          clear hk1 hs
          have hrun := HSZ3.out.look3 HKD.out
          go_wp2_with (fail)
          clear hrun f0 f1 f2 f3 f4 f5 f6 f7 d4 e4
          generalize (w2.setCell ⟨wr.heap.size, 4, none⟩ (.int .i64 (n : Int))) = w3 at *
          refine (lenOf_m z.ty _ m HSZT.out).mono ?_
          rintro e w4 ⟨rfl, hb4⟩
          have HB4 := Lib.hid (HB3.out.trans (hb4.mono HB3.out.size))
          have HBX4 := Lib.hid (HBX3.out.below hb4 (by have := HS3.out; omega))
          have HO4 := Lib.hid ((ty_own_below HO3.out hb4).alloc (.cells #[.string z.name, .int .i64 z.ty.kind, .int .i64 z.ty.len, .string z.ty.nm, .int .i64 z.slot, .int .i64 z.node, .bool z.vr, .bool z.lp] 56))
          have HSZ4 := Lib.hid (HSZ3.out.below hb4)
          obtain ⟨f0, f1, f2, f3, f4, f5, f6, f7⟩ := HBX4.out.cells
          clear hb4
          have hwr : IntKind.i64.wrap ((n : Int) + (m : Int)) = (n : Int) + (m : Int) := IntWalk.i64_in _ (by omega)
          go_wp2_with (at_builtin; refine wpList_append_lies _ rfl _ _ 51 rfl w.heap.size 56 i0 _ 8 72 Tryd.underlying51 hi0 hz0 hz1 hz2 rfl (by decide) _ _ _ rfl HO4.out ⟨w4.heap.size, 0, none⟩ 1 1 (vcells [z]) rfl rfl (World.news_of_block (cs := #[.string z.name, .int .i64 z.ty.kind, .int .i64 z.ty.len, .string z.ty.nm, .int .i64 z.slot, .int .i64 z.node, .bool z.vr, .bool z.lp]) (heap_alloc_new w4 _)) (vcells_one _) (by decide) ?c3 ?c4 ?c5 (w4.heap.size + 1) (by simp) ?_)
          case c3 => unfold maxLen; omega
          case c4 => omega
          case c5 => have := HB4.out.size; simp; omega
          intro g cap w5 hown5 hgr hsel hgl
          have HO5 := Lib.hid hown5
          have HSZ5 := Lib.hid ((HSZ4.out.below ((Below.refl w4.heap.size w4).alloc (Nat.le_refl _) (.cells #[.string z.name, .int .i64 z.ty.kind, .int .i64 z.ty.len, .string z.ty.nm, .int .i64 z.slot, .int .i64 z.node, .bool z.vr, .bool z.lp] 56))).grown hgr HDIS.out)
          have HB5 := Lib.hid ((HB4.out.alloc HB4.out.size (.cells #[.string z.name, .int .i64 z.ty.kind, .int .i64 z.ty.len, .string z.ty.nm, .int .i64 z.slot, .int .i64 z.node, .bool z.vr, .bool z.lp] 56)).grown hgr (by have := HB4.out.size; simp; omega) (fun q e => (HLT.out q e).1))
          clear hown5 hgr hsel hgl f0 f1 f2 f3 f4 f5 f6 f7 hwr
          go_wp2_with (fail)
          exact ⟨⟨k + 1, n + m, by omega, (by have h := totK_le (vs := vs) H20.out (k + 1) (by omega); rw [HTN.out] at h; omega), by go_num, by go_num, HVK, HTN, by rw [HLK.out]; exact HO5, HSZ5, HB5⟩, by simp [intOf]; omega⟩
        · have HKD := Lib.hid hk1
          have HSZT := Lib.hid hs
          have HFR := Lib.hid hf
          clear hk1 hs hf
          have hrun := HSZ3.out.look4 HKD.out
          go_wp2_with (fail)
          clear hrun f0 f1 f2 f3 f4 f5 f6 f7 d4 e4
          generalize (w2.setCell ⟨wr.heap.size, 4, none⟩ (.int .i64 (n : Int))) = w3 at *
          refine (count_m z.ty A c B l r _ m HSZT.out HSZ3.out.box HFR.out (HR.out.later HB3.out) hl).mono ?_
          rintro e w4 ⟨rfl, hb4⟩
          have HB4 := Lib.hid (HB3.out.trans (hb4.mono HB3.out.size))
          have HBX4 := Lib.hid (HBX3.out.below hb4 (by have := HS3.out; omega))
          have HO4 := Lib.hid ((ty_own_below HO3.out hb4).alloc (.cells #[.string z.name, .int .i64 z.ty.kind, .int .i64 z.ty.len, .string z.ty.nm, .int .i64 z.slot, .int .i64 z.node, .bool z.vr, .bool z.lp] 56))
          have HSZ4 := Lib.hid (HSZ3.out.below hb4)
          obtain ⟨f0, f1, f2, f3, f4, f5, f6, f7⟩ := HBX4.out.cells
          clear hb4
          have hwr : IntKind.i64.wrap ((n : Int) + (m : Int)) = (n : Int) + (m : Int) := IntWalk.i64_in _ (by omega)
          go_wp2_with (at_builtin; refine wpList_append_lies _ rfl _ _ 51 rfl w.heap.size 56 i0 _ 8 72 Tryd.underlying51 hi0 hz0 hz1 hz2 rfl (by decide) _ _ _ rfl HO4.out ⟨w4.heap.size, 0, none⟩ 1 1 (vcells [z]) rfl rfl (World.news_of_block (cs := #[.string z.name, .int .i64 z.ty.kind, .int .i64 z.ty.len, .string z.ty.nm, .int .i64 z.slot, .int .i64 z.node, .bool z.vr, .bool z.lp]) (heap_alloc_new w4 _)) (vcells_one _) (by decide) ?c3 ?c4 ?c5 (w4.heap.size + 1) (by simp) ?_)
          case c3 => unfold maxLen; omega
          case c4 => omega
          case c5 => have := HB4.out.size; simp; omega
          intro g cap w5 hown5 hgr hsel hgl
          have HO5 := Lib.hid hown5
          have HSZ5 := Lib.hid ((HSZ4.out.below ((Below.refl w4.heap.size w4).alloc (Nat.le_refl _) (.cells #[.string z.name, .int .i64 z.ty.kind, .int .i64 z.ty.len, .string z.ty.nm, .int .i64 z.slot, .int .i64 z.node, .bool z.vr, .bool z.lp] 56))).grown hgr HDIS.out)
          have HB5 := Lib.hid ((HB4.out.alloc HB4.out.size (.cells #[.string z.name, .int .i64 z.ty.kind, .int .i64 z.ty.len, .string z.ty.nm, .int .i64 z.slot, .int .i64 z.node, .bool z.vr, .bool z.lp] 56)).grown hgr (by have := HB4.out.size; simp; omega) (fun q e => (HLT.out q e).1))
          clear hown5 hgr hsel hgl f0 f1 f2 f3 f4 f5 f6 f7 hwr
          go_wp2_with (fail)
          exact ⟨⟨k + 1, n + m, by omega, (by have h := totK_le (vs := vs) H20.out (k + 1) (by omega); rw [HTN.out] at h; omega), by go_num, by go_num, HVK, HTN, by rw [HLK.out]; exact HO5, HSZ5, HB5⟩, by simp [intOf]; omega⟩
    · obtain rfl : k = vs.length := by omega
      go_wp2_with (fail)
      go_ret2
      exact ⟨_, n, rfl, hbw.out, .inl ⟨fun j h => hvv.out j h h, by rw [htn.out], hown.out⟩⟩
end Go.Proofs.YtnpcfmoiiecadaaDoor
