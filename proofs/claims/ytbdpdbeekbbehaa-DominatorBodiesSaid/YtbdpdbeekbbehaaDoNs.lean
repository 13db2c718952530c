/- What is proved: a slice of slices of numbers that a call owns; the reference's Control. -/
import Derived.Test.YtbdpdbeekbbehaaDoPairs
import Derived.Test.YtbdpdbeekbbehaaDoRefI
import Derived.Test.YtbdpdbeekbbehaaDoExM
import Derived.Test.YtbdpdbeekbbehaaDoCtlP
set_option linter.unusedVariables false
namespace Go.Proofs.Ytbdpdbeekbbehaa
open Go.RowKit Go.Shelf

/-- a row of numbers: where it is, and what it has -/
structure NsV where
  A : Option Addr
  c : Nat
  xs : List Nat
def nscells (rs : List NsV) : List Value := rs.map fun t => .slice t.A t.xs.length t.c
/-- a slice of slices of numbers that is owned -/
structure NsRow (w : World) (M : Nat) (v : Value) (rs : List NsV) : Prop where
  row : w.ownsRow M 29 1 v rs.length (nscells rs)
  each : ∀ t ∈ rs, ZOwn w M (.slice t.A t.xs.length t.c) (zl t.xs)
theorem NsRow.later {w w' : World} {M : Nat} {v : Value} {rs : List NsV} (h : NsRow w M v rs) (hb : Below w.heap.size w w') : NsRow w' M v rs :=
  ⟨own_stays h.row fun b e => hb.block b (own_block' h.row e).2.1, fun t ht => (h.each t ht).later hb⟩
theorem NsRow.more {w w' : World} {M : Nat} {v v' : Value} {rs : List NsV} (h : NsRow w M v rs) {t : NsV} (ht : ZOwn w M (.slice t.A t.xs.length t.c) (zl t.xs)) {o : Obj} (hg : (w.alloc o).grownBy w' v.ownBlock)
    (hown : w'.ownsRow M 29 1 v' (rs.length + 1) (nscells rs ++ [.slice t.A t.xs.length t.c])) : NsRow w' M v' (rs ++ [t]) := by
  have key : ∀ u : NsV, ZOwn w M (.slice u.A u.xs.length u.c) (zl u.xs) → ZOwn w' M (.slice u.A u.xs.length u.c) (zl u.xs) := fun u hu => own_stays hu fun b e => by
    obtain ⟨_, hlt, cs, hcs⟩ := own_block' hu e
    refine (hg.block b (by simp; omega) (fun e2 => ?_)).trans (heap_alloc_old _ _ hlt)
    obtain ⟨_, _, cs2, hcs2⟩ := own_block' h.row e2.symm
    rw [hcs] at hcs2
    cases hcs2
  refine ⟨?_, fun u hu => ?_⟩
  · rw [List.length_append]
    unfold nscells at hown ⊢
    rw [List.map_append]
    exact hown
  · rcases List.mem_append.1 hu with hu | hu
    · exact key u (h.each u hu)
    · rw [List.mem_singleton.1 hu]
      exact key t ht
theorem NsRow.lrow {w : World} {M : Nat} {v : Value} {rs : List NsV} (h : NsRow w M v rs) : ∃ X c, v = .slice X rs.length c ∧ LRow w X (rs.map fun t => zl t.xs) := by
  rcases Nat.eq_zero_or_pos rs.length with h0 | h0
  · rcases h.row.2 with ⟨rfl, _⟩ | ⟨g, cap, cur, rfl, _, _, _, _⟩
    · exact ⟨none, 0, by rw [h0], fun hh => by simp at hh; omega⟩
    · exact ⟨_, _, rfl, fun hh => by simp at hh; omega⟩
  · obtain ⟨g, cg, rfl, hg, _⟩ := World.ownsRow.form h.row h0
    refine ⟨_, cg, rfl, fun _ => ⟨g, 0, rfl, (own_block' h.row rfl).2.1, fun i hi => ?_⟩⟩
    have hi2 : i < rs.length := by simpa using hi
    have he := h.each _ (List.getElem_mem hi2)
    have hc := World.ownsRow.cells h.row (g := g) rfl i (.slice rs[i].A rs[i].xs.length rs[i].c) (by simp [nscells, hi2])
    rw [do_add] at hc
    rw [Nat.zero_add]
    simp only [List.getElem_map]
    rw [zl_len]
    exact ⟨_, _, hc, he.row.2.2, by have := he.row.2.1; rw [zl_len] at this; exact this⟩
theorem PaRow.growT {w w' : World} {M n : Nat} {v u : Value} {rs : List (Option Addr × Nat)} {F : Nat → Nat → Bool} (h : PaRow w M n v rs F) {t : TypeId} (ht1 : 62 ≠ t) (ht2 : 4 ≠ t) {o : Obj} (hg : (w.alloc o).grownBy w' u.ownBlock) (hu : ∀ g, u.ownBlock = some g → ∃ cs, w.heap[g]? = some (.cells cs t (0, 0))) : PaRow w' M n v rs F := by
  have far : ∀ (b : Nat) (cs : Array Value) (s : TypeId), w.heap[b]? = some (Obj.cells cs s (0, 0)) → s ≠ t → w'.heap[b]? = w.heap[b]? := fun b cs s hb ht => by
    refine (hg.block b (by simp; have := hlt hb; omega) (fun e => ?_)).trans (heap_alloc_old _ _ (hlt hb))
    obtain ⟨cs2, h2⟩ := hu b e.symm
    rw [hb] at h2
    cases h2
    exact ht rfl
  refine ⟨own_stays h.row fun b e => ?_, fun a ha => own_stays (h.each a ha) fun b e => ?_⟩
  · obtain ⟨_, _, cs, hcs⟩ := own_block' h.row e
    exact far b cs _ hcs ht1
  · obtain ⟨_, _, cs, hcs⟩ := own_block' (h.each a ha) e
    exact far b cs _ hcs ht2
/-- what the reference's Control gives -/
def RcRes (cd : Nat → Nat → Bool) (l : List PtV) (w : World) (e : Ending) (W : World) : Prop :=
  ∃ X c', e = .returned (.slice X (if validP l then l.length else 0) c') ∧ (validP l = true → LRow W X ((List.range l.length).map fun v => zl ((List.range l.length).filter fun a => cd a v))) ∧ Below w.heap.size w W
/-- the points on which v is control dependent, among the first k -/
def cdl (cd : Nat → Nat → Bool) (v k : Nat) : List Nat := (List.range k).filter fun a => cd a v
theorem cdl_len (cd : Nat → Nat → Bool) (v k : Nat) : (cdl cd v k).length ≤ k := by
  have h := List.length_filter_le (fun a => cd a v) (List.range k)
  rw [List.length_range] at h
  exact h
theorem cdl_succ (cd : Nat → Nat → Bool) (v k : Nat) : cdl cd v (k + 1) = cdl cd v k ++ (if cd k v then [k] else []) := by
  unfold cdl
  rw [List.range_succ, List.filter_append]
  cases h : cd k v <;> simp [h]
/-- as the reference asks it -/
theorem cd_ref {l : List PtV} (hl : FlOk l) {F cd : Nat → Nat → Bool} (hF : ∀ a b, b < l.length → (F a b = true ↔ Dom (bke l) 1 a b)) (hcd : ∀ a v, cd a v = true ↔ CDp (edg l) (bke l) 1 a v) {a v : Nat} (ha : a < l.length) : cd a v = ((edg l a).any (F v) && (decide (a = v) || !F v a)) := by
  obtain ⟨_, h2⟩ := edg_zl hl.ok ha
  rw [Bool.eq_iff_iff, hcd]
  simp only [Bool.and_eq_true, List.any_eq_true, Bool.or_eq_true, decide_eq_true_eq, Bool.not_eq_true']
  constructor
  · rintro ⟨s, hs, h3, h4⟩
    refine ⟨⟨s, hs, (hF v s (h2 s hs).2).2 h3⟩, ?_⟩
    by_cases e : a = v
    · exact .inl e
    · refine .inr ?_
      cases hq : F v a with
      | false => rfl
      | true => exact absurd ⟨fun e2 => e e2.symm, (hF v a ha).1 hq⟩ h4
  · rintro ⟨⟨s, hs, h3⟩, h4⟩
    refine ⟨s, hs, (hF v s (h2 s hs).2).1 h3, ?_⟩
    rintro ⟨h5, h6⟩
    rcases h4 with e | e
    · exact h5 e.symm
    · rw [(hF v a ha).2 h6] at e; cases e
theorem rcontrol_none (A : Option Addr) (c : Nat) (l : List PtV) (w : World) (hs : FlSm l) (hp : PRow w.heap.size w A l) (hv : validP l = false) :
    Calls Try.prog 31 #[.agg #[.slice A l.length c]] w fun e W => ∃ g, e = .returned (.slice (some ⟨g, 0, none⟩) 0 0) ∧ Below w.heap.size w W := by
  have HS := Lib.hid hs
  have HPP := Lib.hid hp
  have ha1 := (Below.refl w.heap.size w).alloc (Nat.le_refl _) (.cells #[.slice A l.length c] 24)
  have HFB := Lib.hid (show FBx (w.alloc (.cells #[.slice A l.length c] 24)) w.heap.size A c l from heap_alloc_new w _)
  have ha2 := (Below.refl _ _).alloc (Nat.le_refl (w.alloc (.cells #[.slice A l.length c] 24)).heap.size) (.cells #[] 29)
  have HF1 := Lib.hid (show FBx _ w.heap.size A c l from HFB.out.later ha2)
  have HB1 := Lib.hid (ha1.trans (ha2.mono ha1.size))
  have c0 := HF1.out.cell
  clear hs hp ha1 ha2 HFB
  go_enter Try.func31, Try.ntmps31
  go_wp2_with (fail)
  generalize ((w.alloc (.cells #[.slice A l.length c] 24)).alloc (.cells #[] 29)) = w1 at *
  refine (rvalid_any A c l w1 HS.out ((HPP.out.below HB1.out).mono HB1.out.size)).mono ?_
  rintro e w2 ⟨rfl, hb⟩
  rw [hv]
  have HB2 := Lib.hid (HB1.out.trans (hb.mono HB1.out.size))
  clear c0 hb hv
  go_wp2_with (fail)
  go_ret
  exact ⟨_, rfl, HB2.out⟩

set_option maxRecDepth 100000 in
set_option maxHeartbeats 4000000 in
theorem rcontrol_some (A : Option Addr) (c : Nat) (l : List PtV) (w : World) (hl : FlOk l) (hp : PRow w.heap.size w A l) (dB F : Nat → Nat → Bool) (hd : ∀ a b, dB a b = true ↔ DomS (edg l) 0 l (a : Int) (b : Int)) (hpB : ∀ a b, F a b = true ↔ DomS (bke l) 1 l (a : Int) (b : Int)) (cd : Nat → Nat → Bool) (hcd : ∀ a v, cd a v = true ↔ CDp (edg l) (bke l) 1 a v) :
    Calls Try.prog 31 #[.agg #[.slice A l.length c]] w fun e W => ∃ v rs, e = .returned v ∧ NsRow W w.heap.size v rs ∧ rs.map (·.xs) = (List.range l.length).map (fun v => cdl cd v l.length) ∧ Below w.heap.size w W := by
  have hln := hl.n
  have h2n := hl.two
  have HS := Lib.hid (show FlSm l from ⟨hl.n, hl.few⟩)
  have HL := Lib.hid hl
  have HPP := Lib.hid hp
  have HDB := Lib.hid hd
  have HPB := Lib.hid hpB
  have HCD := Lib.hid (fun (a v : Nat) (ha : a < l.length) => cd_ref hl (F := F) (fun a b hb => (hpB a b).trans (domS_at hl.ok hb)) hcd (v := v) ha)
  have ha1 := (Below.refl w.heap.size w).alloc (Nat.le_refl _) (.cells #[.slice A l.length c] 24)
  have HFB := Lib.hid (show FBx (w.alloc (.cells #[.slice A l.length c] 24)) w.heap.size A c l from heap_alloc_new w _)
  have hs1 : (w.alloc (.cells #[.slice A l.length c] 24)).heap.size = w.heap.size + 1 := by simp
  have ha2 := (Below.refl _ _).alloc (Nat.le_refl (w.alloc (.cells #[.slice A l.length c] 24)).heap.size) (.cells #[] 29)
  have HF1 := Lib.hid (show FBx _ w.heap.size A c l from HFB.out.later ha2)
  have HB1 := Lib.hid (ha1.trans (ha2.mono ha1.size))
  have hrow := heap_alloc_new (w.alloc (.cells #[.slice A l.length c] 24)) (.cells #[] 29)
  rw [hs1] at hrow
  have HO1 := Lib.hid (show NsRow ((w.alloc (.cells #[.slice A l.length c] 24)).alloc (.cells #[] 29)) w.heap.size (.slice (some ⟨w.heap.size + 1, 0, none⟩) 0 0) [] from ⟨⟨rfl, .inr ⟨w.heap.size + 1, 0, _, rfl, by omega, hrow, Nat.le_refl _, by decide, rfl, rfl⟩⟩, fun t h => by simp at h⟩)
  have c0 := HF1.out.cell
  clear hl hp hd hpB hcd ha1 ha2 hs1 hrow HFB
  go_enter Try.func31, Try.ntmps31
  go_wp2_with (fail)
  generalize ((w.alloc (.cells #[.slice A l.length c] 24)).alloc (.cells #[] 29)) = w1 at *
  refine (rvalid_any A c l w1 HS.out ((HPP.out.below HB1.out).mono HB1.out.size)).mono ?_
  rintro e w2 ⟨rfl, hb⟩
  rw [HL.out.ok]
  have HB2 := Lib.hid (HB1.out.trans (hb.mono HB1.out.size))
  have HF2 := Lib.hid (HF1.out.later hb)
  have HO2 := Lib.hid (HO1.out.later hb)
  clear c0 hb
  have c0 := HF2.out.cell
  go_wp2_with (fail)
  refine (pairs_any A c l true w2 HS.out ((HPP.out.below HB2.out).mono HB2.out.size) dB F HDB.out HPB.out).mono ?_
  rintro e w3 ⟨pv, ps, rfl, hpr, hrs, hb⟩
  have HB3 := Lib.hid (HB2.out.trans (hb.mono HB2.out.size))
  have HF3 := Lib.hid (HF2.out.later hb)
  have HO3 := Lib.hid (HO2.out.later hb)
  have HP3 := Lib.hid (show PaRow w3 w2.heap.size l.length pv ps F from hpr)
  obtain ⟨g, cg, rfl, _⟩ := hpr.read hrs (by omega)
  have HRS := Lib.hid hrs
  clear c0 hb hpr hrs
  go_wp2_with (fail)
  go_loopw [3, 5] (fun v i wr => ∃ (b : Nat) (rs : List NsV), i = .int .i64 (b : Int) ∧ b ≤ l.length ∧ Hid (rs.map (·.xs) = (List.range b).map (fun v => cdl cd v l.length)) ∧ Hid (NsRow wr w.heap.size v rs) ∧ Hid (PaRow wr w2.heap.size l.length (.slice (some ⟨g, 0, none⟩) l.length cg) ps F) ∧ Hid (FBx wr w.heap.size A c l) ∧ Hid (Below w.heap.size w wr)) (fun _ i _ => l.length - (intOf i).toNat)
  case atStart => exact ⟨0, [], rfl, Nat.zero_le _, Lib.hid rfl, HO3, HP3, HF3, HB3⟩
  case round =>
    obtain ⟨b, rs, rfl, hb, hxs, hns, hpa, hfb, hbw⟩ := hrel
    generalize wr = wo at *
    have c0 := hfb.out.cell
    by_cases hbl : b < l.length
    · obtain ⟨g', cg', hge, hrd⟩ := hpa.out.read HRS.out (by omega)
      cases hge
      have HRD := Lib.hid hrd
      have hal2 := (Below.refl wo.heap.size wo).alloc (Nat.le_refl _) (.cells #[] 3)
      have HI0 := Lib.hid (show ZOwn (wo.alloc (.cells #[] 3)) wo.heap.size (.slice (some ⟨wo.heap.size, 0, none⟩) 0 0) (zl (cdl cd b 0)) from ⟨rfl, .inr ⟨wo.heap.size, 0, _, rfl, Nat.le_refl _, heap_alloc_new wo _, Nat.le_refl _, by decide, rfl, rfl⟩⟩)
      have HB0 := Lib.hid hal2
      clear hrd hal2
      go_wp2_with (fail)
      generalize (wo.alloc (.cells #[] 3)) = w4 at *
      clear c0
      go_loopw [6, 7] (fun v i wr => ∃ a : Nat, i = .int .i64 (a : Int) ∧ a ≤ l.length ∧ Hid (ZOwn wr wo.heap.size v (zl (cdl cd b a))) ∧ Hid (Below wo.heap.size wo wr)) (fun _ i _ => l.length - (intOf i).toNat)
      case atStart => exact ⟨0, rfl, Nat.zero_le _, HI0, HB0⟩
      case round =>
        obtain ⟨a, rfl, ha, hin, hbi⟩ := hrel
        generalize wr = wa at *
        by_cases hal : a < l.length
        · have HBW := Lib.hid (hbw.out.trans (hbi.out.mono hbw.out.size))
          obtain ⟨h1, h2⟩ := edg_zl HL.out.ok hal
          obtain ⟨pb, off, rfl, hpb, e1, e2, e3, hz, hc⟩ := (HPP.out.below HBW.out).at hal
          have hz0 := (HPP.out.2 _ (List.getElem_mem hal)).1
          rw [h1] at hz0 hc e3
          rw [zl_len] at e3 hc
          have HZ := Lib.hid (NRow.of hz0)
          have HE2 := Lib.hid h2
          have hdg := HL.out.edg a
          have HE3 := Lib.hid e3
          have HFA := Lib.hid (hfb.out.later hbi.out)
          have c0 := HFA.out.cell
          have HAL := Lib.hid hal
          have HCDA := Lib.hid (HCD.out a b hal)
          generalize l[a].A = A2 at *
          generalize l[a].c = c2 at *
          clear h1 h2 hz hz0 e1 e2 hc
          obtain ⟨E, HEE⟩ : ∃ E, Hid (edg l a = E) := ⟨_, Lib.hid rfl⟩
          rw [HEE.out] at HZ HE2 hdg HE3 HCDA e3
          go_wp2_with (fail)
          clear c0 e3
          go_loopw [8, 9] (fun x i wr => ∃ (k : Nat) (sm : Bool), x = .bool sm ∧ i = .int .i64 (k : Int) ∧ k ≤ E.length ∧ Hid (sm = (E.take k).any (F b)) ∧ Hid (Below wa.heap.size wa wr)) (fun _ i _ => E.length - (intOf i).toNat)
          case atStart => exact ⟨0, false, rfl, rfl, Nat.zero_le _, Lib.hid (by simp), Lib.hid (Below.refl _ _)⟩
          case round =>
            obtain ⟨k, sm, rfl, rfl, hk, hsm, hbk⟩ := hrel
            have HPB2 := Lib.hid (show pb < wa.heap.size from Nat.lt_of_lt_of_le hpb HBW.out.size)
            have c0 := (HFA.out.later hbk.out).cell
            have e3 : wr.cell? ⟨pb, off + a * 3 + 2, none⟩ = some (.slice A2 E.length c2) := (hbk.out.cell (p := ⟨pb, off + a * 3 + 2, none⟩) HPB2.out).trans HE3.out
            by_cases hkl : k < E.length
            · have HTK := Lib.hid (List.take_succ_eq_append_getElem hkl)
              have HSN := Lib.hid (HE2.out _ (List.getElem_mem hkl)).2
              obtain ⟨eb, eo, rfl, heb, hec⟩ := ((HZ.out.below HBW.out).mono HBW.out.size) (by omega)
              have r0 := (hbk.out.cell (p := ⟨eb, eo + k, none⟩) heb).trans (hec k hkl)
              obtain ⟨s, HS1⟩ : ∃ s, Hid (E[k] = s) := ⟨_, Lib.hid rfl⟩
              rw [HS1.out] at r0 HSN HTK
              clear hec
              cases sm with
              | true =>
                have HN := Lib.hid (show true = (E.take (k + 1)).any (F b) from by rw [HTK.out, List.any_append, ← hsm.out]; rfl)
                go_upto_region 16 with (fail)
                go_quiet (fail)
                go_wp2_with (fail)
                exact ⟨⟨k + 1, true, by first | rfl | trivial, by go_num, by omega, HN, Lib.hid (below_drewN hbk.out _)⟩, by simp [intOf]; omega⟩
              | false =>
                have HN := Lib.hid (show F b s = (E.take (k + 1)).any (F b) from by rw [HTK.out, List.any_append, ← hsm.out]; simp)
                obtain ⟨gb, cb, r1, r2⟩ := (((hpa.out.later hbi.out).later hbk.out).read HRS.out (by omega)).elim fun g5 h5 => h5.elim fun c5 h6 => by
                  obtain ⟨h7, h8⟩ := h6
                  cases h7
                  exact h8 b hbl
                have r3 := r2 s HSN.out
                have hsn := HSN.out
                clear r2
                obtain ⟨fb, HFB5⟩ : ∃ fb, Hid (F b s = fb) := ⟨_, Lib.hid rfl⟩
                rw [HFB5.out] at r3 HN
                go_upto_region 16 with (fail)
                go_quiet (fail)
                go_wp2_with (fail)
                exact ⟨⟨k + 1, fb, by first | rfl | trivial, by go_num, by omega, HN, Lib.hid (below_drewN hbk.out _)⟩, by simp [intOf]; omega⟩
            · obtain rfl : k = E.length := by omega
              have HIN := Lib.hid (hin.out.later hbk.out)
              have HBI := Lib.hid (hbi.out.trans (hbk.out.mono hbi.out.size))
              have hsm2 := hsm.out
              rw [List.take_length] at hsm2
              have HSM := Lib.hid hsm2
              obtain ⟨xs, HXS⟩ : ∃ xs, Hid (cdl cd b a = xs) := ⟨_, Lib.hid rfl⟩
              have hxl := cdl_len cd b a
              rw [HXS.out] at HIN hxl
              have HCS := Lib.hid (cdl_succ cd b a)
              obtain ⟨gb, cb, r1, r2⟩ := (((hpa.out.later hbi.out).later hbk.out).read HRS.out (by omega)).elim fun g5 h5 => h5.elim fun c5 h6 => by
                obtain ⟨h7, h8⟩ := h6
                cases h7
                exact h8 b hbl
              have r3 := r2 a HAL.out
              have SKIP := Lib.hid (show cd a b = false → Hid (ZOwn wr wo.heap.size u6 (zl (cdl cd b (a + 1)))) from fun h => Lib.hid (by
                rw [HCS.out, h, HXS.out]
                simpa using HIN.out))
              have hM := HBI.out.size
              clear r2 hsm2 hsm
              have KEEP := Lib.hid (show cd a b = true → ∀ (v' : Value) (w4 : World), w4.ownsRow wo.heap.size 3 1 v' (xs.length + 1) (zcells (zl xs) ++ [.int .i64 (a : Int)]) → Hid (ZOwn w4 wo.heap.size v' (zl (cdl cd b (a + 1)))) from fun h v' w4 hown => Lib.hid (by
                rw [HCS.out, h, HXS.out, if_pos rfl]
                unfold ZOwn
                rw [zl_append, zcells_append, List.length_append, zl_len]
                exact hown))
              obtain ⟨i0, hi0, hz0, hz1, hz2⟩ := info_parts infoInt
              have hln2 : xs.length ≤ 30 := by omega
              cases sm with
              | false =>
                have HN := SKIP.out (by rw [HCDA.out, ← HSM.out]; rfl)
                go_wp2_with (fail)
                exact ⟨⟨a + 1, by go_num, by omega, HN, HBI⟩, by simp [intOf]; omega⟩
              | true =>
                by_cases hab : a = b
                · have HK := Lib.hid (KEEP.out (by rw [HCDA.out, ← HSM.out, decide_eq_true hab]; rfl))
                  subst hab
                  clear r3 r1
                  go_wp2_with (at_builtin; refine wpList_append_own_at _ rfl _ _ 29 rfl wo.heap.size 3 i0 _ 1 8 Try.underlying29 hi0 hz0 hz1 hz2 rfl (by decide) _ xs.length (zcells (zl xs)) rfl ((by have h := HIN.out; unfold ZOwn at h; rw [zl_len] at h; exact h.alloc _)) ⟨wr.heap.size, 0, none⟩ 1 1 [.int .i64 (a : Int)] rfl rfl (cell_one_new _ _ _) (by simp [Value.oneCell']) (by unfold maxLen; omega) (by omega) (by simp; omega) ?_; intro v' w5 hown hgr _ _)
                  have HB5 := Lib.hid ((HBI.out.alloc hM _).grown hgr (by simp; omega) (fun g e => (own_block' HIN.out e).1))
                  exact ⟨⟨a + 1, by go_num, by omega, HK.out v' w5 hown, HB5⟩, by simp [intOf]; omega⟩
                · have habi : ¬ (a : Int) = (b : Int) := by omega
                  have habb : ((a : Int) == (b : Int)) = false := beq_eq_false_iff_ne.2 habi
                  cases hba : F b a with
                  | true =>
                    have HN := SKIP.out (by rw [HCDA.out, ← HSM.out, decide_eq_false hab, hba]; rfl)
                    rw [hba] at r3
                    clear hba hab
                    go_wp2_with (fail)
                    exact ⟨⟨a + 1, by go_num, by omega, HN, HBI⟩, by simp [intOf]; omega⟩
                  | false =>
                    have HK := Lib.hid (KEEP.out (by rw [HCDA.out, ← HSM.out, hba]; simp))
                    rw [hba] at r3
                    clear hba hab
                    go_wp2_with (at_builtin; refine wpList_append_own_at _ rfl _ _ 29 rfl wo.heap.size 3 i0 _ 1 8 Try.underlying29 hi0 hz0 hz1 hz2 rfl (by decide) _ xs.length (zcells (zl xs)) rfl ((by have h := HIN.out; unfold ZOwn at h; rw [zl_len] at h; exact h.alloc _)) ⟨wr.heap.size, 0, none⟩ 1 1 [.int .i64 (a : Int)] rfl rfl (cell_one_new _ _ _) (by simp [Value.oneCell']) (by unfold maxLen; omega) (by omega) (by simp; omega) ?_; intro v' w5 hown hgr _ _)
                    have HB5 := Lib.hid ((HBI.out.alloc hM _).grown hgr (by simp; omega) (fun g e => (own_block' HIN.out e).1))
                    exact ⟨⟨a + 1, by go_num, by omega, HK.out v' w5 hown, HB5⟩, by simp [intOf]; omega⟩
        · obtain rfl : a = l.length := by omega
          have HBW := Lib.hid (hbw.out.trans (hbi.out.mono hbw.out.size))
          have HNS := Lib.hid (hns.out.later hbi.out)
          have HPA := Lib.hid (hpa.out.later hbi.out)
          have HFA := Lib.hid (hfb.out.later hbi.out)
          have c0 := HFA.out.cell
          have hM := HBW.out.size
          obtain ⟨X, cX, hvX, _, _⟩ := hin.out.form
          subst hvX
          have HTX := Lib.hid (own_down hin.out hbw.out.size)
          obtain ⟨xs, HXS⟩ : ∃ xs, Hid (cdl cd b l.length = xs) := ⟨_, Lib.hid rfl⟩
          rw [HXS.out, zl_len] at HTX
          rw [HXS.out, zl_len]
          obtain ⟨i0, hi0, hz0, hz1, hz2⟩ := info_parts infoSl
          have hrl : rs.length = b := by have h := congrArg List.length hxs.out; simpa using h
          have HRL := Lib.hid hrl
          have hrb : rs.length ≤ 30 := by omega
          clear hrl
          go_wp2_with (at_builtin; refine wpList_append_own_at _ rfl _ _ 39 rfl w.heap.size 29 i0 _ 1 24 Try.underlying39 hi0 hz0 hz1 hz2 rfl (by decide) _ rs.length (nscells rs) rfl (HNS.out.row.alloc _) ⟨wa.heap.size, 0, none⟩ 1 1 [.slice X xs.length cX] rfl rfl (cell_one_new _ _ _) (by simp [Value.oneCell']) (by unfold maxLen; omega) (by omega) (by simp; omega) ?_; intro v' w5 hown hgr _ _)
          have hui : ∀ g, Value.ownBlock _ = some g → ∃ cs, wa.heap[g]? = some (.cells cs 29 (0, 0)) := fun g e => (own_block' HNS.out.row e).2.2
          have HN5 := Lib.hid (HNS.out.more (t := ⟨X, cX, xs⟩) (show ZOwn wa w.heap.size (.slice X xs.length cX) (zl xs) from by unfold ZOwn; rw [zl_len]; exact HTX.out) hgr hown)
          have HP5 := Lib.hid (HPA.out.growT (t := 29) (by decide) (by decide) hgr hui)
          have HF5 := Lib.hid (show FBx w5 w.heap.size A c l from by
            refine ((hgr.block w.heap.size (by simp; have := HFA.out.lt; omega) (fun e => ?_)).trans (heap_alloc_old _ _ HFA.out.lt)).trans HFA.out
            obtain ⟨cs, hcs⟩ := hui _ e.symm
            have h := HFA.out
            unfold FBx Bx at h
            rw [hcs] at h
            cases h)
          have HB5 := Lib.hid ((HBW.out.alloc hM _).grown hgr (by simp; omega) (fun g e => (own_block' HNS.out.row e).1))
          have HX5 := Lib.hid (show (rs ++ [(⟨X, cX, xs⟩ : NsV)]).map (fun t => t.xs) = (List.range (b + 1)).map (fun v => cdl cd v l.length) from by rw [List.map_append, hxs.out, List.range_succ, List.map_append]; simp [HXS.out])
          exact ⟨⟨b + 1, rs ++ [⟨X, cX, xs⟩], by go_num, by omega, HX5, HN5, HP5, HF5, HB5⟩, by simp [intOf]; omega⟩
    · obtain rfl : b = l.length := by omega
      have HNS := hns
      go_wp2_with (fail)
      go_ret
      exact ⟨u3, rs, rfl, hns.out, hxs.out, hbw.out⟩
theorem rcontrol_any (A : Option Addr) (c : Nat) (l : List PtV) (w : World) (hs : FlSm l) (hp : PRow w.heap.size w A l) (cd : Nat → Nat → Bool) (hcd : ∀ a v, cd a v = true ↔ CDp (edg l) (bke l) 1 a v) :
    Calls Try.prog 31 #[.agg #[.slice A l.length c]] w (RcRes cd l w) := by
  cases hv : validP l with
  | false =>
    refine (rcontrol_none A c l w hs hp hv).mono ?_
    rintro e W ⟨g, rfl, hb⟩
    exact ⟨some ⟨g, 0, none⟩, 0, (by rw [hv]; rfl), (fun h => absurd (hv.symm.trans h) (by decide)), hb⟩
  | true =>
    obtain ⟨dB, hdB⟩ : ∃ dB : Nat → Nat → Bool, ∀ a b, dB a b = true ↔ DomS (edg l) 0 l (a : Int) (b : Int) := by
      classical exact ⟨fun a b => decide (DomS (edg l) 0 l (a : Int) (b : Int)), fun a b => by simp⟩
    obtain ⟨pB, hpB⟩ : ∃ pB : Nat → Nat → Bool, ∀ a b, pB a b = true ↔ DomS (bke l) 1 l (a : Int) (b : Int) := by
      classical exact ⟨fun a b => decide (DomS (bke l) 1 l (a : Int) (b : Int)), fun a b => by simp⟩
    refine (rcontrol_some A c l w (hs.ok hv) hp dB pB hdB hpB cd hcd).mono ?_
    rintro e W ⟨v, rs, rfl, hn, hx, hb⟩
    obtain ⟨X, c', rfl, hr⟩ := hn.lrow
    have hrl : rs.length = l.length := by have h := congrArg List.length hx; simpa using h
    refine ⟨X, c', by rw [hv, hrl]; rfl, fun _ => ?_, hb⟩
    have e : rs.map (fun t => zl t.xs) = (List.range l.length).map fun v => zl ((List.range l.length).filter fun a => cd a v) := by
      have h := congrArg (List.map zl) hx
      rw [List.map_map, List.map_map] at h
      exact h
    rw [← e]
    exact hr
end Go.Proofs.Ytbdpdbeekbbehaa
