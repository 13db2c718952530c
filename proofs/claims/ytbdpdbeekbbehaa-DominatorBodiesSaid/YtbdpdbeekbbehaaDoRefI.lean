/- What is proved: the reference's immediate: the immediate elements of its relations. -/
import Derived.Test.YtbdpdbeekbbehaaDoPairs
import Derived.Test.YtbdpdbeekbbehaaDoExP
set_option linter.unusedVariables false
namespace Go.Proofs.Ytbdpdbeekbbehaa
open Go.RowKit Go.Shelf

/-- a stands right over b -/
def GoodI (F : Nat → Nat → Bool) (n b a : Nat) : Prop := a ≠ b ∧ F a b = true ∧ ∀ c, c < n → c ≠ b → F c b = true → F c a = true
/-- what is found among the first k -/
def BestI2 (F : Nat → Nat → Bool) (ov : Nat → Int) (n b k : Nat) (x : Int) : Prop := (x = -1 ∧ ∀ a, a < k → ¬ GoodI F n b a) ∨ (x = ov b ∧ ∃ a : Nat, GoodI F n b a ∧ ov b = (a : Int))
section
variable {E : Nat → List Nat} {r n : Nat} {ov : Nat → Int} {F : Nat → Nat → Bool}
theorem good_ov (hd : DTree E r ov) (hF : ∀ a b, b < n → (F a b = true ↔ Dom E r a b)) (hlt : ∀ y b, b < n → Dom E r y b → y < n) {b a : Nat} (hb : b < n) (ha : a < n) (h : GoodI F n b a) : ov b = (a : Int) :=
  hd.imm ((hF a b hb).1 h.2.1) h.1 fun y hy hne => (hF y a ha).1 (h.2.2 y (hlt y b hb hy) hne ((hF y b hb).2 hy))
theorem ov_good (hd : DTree E r ov) (hF : ∀ a b, b < n → (F a b = true ↔ Dom E r a b)) {b c : Nat} (hb : b < n) (hc : c < n) (h : ov b = (c : Int)) : GoodI F n b c := by
  have hrb : Rea E r b := Classical.byContradiction fun hn => by rw [hd.non b hn] at h; omega
  have hcb : c ≠ b := fun e => by
    subst e
    obtain ⟨pl, N, hk⟩ := hd.rk
    exact absurd (hk _ _ h).1 (by omega)
  have hdc := (hd.dom b c hrb).1 (.one h)
  have hbr : b ≠ r := fun e => by subst e; rw [hd.rt] at h; omega
  obtain ⟨c', h1, h2⟩ := hd.pos b hrb hbr
  have : c' = c := by rw [h] at h1; exact (Int.ofNat.inj h1).symm
  subst this
  refine ⟨hcb, (hF _ b hb).2 hdc, fun y hy hyb hyF => (hF y _ hc).2 ((hd.dom _ y h2).1 ?_)⟩
  rcases ((hd.dom b y hrb).2 ((hF y b hb).1 hyF)).cases' with e | ⟨z, e, g⟩
  · exact absurd e.symm hyb
  · rw [h] at e
    have := Int.ofNat.inj e
    subst this
    exact g
theorem BestI2.fin (hd : DTree E r ov) (hv : VR n ov) (hF : ∀ a b, b < n → (F a b = true ↔ Dom E r a b)) {b : Nat} (hb : b < n) {x : Int} (h : BestI2 F ov n b n x) : x = ov b := by
  rcases h with ⟨rfl, h⟩ | ⟨h, _⟩
  · rcases hv b with e | ⟨c, e, hc⟩
    · exact e.symm
    · exact absurd (ov_good hd hF hb hc e) (h c hc)
  · exact h
theorem BestI2.skip {b k : Nat} {x : Int} (h : BestI2 F ov n b k x) (hn : ¬ GoodI F n b k) : BestI2 F ov n b (k + 1) x := by
  rcases h with ⟨h1, h2⟩ | h
  · exact .inl ⟨h1, fun a ha => by
      by_cases e : a = k
      · subst e; exact hn
      · exact h2 a (by omega)⟩
  · exact .inr h
theorem BestI2.take (hd : DTree E r ov) (hF : ∀ a b, b < n → (F a b = true ↔ Dom E r a b)) (hlt : ∀ y b, b < n → Dom E r y b → y < n) {b k : Nat} (hb : b < n) (hk : k < n) (hg : GoodI F n b k) : BestI2 F ov n b (k + 1) (k : Int) :=
  .inr ⟨(good_ov hd hF hlt hb hk hg).symm, k, hg, good_ov hd hF hlt hb hk hg⟩
end
/-- the rows of pairs may be read -/
theorem PaRow.read {w : World} {M n : Nat} {v : Value} {rs : List (Option Addr × Nat)} {F : Nat → Nat → Bool} (h : PaRow w M n v rs F) (hrs : rs.length = n) (hn : 0 < n) :
    ∃ g cg, v = .slice (some ⟨g, 0, none⟩) n cg ∧ ∀ a, a < n → ∃ ga ca, w.cell? ⟨g, a, none⟩ = some (.slice (some ⟨ga, 0, none⟩) n ca) ∧ ∀ b, b < n → w.cell? ⟨ga, b, none⟩ = some (.bool (F a b)) := by
  obtain ⟨g, cg, rfl, _, _⟩ := World.ownsRow.form h.row (by omega)
  refine ⟨g, cg, by rw [hrs], fun a ha => ?_⟩
  have ha2 : a < rs.length := by omega
  obtain ⟨ga, ca, hv, _, _⟩ := World.ownsRow.form (h.each a ha2) hn
  have hc := World.ownsRow.cells h.row (g := g) rfl a (.slice rs[a].1 n rs[a].2) (by simp [rcells, ha2])
  rw [do_add, hv] at hc
  refine ⟨ga, ca, hc, fun b hb => ?_⟩
  have he := h.each a ha2
  rw [hv] at he
  have hc2 := World.ownsRow.cells he (g := ga) rfl b (.bool (F a b)) (by simp [bcells, hb])
  rw [do_add] at hc2
  exact hc2
theorem PaRow.grow {w w' : World} {M n : Nat} {v u : Value} {rs : List (Option Addr × Nat)} {F : Nat → Nat → Bool} (h : PaRow w M n v rs F) {o : Obj} (hg : (w.alloc o).grownBy w' u.ownBlock) (hu : ∀ g, u.ownBlock = some g → ∃ cs, w.heap[g]? = some (.cells cs 3 (0, 0))) : PaRow w' M n v rs F := by
  have far : ∀ (b : Nat) (cs : Array Value) (t : TypeId), w.heap[b]? = some (Obj.cells cs t (0, 0)) → t ≠ 3 → w'.heap[b]? = w.heap[b]? := fun b cs t hb ht => by
    refine (hg.block b (by simp; have := hlt hb; omega) (fun e => ?_)).trans (heap_alloc_old _ _ (hlt hb))
    obtain ⟨cs2, h2⟩ := hu b e.symm
    rw [hb] at h2
    cases h2
    exact ht rfl
  refine ⟨own_stays h.row fun b e => ?_, fun a ha => own_stays (h.each a ha) fun b e => ?_⟩
  · obtain ⟨_, _, cs, hcs⟩ := own_block' h.row e
    exact far b cs _ hcs (by decide)
  · obtain ⟨_, _, cs, hcs⟩ := own_block' (h.each a ha) e
    exact far b cs _ hcs (by decide)
set_option maxRecDepth 100000 in
set_option maxHeartbeats 4000000 in
theorem imm_any (A : Option Addr) (c : Nat) (l : List PtV) (post : Bool) (w : World) (hl : FlOk l) (hp : PRow w.heap.size w A l) (dB pB : Nat → Nat → Bool) (hd : ∀ a b, dB a b = true ↔ DomS (edg l) 0 l (a : Int) (b : Int)) (hpB : ∀ a b, pB a b = true ↔ DomS (bke l) 1 l (a : Int) (b : Int))
    {E : Nat → List Nat} {r : Nat} {ov : Nat → Int} (hD : DTree E r ov) (hV : VR l.length ov) (hF : ∀ a b, b < l.length → (relT post dB pB a b = true ↔ Dom E r a b)) (hlt : ∀ y b, b < l.length → Dom E r y b → y < l.length) :
    Calls Try.prog 47 #[.agg #[.slice A l.length c], .bool post] w fun e W => ∃ v, e = .returned v ∧ ZOwn W w.heap.size v ((List.range l.length).map ov) ∧ Below w.heap.size w W := by
  have hln := hl.n
  have h2n := hl.two
  have HS := Lib.hid (show FlSm l from ⟨hl.n, hl.few⟩)
  have HL := Lib.hid hl
  have HPP := Lib.hid hp
  have HDB := Lib.hid hd
  have HPB := Lib.hid hpB
  have HD := Lib.hid hD
  have HV := Lib.hid hV
  have HFR := Lib.hid hF
  have HLT := Lib.hid hlt
  have ha1 := (Below.refl w.heap.size w).alloc (Nat.le_refl _) (.cells #[.slice A l.length c] 24)
  have HFB := Lib.hid (show FBx (w.alloc (.cells #[.slice A l.length c] 24)) w.heap.size A c l from heap_alloc_new w _)
  have hs1 : (w.alloc (.cells #[.slice A l.length c] 24)).heap.size = w.heap.size + 1 := by simp
  have ha2 := (Below.refl _ _).alloc (Nat.le_refl (w.alloc (.cells #[.slice A l.length c] 24)).heap.size) (.cells #[] 3)
  have HF1 := Lib.hid (show FBx _ w.heap.size A c l from HFB.out.later ha2)
  have HB1 := Lib.hid (ha1.trans (ha2.mono ha1.size))
  have hrow := heap_alloc_new (w.alloc (.cells #[.slice A l.length c] 24)) (.cells #[] 3)
  rw [hs1] at hrow
  have HO1 := Lib.hid (show ((w.alloc (.cells #[.slice A l.length c] 24)).alloc (.cells #[] 3)).ownsRow w.heap.size 3 1 (.slice (some ⟨w.heap.size + 1, 0, none⟩) 0 0) 0 (zcells ((List.range 0).map ov)) from ⟨rfl, .inr ⟨w.heap.size + 1, 0, _, rfl, by omega, hrow, Nat.le_refl _, by decide, rfl, rfl⟩⟩)
  have c0 := HF1.out.cell
  clear hl hp hd hpB hD hV hF hlt ha1 ha2 hs1 hrow HFB
  go_enter Try.func47, Try.ntmps47
  go_wp2_with (fail)
  generalize ((w.alloc (.cells #[.slice A l.length c] 24)).alloc (.cells #[] 3)) = w1 at *
  refine (rvalid_any A c l w1 HS.out ((HPP.out.below HB1.out).mono HB1.out.size)).mono ?_
  rintro e w2 ⟨rfl, hb⟩
  rw [HL.out.ok]
  have HB2 := Lib.hid (HB1.out.trans (hb.mono HB1.out.size))
  have HF2 := Lib.hid (HF1.out.later hb)
  have HO2 := Lib.hid (own_stays HO1.out fun g e => hb.block g (own_block' HO1.out e).2.1)
  clear c0 hb
  have c0 := HF2.out.cell
  go_wp2_with (fail)
  refine (pairs_any A c l post w2 HS.out ((HPP.out.below HB2.out).mono HB2.out.size) dB pB HDB.out HPB.out).mono ?_
  rintro e w3 ⟨pv, rs, rfl, hpr, hrs, hb⟩
  have HB3 := Lib.hid (HB2.out.trans (hb.mono HB2.out.size))
  have HF3 := Lib.hid (HF2.out.later hb)
  have HO3 := Lib.hid (own_stays HO2.out fun g e => hb.block g (own_block' HO2.out e).2.1)
  have HP3 := Lib.hid hpr
  obtain ⟨g, cg, rfl, _⟩ := hpr.read hrs (by omega)
  have HRS := Lib.hid hrs
  generalize relT post dB pB = F at *
  clear c0 hb hpr hrs
  go_wp2_with (fail)
  go_loopw [5, 7] (fun v i wr => ∃ b : Nat, i = .int .i64 (b : Int) ∧ b ≤ l.length ∧ Hid (wr.ownsRow w.heap.size 3 1 v b (zcells ((List.range b).map ov))) ∧ Hid (PaRow wr w2.heap.size l.length (.slice (some ⟨g, 0, none⟩) l.length cg) rs F) ∧ Hid (FBx wr w.heap.size A c l) ∧ Hid (Below w.heap.size w wr)) (fun _ i _ => l.length - (intOf i).toNat)
  case atStart => exact ⟨0, rfl, Nat.zero_le _, HO3, HP3, HF3, HB3⟩
  case round =>
    obtain ⟨b, rfl, hb, how, hpa, hfb, hbw⟩ := hrel
    generalize wr = wo at *
    have c0 := hfb.out.cell
    by_cases hbl : b < l.length
    · obtain ⟨g', cg', hge, hrd⟩ := hpa.out.read HRS.out (by omega)
      cases hge
      have HRD := Lib.hid hrd
      clear hrd
      go_wp2_with (fail)
      go_loopw [8, 9] (fun x i wr => ∃ (k : Nat) (y : Int), x = .int .i64 y ∧ i = .int .i64 (k : Int) ∧ k ≤ l.length ∧ Hid (wr = wo) ∧ Hid (BestI2 F ov l.length b k y)) (fun _ i _ => l.length - (intOf i).toNat)
      case atStart => exact ⟨0, -1, rfl, rfl, Nat.zero_le _, Lib.hid rfl, Lib.hid (.inl ⟨rfl, fun a h => absurd h (by omega)⟩)⟩
      case round =>
        obtain ⟨k, y, rfl, rfl, hk, hw, hbest⟩ := hrel
        obtain rfl := hw.out.symm
        have c0 := hfb.out.cell
        by_cases hkl : k < l.length
        · by_cases hkb : k = b
          · have HN := Lib.hid (hbest.out.skip (fun h => h.1 hkb))
            subst hkb
            go_wp2_with (fail)
            exact ⟨⟨k + 1, y, rfl, by go_num, by omega, Lib.hid (by first | rfl | trivial), HN⟩, by simp [intOf]; omega⟩
          · have hkbi : ¬ (k : Int) = (b : Int) := by omega
            have hkbb : ((k : Int) == (b : Int)) = false := beq_eq_false_iff_ne.2 hkbi
            obtain ⟨ga, ca, r1, r2⟩ := HRD.out k hkl
            have r3 := r2 b hbl
            cases hfk : F k b with
            | false =>
              have HN := Lib.hid (hbest.out.skip (fun h => by rw [h.2.1] at hfk; cases hfk))
              rw [hfk] at r3
              clear hfk r2
              go_wp2_with (fail)
              exact ⟨⟨k + 1, y, rfl, by go_num, by omega, Lib.hid (by first | rfl | trivial), HN⟩, by simp [intOf]; omega⟩
            | true =>
              have HFK := Lib.hid hfk
              have HKB := Lib.hid hkb
              rw [hfk] at r3
              clear hfk r2 hkb
              go_wp2_with (fail)
              clear r1 r3 c0
              go_loopw [10, 11] (fun x i wr => ∃ (j : Nat) (al : Bool), x = .bool al ∧ i = .int .i64 (j : Int) ∧ j ≤ l.length ∧ Hid (wr = wo) ∧ Hid (al = true ↔ ∀ c, c < j → c ≠ b → F c b = true → F c k = true)) (fun _ i _ => l.length - (intOf i).toNat)
              case atStart => exact ⟨0, true, rfl, rfl, Nat.zero_le _, Lib.hid rfl, Lib.hid ⟨fun _ c h => absurd h (by omega), fun _ => rfl⟩⟩
              case round =>
                obtain ⟨j, al, rfl, rfl, hj, hw2, hall⟩ := hrel
                obtain rfl := hw2.out.symm
                have c0 := hfb.out.cell
                by_cases hjl : j < l.length
                · by_cases hjb : j = b
                  · have HN := Lib.hid (show al = true ↔ ∀ c, c < j + 1 → c ≠ b → F c b = true → F c k = true from hall.out.trans ⟨fun h c hc h1 h2 => by
                      by_cases e : c = j
                      · subst e; exact absurd hjb h1
                      · exact h c (by omega) h1 h2, fun h c hc => h c (by omega)⟩)
                    have hjb0 : (j : Int) = (b : Int) := by omega
                    have hjb1 : ((j : Int) == (b : Int)) = true := beq_iff_eq.2 hjb0
                    subst hjb
                    clear hjb0 hjb1
                    go_wp2_with (fail)
                    exact ⟨⟨j + 1, al, rfl, by go_num, by omega, Lib.hid (by first | rfl | trivial), HN⟩, by simp [intOf]; omega⟩
                  · have hjbi : ¬ (j : Int) = (b : Int) := by omega
                    have hjbb : ((j : Int) == (b : Int)) = false := beq_eq_false_iff_ne.2 hjbi
                    obtain ⟨gj, cj, r1, r2⟩ := HRD.out j hjl
                    have r3 := r2 b hbl
                    have r4 := r2 k hkl
                    cases hjF : F j b with
                    | false =>
                      have HN := Lib.hid (show al = true ↔ ∀ c, c < j + 1 → c ≠ b → F c b = true → F c k = true from hall.out.trans ⟨fun h c hc h1 h2 => by
                        by_cases e : c = j
                        · subst e; rw [h2] at hjF; cases hjF
                        · exact h c (by omega) h1 h2, fun h c hc => h c (by omega)⟩)
                      rw [hjF] at r3
                      clear hjF r2 r4 hjb
                      go_wp2_with (fail)
                      exact ⟨⟨j + 1, al, rfl, by go_num, by omega, Lib.hid (by first | rfl | trivial), HN⟩, by simp [intOf]; omega⟩
                    | true =>
                      rw [hjF] at r3
                      cases hjK : F j k with
                      | true =>
                        have HN := Lib.hid (show al = true ↔ ∀ c, c < j + 1 → c ≠ b → F c b = true → F c k = true from hall.out.trans ⟨fun h c hc h1 h2 => by
                          by_cases e : c = j
                          · subst e; exact hjK
                          · exact h c (by omega) h1 h2, fun h c hc => h c (by omega)⟩)
                        rw [hjK] at r4
                        clear hjF hjK r2 hjb
                        go_wp2_with (fail)
                        exact ⟨⟨j + 1, al, rfl, by go_num, by omega, Lib.hid (by first | rfl | trivial), HN⟩, by simp [intOf]; omega⟩
                      | false =>
                        have HN := Lib.hid (show false = true ↔ ∀ c, c < j + 1 → c ≠ b → F c b = true → F c k = true from ⟨fun h => Bool.noConfusion h, fun h => absurd (h j (by omega) hjb hjF) (by rw [hjK]; decide)⟩)
                        rw [hjK] at r4
                        clear hjF hjK r2 hjb
                        go_wp2_with (fail)
                        exact ⟨⟨j + 1, false, rfl, by go_num, by omega, Lib.hid (by first | rfl | trivial), HN⟩, by simp [intOf]; omega⟩
                · obtain rfl : j = l.length := by omega
                  cases al with
                  | true =>
                    have HN := Lib.hid (BestI2.take HD.out HFR.out HLT.out hbl hkl ⟨HKB.out, HFK.out, hall.out.1 rfl⟩)
                    go_wp2_with (fail)
                    exact ⟨⟨k + 1, (k : Int), rfl, by go_num, by omega, Lib.hid (by first | rfl | trivial), HN⟩, by simp [intOf]; omega⟩
                  | false =>
                    have HN := Lib.hid (hbest.out.skip (fun h => by have := hall.out.2 h.2.2; cases this))
                    go_wp2_with (fail)
                    exact ⟨⟨k + 1, y, rfl, by go_num, by omega, Lib.hid (by first | rfl | trivial), HN⟩, by simp [intOf]; omega⟩
        · obtain rfl : k = l.length := by omega
          have hyo := hbest.out.fin HD.out HV.out HFR.out hbl
          subst hyo
          have hM := hbw.out.size
          obtain ⟨i0, hi0, hz0, hz1, hz2⟩ := info_parts infoInt
          obtain ⟨y, hy⟩ : ∃ y, y = ov b := ⟨_, rfl⟩
          rw [← hy]
          have HY := Lib.hid hy
          clear hy hbest
          go_wp2_with (at_builtin; refine wpList_append_own_at _ rfl _ _ 29 rfl w.heap.size 3 i0 _ 1 8 Try.underlying29 hi0 hz0 hz1 hz2 rfl (by decide) _ b (zcells ((List.range b).map ov)) rfl (how.out.alloc _) ⟨wo.heap.size, 0, none⟩ 1 1 [.int .i64 y] rfl rfl (cell_one_new _ _ _) (by simp [Value.oneCell']) (by unfold maxLen; omega) (by omega) (by simp; omega) ?_; intro v' w4 hown hgr _ _)
          have HO4 := Lib.hid (show w4.ownsRow w.heap.size 3 1 v' (b + 1) (zcells ((List.range (b + 1)).map ov)) from by
            rw [List.range_succ, List.map_append, zcells_append]
            rw [HY.out] at hown
            exact hown)
          have hui : ∀ g, Value.ownBlock _ = some g → ∃ cs, wo.heap[g]? = some (.cells cs 3 (0, 0)) := fun g e => (own_block' how.out e).2.2
          have HP4 := Lib.hid (hpa.out.grow hgr hui)
          have HF4 := Lib.hid (show FBx w4 w.heap.size A c l from by
            refine ((hgr.block w.heap.size (by simp; have := hfb.out.lt; omega) (fun e => ?_)).trans (heap_alloc_old _ _ hfb.out.lt)).trans hfb.out
            obtain ⟨cs, hcs⟩ := hui _ e.symm
            have h := hfb.out
            unfold FBx Bx at h
            rw [hcs] at h
            cases h)
          have HB4 := Lib.hid ((hbw.out.alloc hM _).grown hgr (by simp; omega) (fun g e => (own_block' how.out e).1))
          exact ⟨⟨b + 1, by go_num, by omega, HO4, HP4, HF4, HB4⟩, by simp [intOf]; omega⟩
    · obtain rfl : b = l.length := by omega
      have HFIN := Lib.hid (show ZOwn wo w.heap.size u5 ((List.range l.length).map ov) from by
        unfold ZOwn
        rw [List.length_map, List.length_range]
        exact how.out)
      go_wp2_with (fail)
      go_ret
      exact ⟨u5, rfl, HFIN.out, hbw.out⟩
end Go.Proofs.Ytbdpdbeekbbehaa
