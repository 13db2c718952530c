/- What is proved: the law DominatorChains: the chains of immediate dominators are the dominators. -/
import Derived.Test.YtncamhbjndkihaaDoChn
import Derived.Test.YtncamhbjndkihaaDoAwake
import Derived.Test.YtncamhbjndkihaaDoSmall
set_option linter.unusedVariables false
namespace Go.Proofs.Ytncamhbjndkihaa
open Go.RowKit Go.Shelf

/-- what the calls give, wherever the flow lies -/
structure ChC (w6 : World) (A : Option Addr) (c : Nat) (l : List PtV) (fb nb ob ob2 : Nat) (ov ov2 : Nat → Int) (dB pB : Nat → Nat → Bool) : Prop where
  box : ∀ W, Below w6.heap.size w6 W → W.cell? ⟨fb, 0, none⟩ = some (.slice A l.length c)
  nbx : ∀ W, Below w6.heap.size w6 W → W.cell? ⟨nb, 0, none⟩ = some (.int .i64 (l.length : Int))
  up : ∀ W v, Below w6.heap.size w6 W → v < l.length → W.cell? ⟨ob, v, none⟩ = some (.int .i64 (ov v))
  down : ∀ W v, Below w6.heap.size w6 W → v < l.length → W.cell? ⟨ob2, v, none⟩ = some (.int .i64 (ov2 v))
  dom : ∀ W (a b : Nat), Below w6.heap.size w6 W → Calls Try.prog 20 #[.agg #[.slice A l.length c], .int .i64 (a : Int), .int .i64 (b : Int)] W fun e W' => e = .returned (.bool (dB a b)) ∧ Below W.heap.size W W'
  post : ∀ W (a b : Nat), Below w6.heap.size w6 W → Calls Try.prog 22 #[.agg #[.slice A l.length c], .int .i64 (a : Int), .int .i64 (b : Int)] W fun e W' => e = .returned (.bool (pB a b)) ∧ Below W.heap.size W W'
  ch1 : ∀ W (a b : Nat), Below w6.heap.size w6 W → a < l.length → b < l.length → dB b b = true → Calls Try.prog 32 #[.slice (some ⟨ob, 0, none⟩) l.length l.length, .int .i64 (a : Int), .int .i64 (b : Int), .pointer (some ⟨nb, 0, none⟩)] W fun e W' => e = .returned (.bool (dB a b)) ∧ W = W'
  ch2 : ∀ W (a b : Nat), Below w6.heap.size w6 W → a < l.length → b < l.length → pB b b = true → Calls Try.prog 32 #[.slice (some ⟨ob2, 0, none⟩) l.length l.length, .int .i64 (a : Int), .int .i64 (b : Int), .pointer (some ⟨nb, 0, none⟩)] W fun e W' => e = .returned (.bool (pB a b)) ∧ W = W'
  no1 : ∀ a, a < l.length → dB a a = false → ov a = -1
  no2 : ∀ a, a < l.length → pB a a = false → ov2 a = -1
  rt1 : ov 0 = -1
  rt2 : ov2 1 = -1
theorem domS_nat {E : Nat → List Nat} {r : Nat} {l : List PtV} (hv : validP l = true) {a b : Nat} (hb : b < l.length) : DomS E r l (a : Int) (b : Int) ↔ Dom E r a b := by
  constructor
  · rintro ⟨_, v, y, e1, e2, _, h⟩
    have := Int.ofNat.inj e1
    have := Int.ofNat.inj e2
    subst_vars
    exact h
  · exact fun h => ⟨hv, b, a, rfl, rfl, hb, h⟩
theorem dom_self {E : Nat → List Nat} {r v : Nat} : Dom E r v v ↔ Rea E r v := ⟨fun h => h.1, fun h => ⟨h, fun g => g.last rfl⟩⟩
theorem chc_of {w6 : World} {A : Option Addr} {c : Nat} {l : List PtV} {fb nb ob ob2 : Nat} {ov ov2 : Nat → Int} (hl : FlOk l) (hp : PRow w6.heap.size w6 A l) (hf : FBx w6 fb A c l) (hn : Bx w6 nb 3 (.int .i64 (l.length : Int))) (h1 : IArr w6 ob l.length ov) (h2 : IArr w6 ob2 l.length ov2)
    (d1 : DTree (edg l) 0 ov) (d2 : DTree (bke l) 1 ov2) (v1 : VR l.length ov) (v2 : VR l.length ov2) {dB pB : Nat → Nat → Bool} (hd : ∀ a b, dB a b = true ↔ DomS (edg l) 0 l (a : Int) (b : Int)) (hpB : ∀ a b, pB a b = true ↔ DomS (bke l) 1 l (a : Int) (b : Int)) : ChC w6 A c l fb nb ob ob2 ov ov2 dB pB := by
  have hsm : FlSm l := ⟨hl.n, hl.few⟩
  have hln := hl.n
  have hP : ∀ W, Below w6.heap.size w6 W → PRow W.heap.size W A l := fun W hW => (hp.below hW).mono hW.size
  have f : ∀ (b : Bool) (P : Prop), b = false → (b = true ↔ P) → ¬ P := fun b P e h g => by rw [h.2 g] at e; cases e
  refine ⟨fun W hW => (hf.later hW).cell, fun W hW => (hn.later hW).cell, fun W v hW hv => (h1.later hW).cell hv, fun W v hW hv => (h2.later hW).cell hv,
    fun W a b hW => dominates_any A c l a b W hsm (hP W hW) (dB a b) (hd a b), fun W a b hW => postdominates_any A c l a b W hsm (hP W hW) (pB a b) (hpB a b),
    fun W a b hW ha hb hbb => chain_any a b W (h1.later hW) d1 v1 (hn.later hW) hb (by omega) (by omega) (dB a b) ?_, fun W a b hW ha hb hbb => chain_any a b W (h2.later hW) d2 v2 (hn.later hW) hb (by omega) (by omega) (pB a b) ?_,
    fun a ha h => d1.non a fun g => f _ _ h (hd a a) ((domS_nat hl.ok ha).2 (dom_self.2 g)), fun a ha h => d2.non a fun g => f _ _ h (hpB a a) ((domS_nat hl.ok ha).2 (dom_self.2 g)), d1.rt, d2.rt⟩
  · rw [hd, domS_nat hl.ok hb]
    exact (d1.dom b a (dom_self.1 ((domS_nat hl.ok hb).1 ((hd b b).1 hbb)))).symm
  · rw [hpB, domS_nat hl.ok hb]
    exact (d2.dom b a (dom_self.1 ((domS_nat hl.ok hb).1 ((hpB b b).1 hbb)))).symm

set_option maxRecDepth 100000 in
set_option maxHeartbeats 4000000 in
theorem law_chains (A : Option Addr) (c : Nat) (l : List PtV) (w : World) (hf : FlArg w A c l) :
    Calls Try.prog 7 #[.agg #[.slice A l.length c]] w fun e W => e = .returned (.bool true) ∧ Below w.heap.size w W := by
  have HF := Lib.hid hf
  have HB1 := Lib.hid ((Below.refl w.heap.size w).alloc (Nat.le_refl _) (.cells #[.slice A l.length c] 24))
  have HFB := Lib.hid (show FBx (w.alloc (.cells #[.slice A l.length c] 24)) w.heap.size A c l from heap_alloc_new w _)
  clear hf
  go_enter Try.func7, Try.ntmps7
  go_wp2_with (fail)
  generalize (w.alloc (.cells #[.slice A l.length c] 24)) = w1 at *
  refine (awake_any w1).mono ?_
  rintro e w2 ⟨rfl, hb⟩
  have HB2 := Lib.hid (HB1.out.trans (hb.mono HB1.out.size))
  have HF2 := Lib.hid (HFB.out.later hb)
  have c0 := HF2.out.cell
  clear hb
  go_wp2_with (fail)
  refine (small_any A c l 14 w2 ⟨(HF.out.row.below HB2.out).mono HB2.out.size, HF.out.len, HF.out.few⟩).mono ?_
  rintro e w3 ⟨rfl, hb⟩
  have HB3 := Lib.hid (HB2.out.trans (hb.mono HB2.out.size))
  have HF3 := Lib.hid (HF2.out.later hb)
  clear hb c0
  cases hsm : smB 14 l with
  | false =>
    clear hsm
    go_wp2_with (fail)
    go_ret
    exact ⟨rfl, HB3.out⟩
  | true =>
    have HS := Lib.hid (smB_sm hsm (by omega))
    have c0 := HF3.out.cell
    clear hsm
    go_wp2_with (fail)
    refine (valid_any A c l w3 HS.out ((HF.out.row.below HB3.out).mono HB3.out.size)).mono ?_
    rintro e w4 ⟨rfl, hb⟩
    have HB4 := Lib.hid (HB3.out.trans (hb.mono HB3.out.size))
    have HF4 := Lib.hid (HF3.out.later hb)
    clear hb c0
    cases hv : validP l with
    | false =>
      clear hv
      go_wp2_with (fail)
      go_ret
      exact ⟨rfl, HB4.out⟩
    | true =>
      have HOK := Lib.hid (HS.out.ok hv)
      have hln := HOK.out.n
      have h2n := HOK.out.two
      clear hv
      have HP4 := Lib.hid (show PRow w4.heap.size w4 A l from (HF.out.row.below HB4.out).mono HB4.out.size)
      have HC0 := Lib.hid (show ∀ W, Below w4.heap.size w4 W → W.cell? ⟨w.heap.size, 0, none⟩ = some (.slice A l.length c) from fun W hW => (HF4.out.later hW).cell)
      have HDO := Lib.hid (fun W (hW : Below w4.heap.size w4 W) => dominators_any A c l W HS.out ((HP4.out.below hW).mono hW.size))
      have HPO := Lib.hid (fun W (hW : Below w4.heap.size w4 W) => postdominators_any A c l W HS.out ((HP4.out.below hW).mono hW.size))
      go_upto_region 5 with (fail)
      rename_i K hKK
      -- REGION 5
      refine wp_region_noPanic ?_
      refine wp_region_held_drew (S := fun w' => Below w4.heap.size w4 w') (by kernel_rfl) (Below.refl _ _).drew (fun _ => ?_)
      have HB5 := Lib.hid (show Below w4.heap.size w4 w4.drew from (Below.refl _ _).drew)
      generalize w4.drew = w5 at *
      refine wpAnyH_take (i := 0) (oi := { dst := some 19, op := Op.load 24 (Operand.tmp 1), type := 24, pos := "law.go:73", after := #[], guard := none }) (v := .agg #[.slice A l.length c]) rfl (by kernel_rfl) (by kernel_rfl) (by kernel_rfl) (fun _ _ _ h => h) (Or.inl ⟨by rfl, ?_⟩) HB5.out ?_
      · (intro w' hSw; have z := HC0.out w' hSw; go_simp)
      simp only [Act.put, List.setIfInBounds_toArray, List.set_cons_zero, List.set_cons_succ]
      refine wpAnyH_take (i := 2) (oi := { dst := some 21, op := Op.load 24 (Operand.tmp 1), type := 24, pos := "law.go:73", after := #[], guard := none }) (v := .agg #[.slice A l.length c]) rfl (by kernel_rfl) (by kernel_rfl) (by kernel_rfl) (fun _ _ _ h => h) (Or.inl ⟨by rfl, ?_⟩) HB5.out ?_
      · (intro w' hSw; have z := HC0.out w' hSw; go_simp)
      simp only [Act.put, List.setIfInBounds_toArray, List.set_cons_zero, List.set_cons_succ]
      refine wpAnyH_ready (rs := [1]) (by kernel_rfl) (by simp) (AllReadyH.cons (o := { dst := some 20, op := Op.call { callee := Callee.value (Operand.func 16), args := #[Operand.tmp 19], argTypes := #[24] }, type := 29, pos := "law.go:73", after := #[{ on := 0, ground := Ground.data }], guard := none }) rfl (fun K hK => ?_) AllReadyH.nil)
      go_simp
      go_at_call 16
      refine (HDO.out w5 HB5.out).mono ?_
      rintro e w6 ⟨hb, ⟨_, ob, ov, rfl, ho, _, hd, hvr⟩ | ⟨h, _⟩⟩
      rotate_left
      · exact absurd h (by rw [HOK.out.ok]; decide)
      have HB6 := Lib.hid (show Below w4.heap.size w4 w6 from HB5.out.trans (hb.mono HB5.out.size))
      have HX6 := Lib.hid (show Below w5.heap.size w5 w6 from hb)
      have HO6 := Lib.hid ho
      have HD6 := Lib.hid hd
      have HV6 := Lib.hid hvr
      clear hb ho hd hvr
      refine hK.out _ _ HB6.out (fun _ => ?_)
      clear hK K
      try simp only [Act.put, List.setIfInBounds_toArray, List.set_cons_zero, List.set_cons_succ]
      refine wpAnyH_ready (rs := [3]) (by kernel_rfl) (by simp) (AllReadyH.cons (o := { dst := some 22, op := Op.call { callee := Callee.value (Operand.func 18), args := #[Operand.tmp 21], argTypes := #[24] }, type := 29, pos := "law.go:73", after := #[{ on := 2, ground := Ground.data }, { on := 1, ground := Ground.chain }], guard := none }) rfl (fun K hK => ?_) AllReadyH.nil)
      go_simp
      go_at_call 18
      refine (HPO.out w6 HB6.out).mono ?_
      rintro e w7 ⟨hb, ⟨_, ob2, ov2, rfl, ho, _, hd, hvr⟩ | ⟨h, _⟩⟩
      rotate_left
      · exact absurd h (by rw [HOK.out.ok]; decide)
      have HB7 := Lib.hid (show Below w4.heap.size w4 w7 from HB6.out.trans (hb.mono HB6.out.size))
      have HX7 := Lib.hid (show Below w6.heap.size w6 w7 from hb)
      have HO7 := Lib.hid ho
      have HD7 := Lib.hid hd
      have HV7 := Lib.hid hvr
      clear hb ho hd hvr
      refine hK.out _ _ HB7.out (fun _ => ?_)
      clear hK K
      try simp only [Act.put, List.setIfInBounds_toArray, List.set_cons_zero, List.set_cons_succ]
      refine wpAnyH_take (i := 4) (oi := { dst := some 3, op := Op.assign (Operand.tmp 20), type := 29, pos := "law.go:73", after := #[{ on := 1, ground := Ground.data }, { on := 3, ground := Ground.chain }, { on := 0, ground := Ground.phase }, { on := 1, ground := Ground.phase }, { on := 2, ground := Ground.textOnly Departure.lateStores }, { on := 3, ground := Ground.textOnly Departure.lateStoresUnsure }], guard := none }) (v := .slice (some ⟨ob, 0, none⟩) l.length l.length) rfl (by kernel_rfl) (by kernel_rfl) (by kernel_rfl) (fun _ _ _ h => h) (Or.inl ⟨by rfl, ?_⟩) HB7.out ?_
      · (intro w' hSw; go_simp)
      simp only [Act.put, List.setIfInBounds_toArray, List.set_cons_zero, List.set_cons_succ]
      refine wpAnyH_take (i := 5) (oi := { dst := some 4, op := Op.assign (Operand.tmp 22), type := 29, pos := "law.go:73", after := #[{ on := 3, ground := Ground.data }, { on := 4, ground := Ground.chain }, { on := 0, ground := Ground.phase }, { on := 1, ground := Ground.phase }, { on := 2, ground := Ground.phase }, { on := 3, ground := Ground.phase }, { on := 4, ground := Ground.phase }], guard := none }) (v := .slice (some ⟨ob2, 0, none⟩) l.length l.length) rfl (by kernel_rfl) (by kernel_rfl) (by kernel_rfl) (fun _ _ _ h => h) (Or.inl ⟨by rfl, ?_⟩) HB7.out ?_
      · (intro w' hSw; go_simp)
      simp only [Act.put, List.setIfInBounds_toArray, List.set_cons_zero, List.set_cons_succ]
      refine wpAnyH_done (by kernel_rfl) ?_ _
      refine NoPanic.normal ?_
      -- REGION 5 END
      refine hKK _ _ ?_
      clear hKK
      have hal := (Below.refl w7.heap.size w7).alloc (Nat.le_refl _) (.cells #[.int .i64 (l.length : Int)] 3)
      have HB8 := Lib.hid (show Below w.heap.size w _ from HB4.out.trans ((HB7.out.trans (hal.mono HB7.out.size)).mono HB4.out.size))
      obtain ⟨dB, hdB⟩ : ∃ dB : Nat → Nat → Bool, ∀ a b, dB a b = true ↔ DomS (edg l) 0 l (a : Int) (b : Int) := by
        classical exact ⟨fun a b => decide (DomS (edg l) 0 l (a : Int) (b : Int)), fun a b => by simp⟩
      obtain ⟨pB, hpB⟩ : ∃ pB : Nat → Nat → Bool, ∀ a b, pB a b = true ↔ DomS (bke l) 1 l (a : Int) (b : Int) := by
        classical exact ⟨fun a b => decide (DomS (bke l) 1 l (a : Int) (b : Int)), fun a b => by simp⟩
      have HE := Lib.hid (chc_of (w6 := w7.alloc (.cells #[.int .i64 (l.length : Int)] 3)) (fb := w.heap.size) (nb := w7.heap.size) (c := c) HOK.out ((HF.out.row.below HB8.out).mono HB8.out.size) (HF4.out.later (HB7.out.trans (hal.mono HB7.out.size))) (heap_alloc_new w7 _) ((HO6.out.later HX7.out).later hal) (HO7.out.later hal) HD6.out HD7.out HV6.out HV7.out hdB hpB)
      have c0 := HC0.out w7 HB7.out
      clear hal hdB hpB HDO HPO HC0
      go_wp2_with (fail)
      generalize (w7.alloc (.cells #[.int .i64 (l.length : Int)] 3)) = w8 at *
      generalize w7.heap.size = nb at *
      clear c0
      go_loopw [38] (fun i wr => ∃ a : Nat, i = .int .i64 (a : Int) ∧ a ≤ l.length ∧ Hid (Below w8.heap.size w8 wr)) (fun i _ => l.length - (intOf i).toNat)
      case atStart => exact ⟨0, rfl, Nat.zero_le _, Lib.hid (Below.refl _ _)⟩
      case round =>
        obtain ⟨a, rfl, ha, hbw⟩ := hrel
        by_cases hal : a < l.length
        · have n0 := HE.out.nbx wr hbw.out
          go_wp2_with (fail)
          clear n0
          go_loopw [42] (fun i wr => ∃ b : Nat, i = .int .i64 (b : Int) ∧ b ≤ l.length ∧ Hid (Below w8.heap.size w8 wr)) (fun i _ => l.length - (intOf i).toNat)
          case atStart => exact ⟨0, rfl, Nat.zero_le _, hbw⟩
          case round =>
            obtain ⟨b, rfl, hb, hbb⟩ := hrel
            by_cases hbl : b < l.length
            · have c0 := HE.out.box _ hbb.out
              go_wp2_with (fail)
              refine (HE.out.dom _ b b hbb.out).mono ?_
              rintro e w9 ⟨rfl, h⟩
              have HB9 := Lib.hid (hbb.out.trans (h.mono hbb.out.size))
              clear h c0
              cases hdb : dB b b with
              | true =>
                have HDB := Lib.hid hdb
                clear hdb
                have c0 := HE.out.box w9 HB9.out
                go_wp2_with (fail)
                refine (HE.out.dom w9 a b HB9.out).mono ?_
                rintro e w10 ⟨rfl, h⟩
                have HB10 := Lib.hid (HB9.out.trans (h.mono HB9.out.size))
                clear h c0
                go_wp2_with (fail)
                refine (HE.out.ch1 w10 a b HB10.out hal hbl HDB.out).mono ?_
                rintro e w11 ⟨rfl, rfl⟩
                have c0 := HE.out.box w10 HB10.out
                go_wp2_with (fail)
                refine (HE.out.post w10 b b HB10.out).mono ?_
                rintro e wp1 ⟨rfl, h⟩
                have HQ1 := Lib.hid (HB10.out.trans (h.mono HB10.out.size))
                clear h c0
                cases hpb : pB b b with
                | true =>
                  have HPB := Lib.hid hpb
                  clear hpb
                  have c0 := HE.out.box wp1 HQ1.out
                  go_wp2_with (fail)
                  refine (HE.out.post wp1 a b HQ1.out).mono ?_
                  rintro e wp2 ⟨rfl, h⟩
                  have HQ2 := Lib.hid (HQ1.out.trans (h.mono HQ1.out.size))
                  clear h c0
                  go_wp2_with (fail)
                  refine (HE.out.ch2 wp2 a b HQ2.out hal hbl HPB.out).mono ?_
                  rintro e wp3 ⟨rfl, rfl⟩
                  go_wp2_with (fail)
                  exact ⟨⟨b + 1, by go_num, by omega, HQ2⟩, by simp [intOf]; omega⟩
                | false =>
                  clear hpb
                  go_wp2_with (fail)
                  exact ⟨⟨b + 1, by go_num, by omega, HQ1⟩, by simp [intOf]; omega⟩
              | false =>
                clear hdb
                have c0 := HE.out.box w9 HB9.out
                go_wp2_with (fail)
                refine (HE.out.post w9 b b HB9.out).mono ?_
                rintro e wp1 ⟨rfl, h⟩
                have HQ1 := Lib.hid (HB9.out.trans (h.mono HB9.out.size))
                clear h c0
                cases hpb : pB b b with
                | true =>
                  have HPB := Lib.hid hpb
                  clear hpb
                  have c0 := HE.out.box wp1 HQ1.out
                  go_wp2_with (fail)
                  refine (HE.out.post wp1 a b HQ1.out).mono ?_
                  rintro e wp2 ⟨rfl, h⟩
                  have HQ2 := Lib.hid (HQ1.out.trans (h.mono HQ1.out.size))
                  clear h c0
                  go_wp2_with (fail)
                  refine (HE.out.ch2 wp2 a b HQ2.out hal hbl HPB.out).mono ?_
                  rintro e wp3 ⟨rfl, rfl⟩
                  go_wp2_with (fail)
                  exact ⟨⟨b + 1, by go_num, by omega, HQ2⟩, by simp [intOf]; omega⟩
                | false =>
                  clear hpb
                  go_wp2_with (fail)
                  exact ⟨⟨b + 1, by go_num, by omega, HQ1⟩, by simp [intOf]; omega⟩
            · obtain rfl : b = l.length := by omega
              have c0 := HE.out.box _ hbb.out
              go_wp2_with (fail)
              refine (HE.out.dom _ a a hbb.out).mono ?_
              rintro e w9 ⟨rfl, h⟩
              have HB9 := Lib.hid (hbb.out.trans (h.mono hbb.out.size))
              clear h c0
              cases hda : dB a a with
              | true =>
                clear hda
                have c0 := HE.out.box w9 HB9.out
                go_wp2_with (fail)
                refine (HE.out.post w9 a a HB9.out).mono ?_
                rintro e wp1 ⟨rfl, h⟩
                have HQ1 := Lib.hid (HB9.out.trans (h.mono HB9.out.size))
                clear h c0
                cases hpb : pB a a with
                | true =>
                  clear hpb
                  go_wp2_with (fail)
                  exact ⟨⟨a + 1, by go_num, by omega, HQ1⟩, by simp [intOf]; omega⟩
                | false =>
                  have k1 := HE.out.down wp1 a HQ1.out hal
                  rw [HE.out.no2 a hal hpb] at k1
                  clear hpb
                  go_wp2_with (fail)
                  exact ⟨⟨a + 1, by go_num, by omega, HQ1⟩, by simp [intOf]; omega⟩
              | false =>
                have k0 := HE.out.up w9 a HB9.out hal
                rw [HE.out.no1 a hal hda] at k0
                clear hda
                have c0 := HE.out.box w9 HB9.out
                go_wp2_with (fail)
                refine (HE.out.post w9 a a HB9.out).mono ?_
                rintro e wp1 ⟨rfl, h⟩
                have HQ1 := Lib.hid (HB9.out.trans (h.mono HB9.out.size))
                clear h c0
                cases hpb : pB a a with
                | true =>
                  clear hpb
                  go_wp2_with (fail)
                  exact ⟨⟨a + 1, by go_num, by omega, HQ1⟩, by simp [intOf]; omega⟩
                | false =>
                  have k1 := HE.out.down wp1 a HQ1.out hal
                  rw [HE.out.no2 a hal hpb] at k1
                  clear hpb
                  go_wp2_with (fail)
                  exact ⟨⟨a + 1, by go_num, by omega, HQ1⟩, by simp [intOf]; omega⟩
        · obtain rfl : a = l.length := by omega
          have k0 := HE.out.up wr 0 hbw.out (by omega)
          have k1 := HE.out.down wr 1 hbw.out (by omega)
          rw [HE.out.rt1] at k0
          rw [HE.out.rt2] at k1
          go_wp2_with (fail)
          go_ret
          exact ⟨rfl, HB8.out.trans (hbw.out.mono HB8.out.size)⟩
end Go.Proofs.Ytncamhbjndkihaa
