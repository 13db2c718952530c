/- What is proved: the reference's Eval, of any number; the reference's Build. -/
import Derived.Test.YtjgkcicgjnjepaaDoorBvREv
import Derived.Test.YtjgkcicgjnjepaaDoorBvBuild
set_option linter.unusedVariables false
set_option linter.unusedSimpArgs false
namespace Go.Proofs.YtjgkcicgjnjepaaDoor
open Go.RowKit Go.Maps

theorem r_eval_any {w : World} {W : Int} {l : List Tm} (A : Option Addr) (c : Nat) (i : Int) (I : Option Addr) (d : Nat) (inp : List Int) (hr : TRow w A l) (ht : TbOk W l) (hW : ¬ (W < 2 ∨ 8 < W)) (hz : ZRow w.heap.size w I inp) (hl : l.length ≤ 1000) : Calls Tryd.prog 10 #[.agg #[.int .i64 W, .slice A l.length c], .int .i64 i, .slice I inp.length d] w fun e w' => e = .returned (.tuple #[.int .i64 (evP W l i inp).1, .int .i64 (evP W l i inp).2]) ∧ Below w.heap.size w w' := by
  by_cases h : 0 ≤ i ∧ i < (l.length : Int)
  · obtain ⟨k, rfl⟩ : ∃ k : Nat, i = (k : Int) := ⟨i.toNat, by omega⟩
    exact r_eval_in A c k I d inp hr ht hW hz hl (by omega)
  · exact r_eval_out A c i I d inp h
/-- all of a built table is what nodes are -/
theorem bld_tm {W : Int} {ns : List Tm} (h : ∀ x ∈ ns, TmOk x) : ∀ k, k ≤ ns.length → ∀ y ∈ bldL W (ns.take k), TmOk y := by
  intro k
  induction k with
  | zero => intro _ y hy; simp [bldL] at hy
  | succ k ih =>
    intro hk y hy
    rw [bld_take W ns k (by omega)] at hy
    unfold mkL at hy
    split at hy
    · rcases List.mem_append.1 hy with hy | hy
      · exact ih (by omega) y hy
      · rw [List.mem_singleton.1 hy]
        exact h _ (List.getElem_mem _)
    · exact ih (by omega) y hy
set_option maxRecDepth 100000 in
set_option maxHeartbeats 4000000 in
theorem r_build_any (W : Int) (A : Option Addr) (c : Nat) (ns : List Tm) (w : World) (hW : ¬ (W < 2 ∨ 8 < W)) (hr : TRow w A ns) (hok : ∀ x ∈ ns, TmOk x) (hn : ns.length ≤ 900) : Calls Tryd.prog 7 #[.int .i64 W, .slice A ns.length c] w fun e w' => ∃ A' c', e = .returned (.agg #[.int .i64 W, .slice A' (bldL W ns).length c']) ∧ RF w' A' c' (bldL W ns) ∧ Below w.heap.size w w' := by
  have HW := Lib.hid hW
  have HR := Lib.hid hr
  have HOK := Lib.hid hok
  have HTM := Lib.hid (fun k (hk : k ≤ ns.length) => bld_tm (W := W) hok k hk)
  clear hW hr hok
  obtain ⟨w2, hw2⟩ : ∃ w2, w2 = (w.alloc (.cells #[.int .i64 0, .slice none 0 0] 29)).alloc (.cells #[.int .i64 W, .slice none 0 0] 29) := ⟨_, rfl⟩
  have hs1 : (w.alloc (.cells #[.int .i64 0, .slice none 0 0] 29)).heap.size = w.heap.size + 1 := by simp
  have HB2 := Lib.hid (show Below w.heap.size w w2 by rw [hw2]; exact ((Below.refl _ _).alloc (Nat.le_refl _) _).alloc (by rw [hs1]; omega) _)
  have HR2 := Lib.hid (show RBox w2 w.heap.size 0 none 0 0 by rw [hw2]; exact (heap_alloc_old _ _ (by simp)).trans (heap_alloc_new w _))
  have HT2 := Lib.hid (show RBox w2 (w.heap.size + 1) W none 0 0 by rw [hw2, ← hs1]; exact heap_alloc_new _ _)
  have HF2 := Lib.hid (show RF w2 none 0 (bldL W (ns.take 0)) from ⟨TRow.nil _ _, Nat.zero_le _, fun _ => ⟨rfl, rfl⟩⟩)
  clear hs1
  have hwA := hw2
  go_enter Tryd.func7, Tryd.ntmps7
  go_upto_region 2 with fail
  rw [← hw2]
  clear hw2 hwA
  go_wp2_with (fail)
  go_loopw [6] (fun kv wr => ∃ (k : Nat) (A' : Option Addr) (c' : Nat), k ≤ ns.length ∧ kv = .int .i64 (k : Int) ∧ Hid (RBox wr (w.heap.size + 1) W A' (bldL W (ns.take k)).length c') ∧ Hid (RF wr A' c' (bldL W (ns.take k))) ∧ Hid (∀ a, A' = some a → w.heap.size + 1 < a.block) ∧ Hid (RBox wr w.heap.size 0 none 0 0) ∧ Hid (Below w.heap.size w wr)) (fun kv _ => ns.length - (intOf kv).toNat)
  case atStart => exact ⟨0, none, 0, Nat.zero_le _, rfl, HT2, HF2, Lib.hid (fun a e => by cases e), HR2, HB2⟩
  case round =>
    obtain ⟨k, A', c', hk, rfl, hbx, hrf, hab, hrb, hbw⟩ := hrel
    by_cases hlt' : k < ns.length
    · obtain ⟨xb, xo, hA, hxb, hc0⟩ := (HR.out.later hbw.out).at hlt'
      have HXB := Lib.hid (show xb < w.heap.size from by
        obtain ⟨b, o, h1, h2, _⟩ := HR.out.at hlt'
        rw [h1] at hA
        cases hA
        exact h2)
      have HX := Lib.hid (HOK.out _ (List.getElem_mem hlt'))
      have HTK := Lib.hid (bld_take W ns k hlt')
      have hlen := (bld_ok W ns k (by omega)).2
      have HOPS := Lib.hid (show ∀ y ∈ bldL W (ns.take k), 0 ≤ y.op ∧ y.op < 18 from fun y hy => by
        obtain ⟨q, hq, e⟩ := List.getElem_of_mem hy
        have := (bld_ok W ns k (by omega)).1.node hq
        rw [e] at this
        exact ⟨this.1, this.2.1⟩)
      have HTMK := Lib.hid (HTM.out k (by omega))
      generalize hxe : ns[k] = x at *
      clear hxe
      generalize bldL W (ns.take k) = l at *
      subst hA
      have HTC := Lib.hid hc0
      have HMK := Lib.hid (fun (ws : World) (h : RF ws A' c' l) => r_make_any (w := ws) (W := W) x A' c' HW.out h (by omega) HOPS.out HTMK.out HX.out)
      clear hc0 hxb hlen
      have g1 : ¬ ns.length ≤ k := by omega
      have HS := Lib.hid (fun (ws : World) (hb : Below w.heap.size w ws) => show ws.cell? ⟨xb, xo + k * 5, none⟩ = some (.int .i64 x.op) ∧ ws.cell? ⟨xb, xo + k * 5 + 1, none⟩ = some (.int .i64 x.v) ∧ ws.cell? ⟨xb, xo + k * 5 + 2, none⟩ = some (.int .i64 x.a) ∧ ws.cell? ⟨xb, xo + k * 5 + 3, none⟩ = some (.int .i64 x.b) ∧ ws.cell? ⟨xb, xo + k * 5 + 4, none⟩ = some (.int .i64 x.c) from by
        have e : ws.heap[xb]? = wr.heap[xb]? := (hb.block xb HXB.out).trans (hbw.out.block xb HXB.out).symm
        exact HTC.out.eq e)
      have HS5 := Lib.hid (HS.out wr hbw.out)
      go_upto_region 5 with fail
-- REGION
      refine wp_region_noPanic ?_
      refine wp_region_held_drew (S := fun w' => w'.cell? ⟨xb, xo + k * 5, none⟩ = some (.int .i64 x.op) ∧ w'.cell? ⟨xb, xo + k * 5 + 1, none⟩ = some (.int .i64 x.v) ∧ w'.cell? ⟨xb, xo + k * 5 + 2, none⟩ = some (.int .i64 x.a) ∧ w'.cell? ⟨xb, xo + k * 5 + 3, none⟩ = some (.int .i64 x.b) ∧ w'.cell? ⟨xb, xo + k * 5 + 4, none⟩ = some (.int .i64 x.c)) (by kernel_rfl) HS5.out (fun _ => ?_)
      have HB7 := Lib.hid (show Below w.heap.size w wr.drew from hbw.out.drew)
      have HBX7 := Lib.hid (show RBox wr.drew (w.heap.size + 1) W A' l.length c' from hbx.out)
      have HRF7 := Lib.hid (show RF wr.drew A' c' l from hrf.out)
      have HRB7 := Lib.hid (show RBox wr.drew w.heap.size 0 none 0 0 from hrb.out)
      have HS0 := Lib.hid (HS.out _ HB7.out)
      generalize wr.drew = w7 at *
      refine wpAnyH_take (i := 1) (oi := { dst := some 17, op := Op.move (Operand.tmp 1), type := 22, pos := "ref.go:117", after := #[], guard := none }) (v := .slice (some ⟨xb, xo, none⟩) ns.length c) rfl (by kernel_rfl) (by kernel_rfl) (by kernel_rfl) (fun _ _ _ h => h) (Or.inl ⟨by rfl, ?_⟩) HS0.out ?_
      · (intro w' hSw; go_simp)
      simp only [Act.put, List.setIfInBounds_toArray, List.set_cons_zero, List.set_cons_succ]
      refine wpAnyH_take (i := 2) (oi := { dst := some 18, op := Op.move (Operand.tmp 6), type := 3, pos := "ref.go:117", after := #[], guard := none }) (v := .int .i64 (k : Int)) rfl (by kernel_rfl) (by kernel_rfl) (by kernel_rfl) (fun _ _ _ h => h) (Or.inl ⟨by rfl, ?_⟩) HS0.out ?_
      · (intro w' hSw; go_simp)
      simp only [Act.put, List.setIfInBounds_toArray, List.set_cons_zero, List.set_cons_succ]
      refine wpAnyH_take (i := 3) (oi := { dst := some 19, op := Op.indexAddr 22 (Operand.tmp 17) (Operand.tmp 18), type := 0, pos := "ref.go:117", after := #[{ on := 1, ground := Ground.data }, { on := 2, ground := Ground.data }], guard := none }) (v := .pointer (some ⟨xb, xo + k * 5, none⟩)) rfl (by kernel_rfl) (by kernel_rfl) (by kernel_rfl) (fun _ _ _ h => h) (Or.inl ⟨by rfl, ?_⟩) HS0.out ?_
      · (intro w' hSw; go_simp)
      simp only [Act.put, List.setIfInBounds_toArray, List.set_cons_zero, List.set_cons_succ]
      refine wpAnyH_take (i := 4) (oi := { dst := some 20, op := Op.load 46 (Operand.tmp 19), type := 46, pos := "ref.go:117", after := #[{ on := 3, ground := Ground.data }], guard := none }) (v := .agg #[.int .i64 x.op, .int .i64 x.v, .int .i64 x.a, .int .i64 x.b, .int .i64 x.c]) rfl (by kernel_rfl) (by kernel_rfl) (by kernel_rfl) (fun _ _ _ h => h) (Or.inl ⟨by rfl, ?_⟩) HS0.out ?_
      · (intro w' hSw; obtain ⟨z0, z1, z2, z3, z4⟩ := hSw; go_simp)
      simp only [Act.put, List.setIfInBounds_toArray, List.set_cons_zero, List.set_cons_succ]
      refine wpAnyH_ready (rs := [0]) (by kernel_rfl) (by simp) (AllReadyH.cons (o := { dst := some 16, op := Op.load 29 (Operand.tmp 5), type := 29, pos := "ref.go:117", after := #[], guard := none }) rfl (fun K hK => ?_) AllReadyH.nil)
      obtain ⟨y0, y1⟩ := HBX7.out.cells
      go_simp
      clear y0 y1
      refine hK.out _ _ HS0.out (fun _ => ?_)
      clear hK K
      try simp only [Act.put, List.setIfInBounds_toArray, List.set_cons_zero, List.set_cons_succ]
      refine wpAnyH_ready (rs := [5]) (by kernel_rfl) (by simp) (AllReadyH.cons (o := { dst := some 21, op := Op.call { callee := Callee.value (Operand.func 23), args := #[Operand.tmp 16, Operand.tmp 20], argTypes := #[29, 46] }, type := 53, pos := "ref.go:117", after := #[{ on := 0, ground := Ground.data }, { on := 4, ground := Ground.data }], guard := none }) rfl (fun K hK => ?_) AllReadyH.nil)
      go_simp
      go_at_call 23
      refine (HMK.out w7 HRF7.out).mono ?_
      rintro e w8 ⟨A7, c7, rfl, hf8, hb8, hn8⟩
      have HB8 := Lib.hid (HB7.out.trans (hb8.mono HB7.out.size))
      have HBX8 := Lib.hid (HBX7.out.later hb8)
      have HRB8 := Lib.hid (HRB7.out.later hb8)
      have HF8 := Lib.hid hf8
      have HA8 := Lib.hid (show ∀ a, A7 = some a → w.heap.size + 1 < a.block from fun a e => by
        rcases hn8 a e with h | h
        · exact hab.out a h
        · have := Go.Proofs.YtjgkcicgjnjepaaDoor.hlt HBX7.out; omega)
      clear hf8 hb8 hn8
      obtain ⟨l7, HE7⟩ : ∃ l7, Hid (mkL W l x = l7) := ⟨_, Lib.hid rfl⟩
      rw [HE7.out] at HF8
      rw [HE7.out]
      generalize mkN W l x = n7 at *
      generalize mkE W l x = e7 at *
      have HS1 := Lib.hid (HS.out w8 HB8.out)
      refine hK.out _ _ HS1.out (fun _ => ?_)
      clear hK K
      try simp only [Act.put, List.setIfInBounds_toArray, List.set_cons_zero, List.set_cons_succ]
      refine wpAnyH_take (i := 6) (oi := { dst := some 15, op := Op.move (Operand.tmp 21), type := 53, pos := "ref.go:117", after := #[{ on := 5, ground := Ground.data }], guard := none }) (v := .tuple #[.agg #[.int .i64 W, .slice A7 l7.length c7], .int .i64 n7, .int .i64 e7]) rfl (by kernel_rfl) (by kernel_rfl) (by kernel_rfl) (fun _ _ _ h => h) (Or.inl ⟨by rfl, ?_⟩) HS1.out ?_
      · (intro w' hSw; go_simp)
      simp only [Act.put, List.setIfInBounds_toArray, List.set_cons_zero, List.set_cons_succ]
      refine wpAnyH_take (i := 7) (oi := { dst := some 22, op := Op.extract (Operand.tmp 15) 0, type := 29, pos := "ref.go:117", after := #[{ on := 6, ground := Ground.data }], guard := none }) (v := .agg #[.int .i64 W, .slice A7 l7.length c7]) rfl (by kernel_rfl) (by kernel_rfl) (by kernel_rfl) (fun _ _ _ h => h) (Or.inl ⟨by rfl, ?_⟩) HS1.out ?_
      · (intro w' hSw; go_simp)
      simp only [Act.put, List.setIfInBounds_toArray, List.set_cons_zero, List.set_cons_succ]
      refine wpAnyH_take (i := 8) (oi := { dst := some 23, op := Op.extract (Operand.tmp 15) 1, type := 3, pos := "ref.go:117", after := #[{ on := 6, ground := Ground.data }, { on := 10, ground := Ground.gcOnly Departure.lateStores }], guard := none }) (v := .int .i64 n7) rfl (by kernel_rfl) (by kernel_rfl) (by kernel_rfl) (fun _ _ _ h => h) (Or.inl ⟨by rfl, ?_⟩) HS1.out ?_
      · (intro w' hSw; go_simp)
      simp only [Act.put, List.setIfInBounds_toArray, List.set_cons_zero, List.set_cons_succ]
      refine wpAnyH_take (i := 9) (oi := { dst := some 24, op := Op.extract (Operand.tmp 15) 2, type := 32, pos := "ref.go:117", after := #[{ on := 6, ground := Ground.data }, { on := 10, ground := Ground.gcOnly Departure.lateStores }], guard := none }) (v := .int .i64 e7) rfl (by kernel_rfl) (by kernel_rfl) (by kernel_rfl) (fun _ _ _ h => h) (Or.inl ⟨by rfl, ?_⟩) HS1.out ?_
      · (intro w' hSw; go_simp)
      simp only [Act.put, List.setIfInBounds_toArray, List.set_cons_zero, List.set_cons_succ]
      refine wpAnyH_ready (rs := [10]) (by kernel_rfl) (by simp) (AllReadyH.cons (o := { dst := none, op := Op.store 29 (Operand.tmp 5) (Operand.tmp 22), type := 0, pos := "ref.go:117", after := #[{ on := 7, ground := Ground.data }, { on := 5, ground := Ground.chain }, { on := 0, ground := Ground.phase }, { on := 1, ground := Ground.phase }, { on := 2, ground := Ground.phase }, { on := 3, ground := Ground.phase }, { on := 4, ground := Ground.phase }, { on := 5, ground := Ground.phase }, { on := 6, ground := Ground.phase }, { on := 7, ground := Ground.phase }, { on := 8, ground := Ground.textOnly Departure.lateStores }, { on := 9, ground := Ground.textOnly Departure.lateStores }], guard := none }) rfl (fun K hK => ?_) AllReadyH.nil)
      obtain ⟨y0, y1⟩ := HBX8.out.cells
      have y2 := HBX8.out.frz 0
      have y3 := HBX8.out.frz 1
      go_simp
      clear y0 y1 y2 y3
      have HBX9 := Lib.hid (HBX8.out.put W A7 l7.length c7)
      have HB9 := Lib.hid (put2_below HB8.out (show w.heap.size ≤ w.heap.size + 1 by omega) (.int .i64 W) (.slice A7 l7.length c7))
      have HRB9 := Lib.hid (show RBox ((w8.setCell ⟨w.heap.size + 1, 0, none⟩ (.int .i64 W)).setCell ⟨w.heap.size + 1, 1, none⟩ (.slice A7 l7.length c7)) w.heap.size 0 none 0 0 from ((hfar (p := ⟨w.heap.size + 1, 1, none⟩) (Nat.ne_of_lt (Nat.lt_succ_self _)) _).trans (hfar (p := ⟨w.heap.size + 1, 0, none⟩) (Nat.ne_of_lt (Nat.lt_succ_self _)) _)).trans HRB8.out)
      have HF9 := Lib.hid (show RF ((w8.setCell ⟨w.heap.size + 1, 0, none⟩ (.int .i64 W)).setCell ⟨w.heap.size + 1, 1, none⟩ (.slice A7 l7.length c7)) A7 c7 l7 from ⟨HF8.out.1.stays (by simp [World.setCell]) (fun a e _ => by
        have := HA8.out a e
        rw [hfar (p := ⟨w.heap.size + 1, 1, none⟩) (by show a.block ≠ w.heap.size + 1; omega), hfar (p := ⟨w.heap.size + 1, 0, none⟩) (by show a.block ≠ w.heap.size + 1; omega)]), HF8.out.2⟩)
      have HS2 := Lib.hid (HS.out _ HB9.out)
      generalize (w8.setCell ⟨w.heap.size + 1, 0, none⟩ (.int .i64 W)).setCell ⟨w.heap.size + 1, 1, none⟩ (.slice A7 l7.length c7) = w9 at *
      refine hK.out _ _ HS2.out (fun _ => ?_)
      clear hK K
      try simp only [Act.put, List.setIfInBounds_toArray, List.set_cons_zero, List.set_cons_succ]
      refine wpAnyH_done (by kernel_rfl) ?_ _
      refine NoPanic.normal ?_
      go_wp2_with (fail)
      exact ⟨⟨k + 1, A7, c7, by omega, by go_num, by rw [HTK.out, HE7.out]; exact HBX9, by rw [HTK.out, HE7.out]; exact HF9, HA8, HRB9, HB9⟩, by simp [intOf]; omega⟩
      -- END
    · obtain rfl : k = ns.length := by omega
      rw [List.take_length] at hbx hrf
      obtain ⟨r0, r1⟩ := hbx.out.cells
      obtain ⟨z0, z1⟩ := hrb.out.cells
      have f0 := hrb.out.frz 0
      have f1 := hrb.out.frz 1
      have HB9 := Lib.hid (put2_below hbw.out (Nat.le_refl _) (.int .i64 W) (.slice A' (bldL W ns).length c'))
      have HF9 := Lib.hid (show RF ((wr.setCell ⟨w.heap.size, 0, none⟩ (.int .i64 W)).setCell ⟨w.heap.size, 1, none⟩ (.slice A' (bldL W ns).length c')) A' c' (bldL W ns) from ⟨hrf.out.1.stays (by simp [World.setCell]) (fun a e _ => by
        have := hab.out a e
        rw [hfar (p := ⟨w.heap.size, 1, none⟩) (by show a.block ≠ w.heap.size; omega), hfar (p := ⟨w.heap.size, 0, none⟩) (by show a.block ≠ w.heap.size; omega)]), hrf.out.2⟩)
      have HR9 := Lib.hid (hrb.out.put W A' (bldL W ns).length c')
      go_wp2_with (fail)
      obtain ⟨v0, v1⟩ := HR9.out.cells
      clear f0 f1 z0 z1 r0 r1
      generalize (wr.setCell ⟨w.heap.size, 0, none⟩ (.int .i64 W)).setCell ⟨w.heap.size, 1, none⟩ (.slice A' (bldL W ns).length c') = V at *
      exact bodyPost_ret (v := .agg #[.int .i64 W, .slice A' (bldL W ns).length c']) (by simp [results, Tryd.results7, go_sem, v0, v1]) rfl ⟨A', c', rfl, HF9.out, HB9.out⟩
end Go.Proofs.YtjgkcicgjnjepaaDoor
