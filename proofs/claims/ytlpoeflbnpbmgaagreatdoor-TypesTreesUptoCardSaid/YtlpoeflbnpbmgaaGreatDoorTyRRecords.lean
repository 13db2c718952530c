/- What is proved: the reference's Records, over the contract of its tree's Valid. -/
import Derived.Test.YtlpoeflbnpbmgaaGreatDoorTyRecords
import Derived.Test.YtlpoeflbnpbmgaaGreatDoorTyScalar
set_option linter.unusedVariables false
namespace Go.Proofs.YtlpoeflbnpbmgaaGreatDoor
open Go.RowKit

set_option maxRecDepth 100000 in
set_option maxHeartbeats 8000000 in
theorem r_records_any (n : NT) (v : Bool) (w : World) (hin : InT w.heap.size w n) (hk9 : n.kids.length ≤ 1000000)
    (hk8 : ∀ k ∈ n.kids, k.kids.length ≤ 1000000) (HVAL : ∀ W, InT W.heap.size W n → Calls Tryz.prog 25 #[.agg #[.int .i64 n.kind, .string n.text, .int .i64 n.lo, .int .i64 n.hi, .slice n.A n.kids.length n.c]] W fun e w' => e = .returned (.bool v) ∧ Below W.heap.size W w') (hsh : v = true → FieldsOK n) (ks : List (ByteArray × List FldV)) (hks : ks = if v then recL n.kids else []) :
    Calls Tryz.prog 12 #[.agg #[.int .i64 n.kind, .string n.text, .int .i64 n.lo, .int .i64 n.hi, .slice n.A n.kids.length n.c]] w (RecsRes w.heap.size ks w) := by
  obtain ⟨i0, hi0, hz0, hz1, hz2⟩ := info_parts infoFld
  obtain ⟨i1, hi1, hy0, hy1, hy2⟩ := info_parts infoRc
  have HI := Lib.hid hin
  have HK8 := Lib.hid hk8
  have HVL := Lib.hid HVAL
  have HSH := Lib.hid hsh
  have HKS := Lib.hid hks
  clear hin hk8 HVAL hsh hks
  go_enter Tryz.func12, Tryz.ntmps12
  go_wp2_with (fail)
  have hb0 := (Below.refl w.heap.size w).alloc (Nat.le_refl _) (.cells #[.int .i64 n.kind, .string n.text, .int .i64 n.lo, .int .i64 n.hi, .slice n.A n.kids.length n.c] 24)
  have hn0 := heap_alloc_new w (.cells #[.int .i64 n.kind, .string n.text, .int .i64 n.lo, .int .i64 n.hi, .slice n.A n.kids.length n.c] 24)
  have hz0' : (w.alloc (.cells #[.int .i64 n.kind, .string n.text, .int .i64 n.lo, .int .i64 n.hi, .slice n.A n.kids.length n.c] 24)).heap.size = w.heap.size + 1 := by simp
  generalize (w.alloc (.cells #[.int .i64 n.kind, .string n.text, .int .i64 n.lo, .int .i64 n.hi, .slice n.A n.kids.length n.c] 24)) = w0 at *
  have HB0 := Lib.hid hb0
  have HN0 := Lib.hid hn0
  have HS0 := Lib.hid hz0'
  have hro0 : RecsOwn (w0.alloc (.cells #[] 39)) (w.heap.size + 1) (.slice (some ⟨w0.heap.size, 0, none⟩) 0 0) [] := ⟨World.ownsRow_lit w0 #[] 0 (Nat.le_of_eq hz0'.symm) (by decide) (by simp), fun r hr => absurd hr (by simp)⟩
  rw [hz0'] at hro0
  have hb1 : Below (w.heap.size + 1) w0 (w0.alloc (.cells #[] 39)) := ((Below.refl _ _).alloc (Nat.le_refl _) _).mono (Nat.le_of_eq hz0'.symm)
  have hz1' : (w0.alloc (.cells #[] 39)).heap.size = w0.heap.size + 1 := by simp
  generalize (w0.alloc (.cells #[] 39)) = w1 at *
  have HRO1 := Lib.hid hro0
  have HB1 := Lib.hid hb1
  have HS1 := Lib.hid hz1'
  clear hb0 hn0 hz0' hro0 hb1 hz1'
  refine (HVL.out w1 (InT.later (InT.later HI.out HB0.out) (HB1.out.mono (by have := HS0.out; omega)))).mono ?_
  rintro e w2 ⟨rfl, hb2⟩
  have HB2 := Lib.hid (HB1.out.trans (hb2.mono (by have := HS0.out; have := HS1.out; omega)))
  have HRO2 := Lib.hid (HRO1.out.below hb2)
  clear hb2
  have HBW := Lib.hid (fun (wr : World) (h : Below (w.heap.size + 1) w0 wr) => (HB0.out.trans (h.mono (Nat.le_succ _)) : Below w.heap.size w wr))
  have HNB := Lib.hid (fun (wr : World) (h : Below (w.heap.size + 1) w0 wr) => Lib.cell_of_heap ((h.block w.heap.size (Nat.lt_succ_self _)).trans HN0.out) 4)
  cases v with
  | false =>
    go_wp2_with (fail)
    go_ret
    exact ⟨_, [], rfl, ⟨World.ownsRow_nil _ _ _ _, fun r hr => absurd hr (by simp)⟩, by rw [HKS.out]; rfl, HBW.out _ HB2.out⟩
  | true =>
    have HF := Lib.hid (HSH.out rfl)
    clear HVL HSH
    go_wp2_with (fail)
    go_loopw [3, 4] (fun v i wr => ∃ (k : Nat) (rs : List RcV) (X : Option Addr) (cx : Nat), k ≤ n.kids.length ∧ rs.length ≤ k ∧ i = .int .i64 (k : Int) ∧ v = .slice X rs.length cx ∧ Hid (RecsOwn wr (w.heap.size + 1) (.slice X rs.length cx) rs) ∧ Hid (rs.map (fun r => (r.name, r.flds)) = recL (n.kids.take k)) ∧ Hid (Below (w.heap.size + 1) w0 wr)) (fun _ i _ => n.kids.length - (intOf i).toNat)
    case atStart => exact ⟨0, [], _, 0, Nat.zero_le _, Nat.le_refl _, rfl, rfl, HRO2, Lib.hid rfl, HB2⟩
    case round =>
      obtain ⟨k, rs, X, cx, hk, hrk, rfl, rfl, hro, hrl, hbw⟩ := hrel
      have nk := HNB.out wr hbw.out
      by_cases hlt : k < n.kids.length
      · obtain ⟨b, off, hA, hb, c0, c1, c2, c3, c4⟩ := (InT.below (HBW.out _ hbw.out) n HI.out).cells k hlt
        have HIX := Lib.hid (InT.later (InT.kidAt HI.out hlt) (HBW.out _ hbw.out))
        obtain ⟨x, HX⟩ : ∃ x, Hid (n.kids[k] = x) := ⟨_, Lib.hid rfl⟩
        have hx8 : x.kids.length ≤ 1000000 := by rw [← HX.out]; exact HK8.out _ (List.getElem_mem hlt)
        have HFX := Lib.hid (show (x.kind == 3) = true → ∀ f ∈ x.kids, ∃ t, f.kids[0]? = some t ∧ (t.kind == 9) = true ∧ ((t.text.toList == [105, 110, 116]) = true ∨ (t.text.toList == [105, 110, 116]) = false ∧ (t.text.toList == [98, 111, 111, 108]) = true) by rw [← HX.out]; exact HF.out _ (List.getElem_mem hlt))
        have HRS := Lib.hid (recL_succ hlt)
        rw [HX.out] at c0 c1 c2 c3 c4 HIX HRS
        have hzw : w.heap.size + 1 ≤ wr.heap.size := by have := hbw.out.size; have := HS0.out; omega
        rw [hA] at nk
        cases h3 : (x.kind == 3) with
        | false =>
          have h3' : (x.kind != 3) = true := by simpa using h3
          have HL := Lib.hid (show recL (n.kids.take (k + 1)) = recL (n.kids.take k) by rw [HRS.out, h3]; simp)
          clear h3
          go_wp2_with (fail)
          exact ⟨⟨k + 1, rs, X, cx, by omega, by omega, by go_num, rfl, hro, by rw [HL.out]; exact hrl, hbw⟩, by simp [intOf]; omega⟩
        | true =>
          have h3' : (x.kind != 3) = false := by simpa using h3
          have HFF := Lib.hid (HFX.out h3)
          have HL := Lib.hid (show recL (n.kids.take (k + 1)) = recL (n.kids.take k) ++ [(x.text, recF x)] by rw [HRS.out, h3]; simp)
          clear h3
          go_wp2_with (fail)
          clear c0 c1 c2 c3 c4
          have hb2 : Below wr.heap.size wr (wr.alloc (.cells #[.string x.text, .slice none 0 0] 39)) := (Below.refl _ _).alloc (Nat.le_refl _) _
          have hr2 : RcB (wr.alloc (.cells #[.string x.text, .slice none 0 0] 39)) wr.heap.size x.text none 0 0 := heap_alloc_new wr _
          have hs2 : (wr.alloc (.cells #[.string x.text, .slice none 0 0] 39)).heap.size = wr.heap.size + 1 := by simp
          generalize (wr.alloc (.cells #[.string x.text, .slice none 0 0] 39)) = w2 at *
          have HB2 := Lib.hid hb2
          have HR2 := Lib.hid hr2
          have HS2 := Lib.hid (show wr.heap.size + 1 ≤ w2.heap.size by omega)
          clear hb2 hr2 hs2 nk
          generalize wr = w5 at *
          go_loopw [6] (fun i wr => ∃ (j : Nat) (Z : Option Addr) (cz : Nat), j ≤ x.kids.length ∧ i = .int .i64 (j : Int) ∧ Hid (RcB wr w5.heap.size x.text Z j cz) ∧ Hid (wr.ownsRow (w5.heap.size + 1) 58 4 (.slice Z j cz) j (fcells ((recF x).take j))) ∧ Hid (Below w5.heap.size w5 wr) ∧ w5.heap.size + 1 ≤ wr.heap.size) (fun i _ => x.kids.length - (intOf i).toNat)
          case atStart => exact ⟨0, none, 0, Nat.zero_le _, rfl, HR2, Lib.hid (World.ownsRow_nil _ _ _ _), HB2, HS2.out⟩
          case round =>
            obtain ⟨j, Z, cz, hj, rfl, hrc, hfo, hbr, hsr⟩ := hrel
            have HBB := Lib.hid (hbw.out.trans (hbr.out.mono hzw))
            have nk := HNB.out wr HBB.out
            rw [hA] at nk
            obtain ⟨b', off', hA', hb', k0, k1, k2, k3, k4⟩ := (InT.below (HBW.out _ HBB.out) n HI.out).cells k hlt
            rw [hA] at hA'
            cases hA'
            rw [HX.out] at k0 k1 k2 k3 k4
            by_cases hjt : j < x.kids.length
            · obtain ⟨b1, o1, hA1, hb1', c0, c1, c2, c3, c4⟩ := (InT.below hbr.out x HIX.out).cells j hjt
              have HIY := Lib.hid (InT.later (InT.kidAt HIX.out hjt) hbr.out)
              obtain ⟨y, HY⟩ : ∃ y, Hid (x.kids[j] = y) := ⟨_, Lib.hid rfl⟩
              obtain ⟨t, ht0, ht9, htx⟩ := HFF.out _ (List.getElem_mem hjt)
              have HRJ := Lib.hid (show fcells ((recF x).take (j + 1)) = fcells ((recF x).take j) ++ fcells [⟨y.text, scK t⟩] by
                rw [← fcells_append, List.take_succ_eq_append_getElem (by simpa [recF] using hjt)]
                congr 2
                simp only [recF, List.getElem_map, scF, ht0]
                rw [HY.out])
              rw [HY.out] at c0 c1 c2 c3 c4 HIY ht0
              have hyl : 0 < y.kids.length := by
                rcases Nat.eq_zero_or_pos y.kids.length with h | h
                · rw [List.getElem?_eq_none (by omega)] at ht0; cases ht0
                · exact h
              have hyt : y.kids[0] = t := by
                rw [List.getElem?_eq_getElem hyl] at ht0
                exact Option.some.inj ht0
              obtain ⟨b2, o2, hA2, hb2', d0, d1, d2, d3, d4⟩ := HIY.out.cells 0 hyl
              rw [hyt] at d0 d1 d2 d3 d4
              have HWT := Lib.hid (wrT_basic (nv := fun _ => 0) ht9 htx)
              clear ht0 ht9 htx hyt
              obtain ⟨e0, e1, e2, e3, e4⟩ := (show Cells5 wr b2 o2 t from by rw [Nat.zero_mul, Nat.add_zero] at *; exact ⟨d0, d1, d2, d3, d4⟩)
              clear d0 d1 d2 d3 d4
              have hy1 : (0 : Int) < (y.kids.length : Int) := by omega
              rw [hA1] at k4
              rw [hA2] at c4
              go_wp2_with (fail)
              clear k0 k1 k2 k3 k4 c0 c1 c2 c3 c4 nk
              have hby : Below wr.heap.size wr (wr.alloc (.cells #[.int .i64 y.kind, .string y.text, .int .i64 y.lo, .int .i64 y.hi, .slice (some ⟨b2, o2, none⟩) y.kids.length y.c] 24)) := (Below.refl _ _).alloc (Nat.le_refl _) _
              have hyb := heap_alloc_new wr (.cells #[.int .i64 y.kind, .string y.text, .int .i64 y.lo, .int .i64 y.hi, .slice (some ⟨b2, o2, none⟩) y.kids.length y.c] 24)
              have hsy : (wr.alloc (.cells #[.int .i64 y.kind, .string y.text, .int .i64 y.lo, .int .i64 y.hi, .slice (some ⟨b2, o2, none⟩) y.kids.length y.c] 24)).heap.size = wr.heap.size + 1 := by simp
              obtain ⟨f0, f1, f2, f3, f4⟩ := (show Cells5 wr b2 o2 t from ⟨e0, e1, e2, e3, e4⟩).below hby hb2'
              clear e0 e1 e2 e3 e4
              generalize (wr.alloc (.cells #[.int .i64 y.kind, .string y.text, .int .i64 y.lo, .int .i64 y.hi, .slice (some ⟨b2, o2, none⟩) y.kids.length y.c] 24)) = wy at *
              have y1 := Lib.cell_of_heap hyb 1
              have y4 := Lib.cell_of_heap hyb 4
              have HRCY := Lib.hid (hrc.out.below hby (by omega))
              obtain ⟨r0, r1, r2⟩ := HRCY.out.cells
              obtain ⟨kk, HK⟩ : ∃ kk : Int, Hid ((if t.text.toList == [98, 111, 111, 108] then 2 else 1) = kk) := ⟨_, Lib.hid rfl⟩
              have HU := Lib.hid (show scK t = ⟨kk, 0, ⟨#[]⟩⟩ by rw [← HK.out]; unfold scK; split <;> rfl)
              rw [HU.out] at HRJ
              have HSCA := Lib.hid (scalar_any t.text wy.drew kk HK.out)
              have HYB := Lib.hid hyb
              have HP := Lib.hid (show ∀ w3, Below wy.drew.heap.size wy.drew w3 → RcB w3 w5.heap.size x.text Z j cz ∧ (w3.alloc (.cells #[.string y.text, .int .i64 kk, .int .i64 0, .string ⟨#[]⟩] 58)).ownsRow (w5.heap.size + 1) 58 4 (.slice Z j cz) j (fcells ((recF x).take j)) ∧ Below w5.heap.size w5 w3 ∧ w5.heap.size + 1 ≤ w3.heap.size ∧ w3.cell? ⟨wr.heap.size, 1, none⟩ = some (.string y.text) from fun w3 hb3' => by
                have hsd : wy.drew.heap.size = wr.heap.size + 1 := hsy
                have hb3 : Below wr.heap.size wr w3 := (hby.drew).trans (hb3'.mono (by omega))
                exact ⟨hrc.out.below hb3 (by omega), (ty_own_below hfo.out hb3).alloc (.cells #[.string y.text, .int .i64 kk, .int .i64 0, .string ⟨#[]⟩] 58), hbr.out.trans (hb3.mono hbr.out.size), Nat.le_trans hsr hb3.size, Lib.cell_of_heap ((hb3'.block wr.heap.size (by omega)).trans (show wy.drew.heap[wr.heap.size]? = _ from HYB.out)) 1⟩)
              have HLT := Lib.hid (fun q e => hfo.out.lt q e)
              have hcap1 : j + 1 ≤ maxLen := by unfold maxLen; omega
              have hcap2 : (j + 1) * 48 ≤ 140737488355328 := by omega
              clear hby hyb
              have hb2w : b2 < w5.heap.size := by
                have h := InT.kidAt HIX.out hjt
                rw [HY.out] at h
                obtain ⟨b', o', hA', hb', _⟩ := h.cells 0 hyl
                rw [hA2] at hA'
                cases hA'
                exact hb'
              have HSD := Lib.hid (show wy.drew.heap.size = wr.heap.size + 1 from hsy)
              have F1 := Lib.hid f1
              have HS0 := Lib.hid (show (wy.drew).heap[wr.heap.size]? = some (.cells #[.int .i64 y.kind, .string y.text, .int .i64 y.lo, .int .i64 y.hi, .slice (some ⟨b2, o2, none⟩) y.kids.length y.c] 24 (0, 0)) ∧ (wy.drew).heap[b2]? = wy.heap[b2]? from ⟨HYB.out, rfl⟩)
              clear f0 f1 f2 f3 f4 y1 y4 r0 r1 r2 hsy hA hA1 hA2
              refine wp_region_noPanic ?_
              refine wp_region_held_drew (S := fun w' => (w').heap[wr.heap.size]? = some (.cells #[.int .i64 y.kind, .string y.text, .int .i64 y.lo, .int .i64 y.hi, .slice (some ⟨b2, o2, none⟩) y.kids.length y.c] 24 (0, 0)) ∧ (w').heap[b2]? = wy.heap[b2]?) (by kernel_rfl) HS0.out (fun _ => ?_)
              refine wpAnyH_take (i := 0) (oi := { dst := some 53, op := Op.fieldAddr 39 (Operand.tmp 5) 1, type := 0, pos := "ref.go:54", after := #[], guard := none }) (v := .pointer (some ⟨w5.heap.size, 1, none⟩)) rfl (by kernel_rfl) (by kernel_rfl) (by kernel_rfl) (fun _ _ _ h => h) (Or.inl ⟨by rfl, ?_⟩) HS0.out ?_
              · (intro w' hSw; go_simp)
              simp only [Act.put, List.setIfInBounds_toArray, List.set_cons_zero, List.set_cons_succ]
              refine wpAnyH_take (i := 2) (oi := { dst := some 55, op := Op.fieldAddr 24 (Operand.tmp 7) 1, type := 0, pos := "ref.go:54", after := #[], guard := none }) (v := .pointer (some ⟨wr.heap.size, 1, none⟩)) rfl (by kernel_rfl) (by kernel_rfl) (by kernel_rfl) (fun _ _ _ h => h) (Or.inl ⟨by rfl, ?_⟩) HS0.out ?_
              · (intro w' hSw; go_simp)
              simp only [Act.put, List.setIfInBounds_toArray, List.set_cons_zero, List.set_cons_succ]
              refine wpAnyH_take (i := 3) (oi := { dst := some 56, op := Op.load 9 (Operand.tmp 55), type := 9, pos := "ref.go:54", after := #[{ on := 2, ground := Ground.data }], guard := none }) (v := .string y.text) rfl (by kernel_rfl) (by kernel_rfl) (by kernel_rfl) (fun _ _ _ h => h) (Or.inl ⟨by rfl, ?_⟩) HS0.out ?_
              · (intro w' hSw; have c := Lib.cell_of_heap hSw.1 1; go_simp)
              simp only [Act.put, List.setIfInBounds_toArray, List.set_cons_zero, List.set_cons_succ]
              refine wpAnyH_take (i := 4) (oi := { dst := some 57, op := Op.fieldAddr 24 (Operand.tmp 7) 4, type := 0, pos := "ref.go:54", after := #[], guard := none }) (v := .pointer (some ⟨wr.heap.size, 4, none⟩)) rfl (by kernel_rfl) (by kernel_rfl) (by kernel_rfl) (fun _ _ _ h => h) (Or.inl ⟨by rfl, ?_⟩) HS0.out ?_
              · (intro w' hSw; go_simp)
              simp only [Act.put, List.setIfInBounds_toArray, List.set_cons_zero, List.set_cons_succ]
              refine wpAnyH_take (i := 5) (oi := { dst := some 58, op := Op.load 22 (Operand.tmp 57), type := 22, pos := "ref.go:54", after := #[{ on := 4, ground := Ground.data }], guard := none }) (v := .slice (some ⟨b2, o2, none⟩) y.kids.length y.c) rfl (by kernel_rfl) (by kernel_rfl) (by kernel_rfl) (fun _ _ _ h => h) (Or.inl ⟨by rfl, ?_⟩) HS0.out ?_
              · (intro w' hSw; have c := Lib.cell_of_heap hSw.1 4; go_simp)
              simp only [Act.put, List.setIfInBounds_toArray, List.set_cons_zero, List.set_cons_succ]
              refine wpAnyH_take (i := 6) (oi := { dst := some 59, op := Op.indexAddr 22 (Operand.tmp 58) (Operand.const (Value.int IntKind.i64 0)), type := 0, pos := "ref.go:54", after := #[{ on := 5, ground := Ground.data }], guard := none }) (v := .pointer (some ⟨b2, o2, none⟩)) rfl (by kernel_rfl) (by kernel_rfl) (by kernel_rfl) (fun _ _ _ h => h) (Or.inl ⟨by rfl, ?_⟩) HS0.out ?_
              · (intro w' hSw; go_simp)
              simp only [Act.put, List.setIfInBounds_toArray, List.set_cons_zero, List.set_cons_succ]
              refine wpAnyH_take (i := 7) (oi := { dst := some 60, op := Op.fieldAddr 24 (Operand.tmp 59) 1, type := 0, pos := "ref.go:54", after := #[{ on := 6, ground := Ground.data }], guard := none }) (v := .pointer (some ⟨b2, o2 + 1, none⟩)) rfl (by kernel_rfl) (by kernel_rfl) (by kernel_rfl) (fun _ _ _ h => h) (Or.inl ⟨by rfl, ?_⟩) HS0.out ?_
              · (intro w' hSw; go_simp)
              simp only [Act.put, List.setIfInBounds_toArray, List.set_cons_zero, List.set_cons_succ]
              refine wpAnyH_take (i := 8) (oi := { dst := some 61, op := Op.load 9 (Operand.tmp 60), type := 9, pos := "ref.go:54", after := #[{ on := 7, ground := Ground.data }], guard := none }) (v := .string t.text) rfl (by kernel_rfl) (by kernel_rfl) (by kernel_rfl) (fun _ _ _ h => h) (Or.inl ⟨by rfl, ?_⟩) HS0.out ?_
              · (intro w' hSw; have c := (World.cell?_of_block (a := ⟨b2, o2 + 1, none⟩) hSw.2).trans F1.out; go_simp)
              simp only [Act.put, List.setIfInBounds_toArray, List.set_cons_zero, List.set_cons_succ]
              refine wpAnyH_ready (rs := [1, 9]) (by kernel_rfl) (by simp) (AllReadyH.cons (o := { dst := some 54, op := Op.load 37 (Operand.tmp 53), type := 37, pos := "ref.go:54", after := #[{ on := 0, ground := Ground.data }], guard := none }) rfl (fun K hK => ?_) (AllReadyH.cons (o := { dst := some 62, op := Op.call { callee := Callee.value (Operand.func 21), args := #[Operand.tmp 61], argTypes := #[9] }, type := 31, pos := "ref.go:54", after := #[{ on := 8, ground := Ground.data }], guard := none }) rfl (fun K hK => ?_) AllReadyH.nil))
              · have ca := HRCY.out.cells.2.1
                go_simp
                clear ca
                refine hK.out _ _ HS0.out (fun _ => ?_)
                clear hK K
                try simp only [Act.put, List.setIfInBounds_toArray, List.set_cons_zero, List.set_cons_succ]
                refine wpAnyH_ready (rs := [9]) (by kernel_rfl) (by simp) (AllReadyH.cons (o := { dst := some 62, op := Op.call { callee := Callee.value (Operand.func 21), args := #[Operand.tmp 61], argTypes := #[9] }, type := 31, pos := "ref.go:54", after := #[{ on := 8, ground := Ground.data }], guard := none }) rfl (fun K hK => ?_) AllReadyH.nil)
                go_simp
                refine HSCA.out.mono ?_
                rintro e w3 ⟨rfl, hb3⟩
                obtain ⟨pa, pb, pc, pd, pe⟩ := HP.out w3 hb3
                have hw3 : wr.heap.size + 1 ≤ w3.heap.size := by have := hb3.size; have := HSD.out; omega
                have hS3 : (w3).heap[wr.heap.size]? = some (.cells #[.int .i64 y.kind, .string y.text, .int .i64 y.lo, .int .i64 y.hi, .slice (some ⟨b2, o2, none⟩) y.kids.length y.c] 24 (0, 0)) ∧ (w3).heap[b2]? = wy.heap[b2]? := ⟨(hb3.block wr.heap.size (by have := HSD.out; omega)).trans HYB.out, hb3.block b2 (by have := HSD.out; omega)⟩
                have PA := Lib.hid pa
                have PB := Lib.hid pb
                have PC := Lib.hid pc
                have HS3 := Lib.hid hS3
                clear pa pb pc hb3 hS3 pe
                go_wp2_with (fail)
                refine hK.out _ _ HS3.out (fun _ => ?_)
                clear hK K
                try simp only [Act.put, List.setIfInBounds_toArray, List.set_cons_zero, List.set_cons_succ]
                refine wpAnyH_take (i := 10) (oi := { dst := some 63, op := Op.build 58 #[(0, Operand.tmp 56), (1, Operand.tmp 62)], type := 58, pos := "ref.go:54", after := #[{ on := 3, ground := Ground.data }, { on := 9, ground := Ground.data }], guard := none }) (v := .agg #[.string y.text, .int .i64 kk, .int .i64 0, .string ⟨#[]⟩]) rfl (by kernel_rfl) (by kernel_rfl) (by kernel_rfl) (fun _ _ _ h => h) (Or.inl ⟨by rfl, ?_⟩) HS3.out ?_
                · (intro w' hSw; go_simp)
                simp only [Act.put, List.setIfInBounds_toArray, List.set_cons_zero, List.set_cons_succ]
                refine wpAnyH_ready (rs := [11]) (by kernel_rfl) (by simp) (AllReadyH.cons (o := { dst := some 64, op := Op.buildSlice 37 1 #[(0, Operand.tmp 63)], type := 37, pos := "ref.go:54", after := #[{ on := 10, ground := Ground.data }], guard := none }) rfl (fun K hK => ?_) AllReadyH.nil)
                have PA2 := Lib.hid (PA.out.below ((Below.refl w3.heap.size w3).alloc (Nat.le_refl _) (.cells #[.string y.text, .int .i64 kk, .int .i64 0, .string ⟨#[]⟩] 58)) (by omega))
                have HSA := Lib.hid (show ((w3.alloc (.cells #[.string y.text, .int .i64 kk, .int .i64 0, .string ⟨#[]⟩] 58))).heap[wr.heap.size]? = some (.cells #[.int .i64 y.kind, .string y.text, .int .i64 y.lo, .int .i64 y.hi, .slice (some ⟨b2, o2, none⟩) y.kids.length y.c] 24 (0, 0)) ∧ ((w3.alloc (.cells #[.string y.text, .int .i64 kk, .int .i64 0, .string ⟨#[]⟩] 58))).heap[b2]? = wy.heap[b2]? from ⟨(heap_alloc_old _ _ (by omega)).trans HS3.out.1, (heap_alloc_old _ _ (by omega)).trans HS3.out.2⟩)
                go_simp
                refine hK.out _ _ HSA.out (fun _ => ?_)
                clear hK K
                try simp only [Act.put, List.setIfInBounds_toArray, List.set_cons_zero, List.set_cons_succ]
                refine wpAnyH_ready (rs := [12]) (by kernel_rfl) (by simp) (AllReadyH.cons (o := { dst := some 65, op := Op.call { callee := Callee.builtin Builtin.append, args := #[Operand.tmp 54, Operand.tmp 64], argTypes := #[37, 37] }, type := 37, pos := "ref.go:54", after := #[{ on := 1, ground := Ground.data }, { on := 11, ground := Ground.data }, { on := 9, ground := Ground.chain }], guard := none }) rfl (fun K hK => ?_) AllReadyH.nil)
                refine step_append_lies _ (by rfl) _ _ 37 (by rfl) (w5.heap.size + 1) 58 i0 _ 4 48 Tryz.underlying37 hi0 hz0 hz1 hz2 rfl (by decide) (.slice Z j cz) j (fcells ((recF x).take j)) (by rfl) PB.out ⟨w3.heap.size, 0, none⟩ 1 1 (fcells [⟨y.text, ⟨kk, 0, ⟨#[]⟩⟩⟩]) (by rfl) (by rfl) (World.news_of_block (cs := #[.string y.text, .int .i64 kk, .int .i64 0, .string ⟨#[]⟩]) (heap_alloc_new w3 _)) (fcells_one _) (by decide) hcap1 hcap2 (by simp; omega) (w3.heap.size + 1) (by simp) ?_
                intro g cap w4 hown hgr hsel hgl
                have hle : w5.heap.size + 1 ≤ (w3.alloc (.cells #[.string y.text, .int .i64 kk, .int .i64 0, .string ⟨#[]⟩] 58)).heap.size := by simp; omega
                have hbg : Below (w5.heap.size + 1) (w3.alloc (.cells #[.string y.text, .int .i64 kk, .int .i64 0, .string ⟨#[]⟩] 58)) w4 := ((Below.refl _ _).mono hle).grown hgr hle (fun b e => (HLT.out b e).1)
                have hS4 : (w4).heap[wr.heap.size]? = some (.cells #[.int .i64 y.kind, .string y.text, .int .i64 y.lo, .int .i64 y.hi, .slice (some ⟨b2, o2, none⟩) y.kids.length y.c] 24 (0, 0)) ∧ (w4).heap[b2]? = wy.heap[b2]? := ⟨(hgr.block wr.heap.size (by simp; omega) (fun e => by have := (HLT.out _ e.symm).2; omega)).trans HSA.out.1, (hgr.block b2 (by simp; omega) (fun e => by have := (HLT.out _ e.symm).1; omega)).trans HSA.out.2⟩
                have HRC4 := Lib.hid (PA2.out.below hbg (by omega))
                have HO4 := Lib.hid hown
                have HB4 := Lib.hid ((PC.out.alloc (by omega) (.cells #[.string y.text, .int .i64 kk, .int .i64 0, .string ⟨#[]⟩] 58)).trans (hbg.mono (by omega)))
                have HS4 := Lib.hid (Nat.le_trans hle hbg.size)
                have HSW4 := Lib.hid hS4
                clear hown hgr hsel hgl hle hbg hS4
                refine hK.out _ _ HSW4.out (fun _ => ?_)
                clear hK K
                try simp only [Act.put, List.setIfInBounds_toArray, List.set_cons_zero, List.set_cons_succ]
                refine wpAnyH_take (i := 13) (oi := { dst := some 66, op := Op.fieldAddr 39 (Operand.tmp 5) 1, type := 0, pos := "ref.go:54", after := #[{ on := 0, ground := Ground.phase }, { on := 1, ground := Ground.phase }, { on := 2, ground := Ground.phase }, { on := 3, ground := Ground.phase }, { on := 4, ground := Ground.phase }, { on := 5, ground := Ground.phase }, { on := 6, ground := Ground.phase }, { on := 7, ground := Ground.phase }, { on := 8, ground := Ground.phase }, { on := 9, ground := Ground.phase }, { on := 10, ground := Ground.phase }, { on := 11, ground := Ground.phase }, { on := 12, ground := Ground.phase }], guard := none }) (v := .pointer (some ⟨w5.heap.size, 1, none⟩)) rfl (by kernel_rfl) (by kernel_rfl) (by kernel_rfl) (fun _ _ _ h => h) (Or.inl ⟨by rfl, ?_⟩) HSW4.out ?_
                · (intro w' hSw; go_simp)
                simp only [Act.put, List.setIfInBounds_toArray, List.set_cons_zero, List.set_cons_succ]
                refine wpAnyH_ready (rs := [14]) (by kernel_rfl) (by simp) (AllReadyH.cons (o := { dst := none, op := Op.store 37 (Operand.tmp 66) (Operand.tmp 65), type := 0, pos := "ref.go:54", after := #[{ on := 13, ground := Ground.data }, { on := 12, ground := Ground.data }, { on := 12, ground := Ground.chain }, { on := 0, ground := Ground.phase }, { on := 1, ground := Ground.phase }, { on := 2, ground := Ground.phase }, { on := 3, ground := Ground.phase }, { on := 4, ground := Ground.phase }, { on := 5, ground := Ground.phase }, { on := 6, ground := Ground.phase }, { on := 7, ground := Ground.phase }, { on := 8, ground := Ground.phase }, { on := 9, ground := Ground.phase }, { on := 10, ground := Ground.phase }, { on := 11, ground := Ground.phase }, { on := 12, ground := Ground.phase }], guard := none }) rfl (fun K hK => ?_) AllReadyH.nil)
                have fz := HRC4.out.cells.2.2
                have cz4 := HRC4.out.cells.2.1
                go_simp
                refine hK.out _ _ ⟨(Below.heap_setCell _ _ _ _ (by simp; omega)).trans HSW4.out.1, (Below.heap_setCell _ _ _ _ (by simp; omega)).trans HSW4.out.2⟩ (fun _ => ?_)
                clear hK K
                try simp only [Act.put, List.setIfInBounds_toArray, List.set_cons_zero, List.set_cons_succ]
                refine wpAnyH_done (by kernel_rfl) ?_ _
                refine NoPanic.normal ?_
                go_wp2_with (fail)
                exact ⟨⟨j + 1, some ⟨g, 0, none⟩, cap, by omega, by go_num, Lib.hid (hset HRC4.out _), Lib.hid (by rw [HRJ.out]; exact ownsRow_setCell_below HO4.out (by simp) _), Lib.hid (HB4.out.setCell (by simp) _), by have := HS4.out; simp; omega⟩, by simp [intOf]; omega⟩
              · go_simp
                refine HSCA.out.mono ?_
                rintro e w3 ⟨rfl, hb3⟩
                obtain ⟨pa, pb, pc, pd, pe⟩ := HP.out w3 hb3
                have hw3 : wr.heap.size + 1 ≤ w3.heap.size := by have := hb3.size; have := HSD.out; omega
                have hS3 : (w3).heap[wr.heap.size]? = some (.cells #[.int .i64 y.kind, .string y.text, .int .i64 y.lo, .int .i64 y.hi, .slice (some ⟨b2, o2, none⟩) y.kids.length y.c] 24 (0, 0)) ∧ (w3).heap[b2]? = wy.heap[b2]? := ⟨(hb3.block wr.heap.size (by have := HSD.out; omega)).trans HYB.out, hb3.block b2 (by have := HSD.out; omega)⟩
                have PA := Lib.hid pa
                have PB := Lib.hid pb
                have PC := Lib.hid pc
                have HS3 := Lib.hid hS3
                clear pa pb pc hb3 hS3 pe
                go_wp2_with (fail)
                refine hK.out _ _ HS3.out (fun _ => ?_)
                clear hK K
                try simp only [Act.put, List.setIfInBounds_toArray, List.set_cons_zero, List.set_cons_succ]
                refine wpAnyH_take (i := 10) (oi := { dst := some 63, op := Op.build 58 #[(0, Operand.tmp 56), (1, Operand.tmp 62)], type := 58, pos := "ref.go:54", after := #[{ on := 3, ground := Ground.data }, { on := 9, ground := Ground.data }], guard := none }) (v := .agg #[.string y.text, .int .i64 kk, .int .i64 0, .string ⟨#[]⟩]) rfl (by kernel_rfl) (by kernel_rfl) (by kernel_rfl) (fun _ _ _ h => h) (Or.inl ⟨by rfl, ?_⟩) HS3.out ?_
                · (intro w' hSw; go_simp)
                simp only [Act.put, List.setIfInBounds_toArray, List.set_cons_zero, List.set_cons_succ]
                refine wpAnyH_ready (rs := [1, 11]) (by kernel_rfl) (by simp) (AllReadyH.cons (o := { dst := some 54, op := Op.load 37 (Operand.tmp 53), type := 37, pos := "ref.go:54", after := #[{ on := 0, ground := Ground.data }], guard := none }) rfl (fun K hK => ?_) (AllReadyH.cons (o := { dst := some 64, op := Op.buildSlice 37 1 #[(0, Operand.tmp 63)], type := 37, pos := "ref.go:54", after := #[{ on := 10, ground := Ground.data }], guard := none }) rfl (fun K hK => ?_) AllReadyH.nil))
                · have ca := PA.out.cells.2.1
                  go_simp
                  clear ca
                  refine hK.out _ _ HS3.out (fun _ => ?_)
                  clear hK K
                  try simp only [Act.put, List.setIfInBounds_toArray, List.set_cons_zero, List.set_cons_succ]
                  refine wpAnyH_ready (rs := [11]) (by kernel_rfl) (by simp) (AllReadyH.cons (o := { dst := some 64, op := Op.buildSlice 37 1 #[(0, Operand.tmp 63)], type := 37, pos := "ref.go:54", after := #[{ on := 10, ground := Ground.data }], guard := none }) rfl (fun K hK => ?_) AllReadyH.nil)
                  have PA2 := Lib.hid (PA.out.below ((Below.refl w3.heap.size w3).alloc (Nat.le_refl _) (.cells #[.string y.text, .int .i64 kk, .int .i64 0, .string ⟨#[]⟩] 58)) (by omega))
                  have HSA := Lib.hid (show ((w3.alloc (.cells #[.string y.text, .int .i64 kk, .int .i64 0, .string ⟨#[]⟩] 58))).heap[wr.heap.size]? = some (.cells #[.int .i64 y.kind, .string y.text, .int .i64 y.lo, .int .i64 y.hi, .slice (some ⟨b2, o2, none⟩) y.kids.length y.c] 24 (0, 0)) ∧ ((w3.alloc (.cells #[.string y.text, .int .i64 kk, .int .i64 0, .string ⟨#[]⟩] 58))).heap[b2]? = wy.heap[b2]? from ⟨(heap_alloc_old _ _ (by omega)).trans HS3.out.1, (heap_alloc_old _ _ (by omega)).trans HS3.out.2⟩)
                  go_simp
                  refine hK.out _ _ HSA.out (fun _ => ?_)
                  clear hK K
                  try simp only [Act.put, List.setIfInBounds_toArray, List.set_cons_zero, List.set_cons_succ]
                  refine wpAnyH_ready (rs := [12]) (by kernel_rfl) (by simp) (AllReadyH.cons (o := { dst := some 65, op := Op.call { callee := Callee.builtin Builtin.append, args := #[Operand.tmp 54, Operand.tmp 64], argTypes := #[37, 37] }, type := 37, pos := "ref.go:54", after := #[{ on := 1, ground := Ground.data }, { on := 11, ground := Ground.data }, { on := 9, ground := Ground.chain }], guard := none }) rfl (fun K hK => ?_) AllReadyH.nil)
                  refine step_append_lies _ (by rfl) _ _ 37 (by rfl) (w5.heap.size + 1) 58 i0 _ 4 48 Tryz.underlying37 hi0 hz0 hz1 hz2 rfl (by decide) (.slice Z j cz) j (fcells ((recF x).take j)) (by rfl) PB.out ⟨w3.heap.size, 0, none⟩ 1 1 (fcells [⟨y.text, ⟨kk, 0, ⟨#[]⟩⟩⟩]) (by rfl) (by rfl) (World.news_of_block (cs := #[.string y.text, .int .i64 kk, .int .i64 0, .string ⟨#[]⟩]) (heap_alloc_new w3 _)) (fcells_one _) (by decide) hcap1 hcap2 (by simp; omega) (w3.heap.size + 1) (by simp) ?_
                  intro g cap w4 hown hgr hsel hgl
                  have hle : w5.heap.size + 1 ≤ (w3.alloc (.cells #[.string y.text, .int .i64 kk, .int .i64 0, .string ⟨#[]⟩] 58)).heap.size := by simp; omega
                  have hbg : Below (w5.heap.size + 1) (w3.alloc (.cells #[.string y.text, .int .i64 kk, .int .i64 0, .string ⟨#[]⟩] 58)) w4 := ((Below.refl _ _).mono hle).grown hgr hle (fun b e => (HLT.out b e).1)
                  have hS4 : (w4).heap[wr.heap.size]? = some (.cells #[.int .i64 y.kind, .string y.text, .int .i64 y.lo, .int .i64 y.hi, .slice (some ⟨b2, o2, none⟩) y.kids.length y.c] 24 (0, 0)) ∧ (w4).heap[b2]? = wy.heap[b2]? := ⟨(hgr.block wr.heap.size (by simp; omega) (fun e => by have := (HLT.out _ e.symm).2; omega)).trans HSA.out.1, (hgr.block b2 (by simp; omega) (fun e => by have := (HLT.out _ e.symm).1; omega)).trans HSA.out.2⟩
                  have HRC4 := Lib.hid (PA2.out.below hbg (by omega))
                  have HO4 := Lib.hid hown
                  have HB4 := Lib.hid ((PC.out.alloc (by omega) (.cells #[.string y.text, .int .i64 kk, .int .i64 0, .string ⟨#[]⟩] 58)).trans (hbg.mono (by omega)))
                  have HS4 := Lib.hid (Nat.le_trans hle hbg.size)
                  have HSW4 := Lib.hid hS4
                  clear hown hgr hsel hgl hle hbg hS4
                  refine hK.out _ _ HSW4.out (fun _ => ?_)
                  clear hK K
                  try simp only [Act.put, List.setIfInBounds_toArray, List.set_cons_zero, List.set_cons_succ]
                  refine wpAnyH_take (i := 13) (oi := { dst := some 66, op := Op.fieldAddr 39 (Operand.tmp 5) 1, type := 0, pos := "ref.go:54", after := #[{ on := 0, ground := Ground.phase }, { on := 1, ground := Ground.phase }, { on := 2, ground := Ground.phase }, { on := 3, ground := Ground.phase }, { on := 4, ground := Ground.phase }, { on := 5, ground := Ground.phase }, { on := 6, ground := Ground.phase }, { on := 7, ground := Ground.phase }, { on := 8, ground := Ground.phase }, { on := 9, ground := Ground.phase }, { on := 10, ground := Ground.phase }, { on := 11, ground := Ground.phase }, { on := 12, ground := Ground.phase }], guard := none }) (v := .pointer (some ⟨w5.heap.size, 1, none⟩)) rfl (by kernel_rfl) (by kernel_rfl) (by kernel_rfl) (fun _ _ _ h => h) (Or.inl ⟨by rfl, ?_⟩) HSW4.out ?_
                  · (intro w' hSw; go_simp)
                  simp only [Act.put, List.setIfInBounds_toArray, List.set_cons_zero, List.set_cons_succ]
                  refine wpAnyH_ready (rs := [14]) (by kernel_rfl) (by simp) (AllReadyH.cons (o := { dst := none, op := Op.store 37 (Operand.tmp 66) (Operand.tmp 65), type := 0, pos := "ref.go:54", after := #[{ on := 13, ground := Ground.data }, { on := 12, ground := Ground.data }, { on := 12, ground := Ground.chain }, { on := 0, ground := Ground.phase }, { on := 1, ground := Ground.phase }, { on := 2, ground := Ground.phase }, { on := 3, ground := Ground.phase }, { on := 4, ground := Ground.phase }, { on := 5, ground := Ground.phase }, { on := 6, ground := Ground.phase }, { on := 7, ground := Ground.phase }, { on := 8, ground := Ground.phase }, { on := 9, ground := Ground.phase }, { on := 10, ground := Ground.phase }, { on := 11, ground := Ground.phase }, { on := 12, ground := Ground.phase }], guard := none }) rfl (fun K hK => ?_) AllReadyH.nil)
                  have fz := HRC4.out.cells.2.2
                  have cz4 := HRC4.out.cells.2.1
                  go_simp
                  refine hK.out _ _ ⟨(Below.heap_setCell _ _ _ _ (by simp; omega)).trans HSW4.out.1, (Below.heap_setCell _ _ _ _ (by simp; omega)).trans HSW4.out.2⟩ (fun _ => ?_)
                  clear hK K
                  try simp only [Act.put, List.setIfInBounds_toArray, List.set_cons_zero, List.set_cons_succ]
                  refine wpAnyH_done (by kernel_rfl) ?_ _
                  refine NoPanic.normal ?_
                  go_wp2_with (fail)
                  exact ⟨⟨j + 1, some ⟨g, 0, none⟩, cap, by omega, by go_num, Lib.hid (hset HRC4.out _), Lib.hid (by rw [HRJ.out]; exact ownsRow_setCell_below HO4.out (by simp) _), Lib.hid (HB4.out.setCell (by simp) _), by have := HS4.out; simp; omega⟩, by simp [intOf]; omega⟩
                · have PA2 := Lib.hid (PA.out.below ((Below.refl w3.heap.size w3).alloc (Nat.le_refl _) (.cells #[.string y.text, .int .i64 kk, .int .i64 0, .string ⟨#[]⟩] 58)) (by omega))
                  have HSA := Lib.hid (show ((w3.alloc (.cells #[.string y.text, .int .i64 kk, .int .i64 0, .string ⟨#[]⟩] 58))).heap[wr.heap.size]? = some (.cells #[.int .i64 y.kind, .string y.text, .int .i64 y.lo, .int .i64 y.hi, .slice (some ⟨b2, o2, none⟩) y.kids.length y.c] 24 (0, 0)) ∧ ((w3.alloc (.cells #[.string y.text, .int .i64 kk, .int .i64 0, .string ⟨#[]⟩] 58))).heap[b2]? = wy.heap[b2]? from ⟨(heap_alloc_old _ _ (by omega)).trans HS3.out.1, (heap_alloc_old _ _ (by omega)).trans HS3.out.2⟩)
                  go_simp
                  refine hK.out _ _ HSA.out (fun _ => ?_)
                  clear hK K
                  try simp only [Act.put, List.setIfInBounds_toArray, List.set_cons_zero, List.set_cons_succ]
                  refine wpAnyH_ready (rs := [1]) (by kernel_rfl) (by simp) (AllReadyH.cons (o := { dst := some 54, op := Op.load 37 (Operand.tmp 53), type := 37, pos := "ref.go:54", after := #[{ on := 0, ground := Ground.data }], guard := none }) rfl (fun K hK => ?_) AllReadyH.nil)
                  have ca := PA2.out.cells.2.1
                  go_simp
                  clear ca
                  refine hK.out _ _ HSA.out (fun _ => ?_)
                  clear hK K
                  try simp only [Act.put, List.setIfInBounds_toArray, List.set_cons_zero, List.set_cons_succ]
                  refine wpAnyH_ready (rs := [12]) (by kernel_rfl) (by simp) (AllReadyH.cons (o := { dst := some 65, op := Op.call { callee := Callee.builtin Builtin.append, args := #[Operand.tmp 54, Operand.tmp 64], argTypes := #[37, 37] }, type := 37, pos := "ref.go:54", after := #[{ on := 1, ground := Ground.data }, { on := 11, ground := Ground.data }, { on := 9, ground := Ground.chain }], guard := none }) rfl (fun K hK => ?_) AllReadyH.nil)
                  refine step_append_lies _ (by rfl) _ _ 37 (by rfl) (w5.heap.size + 1) 58 i0 _ 4 48 Tryz.underlying37 hi0 hz0 hz1 hz2 rfl (by decide) (.slice Z j cz) j (fcells ((recF x).take j)) (by rfl) PB.out ⟨w3.heap.size, 0, none⟩ 1 1 (fcells [⟨y.text, ⟨kk, 0, ⟨#[]⟩⟩⟩]) (by rfl) (by rfl) (World.news_of_block (cs := #[.string y.text, .int .i64 kk, .int .i64 0, .string ⟨#[]⟩]) (heap_alloc_new w3 _)) (fcells_one _) (by decide) hcap1 hcap2 (by simp; omega) (w3.heap.size + 1) (by simp) ?_
                  intro g cap w4 hown hgr hsel hgl
                  have hle : w5.heap.size + 1 ≤ (w3.alloc (.cells #[.string y.text, .int .i64 kk, .int .i64 0, .string ⟨#[]⟩] 58)).heap.size := by simp; omega
                  have hbg : Below (w5.heap.size + 1) (w3.alloc (.cells #[.string y.text, .int .i64 kk, .int .i64 0, .string ⟨#[]⟩] 58)) w4 := ((Below.refl _ _).mono hle).grown hgr hle (fun b e => (HLT.out b e).1)
                  have hS4 : (w4).heap[wr.heap.size]? = some (.cells #[.int .i64 y.kind, .string y.text, .int .i64 y.lo, .int .i64 y.hi, .slice (some ⟨b2, o2, none⟩) y.kids.length y.c] 24 (0, 0)) ∧ (w4).heap[b2]? = wy.heap[b2]? := ⟨(hgr.block wr.heap.size (by simp; omega) (fun e => by have := (HLT.out _ e.symm).2; omega)).trans HSA.out.1, (hgr.block b2 (by simp; omega) (fun e => by have := (HLT.out _ e.symm).1; omega)).trans HSA.out.2⟩
                  have HRC4 := Lib.hid (PA2.out.below hbg (by omega))
                  have HO4 := Lib.hid hown
                  have HB4 := Lib.hid ((PC.out.alloc (by omega) (.cells #[.string y.text, .int .i64 kk, .int .i64 0, .string ⟨#[]⟩] 58)).trans (hbg.mono (by omega)))
                  have HS4 := Lib.hid (Nat.le_trans hle hbg.size)
                  have HSW4 := Lib.hid hS4
                  clear hown hgr hsel hgl hle hbg hS4
                  refine hK.out _ _ HSW4.out (fun _ => ?_)
                  clear hK K
                  try simp only [Act.put, List.setIfInBounds_toArray, List.set_cons_zero, List.set_cons_succ]
                  refine wpAnyH_take (i := 13) (oi := { dst := some 66, op := Op.fieldAddr 39 (Operand.tmp 5) 1, type := 0, pos := "ref.go:54", after := #[{ on := 0, ground := Ground.phase }, { on := 1, ground := Ground.phase }, { on := 2, ground := Ground.phase }, { on := 3, ground := Ground.phase }, { on := 4, ground := Ground.phase }, { on := 5, ground := Ground.phase }, { on := 6, ground := Ground.phase }, { on := 7, ground := Ground.phase }, { on := 8, ground := Ground.phase }, { on := 9, ground := Ground.phase }, { on := 10, ground := Ground.phase }, { on := 11, ground := Ground.phase }, { on := 12, ground := Ground.phase }], guard := none }) (v := .pointer (some ⟨w5.heap.size, 1, none⟩)) rfl (by kernel_rfl) (by kernel_rfl) (by kernel_rfl) (fun _ _ _ h => h) (Or.inl ⟨by rfl, ?_⟩) HSW4.out ?_
                  · (intro w' hSw; go_simp)
                  simp only [Act.put, List.setIfInBounds_toArray, List.set_cons_zero, List.set_cons_succ]
                  refine wpAnyH_ready (rs := [14]) (by kernel_rfl) (by simp) (AllReadyH.cons (o := { dst := none, op := Op.store 37 (Operand.tmp 66) (Operand.tmp 65), type := 0, pos := "ref.go:54", after := #[{ on := 13, ground := Ground.data }, { on := 12, ground := Ground.data }, { on := 12, ground := Ground.chain }, { on := 0, ground := Ground.phase }, { on := 1, ground := Ground.phase }, { on := 2, ground := Ground.phase }, { on := 3, ground := Ground.phase }, { on := 4, ground := Ground.phase }, { on := 5, ground := Ground.phase }, { on := 6, ground := Ground.phase }, { on := 7, ground := Ground.phase }, { on := 8, ground := Ground.phase }, { on := 9, ground := Ground.phase }, { on := 10, ground := Ground.phase }, { on := 11, ground := Ground.phase }, { on := 12, ground := Ground.phase }], guard := none }) rfl (fun K hK => ?_) AllReadyH.nil)
                  have fz := HRC4.out.cells.2.2
                  have cz4 := HRC4.out.cells.2.1
                  go_simp
                  refine hK.out _ _ ⟨(Below.heap_setCell _ _ _ _ (by simp; omega)).trans HSW4.out.1, (Below.heap_setCell _ _ _ _ (by simp; omega)).trans HSW4.out.2⟩ (fun _ => ?_)
                  clear hK K
                  try simp only [Act.put, List.setIfInBounds_toArray, List.set_cons_zero, List.set_cons_succ]
                  refine wpAnyH_done (by kernel_rfl) ?_ _
                  refine NoPanic.normal ?_
                  go_wp2_with (fail)
                  exact ⟨⟨j + 1, some ⟨g, 0, none⟩, cap, by omega, by go_num, Lib.hid (hset HRC4.out _), Lib.hid (by rw [HRJ.out]; exact ownsRow_setCell_below HO4.out (by simp) _), Lib.hid (HB4.out.setCell (by simp) _), by have := HS4.out; simp; omega⟩, by simp [intOf]; omega⟩
            · clear hA
              obtain rfl : j = x.kids.length := by omega
              have HRO := Lib.hid (hro.out.below hbr.out)
              have HRW := Lib.hid (HRO.out.1.alloc (.cells #[.string x.text, .slice Z x.kids.length cz] 39))
              have HLT := Lib.hid (fun q e => HRO.out.1.lt q e)
              obtain ⟨r0, r1, r2⟩ := hrc.out.cells
              go_wp2_with (at_builtin; refine wpList_append_lies _ rfl _ _ 25 rfl (w.heap.size + 1) 39 i1 _ 2 40 Tryz.underlying25 hi1 hy0 hy1 hy2 rfl (by decide) _ _ _ rfl HRW.out ⟨wr.heap.size, 0, none⟩ 1 1 (rcells [⟨x.text, Z, cz, recF x⟩]) rfl rfl ?c2 (rcells_one _) (by decide) ?c3 ?c4 ?c5 (wr.heap.size + 1) (by simp) ?_)
              case c2 =>
                rw [show rcells [⟨x.text, Z, cz, recF x⟩] = [.string x.text, .slice Z x.kids.length cz] from by simp [rcells, recF]]
                exact World.news_of_block (cs := #[.string x.text, .slice Z x.kids.length cz]) (heap_alloc_new wr _)
              case c3 => unfold maxLen; omega
              case c4 => omega
              case c5 => simp; omega
              intro g cap w4 hown4 hgr hsel hgl
              have hfl : (recF x).length = x.kids.length := by simp [recF]
              have HR4 := Lib.hid (show RecsOwn w4 (w.heap.size + 1) (.slice (some ⟨g, 0, none⟩) (rs ++ [RcV.mk x.text Z cz (recF x)]).length cap) (rs ++ [RcV.mk x.text Z cz (recF x)]) from by
                refine ⟨by rw [rcells_append, List.length_append]; exact hown4, fun r hr => ?_⟩
                rcases List.mem_append.1 hr with hr | hr
                · exact ⟨((HRO.out.2 r hr).1.alloc (.cells #[.string x.text, .slice Z x.kids.length cz] 39)).kept hgr (rec_ne_own ((HRO.out.2 r hr).1.alloc (.cells #[.string x.text, .slice Z x.kids.length cz] 39)) HRW.out (by decide)), (HRO.out.2 r hr).2⟩
                · obtain rfl : r = RcV.mk x.text Z cz (recF x) := by simpa using hr
                  have h := hfo.out
                  rw [List.take_of_length_le (Nat.le_of_eq hfl)] at h
                  have h' := (rec_mono (B' := w.heap.size + 1) h (by omega)).alloc (.cells #[.string x.text, .slice Z x.kids.length cz] 39)
                  dsimp only
                  rw [hfl]
                  exact ⟨h'.kept hgr (rec_ne_own h' HRW.out (by decide)), by omega⟩)
              have HB4 := Lib.hid (((hbw.out.trans (hbr.out.mono hzw)).alloc (by omega) (.cells #[.string x.text, .slice Z x.kids.length cz] 39)).grown hgr (by simp; omega) (fun b e => (HLT.out b e).1))
              have HM4 := Lib.hid (show (rs ++ [RcV.mk x.text Z cz (recF x)]).map (fun r => (r.name, r.flds)) = recL (n.kids.take (k + 1)) by rw [HL.out, List.map_append, hrl.out]; rfl)
              clear hown4 hgr hsel hgl r0 r1 r2
              go_wp2_with (fail)
              exact ⟨⟨k + 1, rs ++ [RcV.mk x.text Z cz (recF x)], some ⟨g, 0, none⟩, cap, by omega, by simp; omega, by go_num, by simp, HR4, HM4, HB4⟩, by simp [intOf]; omega⟩
      · obtain rfl : k = n.kids.length := by omega
        go_wp2_with (fail)
        go_ret
        refine ⟨_, rs, rfl, ⟨rec_mono hro.out.1 (Nat.le_succ _), fun r hr => ⟨rec_mono (hro.out.2 r hr).1 (Nat.le_succ _), (hro.out.2 r hr).2⟩⟩, ?_, HBW.out _ hbw.out⟩
        have h := hrl.out
        rw [List.take_of_length_le (Nat.le_refl _)] at h
        exact h.trans (HKS.out.trans (if_pos trivial)).symm
end Go.Proofs.YtlpoeflbnpbmgaaGreatDoor
