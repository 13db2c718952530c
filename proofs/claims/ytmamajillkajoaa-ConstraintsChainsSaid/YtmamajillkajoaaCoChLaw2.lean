/- What is proved: the law ConstraintsChains, where all constraints are possible. -/
import Derived.Test.YtmamajillkajoaaCoChLaw
import Derived.Test.YtmamajillkajoaaCoLen
set_option linter.unusedVariables false
namespace Go.Proofs.Ytmamajillkajoaa
open Go.RowKit Go.Shelf

theorem tyL_or {l : List Con} {n v : Nat} (hp : ∀ x ∈ l, posB n x = true) (hv : v < n) : tyL l (clss l n n) v = noT ∨ ((tyL l (clss l n n) v).kind == 0) = false := by
  obtain ⟨r, hr, hc, e⟩ := tyL_cls hp hv
  rw [e]
  unfold typ
  cases hcm : cmn l (mks l (cls l n r)) noT with
  | none => exact .inl rfl
  | some s =>
    dsimp only
    split
    · exact .inl rfl
    · rcases (cmn_cls hp hr).2 s hcm with ⟨hs, _⟩ | ⟨hs, _⟩
      · exact .inl hs
      · right
        have hm := hs.mark hp
        cases hk : (s.kind == 0) with
        | false => rfl
        | true =>
          have e0 : s.kind = 0 := by simpa using hk
          rw [mark_none (by rw [e0]; rfl) (by rw [e0]; rfl) (by rw [e0]; rfl) (by rw [e0]; rfl) (by rw [e0]; rfl) (by rw [e0]; rfl)] at hm
          cases hm
theorem alone_len {l : List Con} : ∀ {ch : List Nat}, (∀ i ∈ ch, i < l.length) → (alone l ch).length = ch.length
  | [], _ => rfl
  | i :: is, h => by
    have ih := alone_len (l := l) (ch := is) (fun j hj => h j (List.mem_cons_of_mem _ hj))
    unfold alone at ih ⊢
    rw [List.filterMap_cons, List.getElem?_eq_getElem (h i (List.mem_cons_self ..))]
    simp [ih]
set_option maxRecDepth 100000 in
set_option maxHeartbeats 2000000 in
theorem chains_ok (m : Nat) (A : Option Addr) (c : Nat) (l : List Con) (w : World) (hm : m ≤ 60) (hl : l.length ≤ 80) (hr : CRow w.heap.size w A l) (hok : ∀ x ∈ l, ConOk x) (hall : l.all (posB m) = true) :
    Calls Try.prog 4 #[.int .i64 (m : Int), .slice A l.length c] w fun e w' => e = .returned (.bool true) ∧ Below w.heap.size w w' := by
  have HAW := Lib.hid (fun W => awake_any W)
  have hp := List.all_eq_true.1 hall
  have HF := Lib.hid (few_f m A c l true (by unfold fewB; simp; omega) w)
  have hS : svOut m l = ((List.range m).map (tyL l (clss l m m)), slvC l m, 0) := by
    unfold svOut
    rw [if_neg (by omega), Int.toNat_natCast, hall, if_pos rfl]
  have hV : (errV m l == 0) = true := by rw [← errV_out, hS]; rfl
  have HS := Lib.hid (fun (W : World) (hb : Below w.heap.size w W) => solve_res m (.inl (by omega)) A c l W hl (hr.later hb) hok)
  rw [hS] at HS
  have hxl : (slvC l m).length ≤ 4096 := by
    have := (svOut_len m l).2
    rw [hS] at this
    exact this
  have HFT := Lib.hid (fun (W : World) (hb : Below w.heap.size w W) => co_fits_any m A c l W (hr.later hb) (by omega) true hV)
  have HXS := Lib.hid (fun ch (h : ch ∈ slvC l m) => And.intro (slvC_len hp h) (chain_none hp h))
  obtain ⟨tl, HTL⟩ : ∃ tl, Hid ((List.range m).map (tyL l (clss l m m)) = tl) := ⟨_, Lib.hid rfl⟩
  have htl : tl.length = m := by rw [← HTL.out]; simp
  have HTG := Lib.hid (show ∀ v (h : v < tl.length), tl[v] = tyL l (clss l m m) v from fun v h => by
    have : tl[v]? = some (tyL l (clss l m m) v) := by
      have hv : v < m := by omega
      rw [← HTL.out]; simp [hv]
    rw [List.getElem?_eq_getElem h] at this
    exact Option.some.inj this)
  rw [HTL.out] at HS
  have HCN := Lib.hid (fun x (h : x ∈ l) => And.intro (tyL_con hp h) (tyL_or (v := x.a.toNat) hp (by have := (pos_cases (hp x h)).1; omega)))
  have HPO := Lib.hid hp
  have HR := Lib.hid hr
  have HOK := Lib.hid hok
  clear hr hok hV hS hp hall HTL
  generalize htf : tyL l (clss l m m) = tf at *
  generalize hxs : slvC l m = xs at *
  clear htf hxs
  go_enter Try.func4, Try.ntmps4
  go_wp2_with (fail)
  refine HF.out.mono ?_
  rintro e w1 ⟨rfl, hb1⟩
  have HB1 := Lib.hid hb1
  clear hb1
  go_wp2_with (fail)
  refine (HS.out w1 HB1.out).mono ?_
  rintro e w2 ⟨TA, XA, ct, cx, rfl, ht2, hx2, hb2⟩
  have HT2 := Lib.hid ht2
  have HX2 := Lib.hid hx2
  have HB2 := Lib.hid (HB1.out.trans (hb2.mono HB1.out.size))
  clear hb2 ht2 hx2
  dsimp only
  go_wp2_with (fail)
  refine (HFT.out w2 HB2.out).mono ?_
  rintro e w3 ⟨rfl, hb3⟩
  have HT3 := Lib.hid (HT2.out.later hb3)
  have HX3 := Lib.hid (lrow_later HX2.out hb3)
  have HB3 := Lib.hid (HB2.out.trans (hb3.mono HB2.out.size))
  clear hb3 HT2 HX2 HB2 HB1 HFT HF
  have htm : ((tl.length : Int) != (m : Int)) = false := by simp [htl]
  have HTLm := Lib.hid htl
  clear htl
  go_wp2_with (fail)
  clear htm
  go_loopw [53] (fun i wr => ∃ j : Nat, j ≤ xs.length ∧ i = .int .i64 (j : Int) ∧ Hid (Below w3.heap.size w3 wr)) (fun i _ => xs.length - (intOf i).toNat)
  case atStart => exact ⟨0, Nat.zero_le _, rfl, Lib.hid (Below.refl _ _)⟩
  case round =>
    obtain ⟨j, hj, rfl, hbr⟩ := hrel
    by_cases hlt : j < xs.length
    · obtain ⟨xb0, xo0, rfl, hxz, hxc⟩ := HX3.out (by omega)
      obtain ⟨X1, z1, c1, k1, kz⟩ := hxc j hlt
      obtain ⟨ch, HCH⟩ : ∃ ch, Hid (xs[j] = ch) := ⟨_, Lib.hid rfl⟩
      rw [HCH.out] at c1 k1 kz
      obtain ⟨hcl, m0, q, es, cm, cq, hI, hno, hp2, x, hx1, hx2⟩ := HXS.out ch (by rw [← HCH.out]; exact List.getElem_mem hlt)
      have hchl : ch.length = es.length + 2 := by rw [hI.form]; simp
      obtain ⟨xb, xo, rfl, hxb, hxcell⟩ := k1 (by omega)
      have hml := hI.lts m0 (by rw [hI.form]; simp)
      obtain ⟨b, off, rfl, hbz, _⟩ := HR.out (by omega)
      have hel : es.length ≤ 1000000 := by omega
      have HWR := Lib.hid (HB3.out.trans (hbr.out.mono HB3.out.size))
      have HIR := Lib.hid (show IRow w3.heap.size w3 (some ⟨xb, xo, none⟩) ch from fun h => ⟨xb, xo, rfl, hxb, hxcell⟩)
      have HIS := Lib.hid (isChain_any b off c l xb xo z1 ch m0 q es cm cq hI wr (by omega) hel (by omega) (HR.out.later HWR.out) (co_irow HIR.out hbr.out))
      have c1' := (hbr.out.cell (p := ⟨xb0, xo0 + j, none⟩) hxz).trans c1
      rw [hchl] at c1'
      clear hxc c1 k1
      go_wp2_with (fail)
      refine HIS.out.mono ?_
      rintro e w5 ⟨rfl, hb5⟩
      have HW5 := Lib.hid (HWR.out.trans (hb5.mono HWR.out.size))
      have HB35 := Lib.hid (hbr.out.trans (hb5.mono hbr.out.size))
      have hpm := pos_cases (HPO.out cm (List.mem_of_getElem? hI.gm))
      obtain ⟨u, hu⟩ : ∃ u : Nat, cm.a = (u : Int) := ⟨cm.a.toNat, by have := hpm.1; omega⟩
      have hum : u < m := by have := hpm.1; omega
      obtain ⟨tb, tof, rfl, htb, htc⟩ := HT3.out (by rw [HTLm.out]; omega)
      have ht0 := htc u (by rw [HTLm.out]; omega)
      rw [HTG.out, show tf u = noT by rw [← hno, hu, Int.toNat_natCast]] at ht0
      obtain ⟨t0, t1, t2⟩ := (show w5.cell? ⟨tb, tof + u * 3, none⟩ = some (.int .i64 0) ∧ w5.cell? ⟨tb, tof + u * 3 + 1, none⟩ = some (.int .i64 0) ∧ w5.cell? ⟨tb, tof + u * 3 + 2, none⟩ = some (.string ⟨#[]⟩) from ht0.below HB35.out htb)
      obtain ⟨q0, q1, q2, q3, q4, q5, q6, q7⟩ := ((HR.out.get hI.gm).below HW5.out hbz)
      rw [hu] at q1
      have r0 := hxcell 0 (by omega)
      have e0 : ch[0]? = some m0 := by rw [hI.form]; rfl
      rw [List.getElem?_eq_getElem (by omega)] at e0
      rw [Option.some.inj e0, Nat.add_zero] at r0
      have r0' := (HB35.out.cell (p := ⟨xb, xo, none⟩) hxb).trans r0
      clear r0 e0 ht0 htc hb5 HIS c1'
      go_wp2_with (fail)
      clear r0' q0 q1 q2 q3 q4 q5 q6 q7 t0 t1 t2
      go_loopw [10, 77] (fun v i wq => ∃ (k : Nat) (V : Value), k ≤ es.length + 2 ∧ i = .int .i64 (k : Int) ∧ V = v ∧ Hid (COwn wq w5.heap.size V (alone l (ch.take k))) ∧ Hid (Below w5.heap.size w5 wq)) (fun _ i _ => es.length + 2 - (intOf i).toNat)
      case atStart => exact ⟨0, _, Nat.zero_le _, rfl, rfl, Lib.hid (World.ownsRow_nil _ _ _ _), Lib.hid (Below.refl _ _)⟩
      case round =>
        obtain ⟨k, V, hk, rfl, hv, hco, hbq⟩ := hrel
        subst hv
        by_cases hkt : k < es.length + 2
        · have r1 := (hbq.out.cell (p := ⟨xb, xo + k, none⟩) (show xb < w5.heap.size by have := HB35.out.size; omega)).trans ((HB35.out.cell (p := ⟨xb, xo + k, none⟩) hxb).trans (hxcell k (by omega)))
          have hyl := hI.lts ch[k] (List.getElem_mem _)
          obtain ⟨x', hx'⟩ : ∃ x', l[ch[k]]? = some x' := ⟨_, List.getElem?_eq_getElem hyl⟩
          obtain ⟨q0, q1, q2, q3, q4, q5, q6, q7⟩ := ((HR.out.get hx').below (HW5.out.trans (hbq.out.mono HW5.out.size)) hbz)
          have htk : alone l (ch.take (k + 1)) = alone l (ch.take k) ++ [x'] := by
            unfold alone
            rw [List.take_succ_eq_append_getElem (by omega), List.filterMap_append]
            simp [hx']
          have hba := hbq.out.alloc hbq.out.size (cObj x')
          have hlen1 : (alone l (ch.take k)).length ≤ k := by
            unfold alone
            refine Nat.le_trans (List.length_filterMap_le _ _) ?_
            rw [List.length_take]
            omega
          have hco2 : COwn (wr.alloc (cObj x')) w5.heap.size V (alone l (ch.take k)) := World.ownsRow.kept hco.out (World.grownBy_alloc wr (cObj x') none) (by cases hv : V.ownBlock <;> simp)
          have hnw := heap_alloc_new wr (cObj x')
          obtain ⟨v', w6, r6, o6, g6⟩ := c_append (wr.alloc (cObj x')) w5.heap.size V _ hco2 wr.heap.size 0 1 1 [x'] rfl (fun i hi => by
            obtain rfl : i = 0 := by simpa using hi
            exact ⟨Lib.cell_of_heap hnw 0, Lib.cell_of_heap hnw 1, Lib.cell_of_heap hnw 2, Lib.cell_of_heap hnw 3, Lib.cell_of_heap hnw 4, Lib.cell_of_heap hnw 5, Lib.cell_of_heap hnw 6, Lib.cell_of_heap hnw 7⟩) (by omega) (by rw [World.size_alloc]; have := hbq.out.size; omega)
          have HR6 := Lib.hid r6
          have HO6 := Lib.hid (show COwn w6 w5.heap.size v' (alone l (ch.take (k + 1))) by rw [htk]; exact o6)
          have HB6 := Lib.hid (hba.grown g6 (by rw [World.size_alloc]; have := hbq.out.size; omega) (fun y e => by
            rcases hco.out.2 with ⟨h1, _⟩ | ⟨g, cp, cur, h1, h2, _⟩
            · rw [h1] at e; cases e
            · rw [h1] at e
              have : y = g := by simpa [Value.ownBlock] using e.symm
              omega))
          clear r6 o6 g6 hnw hco2 hlen1 htk hba hco
          generalize ch[k] = y at *
          go_wp2_with (at_builtin; refine co_append_by rfl _ _ 26 26 rfl _ _ rfl rfl _ _ HR6.out ?_)
          exact ⟨⟨k + 1, v', by omega, by go_num, rfl, HO6, HB6⟩, by simp [intOf]; omega⟩
        · obtain rfl : k = es.length + 2 := by omega
          have hco' := hco.out
          rw [List.take_of_length_le (by omega)] at hco'
          have hal := alone_len hI.lts
          have hsub := alone_sub l ch
          obtain ⟨AL, HAL⟩ : ∃ AL, Hid (alone l ch = AL) := ⟨_, Lib.hid rfl⟩
          rw [HAL.out] at hco' hp2 hx1 hal hsub
          obtain ⟨R, cap, rfl, hcr⟩ := hco'.row (by omega)
          have hS2 : svOut m AL = ((List.range m).map (tyL AL (clss AL m m)), [x], 0) := by
            unfold svOut
            rw [if_neg (by omega), Int.toNat_natCast, List.all_eq_true.2 hp2, if_pos rfl, hx1]
          have hq := solve_res m (.inl (by omega)) (some ⟨R, 0, none⟩) cap AL wr (by omega) hcr (fun y hy => HOK.out y (hsub y hy))
          rw [hS2, hal, hchl] at hq
          rw [hal, hchl]
          have HQ := Lib.hid hq
          have hxx : x.length = es.length + 2 := by omega
          have HBQ := Lib.hid (HB35.out.trans (hbq.out.mono HB35.out.size))
          clear hq hS2 hcr hco' hco hal hsub hp2 hx1 hx2 HAL
          go_wp2_with (fail)
          refine HQ.out.mono ?_
          rintro e w7 ⟨TB, XB, dt, dx, rfl, _, hx7, hb7⟩
          have HB7 := Lib.hid (HBQ.out.trans (hb7.mono HBQ.out.size))
          obtain ⟨yb, yo, rfl, hyb, hyc⟩ := hx7 (by simp)
          obtain ⟨Y, cy, hy0, _⟩ := hyc 0 (by simp)
          have hy1 : w7.cell? ⟨yb, yo, none⟩ = some (.slice Y (es.length + 2) cy) := by
            have h := hy0
            simp only [List.getElem_cons_zero, hxx, Nat.add_zero] at h
            exact h
          clear hy0 hyc hx7 hb7 HQ
          dsimp only
          go_wp2_with (fail)
          exact ⟨⟨j + 1, by omega, by go_num, HB7⟩, by simp [intOf]; omega⟩
    · have HB4 := Lib.hid (HB3.out.trans (hbr.out.mono HB3.out.size))
      have HT4 := Lib.hid (HT3.out.later hbr.out)
      clear hbr HXS HX3 HS
      generalize hw4 : wr = w4 at *
      clear hw4
      go_wp2_with (fail)
      go_loopw [115] (fun i wr => ∃ k : Nat, k ≤ l.length ∧ i = .int .i64 (k : Int) ∧ Hid (Below w4.heap.size w4 wr)) (fun i _ => l.length - (intOf i).toNat)
      case atStart => exact ⟨0, Nat.zero_le _, rfl, Lib.hid (Below.refl _ _)⟩
      case round =>
        obtain ⟨k, hk, rfl, hbr⟩ := hrel
        by_cases hkt : k < l.length
        · obtain ⟨b, off, rfl, hbz, hcs⟩ := HR.out (by omega)
          have hxl := List.getElem_mem hkt
          have HWR := Lib.hid (HB4.out.trans (hbr.out.mono HB4.out.size))
          obtain ⟨q0, q1, q2, q3, q4, q5, q6, q7⟩ := (hcs k hkt).below HWR.out hbz
          obtain ⟨x, HX⟩ : ∃ x, Hid (l[k] = x) := ⟨_, Lib.hid rfl⟩
          rw [HX.out] at q0 q1 q2 q3 q4 q5 q6 q7 hxl
          have hpx := pos_cases (HPO.out x hxl)
          obtain ⟨⟨hc1, hc0⟩, hor⟩ := HCN.out x hxl
          obtain ⟨u, hu⟩ : ∃ u : Nat, x.a = (u : Int) := ⟨x.a.toNat, by have := hpx.1; omega⟩
          have hum : u < m := by have := hpx.1; omega
          obtain ⟨tb, tof, rfl, htb, htc⟩ := HT4.out (by rw [HTLm.out]; omega)
          have ha0 := (htc u (by rw [HTLm.out]; omega))
          rw [HTG.out] at ha0
          have hbx := (Below.refl wr.heap.size wr).alloc (Nat.le_refl _) (cObj x)
          have hbA := hbr.out.trans (hbx.mono hbr.out.size)
          have hnw := heap_alloc_new wr (cObj x)
          rw [hu, Int.toNat_natCast] at hc1 hc0 hor
          obtain ⟨t0, t1, t2⟩ := ha0.below hbA htb
          have HBA := Lib.hid hbA
          rcases hpx.2 with ⟨k0, _⟩ | ⟨k1, b1, b2⟩
          · have hex := hc0 k0
            have n0' : (wr.alloc (cObj x)).cell? ⟨wr.heap.size, 0, none⟩ = some (.int .i64 0) := (Lib.cell_of_heap hnw 0).trans (by rw [← k0]; rfl)
            have n1' : (wr.alloc (cObj x)).cell? ⟨wr.heap.size, 1, none⟩ = some (.int .i64 (u : Int)) := (Lib.cell_of_heap hnw 1).trans (by rw [← hu]; rfl)
            have n3' := Lib.cell_of_heap hnw 3
            have n4' := Lib.cell_of_heap hnw 4
            have n5' := Lib.cell_of_heap hnw 5
            have hox : cObj x = .cells #[.int .i64 0, .int .i64 (u : Int), .int .i64 x.b, .int .i64 x.mark.kind, .int .i64 x.mark.len, .string x.mark.nm, .int .i64 x.lo, .int .i64 x.hi] 36 := by
              show Obj.cells _ _ = _
              rw [k0, hu]
            rw [hu] at q1
            rw [k0] at q0
            rw [hox] at n0' n1' n3' n4' n5' t0 t1 t2 HBA
            clear hnw hox hc0 hc1 hbA hbx hcs ha0 htc
            obtain ⟨W6, hW6⟩ : ∃ W6, wr.alloc (.cells #[.int .i64 0, .int .i64 (u : Int), .int .i64 x.b, .int .i64 x.mark.kind, .int .i64 x.mark.len, .string x.mark.nm, .int .i64 x.lo, .int .i64 x.hi] 36) = W6 := ⟨_, rfl⟩
            rw [hW6] at n0' n1' n3' n4' n5' t0 t1 t2 HBA
            change W6.cell? ⟨wr.heap.size, 3, none⟩ = some (.int .i64 x.mark.kind) at n3'
            change W6.cell? ⟨wr.heap.size, 4, none⟩ = some (.int .i64 x.mark.len) at n4'
            change W6.cell? ⟨wr.heap.size, 5, none⟩ = some (.string x.mark.nm) at n5'
            rcases hor with hT | hT
            · rw [hT] at t0 t1 t2
              change W6.cell? ⟨tb, tof + u * 3, none⟩ = some (.int .i64 0) at t0
              change W6.cell? ⟨tb, tof + u * 3 + 1, none⟩ = some (.int .i64 0) at t1
              change W6.cell? ⟨tb, tof + u * 3 + 2, none⟩ = some (.string ⟨#[]⟩) at t2
              go_wp2_with (fail)
              clear hW6
              go_quiet (fail)
              go_wp2_with (fail)
              exact ⟨⟨k + 1, by omega, by go_num, Lib.hid (HBA.out.trans ((drewN_below W6 nq).mono HBA.out.size))⟩, by simp [intOf]; omega⟩
            · generalize tf u = T at *
              have HEX := Lib.hid (fun W => r_excl_f x.mark T false hex W)
              clear hex
              have hz6 : wr.heap.size < W6.heap.size := by rw [← hW6]; simp
              have htb6 : tb < W6.heap.size := by have h1 := HBA.out.size; omega
              have HP0 := Lib.hid (show ∀ w', Below W6.heap.size W6 w' → (w'.cell? ⟨wr.heap.size, 0, none⟩ = some (.int .i64 0) ∧ w'.cell? ⟨wr.heap.size, 1, none⟩ = some (.int .i64 (u : Int)) ∧ w'.cell? ⟨wr.heap.size, 3, none⟩ = some (.int .i64 x.mark.kind) ∧ w'.cell? ⟨wr.heap.size, 4, none⟩ = some (.int .i64 x.mark.len) ∧ w'.cell? ⟨wr.heap.size, 5, none⟩ = some (.string x.mark.nm) ∧ w'.cell? ⟨tb, tof + u * 3, none⟩ = some (.int .i64 T.kind) ∧ w'.cell? ⟨tb, tof + u * 3 + 1, none⟩ = some (.int .i64 T.len) ∧ w'.cell? ⟨tb, tof + u * 3 + 2, none⟩ = some (.string T.nm)) from fun w' hb => ⟨(hb.cell (p := ⟨wr.heap.size, 0, none⟩) hz6).trans n0', (hb.cell (p := ⟨wr.heap.size, 1, none⟩) hz6).trans n1', (hb.cell (p := ⟨wr.heap.size, 3, none⟩) hz6).trans n3', (hb.cell (p := ⟨wr.heap.size, 4, none⟩) hz6).trans n4', (hb.cell (p := ⟨wr.heap.size, 5, none⟩) hz6).trans n5', (hb.cell (p := ⟨tb, tof + u * 3, none⟩) htb6).trans t0, (hb.cell (p := ⟨tb, tof + u * 3 + 1, none⟩) htb6).trans t1, (hb.cell (p := ⟨tb, tof + u * 3 + 2, none⟩) htb6).trans t2⟩)
              have HK0 := Lib.hid (HP0.out W6.drew (Below.refl W6.heap.size W6).drew)
              have HK6 := Lib.hid (HP0.out W6 (Below.refl W6.heap.size W6))
              go_wp2_with (fail)
              clear hW6
              refine wp_region_noPanic ?_
              refine wp_region_held (S := fun w' => Below W6.heap.size W6 w') (by kernel_rfl) ?_
              refine wpAnyH_take (i := 0) (oi := { dst := some 119, op := Op.fieldAddr 36 (Operand.tmp 17) 0, type := 0, pos := "law.go:115", after := #[], guard := none }) (v := .pointer (some ⟨wr.heap.size, 0, none⟩)) rfl (by kernel_rfl) (by kernel_rfl) (by kernel_rfl) (fun _ _ _ h => h) (Or.inl ⟨by rfl, ?_⟩) (Below.refl _ _).drew ?_
              · (intro w' hSw; go_simp)
              simp only [Act.put, List.setIfInBounds_toArray, List.set_cons_zero, List.set_cons_succ]
              refine wpAnyH_take (i := 1) (oi := { dst := some 120, op := Op.load 3 (Operand.tmp 119), type := 3, pos := "law.go:115", after := #[{ on := 0, ground := Ground.data }], guard := none }) (v := .int .i64 0) rfl (by kernel_rfl) (by kernel_rfl) (by kernel_rfl) (fun _ _ _ h => h) (Or.inl ⟨by rfl, ?_⟩) (Below.refl _ _).drew ?_
              · (intro w' hSw; obtain ⟨p0, p1, p3, p4, p5, p6, p7, p8⟩ := HP0.out w' hSw; go_simp)
              simp only [Act.put, List.setIfInBounds_toArray, List.set_cons_zero, List.set_cons_succ]
              refine wpAnyH_take (i := 2) (oi := { dst := some 121, op := Op.binOp BinOp.eql 3 (Operand.tmp 120) (Operand.const (Value.int IntKind.i64 1)) 3, type := 4, pos := "law.go:115", after := #[{ on := 1, ground := Ground.data }], guard := none }) (v := .bool false) rfl (by kernel_rfl) (by kernel_rfl) (by kernel_rfl) (fun _ _ _ h => h) (Or.inl ⟨by rfl, ?_⟩) (Below.refl _ _).drew ?_
              · (intro w' hSw; go_simp)
              simp only [Act.put, List.setIfInBounds_toArray, List.set_cons_zero, List.set_cons_succ]
              refine wpAnyH_take (i := 3) (oi := { dst := some 122, op := Op.move (Operand.tmp 121), type := 4, pos := "law.go:115", after := #[{ on := 2, ground := Ground.data }], guard := none }) (v := .bool false) rfl (by kernel_rfl) (by kernel_rfl) (by kernel_rfl) (fun _ _ _ h => h) (Or.inl ⟨by rfl, ?_⟩) (Below.refl _ _).drew ?_
              · (intro w' hSw; go_simp)
              simp only [Act.put, List.setIfInBounds_toArray, List.set_cons_zero, List.set_cons_succ]
              refine wpAnyH_take (i := 4) (oi := { dst := some 123, op := Op.move (Operand.tmp 5), type := 28, pos := "law.go:115", after := #[{ on := 3, ground := Ground.guard }], guard := some (3, true) }) (v := undef) rfl (by kernel_rfl) (by kernel_rfl) (by kernel_rfl) (fun _ _ _ h => h) (Or.inr ⟨by rfl, rfl⟩) (Below.refl _ _).drew ?_
              simp only [Act.put, List.setIfInBounds_toArray, List.set_cons_zero, List.set_cons_succ]
              refine wpAnyH_take (i := 5) (oi := { dst := some 124, op := Op.fieldAddr 36 (Operand.tmp 17) 1, type := 0, pos := "law.go:115", after := #[{ on := 3, ground := Ground.guard }], guard := some (3, true) }) (v := undef) rfl (by kernel_rfl) (by kernel_rfl) (by kernel_rfl) (fun _ _ _ h => h) (Or.inr ⟨by rfl, rfl⟩) (Below.refl _ _).drew ?_
              simp only [Act.put, List.setIfInBounds_toArray, List.set_cons_zero, List.set_cons_succ]
              refine wpAnyH_take (i := 6) (oi := { dst := some 125, op := Op.load 3 (Operand.tmp 124), type := 3, pos := "law.go:115", after := #[{ on := 5, ground := Ground.data }, { on := 3, ground := Ground.guard }], guard := some (3, true) }) (v := undef) rfl (by kernel_rfl) (by kernel_rfl) (by kernel_rfl) (fun _ _ _ h => h) (Or.inr ⟨by rfl, rfl⟩) (Below.refl _ _).drew ?_
              simp only [Act.put, List.setIfInBounds_toArray, List.set_cons_zero, List.set_cons_succ]
              refine wpAnyH_take (i := 7) (oi := { dst := some 126, op := Op.indexAddr 28 (Operand.tmp 123) (Operand.tmp 125), type := 0, pos := "law.go:115", after := #[{ on := 4, ground := Ground.data }, { on := 6, ground := Ground.data }, { on := 3, ground := Ground.guard }], guard := some (3, true) }) (v := undef) rfl (by kernel_rfl) (by kernel_rfl) (by kernel_rfl) (fun _ _ _ h => h) (Or.inr ⟨by rfl, rfl⟩) (Below.refl _ _).drew ?_
              simp only [Act.put, List.setIfInBounds_toArray, List.set_cons_zero, List.set_cons_succ]
              refine wpAnyH_take (i := 8) (oi := { dst := some 127, op := Op.load 23 (Operand.tmp 126), type := 23, pos := "law.go:115", after := #[{ on := 7, ground := Ground.data }, { on := 3, ground := Ground.guard }], guard := some (3, true) }) (v := undef) rfl (by kernel_rfl) (by kernel_rfl) (by kernel_rfl) (fun _ _ _ h => h) (Or.inr ⟨by rfl, rfl⟩) (Below.refl _ _).drew ?_
              simp only [Act.put, List.setIfInBounds_toArray, List.set_cons_zero, List.set_cons_succ]
              refine wpAnyH_take (i := 9) (oi := { dst := some 128, op := Op.move (Operand.tmp 5), type := 28, pos := "law.go:115", after := #[{ on := 3, ground := Ground.guard }], guard := some (3, true) }) (v := undef) rfl (by kernel_rfl) (by kernel_rfl) (by kernel_rfl) (fun _ _ _ h => h) (Or.inr ⟨by rfl, rfl⟩) (Below.refl _ _).drew ?_
              simp only [Act.put, List.setIfInBounds_toArray, List.set_cons_zero, List.set_cons_succ]
              refine wpAnyH_take (i := 10) (oi := { dst := some 129, op := Op.fieldAddr 36 (Operand.tmp 17) 2, type := 0, pos := "law.go:115", after := #[{ on := 3, ground := Ground.guard }], guard := some (3, true) }) (v := undef) rfl (by kernel_rfl) (by kernel_rfl) (by kernel_rfl) (fun _ _ _ h => h) (Or.inr ⟨by rfl, rfl⟩) (Below.refl _ _).drew ?_
              simp only [Act.put, List.setIfInBounds_toArray, List.set_cons_zero, List.set_cons_succ]
              refine wpAnyH_take (i := 11) (oi := { dst := some 130, op := Op.load 3 (Operand.tmp 129), type := 3, pos := "law.go:115", after := #[{ on := 10, ground := Ground.data }, { on := 3, ground := Ground.guard }], guard := some (3, true) }) (v := undef) rfl (by kernel_rfl) (by kernel_rfl) (by kernel_rfl) (fun _ _ _ h => h) (Or.inr ⟨by rfl, rfl⟩) (Below.refl _ _).drew ?_
              simp only [Act.put, List.setIfInBounds_toArray, List.set_cons_zero, List.set_cons_succ]
              refine wpAnyH_take (i := 12) (oi := { dst := some 131, op := Op.indexAddr 28 (Operand.tmp 128) (Operand.tmp 130), type := 0, pos := "law.go:115", after := #[{ on := 9, ground := Ground.data }, { on := 11, ground := Ground.data }, { on := 3, ground := Ground.guard }], guard := some (3, true) }) (v := undef) rfl (by kernel_rfl) (by kernel_rfl) (by kernel_rfl) (fun _ _ _ h => h) (Or.inr ⟨by rfl, rfl⟩) (Below.refl _ _).drew ?_
              simp only [Act.put, List.setIfInBounds_toArray, List.set_cons_zero, List.set_cons_succ]
              refine wpAnyH_take (i := 13) (oi := { dst := some 132, op := Op.load 23 (Operand.tmp 131), type := 23, pos := "law.go:115", after := #[{ on := 12, ground := Ground.data }, { on := 3, ground := Ground.guard }], guard := some (3, true) }) (v := undef) rfl (by kernel_rfl) (by kernel_rfl) (by kernel_rfl) (fun _ _ _ h => h) (Or.inr ⟨by rfl, rfl⟩) (Below.refl _ _).drew ?_
              simp only [Act.put, List.setIfInBounds_toArray, List.set_cons_zero, List.set_cons_succ]
              refine wpAnyH_take (i := 14) (oi := { dst := some 133, op := Op.binOp BinOp.neq 23 (Operand.tmp 127) (Operand.tmp 132) 23, type := 4, pos := "law.go:115", after := #[{ on := 8, ground := Ground.data }, { on := 13, ground := Ground.data }, { on := 3, ground := Ground.guard }], guard := some (3, true) }) (v := undef) rfl (by kernel_rfl) (by kernel_rfl) (by kernel_rfl) (fun _ _ _ h => h) (Or.inr ⟨by rfl, rfl⟩) (Below.refl _ _).drew ?_
              simp only [Act.put, List.setIfInBounds_toArray, List.set_cons_zero, List.set_cons_succ]
              refine wpAnyH_take (i := 15) (oi := { dst := some 134, op := Op.pick (Operand.tmp 122) (Operand.tmp 133) (Operand.const (Value.bool false)), type := 4, pos := "law.go:115", after := #[{ on := 3, ground := Ground.data }, { on := 14, ground := Ground.data }], guard := none }) (v := .bool false) rfl (by kernel_rfl) (by kernel_rfl) (by kernel_rfl) (fun _ _ _ h => h) (Or.inl ⟨by rfl, ?_⟩) (Below.refl _ _).drew ?_
              · (intro w' hSw; go_simp)
              simp only [Act.put, List.setIfInBounds_toArray, List.set_cons_zero, List.set_cons_succ]
              refine wpAnyH_take (i := 16) (oi := { dst := some 135, op := Op.move (Operand.tmp 134), type := 4, pos := "law.go:115", after := #[{ on := 15, ground := Ground.data }, { on := 3, ground := Ground.chain }], guard := none }) (v := .bool false) rfl (by kernel_rfl) (by kernel_rfl) (by kernel_rfl) (fun _ _ _ h => h) (Or.inl ⟨by rfl, ?_⟩) (Below.refl _ _).drew ?_
              · (intro w' hSw; go_simp)
              simp only [Act.put, List.setIfInBounds_toArray, List.set_cons_zero, List.set_cons_succ]
              refine wpAnyH_take (i := 17) (oi := { dst := some 136, op := Op.fieldAddr 36 (Operand.tmp 17) 0, type := 0, pos := "law.go:115", after := #[{ on := 16, ground := Ground.guard }], guard := some (16, false) }) (v := .pointer (some ⟨wr.heap.size, 0, none⟩)) rfl (by kernel_rfl) (by kernel_rfl) (by kernel_rfl) (fun _ _ _ h => h) (Or.inl ⟨by rfl, ?_⟩) (Below.refl _ _).drew ?_
              · (intro w' hSw; go_simp)
              simp only [Act.put, List.setIfInBounds_toArray, List.set_cons_zero, List.set_cons_succ]
              refine wpAnyH_take (i := 18) (oi := { dst := some 137, op := Op.load 3 (Operand.tmp 136), type := 3, pos := "law.go:115", after := #[{ on := 17, ground := Ground.data }, { on := 16, ground := Ground.guard }], guard := some (16, false) }) (v := .int .i64 0) rfl (by kernel_rfl) (by kernel_rfl) (by kernel_rfl) (fun _ _ _ h => h) (Or.inl ⟨by rfl, ?_⟩) (Below.refl _ _).drew ?_
              · (intro w' hSw; obtain ⟨p0, p1, p3, p4, p5, p6, p7, p8⟩ := HP0.out w' hSw; go_simp)
              simp only [Act.put, List.setIfInBounds_toArray, List.set_cons_zero, List.set_cons_succ]
              refine wpAnyH_take (i := 19) (oi := { dst := some 138, op := Op.binOp BinOp.eql 3 (Operand.tmp 137) (Operand.const (Value.int IntKind.i64 0)) 3, type := 4, pos := "law.go:115", after := #[{ on := 18, ground := Ground.data }, { on := 16, ground := Ground.guard }], guard := some (16, false) }) (v := .bool true) rfl (by kernel_rfl) (by kernel_rfl) (by kernel_rfl) (fun _ _ _ h => h) (Or.inl ⟨by rfl, ?_⟩) (Below.refl _ _).drew ?_
              · (intro w' hSw; go_simp)
              simp only [Act.put, List.setIfInBounds_toArray, List.set_cons_zero, List.set_cons_succ]
              refine wpAnyH_take (i := 20) (oi := { dst := some 139, op := Op.move (Operand.tmp 138), type := 4, pos := "law.go:115", after := #[{ on := 19, ground := Ground.data }, { on := 16, ground := Ground.chain }, { on := 16, ground := Ground.guard }], guard := some (16, false) }) (v := .bool true) rfl (by kernel_rfl) (by kernel_rfl) (by kernel_rfl) (fun _ _ _ h => h) (Or.inl ⟨by rfl, ?_⟩) (Below.refl _ _).drew ?_
              · (intro w' hSw; go_simp)
              simp only [Act.put, List.setIfInBounds_toArray, List.set_cons_zero, List.set_cons_succ]
              refine wpAnyH_take (i := 21) (oi := { dst := some 140, op := Op.move (Operand.tmp 5), type := 28, pos := "law.go:115", after := #[{ on := 20, ground := Ground.guard }], guard := some (20, true) }) (v := .slice (some ⟨tb, tof, none⟩) m ct) rfl (by kernel_rfl) (by kernel_rfl) (by kernel_rfl) (fun _ _ _ h => h) (Or.inl ⟨by rfl, ?_⟩) (Below.refl _ _).drew ?_
              · (intro w' hSw; go_simp)
              simp only [Act.put, List.setIfInBounds_toArray, List.set_cons_zero, List.set_cons_succ]
              refine wpAnyH_take (i := 22) (oi := { dst := some 141, op := Op.fieldAddr 36 (Operand.tmp 17) 1, type := 0, pos := "law.go:115", after := #[{ on := 20, ground := Ground.guard }], guard := some (20, true) }) (v := .pointer (some ⟨wr.heap.size, 1, none⟩)) rfl (by kernel_rfl) (by kernel_rfl) (by kernel_rfl) (fun _ _ _ h => h) (Or.inl ⟨by rfl, ?_⟩) (Below.refl _ _).drew ?_
              · (intro w' hSw; go_simp)
              simp only [Act.put, List.setIfInBounds_toArray, List.set_cons_zero, List.set_cons_succ]
              refine wpAnyH_take (i := 23) (oi := { dst := some 142, op := Op.load 3 (Operand.tmp 141), type := 3, pos := "law.go:115", after := #[{ on := 22, ground := Ground.data }, { on := 20, ground := Ground.guard }], guard := some (20, true) }) (v := .int .i64 (u : Int)) rfl (by kernel_rfl) (by kernel_rfl) (by kernel_rfl) (fun _ _ _ h => h) (Or.inl ⟨by rfl, ?_⟩) (Below.refl _ _).drew ?_
              · (intro w' hSw; obtain ⟨p0, p1, p3, p4, p5, p6, p7, p8⟩ := HP0.out w' hSw; go_simp)
              simp only [Act.put, List.setIfInBounds_toArray, List.set_cons_zero, List.set_cons_succ]
              refine wpAnyH_take (i := 24) (oi := { dst := some 143, op := Op.indexAddr 28 (Operand.tmp 140) (Operand.tmp 142), type := 0, pos := "law.go:115", after := #[{ on := 21, ground := Ground.data }, { on := 23, ground := Ground.data }, { on := 20, ground := Ground.guard }], guard := some (20, true) }) (v := .pointer (some ⟨tb, tof + u * 3, none⟩)) rfl (by kernel_rfl) (by kernel_rfl) (by kernel_rfl) (fun _ _ _ h => h) (Or.inl ⟨by rfl, ?_⟩) (Below.refl _ _).drew ?_
              · (intro w' hSw; go_simp)
              simp only [Act.put, List.setIfInBounds_toArray, List.set_cons_zero, List.set_cons_succ]
              refine wpAnyH_take (i := 25) (oi := { dst := some 144, op := Op.load 23 (Operand.tmp 143), type := 23, pos := "law.go:115", after := #[{ on := 24, ground := Ground.data }, { on := 20, ground := Ground.guard }], guard := some (20, true) }) (v := .agg #[.int .i64 T.kind, .int .i64 T.len, .string T.nm]) rfl (by kernel_rfl) (by kernel_rfl) (by kernel_rfl) (fun _ _ _ h => h) (Or.inl ⟨by rfl, ?_⟩) (Below.refl _ _).drew ?_
              · (intro w' hSw; obtain ⟨p0, p1, p3, p4, p5, p6, p7, p8⟩ := HP0.out w' hSw; go_simp)
              simp only [Act.put, List.setIfInBounds_toArray, List.set_cons_zero, List.set_cons_succ]
              refine wpAnyH_take (i := 26) (oi := { dst := some 145, op := Op.build 23 #[], type := 23, pos := "law.go:115", after := #[{ on := 20, ground := Ground.guard }], guard := some (20, true) }) (v := .agg #[.int .i64 0, .int .i64 0, .string ⟨#[]⟩]) rfl (by kernel_rfl) (by kernel_rfl) (by kernel_rfl) (fun _ _ _ h => h) (Or.inl ⟨by rfl, ?_⟩) (Below.refl _ _).drew ?_
              · (intro w' hSw; go_simp)
              simp only [Act.put, List.setIfInBounds_toArray, List.set_cons_zero, List.set_cons_succ]
              refine wpAnyH_take (i := 27) (oi := { dst := some 146, op := Op.binOp BinOp.neq 23 (Operand.tmp 144) (Operand.tmp 145) 23, type := 4, pos := "law.go:115", after := #[{ on := 25, ground := Ground.data }, { on := 26, ground := Ground.data }, { on := 20, ground := Ground.guard }], guard := some (20, true) }) (v := .bool true) rfl (by kernel_rfl) (by kernel_rfl) (by kernel_rfl) (fun _ _ _ h => h) (Or.inl ⟨by rfl, ?_⟩) (Below.refl _ _).drew ?_
              · (intro w' hSw; go_simp)
              simp only [Act.put, List.setIfInBounds_toArray, List.set_cons_zero, List.set_cons_succ]
              refine wpAnyH_take (i := 28) (oi := { dst := some 147, op := Op.pick (Operand.tmp 139) (Operand.tmp 146) (Operand.const (Value.bool false)), type := 4, pos := "law.go:115", after := #[{ on := 20, ground := Ground.data }, { on := 27, ground := Ground.data }, { on := 16, ground := Ground.guard }], guard := some (16, false) }) (v := .bool true) rfl (by kernel_rfl) (by kernel_rfl) (by kernel_rfl) (fun _ _ _ h => h) (Or.inl ⟨by rfl, ?_⟩) (Below.refl _ _).drew ?_
              · (intro w' hSw; go_simp)
              simp only [Act.put, List.setIfInBounds_toArray, List.set_cons_zero, List.set_cons_succ]
              refine wpAnyH_take (i := 29) (oi := { dst := some 148, op := Op.move (Operand.tmp 147), type := 4, pos := "law.go:115", after := #[{ on := 28, ground := Ground.data }, { on := 20, ground := Ground.chain }, { on := 16, ground := Ground.guard }], guard := some (16, false) }) (v := .bool true) rfl (by kernel_rfl) (by kernel_rfl) (by kernel_rfl) (fun _ _ _ h => h) (Or.inl ⟨by rfl, ?_⟩) (Below.refl _ _).drew ?_
              · (intro w' hSw; go_simp)
              simp only [Act.put, List.setIfInBounds_toArray, List.set_cons_zero, List.set_cons_succ]
              refine wpAnyH_take (i := 30) (oi := { dst := some 149, op := Op.fieldAddr 36 (Operand.tmp 17) 3, type := 0, pos := "law.go:115", after := #[{ on := 29, ground := Ground.guard }], guard := some (29, true) }) (v := .pointer (some ⟨wr.heap.size, 3, none⟩)) rfl (by kernel_rfl) (by kernel_rfl) (by kernel_rfl) (fun _ _ _ h => h) (Or.inl ⟨by rfl, ?_⟩) (Below.refl _ _).drew ?_
              · (intro w' hSw; go_simp)
              simp only [Act.put, List.setIfInBounds_toArray, List.set_cons_zero, List.set_cons_succ]
              refine wpAnyH_take (i := 31) (oi := { dst := some 150, op := Op.load 23 (Operand.tmp 149), type := 23, pos := "law.go:115", after := #[{ on := 30, ground := Ground.data }, { on := 29, ground := Ground.guard }], guard := some (29, true) }) (v := .agg #[.int .i64 x.mark.kind, .int .i64 x.mark.len, .string x.mark.nm]) rfl (by kernel_rfl) (by kernel_rfl) (by kernel_rfl) (fun _ _ _ h => h) (Or.inl ⟨by rfl, ?_⟩) (Below.refl _ _).drew ?_
              · (intro w' hSw; obtain ⟨p0, p1, p3, p4, p5, p6, p7, p8⟩ := HP0.out w' hSw; go_simp)
              simp only [Act.put, List.setIfInBounds_toArray, List.set_cons_zero, List.set_cons_succ]
              refine wpAnyH_take (i := 32) (oi := { dst := some 151, op := Op.move (Operand.tmp 5), type := 28, pos := "law.go:115", after := #[{ on := 29, ground := Ground.guard }], guard := some (29, true) }) (v := .slice (some ⟨tb, tof, none⟩) m ct) rfl (by kernel_rfl) (by kernel_rfl) (by kernel_rfl) (fun _ _ _ h => h) (Or.inl ⟨by rfl, ?_⟩) (Below.refl _ _).drew ?_
              · (intro w' hSw; go_simp)
              simp only [Act.put, List.setIfInBounds_toArray, List.set_cons_zero, List.set_cons_succ]
              refine wpAnyH_take (i := 33) (oi := { dst := some 152, op := Op.fieldAddr 36 (Operand.tmp 17) 1, type := 0, pos := "law.go:115", after := #[{ on := 29, ground := Ground.guard }], guard := some (29, true) }) (v := .pointer (some ⟨wr.heap.size, 1, none⟩)) rfl (by kernel_rfl) (by kernel_rfl) (by kernel_rfl) (fun _ _ _ h => h) (Or.inl ⟨by rfl, ?_⟩) (Below.refl _ _).drew ?_
              · (intro w' hSw; go_simp)
              simp only [Act.put, List.setIfInBounds_toArray, List.set_cons_zero, List.set_cons_succ]
              refine wpAnyH_take (i := 34) (oi := { dst := some 153, op := Op.load 3 (Operand.tmp 152), type := 3, pos := "law.go:115", after := #[{ on := 33, ground := Ground.data }, { on := 29, ground := Ground.guard }], guard := some (29, true) }) (v := .int .i64 (u : Int)) rfl (by kernel_rfl) (by kernel_rfl) (by kernel_rfl) (fun _ _ _ h => h) (Or.inl ⟨by rfl, ?_⟩) (Below.refl _ _).drew ?_
              · (intro w' hSw; obtain ⟨p0, p1, p3, p4, p5, p6, p7, p8⟩ := HP0.out w' hSw; go_simp)
              simp only [Act.put, List.setIfInBounds_toArray, List.set_cons_zero, List.set_cons_succ]
              refine wpAnyH_take (i := 35) (oi := { dst := some 154, op := Op.indexAddr 28 (Operand.tmp 151) (Operand.tmp 153), type := 0, pos := "law.go:115", after := #[{ on := 32, ground := Ground.data }, { on := 34, ground := Ground.data }, { on := 29, ground := Ground.guard }], guard := some (29, true) }) (v := .pointer (some ⟨tb, tof + u * 3, none⟩)) rfl (by kernel_rfl) (by kernel_rfl) (by kernel_rfl) (fun _ _ _ h => h) (Or.inl ⟨by rfl, ?_⟩) (Below.refl _ _).drew ?_
              · (intro w' hSw; go_simp)
              simp only [Act.put, List.setIfInBounds_toArray, List.set_cons_zero, List.set_cons_succ]
              refine wpAnyH_take (i := 36) (oi := { dst := some 155, op := Op.load 23 (Operand.tmp 154), type := 23, pos := "law.go:115", after := #[{ on := 35, ground := Ground.data }, { on := 29, ground := Ground.guard }], guard := some (29, true) }) (v := .agg #[.int .i64 T.kind, .int .i64 T.len, .string T.nm]) rfl (by kernel_rfl) (by kernel_rfl) (by kernel_rfl) (fun _ _ _ h => h) (Or.inl ⟨by rfl, ?_⟩) (Below.refl _ _).drew ?_
              · (intro w' hSw; obtain ⟨p0, p1, p3, p4, p5, p6, p7, p8⟩ := HP0.out w' hSw; go_simp)
              simp only [Act.put, List.setIfInBounds_toArray, List.set_cons_zero, List.set_cons_succ]
              refine wpAnyH_ready (rs := [37]) (by kernel_rfl) (by simp) (AllReadyH.cons (o := { dst := some 156, op := Op.call { callee := Callee.value (Operand.func 8), args := #[Operand.tmp 150, Operand.tmp 155], argTypes := #[23, 23] }, type := 4, pos := "law.go:115", after := #[{ on := 31, ground := Ground.data }, { on := 36, ground := Ground.data }, { on := 29, ground := Ground.chain }, { on := 29, ground := Ground.guard }], guard := some (29, true) }) rfl (fun K hK => ?_) AllReadyH.nil)
              go_simp
              refine (HEX.out _).mono ?_
              rintro e w9 ⟨rfl, hb9⟩
              have HB9 := Lib.hid ((Below.refl W6.heap.size W6).drew.trans hb9)
              clear hb9
              go_wp2_with (fail)
              refine hK.out _ _ HB9.out (fun _ => ?_)
              clear hK K
              try simp only [Act.put, List.setIfInBounds_toArray, List.set_cons_zero, List.set_cons_succ]
              refine wpAnyH_take (i := 38) (oi := { dst := some 157, op := Op.pick (Operand.tmp 148) (Operand.tmp 156) (Operand.const (Value.bool false)), type := 4, pos := "law.go:115", after := #[{ on := 29, ground := Ground.data }, { on := 37, ground := Ground.data }, { on := 16, ground := Ground.guard }], guard := some (16, false) }) (v := .bool false) rfl (by kernel_rfl) (by kernel_rfl) (by kernel_rfl) (fun _ _ _ h => h) (Or.inl ⟨by rfl, ?_⟩) HB9.out ?_
              · (intro w' hSw; go_simp)
              simp only [Act.put, List.setIfInBounds_toArray, List.set_cons_zero, List.set_cons_succ]
              refine wpAnyH_take (i := 39) (oi := { dst := some 158, op := Op.pick (Operand.tmp 135) (Operand.const (Value.bool true)) (Operand.tmp 157), type := 4, pos := "law.go:115", after := #[{ on := 16, ground := Ground.data }, { on := 38, ground := Ground.data }], guard := none }) (v := .bool false) rfl (by kernel_rfl) (by kernel_rfl) (by kernel_rfl) (fun _ _ _ h => h) (Or.inl ⟨by rfl, ?_⟩) HB9.out ?_
              · (intro w' hSw; go_simp)
              simp only [Act.put, List.setIfInBounds_toArray, List.set_cons_zero, List.set_cons_succ]
              refine wpAnyH_done (by kernel_rfl) ?_ _
              refine NoPanic.normal ?_
              go_wp2_with (fail)
              exact ⟨⟨k + 1, by omega, by go_num, Lib.hid (HBA.out.trans (HB9.out.mono HBA.out.size))⟩, by simp [intOf]; omega⟩
          · obtain ⟨v, hv⟩ : ∃ v : Nat, x.b = (v : Int) := ⟨x.b.toNat, by omega⟩
            have hvm : v < m := by omega
            have hb0 := (htc v (by rw [HTLm.out]; omega))
            have hee := hc1 k1
            rw [hv, Int.toNat_natCast] at hee
            rw [HTG.out, ← hee] at hb0
            obtain ⟨s0, s1, s2⟩ := hb0.below hbA htb
            clear hb0 ha0 htc hc0 hc1 hor hbA hbx hcs hee
            generalize tf u = T at *
            have n0 := Lib.cell_of_heap hnw 0
            have n1 := Lib.cell_of_heap hnw 1
            have n2 := Lib.cell_of_heap hnw 2
            have n3 := Lib.cell_of_heap hnw 3
            have n4 := Lib.cell_of_heap hnw 4
            have n5 := Lib.cell_of_heap hnw 5
            rw [hu] at q1
            rw [hv] at q2
            rw [k1] at q0
            have n0' : (wr.alloc (cObj x)).cell? ⟨wr.heap.size, 0, none⟩ = some (.int .i64 1) := n0.trans (by rw [← k1]; rfl)
            have n1' : (wr.alloc (cObj x)).cell? ⟨wr.heap.size, 1, none⟩ = some (.int .i64 (u : Int)) := n1.trans (by rw [← hu]; rfl)
            have n2' : (wr.alloc (cObj x)).cell? ⟨wr.heap.size, 2, none⟩ = some (.int .i64 (v : Int)) := n2.trans (by rw [← hv]; rfl)
            have hox : cObj x = .cells #[.int .i64 1, .int .i64 (u : Int), .int .i64 (v : Int), .int .i64 x.mark.kind, .int .i64 x.mark.len, .string x.mark.nm, .int .i64 x.lo, .int .i64 x.hi] 36 := by
              show Obj.cells _ _ = _
              rw [k1, hu, hv]
            rw [hox] at n0' n1' n2' t0 t1 t2 s0 s1 s2 HBA
            clear n0 n1 n2 n3 n4 n5 hnw hox
            obtain ⟨W6, hW6⟩ : ∃ W6, wr.alloc (.cells #[.int .i64 1, .int .i64 (u : Int), .int .i64 (v : Int), .int .i64 x.mark.kind, .int .i64 x.mark.len, .string x.mark.nm, .int .i64 x.lo, .int .i64 x.hi] 36) = W6 := ⟨_, rfl⟩
            rw [hW6] at n0' n1' n2' t0 t1 t2 s0 s1 s2 HBA
            have e1 : (T.kind == T.kind) = true := by simp
            have e2 : (T.len == T.len) = true := by simp
            have e3 : (T.nm.toList == T.nm.toList) = true := by simp
            go_wp2_with (fail)
            clear hW6
            go_quiet (fail)
            go_wp2_with (fail)
            exact ⟨⟨k + 1, by omega, by go_num, Lib.hid (HBA.out.trans ((drewN_below W6 nq).mono HBA.out.size))⟩, by simp [intOf]; omega⟩
        · have HB5 := Lib.hid (HB4.out.trans (hbr.out.mono HB4.out.size))
          go_wp2_with (fail)
          refine (HAW.out _).mono ?_
          rintro e w6 ⟨rfl, hb6⟩
          have HB6 := Lib.hid (HB5.out.trans (hb6.mono HB5.out.size))
          clear hb6
          go_wp2_with (fail)
          go_ret
          exact ⟨rfl, HB6.out⟩
end Go.Proofs.Ytmamajillkajoaa
