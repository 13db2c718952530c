/- What is proved: Scalars. -/
import Derived.Test.YtnpcfmoiiecadaaDoorTyParts
set_option linter.unusedVariables false
namespace Go.Proofs.YtnpcfmoiiecadaaDoor
open Go.RowKit

section
variable {P : Program} (w : World)
theorem run_append_empty (t ty e : TypeId) (i : TypeInfo) (ht : P.underlying t = some (.slice e)) (hi : P.info? e = some i) (b a : Option Addr) (n cap c : Nat) (hn : n ≤ cap) :
    (Builtin.append_ #[t, t] ty #[.slice b n cap, .slice a 0 c]).run P w = .ok (.slice b n cap) w := by
  cases b <;> cases a <;> simp [Builtin.append_, run_underlying ht, sizeOf, typeInfo, hi, Builtin.lenOf, Builtin.firstCells, hn, storeCells, loadCells, loadCellsFrom]
theorem wpList_append_by {ops : Array Oper} {rest : List Oper} {o : Oper} {a : Act} {Q : Exit → Act → World → Prop} (hgd : o.guard = none) (s x : Operand) (t u : TypeId)
    (ho : o.op = .call { callee := .builtin .append, args := #[s, x], argTypes := #[t, u] }) (sv xv : Value) (hs : a.eval s = sv) (hx : a.eval x = xv) (v : Value) (w' : World)
    (hr : (Builtin.append_ #[t, u] o.type #[sv, xv]).run P w = .ok v w') (h : wpList P ops Q rest (a.put o.dst v) w') : wpList P ops Q (o :: rest) a w :=
  wpList_plain hgd fun _ hK => by
    unfold Oper.wp execOp
    simp only [ho, resolve, invoke, builtin, Sem.run_bind, Sem.run_pure, Result.andThen_ok, List.map_toArray, List.map_cons, List.map_nil, hs, hx, hr]
    exact hK _ _ h
end

theorem own_form {w : World} {B n sz : Nat} {E : TypeId} {v : Value} {xs : List Value} (h : w.ownsRow B E sz v n xs) : ∃ A cap, v = .slice A n cap ∧ n ≤ cap := by
  rcases h.2 with ⟨rfl, rfl⟩ | ⟨g, cap, cur, rfl, _, _, hn, _⟩
  · exact ⟨none, 0, rfl, Nat.le_refl _⟩
  · exact ⟨_, cap, rfl, hn⟩

/-- the scalars of the first types -/
def scalK (ts : List TyV) (l : List RcV) (k : Nat) : List TyV := (ts.take k).flatMap (fun t => partsT t l)
theorem scalK_zero (ts : List TyV) (l : List RcV) : scalK ts l 0 = [] := rfl
theorem scalK_succ {ts : List TyV} (l : List RcV) {k : Nat} (h : k < ts.length) : scalK ts l (k + 1) = scalK ts l k ++ partsT ts[k] l := by
  unfold scalK
  rw [List.take_succ_eq_append_getElem h, List.flatMap_append]
  simp
theorem scalK_len {ts : List TyV} {l : List RcV} (h20 : ∀ r ∈ l, r.flds.length ≤ 20) : ∀ k, k ≤ ts.length → (∀ (j : Nat) (h : j < ts.length), j < k → validB ts[j] l = true) → (scalK ts l k).length ≤ 20 * k := by
  intro k
  induction k with
  | zero => intro _ _; simp [scalK_zero]
  | succ k ih =>
    intro hk hv
    rw [scalK_succ l (by omega), List.length_append]
    have h1 := ih (by omega) (fun j h hj => hv j h (by omega))
    have h2 := parts_len ts[k] l (hv k (by omega) (by omega)) h20
    omega
theorem scalT_bad {ts : List TyV} {l : List RcV} {k : Nat} (h : k < ts.length) (hv : validB ts[k] l = false) : scalT ts l = [] := by
  unfold scalT
  have : ts.all (fun t => validB t l) = false := by
    rw [List.all_eq_false]
    exact ⟨ts[k], List.getElem_mem h, by simp [hv]⟩
  rw [this]; rfl
theorem scalT_good {ts : List TyV} {l : List RcV} (hv : ∀ (j : Nat) (h : j < ts.length), j < ts.length → validB ts[j] l = true) : scalT ts l = scalK ts l ts.length := by
  unfold scalT
  have : ts.all (fun t => validB t l) = true := by
    rw [List.all_eq_true]
    intro x hx
    obtain ⟨i, hi, rfl⟩ := List.getElem_of_mem hx
    exact hv i hi hi
  rw [this, if_pos rfl]
  unfold scalK
  rw [List.take_of_length_le (Nat.le_refl _)]

set_option maxHeartbeats 2000000 in
theorem scalars_any (A B : Option Addr) (c d : Nat) (l : List RcV) (ts : List TyV) (w : World) (hr : RRow w.heap.size w A l) (ht : TRow w.heap.size w B ts) (hl : l.length ≤ 1000000000) (h20 : ∀ r ∈ l, r.flds.length ≤ 20) (hts : ts.length ≤ 1000) :
    Calls Tryd.prog 21 #[.slice A l.length c, .slice B ts.length d] w (RowRes (scalT ts l) w) := by
  obtain ⟨i0, hi0, hz0, hz1, hz2⟩ := info_parts infoType
  have HR := Lib.hid hr
  have HTR := Lib.hid ht
  have H20 := Lib.hid h20
  clear hr ht h20
  go_enter Tryd.func21, Tryd.ntmps21
  go_wp2_with (fail)
  go_loopw [5, 10] (fun v i wr => ∃ k n : Nat, k ≤ ts.length ∧ i = .int .i64 (k : Int) ∧ Hid (∀ (j : Nat) (h : j < ts.length), j < k → validB ts[j] l = true) ∧ Hid ((scalK ts l k).length = n) ∧ Hid (wr.ownsRow w.heap.size 23 3 v n (tcells (scalK ts l k))) ∧ Hid (Below w.heap.size w wr)) (fun _ i _ => ts.length - (intOf i).toNat)
  case atStart => exact ⟨0, 0, Nat.zero_le _, rfl, Lib.hid (fun j _ h => absurd h (by omega)), Lib.hid (by rw [scalK_zero]; rfl), Lib.hid (by simpa [tcells, scalK_zero] using World.ownsRow_nil _ _ _ _), Lib.hid (Below.refl _ _)⟩
  case round =>
    obtain ⟨k, n, hk, rfl, hvv, hn, hown, hbw⟩ := hrel
    by_cases hlt : k < ts.length
    · obtain ⟨b, off, hB, hb, hcs⟩ := (HTR.out.below hbw.out) (by omega)
      obtain ⟨c0, c1, c2⟩ := hcs k hlt
      clear hcs
      obtain ⟨x, HX⟩ : ∃ x, Hid (ts[k] = x) := ⟨_, Lib.hid rfl⟩
      rw [HX.out] at c0 c1 c2
      have hzw := hbw.out.size
      have hnb : n ≤ 20000 := by
        have h := scalK_len H20.out k hk hvv.out
        rw [hn.out] at h
        omega
      rw [hB]
      go_wp2_with (fail)
      clear c0 c1 c2
      obtain ⟨hal, hc0, hza⟩ := box_ty wr x
      generalize (wr.alloc (.cells #[.int .i64 x.kind, .int .i64 x.len, .string x.nm] 23)) = wa at *
      have HAL := Lib.hid hal
      have HC0 := Lib.hid hc0
      have HZA := Lib.hid hza
      clear hal hc0 hza
      cases hv : validB x l with
      | false =>
        have HV := Lib.hid hv
        clear hv
        refine (ty_valid_f x A c l wa false HV.out ((HR.out.later hbw.out).later HAL.out) hl).mono ?_
        rintro e w2 ⟨rfl, hb2⟩
        have HB2 := Lib.hid (hbw.out.trans ((HAL.out.trans (hb2.mono (by have := HZA.out; omega))).mono hzw))
        clear hb2
        go_wp2_with (fail)
        go_ret
        refine ⟨_, rfl, ?_, HB2.out⟩
        rw [scalT_bad hlt (by rw [HX.out]; exact HV.out)]
        exact World.ownsRow_nil _ _ _ _
      | true =>
        have HV := Lib.hid hv
        clear hv
        refine (ty_valid_f x A c l wa true HV.out ((HR.out.later hbw.out).later HAL.out) hl).mono ?_
        rintro e w2 ⟨rfl, hb2⟩
        have HB2 := Lib.hid (hbw.out.trans ((HAL.out.trans (hb2.mono (by have := HZA.out; omega))).mono hzw))
        have HO2 := Lib.hid (ty_own_below (ty_own_below hown.out HAL.out) hb2)
        obtain ⟨c0, c1, c2⟩ := (HC0.out.below hb2 (by have := HZA.out; omega)).now
        clear hb2
        go_wp2_with (fail)
        clear c0 c1 c2
        refine (parts_any x A c l w2 HV.out (HR.out.later HB2.out) hl H20.out).mono ?_
        rintro e w3 ⟨v2, rfl, hown2, hb3⟩
        have HB3 := Lib.hid (HB2.out.trans (hb3.mono HB2.out.size))
        have HO3 := Lib.hid (ty_own_below HO2.out hb3)
        have HP3 := Lib.hid hown2
        clear hb3 hown2
        have HT := Lib.hid (show scalK ts l (k + 1) = scalK ts l k ++ partsT x l by rw [scalK_succ l hlt, HX.out])
        have hpl := parts_len x l HV.out H20.out
        obtain ⟨ps, HPS⟩ : ∃ ps, Hid (partsT x l = ps) := ⟨_, Lib.hid rfl⟩
        rw [HPS.out] at HP3 HT hpl
        have HVK := Lib.hid (show ∀ (j : Nat) (h : j < ts.length), j < k + 1 → validB ts[j] l = true from fun j h hj => by
          rcases Nat.lt_or_ge j k with h' | h'
          · exact hvv.out j h h'
          · obtain rfl : j = k := by omega
            rw [HX.out]; exact HV.out)
        have HLT := Lib.hid (fun b e => HO3.out.lt b e)
        have HZ3 := Lib.hid (show w.heap.size ≤ w3.heap.size from HB3.out.size)
        obtain ⟨m, HM⟩ : ∃ m, Hid (ps.length = m) := ⟨_, Lib.hid rfl⟩
        rw [HM.out] at HP3 hpl
        have HNM := Lib.hid (show (scalK ts l (k + 1)).length = n + m by rw [HT.out, List.length_append, hn.out, HM.out])
        rcases Nat.eq_zero_or_pos m with h0 | h0
        · subst h0
          obtain ⟨A2, cap2, hv2, _⟩ := own_form HP3.out
          subst hv2
          obtain ⟨A1, cap1, hv1, hc1⟩ := own_form HO3.out
          subst hv1
          have hps : ps = [] := List.eq_nil_of_length_eq_zero HM.out
          have HRUN := Lib.hid (run_append_empty (P := Tryd.prog) w3 60 60 23 i0 Tryd.underlying60 hi0 A1 A2 n cap1 cap2 hc1)
          have HKE := Lib.hid (show scalK ts l (k + 1) = scalK ts l k by rw [HT.out, hps, List.append_nil])
          clear hps
          go_wp2_with (at_builtin; refine wpList_append_by _ rfl _ _ 60 60 rfl _ _ rfl rfl _ _ HRUN.out ?_)
          exact ⟨⟨k + 1, n, by omega, by go_num, HVK, by rw [HKE.out]; exact hn, by rw [HKE.out]; exact HO3, HB3⟩, by simp [intOf]; omega⟩
        · obtain ⟨g2, cap2, hv2, _, hlt2⟩ := HP3.out.form h0
          subst hv2
          have HN := Lib.hid (HP3.out.cells (g := g2) rfl)
          have HPL := Lib.hid (show (tcells ps).length = m * 3 by rw [tcells_len, HM.out])
          clear hlt2
          go_wp2_with (at_builtin; refine wpList_append_lies _ rfl _ _ 60 rfl w.heap.size 23 i0 _ 3 32 Tryd.underlying60 hi0 hz0 hz1 hz2 rfl (by decide) _ _ _ rfl HO3.out ⟨g2, 0, none⟩ m cap2 (tcells ps) rfl HPL.out HN.out (tcells_one _) h0 ?c3 ?c4 HZ3.out (w3.heap.size) rfl ?_)
          case c3 => unfold maxLen; omega
          case c4 => omega
          intro g cap w4 hown4 hgr hsel hgl
          have HO4 := Lib.hid hown4
          have HB4 := Lib.hid (HB3.out.grown hgr HZ3.out (fun b e => (HLT.out b e).1))
          clear hown4 hgr hsel hgl
          go_wp2_with (fail)
          exact ⟨⟨k + 1, n + m, by omega, by go_num, HVK, HNM, by rw [HT.out, tcells_append]; exact HO4, HB4⟩, by simp [intOf]; omega⟩
    · obtain rfl : k = ts.length := by omega
      go_wp2_with (fail)
      go_ret
      refine ⟨_, rfl, ?_, hbw.out⟩
      rw [scalT_good hvv.out, hn.out]
      exact hown.out
end Go.Proofs.YtnpcfmoiiecadaaDoor
