/- What is proved: marksOf: the marks of a class, in the order of their indices. -/
import Derived.Test.YtmamajillkajoaaDoorCoSort
set_option linter.unusedVariables false
namespace Go.Proofs.YtmamajillkajoaaDoor
open Go.RowKit

section
variable {P : Program} {w : World}
theorem co_append_empty (t ty e : TypeId) (i : TypeInfo) (ht : P.underlying t = some (.slice e)) (hi : P.info? e = some i) (b a : Option Addr) (n cap c : Nat) (hn : n ≤ cap) :
    (Builtin.append_ #[t, t] ty #[.slice b n cap, .slice a 0 c]).run P w = .ok (.slice b n cap) w := by
  cases b <;> cases a <;> simp [Builtin.append_, run_underlying ht, sizeOf, typeInfo, hi, Builtin.lenOf, Builtin.firstCells, hn, storeCells, loadCells, loadCellsFrom]
theorem co_append_by {ops : Array Oper} {rest : List Oper} {o : Oper} {a : Act} {Q : Exit → Act → World → Prop} (hgd : o.guard = none) (s x : Operand) (t u : TypeId)
    (ho : o.op = .call { callee := .builtin .append, args := #[s, x], argTypes := #[t, u] }) (sv xv : Value) (hs : a.eval s = sv) (hx : a.eval x = xv) (v : Value) (w' : World)
    (hr : (Builtin.append_ #[t, u] o.type #[sv, xv]).run P w = .ok v w') (h : wpList P ops Q rest (a.put o.dst v) w') : wpList P ops Q (o :: rest) a w :=
  wpList_plain hgd fun _ hK => by
    unfold Oper.wp execOp
    simp only [ho, resolve, invoke, builtin, Sem.run_bind, Sem.run_pure, Result.andThen_ok, List.map_toArray, List.map_cons, List.map_nil, hs, hx, hr]
    exact hK _ _ h
end
theorem own_cap1 {w : World} {B E n c s : Nat} {X : Option Addr} {xs : List Value} (h : w.ownsRow B E s (.slice X n c) n xs) : n ≤ c := by
  rcases h.2 with ⟨h1, h2⟩ | ⟨g, cap, cur, h1, h2, h3, h4, h5, h6, h7⟩
  · omega
  · cases h1
    exact h4
theorem mrk_len (l : List Con) (v k : Nat) : (mrk l v k).length ≤ 2 * k := by
  induction k with
  | zero => exact Nat.le_refl _
  | succ k ih =>
    rw [mrk_succ, List.length_append]
    have := mst_len l v k
    omega
theorem flat_len (l : List Con) (k : Nat) (c : List Nat) : (c.flatMap (fun v => mrk l v k)).length ≤ c.length * (2 * k) := by
  induction c with
  | nil => simp
  | cons x xs ih =>
    rw [List.flatMap_cons, List.length_append, List.length_cons, Nat.add_mul]
    have := mrk_len l x k
    omega

set_option maxRecDepth 100000 in
set_option maxHeartbeats 8000000 in
theorem marksOf_any (g : Gp) (ho : GpOk g) (w : World) (s : Int) (Q : Nat → Int) (Y : Option Addr) (cY : Nat) (vs : List Vis) (hg : GD g s Q Y cY vs w) (Xc : Option Addr) (cc : Nat) (cl : List Nat) (hcl : ISl g w Xc cl) (hlt : ∀ v ∈ cl, v < g.n) (hlen : cl.length ≤ 1000000) :
    Calls Tryd.prog 34 #[.pointer (some ⟨g.gb, 0, none⟩), .slice Xc cl.length cc] w fun e w' => ∃ X c, e = .returned (.slice X (mks g.l cl).length c) ∧ IOwn w' w.heap.size (.slice X (mks g.l cl).length c) (mks g.l cl) ∧ Below w.heap.size w w' := by
  obtain ⟨i0, hi0, hz0, hz1, hz2⟩ := info_parts infoIn2
  have HG := Lib.hid hg
  have HO := Lib.hid ho
  have HCL := Lib.hid hcl
  have HLT := Lib.hid hlt
  have hl6 := ho.len
  clear hg ho hcl hlt
  go_enter Tryd.func34, Tryd.ntmps34
  go_wp2_with (fail)
  go_loopw [5, 10] (fun v i wr => ∃ (j : Nat) (X : Option Addr) (c : Nat) (L : List Nat), j ≤ cl.length ∧ i = .int .i64 (j : Int) ∧ v = .slice X L.length c ∧ Hid (L = (cl.take j).flatMap (fun v => mrk g.l v g.l.length)) ∧ Hid (IOwn wr w.heap.size (.slice X L.length c) L) ∧ Hid (Below w.heap.size w wr)) (fun _ i _ => cl.length - (intOf i).toNat)
  case atStart => exact ⟨0, none, 0, [], Nat.zero_le _, rfl, rfl, Lib.hid rfl, Lib.hid (World.ownsRow_nil _ _ _ _), Lib.hid (Below.refl _ _)⟩
  case round =>
    obtain ⟨j, X, c, L, hj, rfl, rfl, hL, hown, hbr⟩ := hrel
    have hzr := hbr.out.size
    have hLl : L.length ≤ 1000000 * 2000000 := by
      rw [hL.out]
      refine Nat.le_trans (flat_len _ _ _) (Nat.mul_le_mul ?_ ?_)
      · rw [List.length_take]; omega
      · omega
    by_cases hjt : j < cl.length
    · obtain ⟨cb, rfl, hcb, hcs⟩ := HCL.out.cells (by omega)
      have r0 := (hbr.out.cell (p := ⟨cb, j, none⟩) hcb).trans (hcs j hjt)
      have hvn : cl[j] < g.n := HLT.out _ (List.getElem_mem hjt)
      obtain ⟨v, HV⟩ : ∃ v, Hid (cl[j] = v) := ⟨_, Lib.hid rfl⟩
      have HLS := Lib.hid (show (cl.take (j + 1)).flatMap (fun v => mrk g.l v g.l.length) = L ++ mrk g.l v g.l.length by rw [List.take_succ_eq_append_getElem hjt, List.flatMap_append, hL.out, HV.out]; simp)
      rw [HV.out] at r0 hvn
      clear hcs
      have HGR := Lib.hid (HG.out.below HO.out hbr.out)
      obtain ⟨c0, c1, c2, c3, c4, c5⟩ := HGR.out.box.cells
      obtain ⟨ms, HMS⟩ : ∃ ms, Hid (mrk g.l v g.l.length = ms) := ⟨_, Lib.hid rfl⟩
      have hrow : IOwn wr (g.N + 5) (g.R v) ms := by
        have h := HGR.out.rows.own v (by omega)
        rw [show rowsL g.l g.n g.l.length v = ms by rw [← HMS.out]; unfold rowsL; rw [if_pos hvn]] at h
        exact h
      have hml : ms.length ≤ 2000000 := by rw [← HMS.out]; have := mrk_len g.l v g.l.length; omega
      obtain ⟨Xm, cm, hRm, hMr⟩ := int_own hrow
      have e0 : wr.cell? ⟨g.mb, v, none⟩ = some (.slice Xm ms.length cm) := by have h := Lib.cell_of_heap HGR.out.mh v; rw [hdr_get _ hvn] at h; rw [← hRm]; exact h
      rw [HMS.out] at HLS
      clear hrow hRm c0 c2 c3 c4 c5
      have hlc := own_cap1 hown.out
      rcases Nat.eq_zero_or_pos ms.length with h0 | h0
      · have hnil : ms = [] := List.length_eq_zero_iff.1 h0
        subst hnil
        rw [List.append_nil] at HLS
        clear hMr h0
        go_wp2_with (at_builtin; refine co_append_by rfl _ _ 23 23 rfl _ _ rfl rfl _ _ (co_append_empty 23 _ 3 i0 Tryd.underlying23 hi0 _ _ _ _ _ hlc) ?_)
        exact ⟨⟨j + 1, X, c, L, by omega, by go_num, rfl, Lib.hid HLS.out.symm, hown, hbr⟩, by simp [intOf]; omega⟩
      · obtain ⟨bm, rfl, hbl, hbz, hmc⟩ := hMr h0
        have HNW := Lib.hid (show ∀ i u, (ints ms)[i]? = some u → wr.cell? ((⟨bm, 0, none⟩ : Addr).add i) = some u from fun i u hu => by
          rw [co_add]
          have hi : i < ms.length := by
            have := (List.getElem?_eq_some_iff.1 hu).1
            simpa [ints] using this
          rw [hmc i hi, ← hu]
          simp [ints, hi])
        have HLQ := Lib.hid (fun b e => (World.ownsRow.lt hown.out b e))
        clear hmc
        go_wp2_with (at_builtin; refine wpList_append_lies _ rfl _ _ 23 rfl w.heap.size 3 i0 _ 1 8 Tryd.underlying23 hi0 hz0 hz1 hz2 rfl (by decide) _ _ _ rfl hown.out ⟨bm, 0, none⟩ ms.length cm (ints ms) rfl (by rw [ints_len, Nat.mul_one]) HNW.out (ints_one _) h0 ?c3 ?c4 hzr wr.heap.size rfl ?_)
        case c3 => unfold maxLen; omega
        case c4 => omega
        intro gq cap w4 hown4 hgr hsel hgl
        have hle : (L ++ ms).length = L.length + ms.length := List.length_append
        have HO4 := Lib.hid (show IOwn w4 w.heap.size (.slice (some ⟨gq, 0, none⟩) (L ++ ms).length cap) (L ++ ms) by unfold IOwn; rw [hle, ints_append]; exact hown4)
        have HB4 := Lib.hid (hbr.out.grown hgr hzr (fun b e => (HLQ.out b e).1))
        clear hown4 hgr hsel hgl
        go_wp2_with (fail)
        exact ⟨⟨j + 1, some ⟨gq, 0, none⟩, cap, L ++ ms, by omega, by go_num, by rw [hle], Lib.hid HLS.out.symm, HO4, HB4⟩, by simp [intOf]; omega⟩
    · obtain rfl : j = cl.length := by omega
      have HLF := Lib.hid (show srtN L = mks g.l cl by rw [hL.out, List.take_length]; rfl)
      go_wp2_with (fail)
      refine (sort_own rfl hown.out (by omega)).mono ?_
      rintro e w4 ⟨rfl, ho4, _, _, hb4⟩
      have HO4 := Lib.hid ho4
      have HB4 := Lib.hid (hbr.out.trans hb4)
      have hll : (srtN L).length = L.length := (srt_perm L).length_eq
      clear ho4 hb4
      go_wp2_with (fail)
      go_ret
      refine ⟨X, c, by rw [← HLF.out, hll]; rfl, ?_, HB4.out⟩
      rw [← HLF.out, hll]
      exact HO4.out
end Go.Proofs.YtmamajillkajoaaDoor
