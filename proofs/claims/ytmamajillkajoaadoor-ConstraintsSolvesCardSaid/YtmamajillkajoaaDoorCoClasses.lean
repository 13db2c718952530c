/- What is proved: classes: the classes of vertices that equalities connect, in the order of the least ones. -/
import Derived.Test.YtmamajillkajoaaDoorCoSl
import Derived.Shelf.Abstract
set_option linter.unusedVariables false
namespace Go.Proofs.YtmamajillkajoaaDoor
open Go.RowKit Go.Shelf

/-- a search that goes on to the end -/
theorem bfs_never (l : List Con) (f i : Nat) (vs : List Vis) : (bfs l (fun _ => false) f i vs).1 = (bfs l (fun _ => false) f i vs).2 := by
  induction f generalizing i vs with
  | zero => rfl
  | succ f ih =>
    simp only [bfs]
    cases vs[i]? with
    | none => rfl
    | some x => simp only [Bool.false_eq_true, if_false]; exact ih _ _
theorem inV_cls {vs : List Vis} (u : Nat) : inV vs u = (vs.map (·.v)).contains u := by
  unfold inV
  rw [List.contains_map]
  congr 1
  funext x
  rw [Bool.eq_iff_iff]
  simp only [beq_iff_eq]
  exact eq_comm
theorem never_lst (g : Gp) (ho : GpOk g) : Lst g 32 #[] (fun _ => false) (fun _ => False) (fun _ => True) (fun _ _ => False) := by
  intro W x s Q X cX vs hg _ _ _
  have hB := hg.size
  have h5 := ho.b
  have hb : Below W.heap.size W (W.alloc (.cells #[.int .i64 (x.v : Int), .int .i64 x.fr, .int .i64 x.by_, .int .i64 (x.st : Int)] 70)) := (Below.refl _ _).alloc (Nat.le_refl _) _
  have HB := Lib.hid hb
  have HN := Lib.hid (hb.mono (show g.N ≤ W.heap.size by omega))
  clear hb hg
  show Calls Tryd.prog _ #[_] W _
  go_enter Tryd.func32, Tryd.ntmps32
  go_wp2_with (fail)
  go_ret
  exact ⟨rfl, HB.out.size, fun b hb _ => HB.out.block b hb, HN.out, fun _ => trivial, fun h => by cases h⟩
theorem never_eK : ∀ args w, (callFunc 32 args).run Tryd.prog w = .ok (.enter 32 args) w := enters_of Tryd.func32 (by kernel_rfl) rfl

/-- the classes are returned -/
def ClsRes (g : Gp) (w : World) (e : Ending) (w' : World) : Prop :=
  ∃ v X c, e = .returned (.slice X (clss g.l g.n g.n).length c) ∧ v = Value.slice X (clss g.l g.n g.n).length c ∧ LOwn g w' w.heap.size v (clss g.l g.n g.n) ∧ (∃ s Q Y cY vs, GD g s Q Y cY vs w' ∧ 0 ≤ s ∧ s ≤ g.n ∧ ∀ u, u < g.n → Q u ≤ s) ∧ FrZ g (fun _ => False) w w' ∧ Below g.N w w'
theorem clss_succ (l : List Con) (n k : Nat) : clss l n (k + 1) = if (clss l n k).any (fun c => c.contains k) then clss l n k else clss l n k ++ [cls l n k] := rfl
theorem clss_len (l : List Con) (n k : Nat) : (clss l n k).length ≤ k := by
  induction k with
  | zero => exact Nat.le_refl _
  | succ k ih => 
    rw [clss_succ]
    split
    · omega
    · rw [List.length_append]; simp; omega

set_option maxRecDepth 100000 in
set_option maxHeartbeats 8000000 in
theorem classes_any (g : Gp) (ho : GpOk g) (w : World) (Q0 : Nat → Int) (X0 : Option Addr) (c0' : Nat) (vs0 : List Vis) (hg : GD g 0 Q0 X0 c0' vs0 w) (hQ0 : ∀ u, u < g.n → Q0 u = 0) :
    Calls Tryd.prog 18 #[.pointer (some ⟨g.gb, 0, none⟩)] w (ClsRes g w) := by
  obtain ⟨i0, hi0, hz0, hz1, hz2⟩ := info_parts infoIn2
  obtain ⟨i1, hi1, hy0, hy1, hy2⟩ := info_parts infoSl
  have HG := Lib.hid hg
  have HO := Lib.hid ho
  have HQ0 := Lib.hid hQ0
  have hn6 := ho.n
  obtain ⟨c0, c1, c2, c3, c4, c5⟩ := hg.box.cells
  clear hg ho hQ0
  go_enter Tryd.func18, Tryd.ntmps18
  go_wp2_with (fail)
  clear c0 c1 c2 c3 c4 c5
  go_loopw [3, 14] (fun v i wr => ∃ (k : Nat) (X : Option Addr) (c : Nat) (L : List (List Nat)) (s : Int) (Q : Nat → Int) (Y : Option Addr) (cY : Nat) (vs : List Vis), k ≤ g.n ∧ i = .int .i64 (k : Int) ∧ v = .slice X L.length c ∧ Hid (L = clss g.l g.n k) ∧ Hid (LOwn g wr w.heap.size (.slice X L.length c) L) ∧ Hid (GD g s Q Y cY vs wr) ∧ Hid (0 ≤ s ∧ s ≤ k ∧ ∀ u, u < g.n → Q u ≤ s) ∧ Hid (∀ u, u < g.n → (decide (0 < Q u)) = L.any (fun c => c.contains u)) ∧ Hid (FrZ g (fun _ => False) w wr) ∧ Hid (Below g.N w wr)) (fun _ i _ => g.n - (intOf i).toNat)
  case atStart => exact ⟨0, none, 0, [], 0, Q0, X0, c0', vs0, Nat.zero_le _, rfl, rfl, Lib.hid rfl, Lib.hid (LOwn.nil _ _ _), HG, Lib.hid ⟨by omega, by simp, fun u hu => by rw [HQ0.out u hu]; omega⟩, Lib.hid (fun u hu => by rw [HQ0.out u hu]; rfl), Lib.hid (FrZ.refl _ _ _), Lib.hid (Below.refl _ _)⟩
  case round =>
    obtain ⟨k, X, c, L, s, Q, Y, cY, vs, hk, rfl, rfl, hL, hlo, hgd, hsq, hpq, hfr, hbr⟩ := hrel
    by_cases hlt : k < g.n
    · obtain ⟨c0, c1, c2, c3, c4, c5⟩ := hgd.out.box.cells
      have r1 : wr.cell? ⟨g.rb, k, none⟩ = some (.int .i64 (Q k)) := by have h := Lib.cell_of_heap hgd.out.rh k; rw [hdr_get _ hlt] at h; exact h
      have hp := hpq.out k hlt
      have hLl : L.length ≤ k := by rw [hL.out]; exact clss_len _ _ _
      cases hc : L.any (fun c => c.contains k) with
      | true =>
        rw [hc] at hp
        have HL2 := Lib.hid (show L = clss g.l g.n (k + 1) by rw [clss_succ, ← hL.out, hc]; rfl)
        have HSQ2 := Lib.hid (show 0 ≤ s ∧ s ≤ ((k + 1 : Nat) : Int) ∧ ∀ u, u < g.n → Q u ≤ s from ⟨hsq.out.1, by have := hsq.out.2.1; omega, hsq.out.2.2⟩)
        clear hc
        go_wp2_with (fail)
        exact ⟨⟨k + 1, X, c, L, s, Q, Y, cY, vs, by omega, by go_num, rfl, HL2, hlo, hgd, HSQ2, hpq, hfr, hbr⟩, by simp [intOf]; omega⟩
      | false =>
        rw [hc] at hp
        have HL2 := Lib.hid (show L ++ [cls g.l g.n k] = clss g.l g.n (k + 1) by rw [clss_succ, ← hL.out, hc]; rfl)
        have HCL := Lib.hid (search_any g HO.out k hlt 32 #[] (fun _ => false) (fun _ => False) (fun _ => True) (fun _ _ => False) s Q Y cY vs wr ⟨hsq.out.1, by have := hsq.out.2.1; omega⟩ hsq.out.2.2 hgd.out trivial (fun _ _ _ h => h.elim) (fun _ _ _ _ => trivial) (never_lst g HO.out) never_eK)
        clear hc
        go_wp2_with (fail)
        clear r1 c0 c1 c2 c3 c4 c5
        refine HCL.out.mono ?_
        rintro e w2 ⟨Y2, ks, cK, rfl, hsr⟩
        obtain ⟨cX2, vs2, Q2, hg2, hbf, hq2⟩ := hsr.gd
        have hks : ks = vs2 := by have h := bfs_never g.l (g.n + 1) 0 [⟨k, -1, -1, 0⟩]; rw [hbf] at h; exact h
        subst hks
        have HCK := Lib.hid (show ks.map (·.v) = cls g.l g.n k by unfold cls srch; rw [hbf])
        have HG2 := Lib.hid hg2
        have HV2 := Lib.hid hsr.row
        have HF2 := Lib.hid (hfr.out.trans hsr.fr)
        have HB2 := Lib.hid (hbr.out.trans hsr.below)
        have HLO2 := Lib.hid (hlo.out.fr HO.out HG.out.size hsr.fr (fun _ h => h.elim))
        have HQ2 := Lib.hid hq2
        have hkl : ks.length ≤ 1000000 := by
          have h1 := hq2.len
          omega
        clear hsr hg2 hq2 hbf hgd hlo hfr hbr HCL
        generalize hwr : wr = w5 at *
        clear hwr
        go_wp2_with (fail)
        have hw2z : g.N + 5 ≤ w2.heap.size ∧ g.B ≤ w2.heap.size := by have := HO.out.b; have := HG2.out.size; omega
        go_loopw [6, 30] (fun v i wr => ∃ (j : Nat) (Xc : Option Addr) (cc : Nat), j ≤ ks.length ∧ i = .int .i64 (j : Int) ∧ v = .slice Xc j cc ∧ Hid (wr.ownsRow w2.heap.size 3 1 (.slice Xc j cc) j (ints ((ks.map (·.v)).take j))) ∧ Hid (Below w2.heap.size w2 wr)) (fun _ i _ => ks.length - (intOf i).toNat)
        case atStart => exact ⟨0, none, 0, Nat.zero_le _, rfl, rfl, Lib.hid (World.ownsRow_nil _ _ _ _), Lib.hid (Below.refl _ _)⟩
        case round =>
          obtain ⟨j, Xc, cc, hj, rfl, rfl, hown, hbq⟩ := hrel
          have hzq := hbq.out.size
          by_cases hjt : j < ks.length
          · obtain ⟨vb, rfl, hvb, hvc⟩ := HV2.out (by omega)
            obtain ⟨y0, y1, y2, y3⟩ := hvc j hjt
            clear hvc
            have x0 := (hbq.out.cell (p := ⟨vb, j * 4, none⟩) hvb).trans y0
            have x1 := (hbq.out.cell (p := ⟨vb, j * 4 + 1, none⟩) hvb).trans y1
            have x2 := (hbq.out.cell (p := ⟨vb, j * 4 + 2, none⟩) hvb).trans y2
            have x3 := (hbq.out.cell (p := ⟨vb, j * 4 + 3, none⟩) hvb).trans y3
            clear y0 y1 y2 y3
            obtain ⟨x, HX⟩ : ∃ x, Hid (ks[j] = x) := ⟨_, Lib.hid rfl⟩
            rw [HX.out] at x0 x1 x2 x3
            have HT := Lib.hid (show ints ((ks.map (·.v)).take (j + 1)) = ints ((ks.map (·.v)).take j) ++ [.int .i64 (x.v : Int)] by rw [List.take_succ_eq_append_getElem (l := ks.map (·.v)) (by simpa using hjt), ints_append, List.getElem_map, HX.out]; rfl)
            have HOW := Lib.hid ((hown.out.alloc (.cells #[.int .i64 (x.v : Int), .int .i64 x.fr, .int .i64 x.by_, .int .i64 (x.st : Int)] 70)).alloc (.cells #[.int .i64 (x.v : Int)] 3))
            have HLT := Lib.hid (fun b e => hown.out.lt b e)
            have hnew := heap_alloc_new (wr.alloc (.cells #[.int .i64 (x.v : Int), .int .i64 x.fr, .int .i64 x.by_, .int .i64 (x.st : Int)] 70)) (.cells #[.int .i64 (x.v : Int)] 3)
            rw [World.size_alloc] at hnew
            have HNW := Lib.hid hnew
            clear hnew
            go_wp2_with (at_builtin; refine wpList_append_lies _ rfl _ _ 23 rfl w2.heap.size 3 i0 _ 1 8 Tryd.underlying23 hi0 hz0 hz1 hz2 rfl (by decide) _ _ _ rfl HOW.out ⟨wr.heap.size + 1, 0, none⟩ 1 1 [.int .i64 (x.v : Int)] rfl rfl (World.news_of_block (cs := #[.int .i64 (x.v : Int)]) HNW.out) (by simp [Value.oneCell']) (by decide) ?c3 ?c4 ?c5 (wr.heap.size + 2) (by simp) ?_)
            case c3 => unfold maxLen; omega
            case c4 => omega
            case c5 => first | omega | (simp; omega)
            intro gq cap w4 hown4 hgr hsel hgl
            have HB4 := Lib.hid (((hbq.out.alloc hzq (.cells #[.int .i64 (x.v : Int), .int .i64 x.fr, .int .i64 x.by_, .int .i64 (x.st : Int)] 70)).alloc (by simp; omega) (.cells #[.int .i64 (x.v : Int)] 3)).grown hgr (by simp; omega) (fun b e => (HLT.out b e).1))
            have HO4 := Lib.hid hown4
            clear hown4 hgr hsel hgl x0 x1 x2 x3
            go_wp2_with (fail)
            exact ⟨⟨j + 1, some ⟨gq, 0, none⟩, cap, by omega, by go_num, rfl, Lib.hid (by rw [HT.out]; exact HO4.out), HB4⟩, by simp [intOf]; omega⟩
          · obtain rfl : j = ks.length := by omega
            have hkm : (ks.map (·.v)).take ks.length = cls g.l g.n k := by rw [List.take_of_length_le (by simp)]; exact HCK.out
            have hio : IOwn wr w2.heap.size (.slice Xc ks.length cc) (cls g.l g.n k) := by
              have h := hown.out
              rw [hkm] at h
              have e : (cls g.l g.n k).length = ks.length := by rw [← HCK.out]; simp
              unfold IOwn
              rw [e]
              exact h
            have hkc : (cls g.l g.n k).length = ks.length := by rw [← HCK.out]; simp
            have HIS := Lib.hid (ISl.of_own HO.out hio hw2z.2 hkc)
            have HCC := Lib.hid (show (cls g.l g.n k).length ≤ cc by rw [hkc]; exact hio.cap)
            have HLQ := Lib.hid (HLO2.out.later HO.out HG.out.size hbq.out)
            have HGQ := Lib.hid (HG2.out.below HO.out hbq.out)
            have HFQ := Lib.hid (HF2.out.trans (FrZ.below hbq.out))
            have HBQ := Lib.hid (HB2.out.trans (hbq.out.mono (by omega)))
            obtain ⟨vals, l1, l2, l3, l4⟩ := HLQ.out
            have HL2' := Lib.hid (l2.alloc (.cells #[.slice Xc ks.length cc] 23))
            have HL3 := Lib.hid l3
            have HL4 := Lib.hid l4
            have HLT := Lib.hid (fun b e => l2.lt b e)
            clear l2 l3 l4 hio hkm hown
            have hLl2 : L.length ≤ 1000000 := by omega
            have hwz : w.heap.size ≤ wr.heap.size := HFQ.out.1
            have hNw : g.N + 5 ≤ w.heap.size := Nat.le_trans HO.out.b HG.out.size
            go_wp2_with (at_builtin; refine wpList_append_lies _ rfl _ _ 27 rfl w.heap.size 23 i1 _ 1 24 Tryd.underlying27 hi1 hy0 hy1 hy2 rfl (by decide) _ _ _ rfl HL2'.out ⟨wr.heap.size, 0, none⟩ 1 1 [.slice Xc ks.length cc] rfl rfl (World.news_of_block (cs := #[.slice Xc ks.length cc]) (heap_alloc_new wr _)) (by simp [Value.oneCell']) (by decide) ?c3 ?c4 ?c5 (wr.heap.size + 1) (by simp) ?_)
            case c3 => unfold maxLen; omega
            case c4 => omega
            case c5 => first | omega | (simp; omega)
            intro gq cap w4 hown4 hgr hsel hgl
            have hba := (Below.refl wr.heap.size wr).alloc (Nat.le_refl _) (.cells #[.slice Xc ks.length cc] 23)
            have hf4 : FrZ g (fun b => some b = (Value.slice X L.length c).ownBlock) wr w4 := (FrZ.below hba).trans ⟨hgr.size, fun b cs t h1 h2 h3 h4 h5 => (hgr.block b (Array.getElem?_eq_some_iff.1 h5).1 h1).trans h5⟩
            have hnov : ∀ (b : Nat) (cs : Array Value), some b = (Value.slice X L.length c).ownBlock → wr.heap[b]? = some (.cells cs 3 (0, 0)) → False := fun b cs e h => by
              obtain ⟨q1, q2, ds, q3⟩ := own_block' HL2'.out e.symm
              have h6 := (hba.block b (Array.getElem?_eq_some_iff.1 h).1).trans h
              rw [q3] at h6
              simp only [Option.some.injEq, Obj.cells.injEq] at h6
              exact absurd h6.2.1 (by decide)
            have hst : ∀ (Xi : Option Addr) (li : List Nat), ISl g wr Xi li → ISl g w4 Xi li := fun Xi li h h0 => by
              obtain ⟨b, cs, h1, h2, h3, h4, h5, h6⟩ := h h0
              exact ⟨b, cs, h1, h2, h3, h4, hf4.2 b cs _ (fun e => hnov b cs e h5) h2 h3 (by decide) h5, h6⟩
            have HLP := Lib.hid (LOwn.push (g := g) vals l1 HL3.out (fun i hi => by obtain ⟨Xi, ci, e1, e2, e3⟩ := HL4.out i hi; exact ⟨Xi, ci, e1, hst _ _ e2, e3⟩) (hst _ _ HIS.out) HCC.out (by rw [hkc]; exact hown4))
            have HG4 := Lib.hid (HGQ.out.stays HO.out (Z := fun b => some b = (Value.slice X L.length c).ownBlock) (fun b e => by
              obtain ⟨q1, q2, ds, q3⟩ := own_block' HL2'.out e.symm
              refine ⟨Nat.le_trans HG.out.size q1, fun cs h => ?_⟩
              have h6 := (hba.block b (Array.getElem?_eq_some_iff.1 h).1).trans h
              rw [q3] at h6
              simp only [Option.some.injEq, Obj.cells.injEq] at h6
              exact absurd h6.2.1 (by decide)) (fun b h1 h2 => (hgr.block b (by have := hba.size; omega) h2).trans (hba.block b h1)) (by have := hba.size; have := hgr.size; omega))
            have HF4 := Lib.hid (show FrZ g (fun _ => False) w w4 from ⟨by have := HFQ.out.1; have := hba.size; have := hgr.size; omega, fun b cs t h1 h2 h3 h4 h5 => by
              have h6 := HFQ.out.2 b cs t h1 h2 h3 h4 h5
              refine hf4.2 b cs t (fun e => ?_) h2 h3 h4 h6
              have q := (own_block' HL2'.out e.symm).1
              have q2 := (Array.getElem?_eq_some_iff.1 h5).1
              omega⟩)
            have HB4 := Lib.hid ((HBQ.out.alloc (by omega) (.cells #[.slice Xc ks.length cc] 23)).grown hgr (by simp; omega) (fun b e => by have := (HLT.out b e).1; omega))
            have HSQ4 := Lib.hid (show 0 ≤ s + 1 ∧ s + 1 ≤ ((k + 1 : Nat) : Int) ∧ ∀ u, u < g.n → Q2 u ≤ s + 1 from ⟨by have := hsq.out.1; omega, by have := hsq.out.2.1; omega, fun u hu => by rw [HQ2.out.q u hu]; split; exact Int.le_refl _; have := hsq.out.2.2 u hu; omega⟩)
            have HPQ4 := Lib.hid (show ∀ u, u < g.n → (decide (0 < Q2 u)) = (L ++ [cls g.l g.n k]).any (fun c => c.contains u) from fun u hu => by
              rw [HQ2.out.q u hu, List.any_append, inV_cls, HCK.out]
              have h1 := hpq.out u hu
              have h0 := hsq.out.1
              rw [show [cls g.l g.n k].any (fun c => c.contains u) = (cls g.l g.n k).contains u from by simp only [List.any_cons, List.any_nil, Bool.or_false]]
              generalize (cls g.l g.n k).contains u = z
              cases z with
              | true => rw [if_pos rfl, Bool.or_true]; exact decide_eq_true (by omega)
              | false => rw [if_neg (by simp), Bool.or_false]; exact h1)
            have hle : (L ++ [cls g.l g.n k]).length = L.length + 1 := by simp
            clear hown4 hgr hsel hgl hba hf4 hnov hst
            go_wp2_with (fail)
            exact ⟨⟨k + 1, some ⟨gq, 0, none⟩, cap, L ++ [cls g.l g.n k], s + 1, Q2, Y2, cX2, ks, by omega, by go_num, by rw [hle], HL2, by rw [hle]; exact HLP, HG4, HSQ4, HPQ4, HF4, HB4⟩, by simp [intOf]; omega⟩
    · obtain rfl : k = g.n := by omega
      have HLL := hL.out
      subst HLL
      go_wp2_with (fail)
      go_ret
      exact ⟨_, X, c, rfl, rfl, hlo.out, ⟨s, Q, Y, cY, vs, hgd.out, hsq.out⟩, hfr.out, hbr.out⟩
end Go.Proofs.YtmamajillkajoaaDoor
