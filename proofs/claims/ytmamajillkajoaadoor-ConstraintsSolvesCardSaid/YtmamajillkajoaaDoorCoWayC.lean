/- What is proved: the reference's way: the first one of the shortest ways to the vertex from which there are some distances. -/
import Derived.Test.YtmamajillkajoaaDoorCoWayR
import Derived.Test.YtmamajillkajoaaDoorCoDistC
import Derived.Test.YtmamajillkajoaaDoorCoSl
import Derived.IntWalk
set_option linter.unusedVariables false
namespace Go.Proofs.YtmamajillkajoaaDoor
open Go.RowKit Go.Shelf

theorem IOwn.later {w w' : World} {B : Nat} {v : Value} {l : List Nat} (h : IOwn w B v l) (hb : Below w.heap.size w w') : IOwn w' B v l :=
  own_stays h fun b e => by
    obtain ⟨q1, q2, cs, q3⟩ := own_block' h e
    rw [hb.block _ q2]
/-- what way answers -/
def WyRes (w : World) (l : List Con) (n a t : Nat) (e : Ending) (w' : World) : Prop :=
  ∃ X c W, e = .returned (.slice X W.length c) ∧ IOwn w' w.heap.size (.slice X W.length c) W ∧ W.length ≤ n ∧ WayOk l a t W ∧ Below w.heap.size w w'
theorem not_good {l : List Con} {f : Nat → Int} {cur q : Nat} {c : Con} (hno : ∀ j nx, j < q → ¬ Good l f cur j nx) (hc : l[q]? = some c) (h : ∀ nx : Nat, ¬ (c.kind = 1 ∧ (c.a = (cur : Int) ∧ c.b = (nx : Int) ∨ c.a ≠ (cur : Int) ∧ c.b = (cur : Int) ∧ c.a = (nx : Int)) ∧ f nx = f cur - 1)) : ∀ j nx, j < q + 1 → ¬ Good l f cur j nx := fun j nx hj hg => by
  rcases Nat.lt_or_ge j q with h' | h'
  · exact hno j nx h' hg
  · obtain rfl : j = q := by omega
    obtain ⟨c', h1, h2⟩ := hg
    rw [hc] at h1
    obtain rfl : c = c' := by simpa using h1
    exact h nx h2
set_option maxRecDepth 100000 in
set_option maxHeartbeats 4000000 in
theorem way_any (n a t : Nat) (A : Option Addr) (c : Nat) (l : List Con) (b : Nat) (f : Nat → Int) (w : World) (hn : n ≤ 1000000) (ha : a < n) (h0 : 0 ≤ f a) (hp : ∀ x ∈ l, posB n x = true) (hl : l.length ≤ 1000000) (hr : CRow w.heap.size w A l) (hf : DOk l n t f) (hi : IArr w b n f) :
    Calls Tryd.prog 24 #[.slice A l.length c, .int .i64 (a : Int), .slice (some ⟨b, 0, none⟩) n n] w (WyRes w l n a t) := by
  obtain ⟨i0, hi0, hz0', hz1, hz2⟩ := info_parts infoIn2
  have HR := Lib.hid hr
  have HP := Lib.hid hp
  have HF := Lib.hid hf
  have HI := Lib.hid hi
  clear hr hp hf hi
  go_enter Tryd.func24, Tryd.ntmps24
  go_wp2_with (fail)
  have HO1 := Lib.hid (show IOwn (w.alloc (.cells #[] 3)) w.heap.size (.slice (some ⟨w.heap.size, 0, none⟩) 0 0) [] from World.ownsRow_lit w #[] 0 (Nat.le_refl _) (by decide) (by simp))
  have HB1 := Lib.hid ((Below.refl w.heap.size w).alloc (Nat.le_refl _) (.cells #[] 3))
  generalize (w.alloc (.cells #[] 3)) = w1 at *
  go_loopw [7, 8] (fun v i wr => ∃ (cur : Nat) (X : Option Addr) (cx : Nat) (P : List Nat), i = .int .i64 (cur : Int) ∧ v = .slice X P.length cx ∧ cur < n ∧ 0 ≤ f cur ∧ Hid (WInv l f a t P cur) ∧ Hid (IOwn wr w.heap.size (.slice X P.length cx) P) ∧ Hid (Below w.heap.size w wr)) (fun _ i _ => (f (intOf i).toNat).toNat)
  case atStart => exact ⟨a, _, _, [], rfl, rfl, ha, h0, Lib.hid (WInv.start l f a t), HO1, HB1⟩
  case round =>
    obtain ⟨cur, X, cx, P, rfl, rfl, hcn, hc0, hwi, hown, hbw⟩ := hrel
    generalize hwo : wr = wo at *
    clear hwo
    have HIW := Lib.hid (HI.out.below hbw.out)
    have hPl : P.length ≤ 1000000 := by have := hwi.out.lt HF.out ha hc0; omega
    have hfc : f cur ≤ 1000000 := by
      rcases HF.out cur hcn with ⟨e, _⟩ | ⟨k, hk, e, _⟩ <;> omega
    obtain ⟨y, HY⟩ : ∃ y, Hid (f cur = y) := ⟨_, Lib.hid rfl⟩
    have c0 := HIW.out.cell hcn
    rw [HY.out] at c0 hc0 hfc
    by_cases hpos : 0 < y
    · go_wp2_with (fail)
      clear c0
      go_loopw [7, 8, 9] (fun v8 i8 i wq => ∃ q : Nat, v8 = .slice X P.length cx ∧ i8 = .int .i64 (cur : Int) ∧ q ≤ l.length ∧ i = .int .i64 (q : Int) ∧ Hid (∀ j nx, j < q → ¬ Good l f cur j nx) ∧ Hid (Below wo.heap.size wo wq)) (fun _ _ i _ => l.length - (intOf i).toNat)
      case atStart => exact ⟨0, rfl, rfl, Nat.zero_le _, rfl, Lib.hid (fun j nx hj => by omega), Lib.hid (Below.refl _ _)⟩
      case round =>
        obtain ⟨q, rfl, rfl, hq, rfl, hno, hbq⟩ := hrel
        have HBW := Lib.hid (hbw.out.trans (hbq.out.mono hbw.out.size))
        have HIQ := Lib.hid (HI.out.below HBW.out)
        have HOQ := Lib.hid (hown.out.later hbq.out)
        by_cases hlt : q < l.length
        · obtain ⟨ab, off, rfl, hab, hcs⟩ := HR.out (by omega)
          obtain ⟨r0, r1, r2, _, _, _, _, _⟩ := (hcs q hlt).below HBW.out hab
          clear hcs
          obtain ⟨x, HX⟩ : ∃ x, Hid (l[q]? = some x) := ⟨_, Lib.hid (List.getElem?_eq_getElem hlt)⟩
          have hxe : l[q] = x := by have := HX.out; rw [List.getElem?_eq_getElem hlt] at this; exact Option.some.inj this
          have hpc := pos_cases (HP.out x (List.mem_of_getElem? HX.out))
          rw [hxe] at r0 r1 r2
          clear hxe
          rcases hpc.2 with ⟨k0, _⟩ | ⟨hk1, b1, b2⟩
          · rw [k0] at r0
            have HS := Lib.hid (not_good hno.out HX.out (fun nx h => by have := h.1; omega))
            clear hpc k0
            go_wp2_with (fail)
            exact ⟨⟨q + 1, rfl, rfl, by omega, by go_num, HS, hbq⟩, by simp [intOf]; omega⟩
          · obtain ⟨s, hs⟩ : ∃ s : Nat, x.a = (s : Int) := ⟨x.a.toNat, by omega⟩
            obtain ⟨t', ht⟩ : ∃ t' : Nat, x.b = (t' : Int) := ⟨x.b.toNat, by omega⟩
            have hsn : s < n := by omega
            have htn : t' < n := by omega
            rw [hk1] at r0
            rw [hs] at r1
            rw [ht] at r2
            clear hpc b1 b2
            have cc0 := HIQ.out.cell hcn
            rw [HY.out] at cc0
            have hw9 : IntKind.i64.wrap (y - 1) = y - 1 := IntWalk.i64_in _ (by omega)
            by_cases e1 : s = cur
            · subst e1
              have cz := HIQ.out.cell htn
              obtain ⟨z, HZ⟩ : ∃ z, Hid (f t' = z) := ⟨_, Lib.hid rfl⟩
              rw [HZ.out] at cz
              have hz0 : (0 : Int) ≤ (t' : Int) := by omega
              by_cases hz : z = y - 1
              · subst hz
                have HG := Lib.hid (show Good l f s q t' from ⟨x, HX.out, hk1, .inl ⟨hs, ht⟩, by rw [HZ.out, HY.out]⟩)
                have HWS := Lib.hid (hwi.out.step HP.out HF.out hcn HG.out hno.out (by rw [HY.out]; exact hpos))
                clear hk1 hs ht
                go_wp2_with (fail)
                go_quiet (fail)
                have HB9 := Lib.hid (HBW.out.trans ((drewN_below wr nq).mono HBW.out.size))
                have HO9 := Lib.hid (HOQ.out.later (drewN_below wr nq))
                generalize wr.drewN nq = w9 at *
                have hz9 := HB9.out.size
                have HLT9 := Lib.hid (fun b e => World.ownsRow.lt HO9.out b e)
                have HOW := Lib.hid (HO9.out.alloc (.cells #[.int .i64 (q : Int)] 3))
                clear cc0 cz r0 r1 r2
                go_wp2_with (at_builtin; refine wpList_append_lies _ rfl _ _ 23 rfl w.heap.size 3 i0 _ 1 8 Tryd.underlying23 hi0 hz0' hz1 hz2 rfl (by decide) _ _ _ rfl HOW.out ⟨w9.heap.size, 0, none⟩ 1 1 [.int .i64 (q : Int)] rfl rfl (World.news_of_block (cs := #[.int .i64 (q : Int)]) (heap_alloc_new w9 _)) (by simp [Value.oneCell']) (by decide) ?c3 ?c4 ?c5 (w9.heap.size + 1) (by simp) ?_)
                case c3 => unfold maxLen; omega
                case c4 => omega
                case c5 => first | omega | (simp; omega)
                intro gq cap w4 hown4 hgr hsel hgl
                have HB4 := Lib.hid ((HB9.out.alloc hz9 (.cells #[.int .i64 (q : Int)] 3)).grown hgr (by simp; omega) (fun b e => (HLT9.out b e).1))
                have HO4 := Lib.hid (show IOwn w4 w.heap.size (.slice (some ⟨gq, 0, none⟩) (P ++ [q]).length cap) (P ++ [q]) by unfold IOwn; rw [List.length_append, ints_append]; exact hown4)
                clear hown4 hgr hsel hgl
                go_wp2_with (fail)
                exact ⟨⟨t', _, cap, P ++ [q], rfl, by rw [List.length_append]; rfl, htn, by rw [HZ.out]; omega, HWS, HO4, HB4⟩, by simp [intOf, HZ.out, HY.out]; omega⟩
              · have HS := Lib.hid (not_good hno.out HX.out (fun nx h => hz (by
                  obtain ⟨_, g1, g2⟩ := h
                  have : nx = t' := by rcases g1 with g | g <;> omega
                  rw [this, HZ.out, HY.out] at g2
                  exact g2)))
                have e9 : (z == y - 1) = false := by simpa using hz
                clear hk1 hs ht
                go_wp2_with (fail)
                go_quiet (fail)
                go_wp2_with (fail)
                exact ⟨⟨q + 1, rfl, rfl, by omega, by go_num, HS, Lib.hid (hbq.out.trans ((drewN_below wr nq).mono hbq.out.size))⟩, by simp [intOf]; omega⟩
            · have e1' : ((s : Int) == (cur : Int)) = false := by simp; omega
              by_cases e2 : t' = cur
              · subst e2
                have cz := HIQ.out.cell hsn
                obtain ⟨z, HZ⟩ : ∃ z, Hid (f s = z) := ⟨_, Lib.hid rfl⟩
                rw [HZ.out] at cz
                have hz0 : (0 : Int) ≤ (s : Int) := by omega
                by_cases hz : z = y - 1
                · subst hz
                  have HG := Lib.hid (show Good l f t' q s from ⟨x, HX.out, hk1, .inr ⟨by omega, ht, hs⟩, by rw [HZ.out, HY.out]⟩)
                  have HWS := Lib.hid (hwi.out.step HP.out HF.out hcn HG.out hno.out (by rw [HY.out]; exact hpos))
                  clear hk1 hs ht
                  go_wp2_with (fail)
                  go_quiet (fail)
                  have HB9 := Lib.hid (HBW.out.trans ((drewN_below wr nq).mono HBW.out.size))
                  have HO9 := Lib.hid (HOQ.out.later (drewN_below wr nq))
                  generalize wr.drewN nq = w9 at *
                  have hz9 := HB9.out.size
                  have HLT9 := Lib.hid (fun b e => World.ownsRow.lt HO9.out b e)
                  have HOW := Lib.hid (HO9.out.alloc (.cells #[.int .i64 (q : Int)] 3))
                  clear cc0 cz r0 r1 r2
                  go_wp2_with (at_builtin; refine wpList_append_lies _ rfl _ _ 23 rfl w.heap.size 3 i0 _ 1 8 Tryd.underlying23 hi0 hz0' hz1 hz2 rfl (by decide) _ _ _ rfl HOW.out ⟨w9.heap.size, 0, none⟩ 1 1 [.int .i64 (q : Int)] rfl rfl (World.news_of_block (cs := #[.int .i64 (q : Int)]) (heap_alloc_new w9 _)) (by simp [Value.oneCell']) (by decide) ?c3 ?c4 ?c5 (w9.heap.size + 1) (by simp) ?_)
                  case c3 => unfold maxLen; omega
                  case c4 => omega
                  case c5 => first | omega | (simp; omega)
                  intro gq cap w4 hown4 hgr hsel hgl
                  have HB4 := Lib.hid ((HB9.out.alloc hz9 (.cells #[.int .i64 (q : Int)] 3)).grown hgr (by simp; omega) (fun b e => (HLT9.out b e).1))
                  have HO4 := Lib.hid (show IOwn w4 w.heap.size (.slice (some ⟨gq, 0, none⟩) (P ++ [q]).length cap) (P ++ [q]) by unfold IOwn; rw [List.length_append, ints_append]; exact hown4)
                  clear hown4 hgr hsel hgl
                  go_wp2_with (fail)
                  exact ⟨⟨s, _, cap, P ++ [q], rfl, by rw [List.length_append]; rfl, hsn, by rw [HZ.out]; omega, HWS, HO4, HB4⟩, by simp [intOf, HZ.out, HY.out]; omega⟩
                · have HS := Lib.hid (not_good hno.out HX.out (fun nx h => hz (by
                    obtain ⟨_, g1, g2⟩ := h
                    have : nx = s := by rcases g1 with g | g <;> omega
                    rw [this, HZ.out, HY.out] at g2
                    exact g2)))
                  have e9 : (z == y - 1) = false := by simpa using hz
                  clear hk1 hs ht
                  go_wp2_with (fail)
                  go_quiet (fail)
                  go_wp2_with (fail)
                  exact ⟨⟨q + 1, rfl, rfl, by omega, by go_num, HS, Lib.hid (hbq.out.trans ((drewN_below wr nq).mono hbq.out.size))⟩, by simp [intOf]; omega⟩
              · have e2' : ((t' : Int) == (cur : Int)) = false := by simp; omega
                have HS := Lib.hid (not_good hno.out HX.out (fun nx h => by
                  obtain ⟨_, g1, _⟩ := h
                  rcases g1 with g | g <;> omega))
                clear hk1 hs ht
                go_wp2_with (fail)
                go_quiet (fail)
                go_wp2_with (fail)
                exact ⟨⟨q + 1, rfl, rfl, by omega, by go_num, HS, Lib.hid (hbq.out.trans ((drewN_below wr nq).mono hbq.out.size))⟩, by simp [intOf]; omega⟩
        · exfalso
          obtain ⟨j, nx, hg⟩ := good_ex HP.out HF.out hcn (by rw [HY.out]; exact hpos)
          have hgl : j < l.length := by
            obtain ⟨c', h1, _⟩ := hg
            exact (List.getElem?_eq_some_iff.1 h1).1
          exact hno.out j nx (by omega) hg
    · have HFI := Lib.hid (hwi.out.fin HP.out HF.out ha hcn (by rw [HY.out]; omega))
      have HLE := Lib.hid (hwi.out.lt HF.out ha (by rw [HY.out]; exact hc0))
      go_wp2_with (fail)
      go_ret
      exact ⟨X, cx, P, rfl, hown.out, HLE.out, HFI.out, hbw.out⟩
end Go.Proofs.YtmamajillkajoaaDoor
