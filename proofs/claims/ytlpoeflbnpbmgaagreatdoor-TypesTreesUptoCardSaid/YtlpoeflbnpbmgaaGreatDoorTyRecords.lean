/- What is proved: types.Records, over the contract of the tree's Valid. -/
import Derived.Test.YtlpoeflbnpbmgaaGreatDoorTreeBase
import Derived.Deep.AppendLies
set_option linter.unusedVariables false
namespace Go.Proofs.YtlpoeflbnpbmgaaGreatDoor
open Go.RowKit

/-- rows of different types lie in different blocks -/
theorem rec_ne_own {w : World} {B1 B2 s1 s2 n1 n2 : Nat} {E1 E2 : TypeId} {v1 v2 : Value} {x1 x2 : List Value} (h1 : w.ownsRow B1 E1 s1 v1 n1 x1) (h2 : w.ownsRow B2 E2 s2 v2 n2 x2) (hE : E1 ≠ E2) : v1.ownBlock = none ∨ v1.ownBlock ≠ v2.ownBlock := by
  rcases h1.2 with ⟨rfl, _⟩ | ⟨g, cap, cur, rfl, _, hg, _⟩
  · exact .inl rfl
  · right
    intro e
    rcases h2.2 with ⟨rfl, _⟩ | ⟨g', cap', cur', rfl, _, hg', _⟩
    · cases e
    · cases e
      rw [show w.heap[(⟨g, 0, none⟩ : Addr).block]? = w.heap[g]? from rfl, hg] at hg'
      simp only [Option.some.injEq, Obj.cells.injEq] at hg'
      exact hE hg'.2.1
theorem rec_mono {w : World} {B B' sz n : Nat} {E : TypeId} {v : Value} {xs : List Value} (h : w.ownsRow B E sz v n xs) (hb : B' ≤ B) : w.ownsRow B' E sz v n xs :=
  ⟨h.1, h.2.imp id (fun ⟨g, cap, cur, a, b, r⟩ => ⟨g, cap, cur, a, Nat.le_trans hb b, r⟩)⟩
/-- the records of a tree are returned -/
def RecsRes (B : Nat) (ks : List (ByteArray × List FldV)) (w : World) (e : Ending) (w' : World) : Prop :=
  ∃ v rs, e = .returned v ∧ RecsOwn w' B v rs ∧ rs.map (fun r => (r.name, r.flds)) = ks ∧ Below B w w'
/-- a record in a block of its own, as it grows -/
def RcB (w : World) (b : Nat) (s : ByteArray) (X : Option Addr) (n c : Nat) : Prop := w.heap[b]? = some (.cells #[.string s, .slice X n c] 39 (0, 0))
theorem RcB.cells {w : World} {b n c : Nat} {s : ByteArray} {X : Option Addr} (h : RcB w b s X n c) : w.cell? ⟨b, 0, none⟩ = some (.string s) ∧ w.cell? ⟨b, 1, none⟩ = some (.slice X n c) ∧ w.frozen? ⟨b, 1, none⟩ = false :=
  ⟨Lib.cell_of_heap h 0, Lib.cell_of_heap h 1, hfrz h 1⟩
theorem RcB.below {B : Nat} {w w' : World} {b n c : Nat} {s : ByteArray} {X : Option Addr} (h : RcB w b s X n c) (hb : Below B w w') (hlt : b < B) : RcB w' b s X n c := (hb.block _ hlt).trans h

set_option maxRecDepth 100000 in
set_option maxHeartbeats 8000000 in
theorem records_any {nv : ByteArray → Nat} {ok : ByteArray → Bool} (HN : NumC 31 nv ok) (n : NT) (v : Bool) (w : World) (hin : InT w.heap.size w n) (hk9 : n.kids.length ≤ 1000000)
    (hk8 : ∀ k ∈ n.kids, k.kids.length ≤ 1000000) (HVAL : ∀ W, InT W.heap.size W n → Calls Tryz.prog 24 #[.agg #[.int .i64 n.kind, .string n.text, .int .i64 n.lo, .int .i64 n.hi, .slice n.A n.kids.length n.c]] W fun e w' => e = .returned (.bool v) ∧ Below W.heap.size W w') (hsh : v = true → FieldsOK n) (ks : List (ByteArray × List FldV)) (hks : ks = if v then recL n.kids else []) :
    Calls Tryz.prog 11 #[.agg #[.int .i64 n.kind, .string n.text, .int .i64 n.lo, .int .i64 n.hi, .slice n.A n.kids.length n.c]] w (RecsRes w.heap.size ks w) := by
  obtain ⟨i0, hi0, hz0, hz1, hz2⟩ := info_parts infoFld
  obtain ⟨i1, hi1, hy0, hy1, hy2⟩ := info_parts infoRc
  have HI := Lib.hid hin
  have HK8 := Lib.hid hk8
  have HVL := Lib.hid HVAL
  have HSH := Lib.hid hsh
  have HKS := Lib.hid hks
  clear hks
  have HWR := Lib.hid (fun (k : NT) (t u : TyV) (W : World) (h : wrT nv k = t) (hv : validB t [] = true) (hu : u = t) => wr_any HN k none 0 [] W t h (fun h => absurd h (by simp)) (by simp) true hv u (by rw [if_pos rfl]; exact hu))
  clear hin hk8 HVAL hsh HN
  go_enter Tryz.func11, Tryz.ntmps11
  go_wp2_with (fail)
  have hb0 := (Below.refl w.heap.size w).alloc (Nat.le_refl _) (.cells #[.int .i64 n.kind, .string n.text, .int .i64 n.lo, .int .i64 n.hi, .slice n.A n.kids.length n.c] 24)
  have hn0 := heap_alloc_new w (.cells #[.int .i64 n.kind, .string n.text, .int .i64 n.lo, .int .i64 n.hi, .slice n.A n.kids.length n.c] 24)
  have hz0' : (w.alloc (.cells #[.int .i64 n.kind, .string n.text, .int .i64 n.lo, .int .i64 n.hi, .slice n.A n.kids.length n.c] 24)).heap.size = w.heap.size + 1 := by simp
  generalize (w.alloc (.cells #[.int .i64 n.kind, .string n.text, .int .i64 n.lo, .int .i64 n.hi, .slice n.A n.kids.length n.c] 24)) = w0 at *
  have HB0 := Lib.hid hb0
  have HN0 := Lib.hid hn0
  have HS0 := Lib.hid hz0'
  clear hb0 hn0 hz0'
  refine (HVL.out w0 (InT.later HI.out HB0.out)).mono ?_
  rintro e w1 ⟨rfl, hb1⟩
  have HB1 := Lib.hid (HB0.out.trans (hb1.mono (by have := HS0.out; omega)))
  have hn1 := (hb1.block _ (show w.heap.size < w0.heap.size by have := HS0.out; omega)).trans HN0.out
  clear hb1
  cases v with
  | false =>
    clear hn1
    go_wp2_with (fail)
    go_ret
    exact ⟨_, [], rfl, ⟨World.ownsRow_nil _ _ _ _, fun r hr => absurd hr (by simp)⟩, by rw [HKS.out]; rfl, HB1.out⟩
  | true =>
    have HF := Lib.hid (HSH.out rfl)
    have b4 := Lib.cell_of_heap hn1 4
    clear hn1
    go_wp2_with (fail)
    clear b4
    go_loopw [3, 17] (fun v i wr => ∃ (k : Nat) (rs : List RcV) (X : Option Addr) (cx : Nat), k ≤ n.kids.length ∧ rs.length ≤ k ∧ i = .int .i64 (k : Int) ∧ v = .slice X rs.length cx ∧ Hid (RecsOwn wr w.heap.size (.slice X rs.length cx) rs) ∧ Hid (rs.map (fun r => (r.name, r.flds)) = recL (n.kids.take k)) ∧ Hid (Below w.heap.size w wr)) (fun _ i _ => n.kids.length - (intOf i).toNat)
    case atStart => exact ⟨0, [], none, 0, Nat.zero_le _, Nat.le_refl _, rfl, rfl, Lib.hid ⟨World.ownsRow_nil _ _ _ _, fun r hr => absurd hr (by simp)⟩, Lib.hid rfl, HB1⟩
    case round =>
      obtain ⟨k, rs, X, cx, hk, hrk, rfl, rfl, hro, hrl, hbw⟩ := hrel
      by_cases hlt : k < n.kids.length
      · obtain ⟨b, off, hA, hb, c0, c1, c2, c3, c4⟩ := (InT.below hbw.out n HI.out).cells k hlt
        have HIX := Lib.hid (InT.later (InT.kidAt HI.out hlt) hbw.out)
        obtain ⟨x, HX⟩ : ∃ x, Hid (n.kids[k] = x) := ⟨_, Lib.hid rfl⟩
        have hx8 : x.kids.length ≤ 1000000 := by rw [← HX.out]; exact HK8.out _ (List.getElem_mem hlt)
        have HFX := Lib.hid (show (x.kind == 3) = true → ∀ f ∈ x.kids, ∃ t, f.kids[0]? = some t ∧ (t.kind == 9) = true ∧ ((t.text.toList == [105, 110, 116]) = true ∨ (t.text.toList == [105, 110, 116]) = false ∧ (t.text.toList == [98, 111, 111, 108]) = true) by rw [← HX.out]; exact HF.out _ (List.getElem_mem hlt))
        have HRS := Lib.hid (recL_succ hlt)
        rw [HX.out] at c0 c1 c2 c3 c4 HIX HRS
        have hzw := hbw.out.size
        rw [hA]
        have hba := (Below.refl wr.heap.size wr).alloc (Nat.le_refl _) (.cells #[.int .i64 x.kind, .string x.text, .int .i64 x.lo, .int .i64 x.hi, .slice x.A x.kids.length x.c] 24)
        cases h3 : (x.kind == 3) with
        | false =>
          have h3' : (x.kind != 3) = true := by simpa using h3
          have HL := Lib.hid (show recL (n.kids.take (k + 1)) = recL (n.kids.take k) by rw [HRS.out, h3]; simp)
          have HB2 := Lib.hid (hbw.out.trans (hba.mono hzw))
          have HR2 := Lib.hid (hro.out.below hba)
          clear h3 hba
          go_wp2_with (fail)
          exact ⟨⟨k + 1, rs, X, cx, by omega, by omega, by go_num, rfl, HR2, by rw [HL.out]; exact hrl, HB2⟩, by simp [intOf]; omega⟩
        | true =>
          have h3' : (x.kind != 3) = false := by simpa using h3
          have HFF := Lib.hid (HFX.out h3)
          have HL := Lib.hid (show recL (n.kids.take (k + 1)) = recL (n.kids.take k) ++ [(x.text, recF x)] by rw [HRS.out, h3]; simp)
          clear h3 hba
          go_wp2_with (fail)
          clear c0 c1 c2 c3 c4
          have hb2 : Below wr.heap.size wr ((wr.alloc (.cells #[.int .i64 x.kind, .string x.text, .int .i64 x.lo, .int .i64 x.hi, .slice x.A x.kids.length x.c] 24)).alloc (.cells #[.string x.text, .slice none 0 0] 39)) := ((Below.refl _ _).alloc (Nat.le_refl _) _).alloc (by simp) _
          have hr2 : RcB ((wr.alloc (.cells #[.int .i64 x.kind, .string x.text, .int .i64 x.lo, .int .i64 x.hi, .slice x.A x.kids.length x.c] 24)).alloc (.cells #[.string x.text, .slice none 0 0] 39)) (wr.heap.size + 1) x.text none 0 0 := by
            have h := heap_alloc_new (wr.alloc (.cells #[.int .i64 x.kind, .string x.text, .int .i64 x.lo, .int .i64 x.hi, .slice x.A x.kids.length x.c] 24)) (.cells #[.string x.text, .slice none 0 0] 39)
            rwa [World.size_alloc] at h
          have hs2 : ((wr.alloc (.cells #[.int .i64 x.kind, .string x.text, .int .i64 x.lo, .int .i64 x.hi, .slice x.A x.kids.length x.c] 24)).alloc (.cells #[.string x.text, .slice none 0 0] 39)).heap.size = wr.heap.size + 2 := by simp
          generalize ((wr.alloc (.cells #[.int .i64 x.kind, .string x.text, .int .i64 x.lo, .int .i64 x.hi, .slice x.A x.kids.length x.c] 24)).alloc (.cells #[.string x.text, .slice none 0 0] 39)) = w2 at *
          have HB2 := Lib.hid hb2
          have HR2 := Lib.hid hr2
          have HS2 := Lib.hid (show wr.heap.size + 2 ≤ w2.heap.size by omega)
          clear hb2 hr2 hs2
          generalize wr = w5 at *
          go_loopw [30] (fun i wr => ∃ (j : Nat) (Z : Option Addr) (cz : Nat), j ≤ x.kids.length ∧ i = .int .i64 (j : Int) ∧ Hid (RcB wr (w5.heap.size + 1) x.text Z j cz) ∧ Hid (wr.ownsRow (w5.heap.size + 2) 58 4 (.slice Z j cz) j (fcells ((recF x).take j))) ∧ Hid (Below w5.heap.size w5 wr) ∧ w5.heap.size + 2 ≤ wr.heap.size) (fun i _ => x.kids.length - (intOf i).toNat)
          case atStart => exact ⟨0, none, 0, Nat.zero_le _, rfl, HR2, Lib.hid (World.ownsRow_nil _ _ _ _), HB2, HS2.out⟩
          case round =>
            obtain ⟨j, Z, cz, hj, rfl, hrc, hfo, hbr, hsr⟩ := hrel
            by_cases hjt : j < x.kids.length
            · obtain ⟨b1, o1, hA1, hb1', c0, c1, c2, c3, c4⟩ := (InT.below hbr.out x HIX.out).cells j hjt
              have HIY := Lib.hid (InT.later (InT.kidAt HIX.out hjt) hbr.out)
              obtain ⟨y, HY⟩ : ∃ y, Hid (x.kids[j] = y) := ⟨_, Lib.hid rfl⟩
              obtain ⟨t, ht0, ht9, htx⟩ := HFF.out _ (List.getElem_mem hjt)
              have HRJ := Lib.hid (show fcells ((recF x).take (j + 1)) = fcells ((recF x).take j) ++ fcells [⟨y.text, scK t⟩] by
                rw [← fcells_append, List.take_succ_eq_append_getElem (by simpa [recF] using hjt)]
                congr 2
                simp only [recF, List.getElem_map, scF, ht0]
                rw [HY.out])
              rw [HY.out] at c0 c1 c2 c3 c4 HIY ht0
              have hyl : 0 < y.kids.length := by
                rcases Nat.eq_zero_or_pos y.kids.length with h | h
                · rw [List.getElem?_eq_none (by omega)] at ht0; cases ht0
                · exact h
              have hyt : y.kids[0] = t := by
                rw [List.getElem?_eq_getElem hyl] at ht0
                exact Option.some.inj ht0
              obtain ⟨b2, o2, hA2, hb2', d0, d1, d2, d3, d4⟩ := HIY.out.cells 0 hyl
              rw [hyt] at d0 d1 d2 d3 d4
              have HWT := Lib.hid (wrT_basic (nv := nv) ht9 htx)
              clear ht0 ht9 htx hyt
              obtain ⟨e0, e1, e2, e3, e4⟩ := (show Cells5 wr b2 o2 t from by rw [Nat.zero_mul, Nat.add_zero] at *; exact ⟨d0, d1, d2, d3, d4⟩)
              clear d0 d1 d2 d3 d4
              have hy1 : (0 : Int) < (y.kids.length : Int) := by omega
              rw [hA1]
              rw [hA2] at c4
              go_wp2_with (fail)
              clear e0 e1 e2 e3 e4 c0 c1 c2 c3 c4
              have hva : validB (scK t) [] = true := by rcases HWT.out.2 with h | h <;> rw [h] <;> simp [validB, bsc]
              refine (HWR.out t (scK t) (scK t) _ HWT.out.1 hva rfl).mono ?_
              rintro e w3 ⟨rfl, hb3'⟩
              have hb3 : Below wr.heap.size wr w3 := ((Below.refl _ _).alloc (Nat.le_refl _) _).trans (hb3'.mono (by simp))
              have hw3 : wr.heap.size < w3.heap.size := by have := hb3'.size; rw [World.size_alloc] at this; omega
              have hyb := (hb3'.block wr.heap.size (by simp)).trans (heap_alloc_new wr _)
              clear hb3' hva
              obtain ⟨u, HU⟩ : ∃ u, Hid (scK t = u) := ⟨_, Lib.hid rfl⟩
              rw [HU.out] at HRJ
              rw [HU.out]
              have hs3 : w5.heap.size + 2 ≤ w3.heap.size := Nat.le_trans hsr hb3.size
              have hal := (Below.refl w3.heap.size w3).alloc (Nat.le_refl _) (.cells #[.int .i64 u.kind, .int .i64 u.len, .string u.nm] 31)
              have HRC3 := Lib.hid ((hrc.out.below hb3 (by omega)).below hal (by omega))
              have HFO3 := Lib.hid ((ty_own_below (ty_own_below hfo.out hb3) hal).alloc (.cells #[.string y.text, .int .i64 u.kind, .int .i64 u.len, .string u.nm] 58))
              have HB3 := Lib.hid ((hbr.out.trans (hb3.mono hbr.out.size)).trans (hal.mono (by omega)))
              have HLT := Lib.hid (fun q e => (ty_own_below (ty_own_below hfo.out hb3) hal).lt q e)
              have HN3 := Lib.hid (show ((w3.alloc (.cells #[.int .i64 u.kind, .int .i64 u.len, .string u.nm] 31)).alloc (.cells #[.string y.text, .int .i64 u.kind, .int .i64 u.len, .string u.nm] 58)).heap[w3.heap.size + 1]? = some (.cells #[.string y.text, .int .i64 u.kind, .int .i64 u.len, .string u.nm] 58 (0, 0)) by
                have h := heap_alloc_new (w3.alloc (.cells #[.int .i64 u.kind, .int .i64 u.len, .string u.nm] 31)) (.cells #[.string y.text, .int .i64 u.kind, .int .i64 u.len, .string u.nm] 58)
                rwa [World.size_alloc] at h)
              have q1 := Lib.cell_of_heap ((hal.block wr.heap.size hw3).trans hyb) 1
              clear hb3 hal hyb
              obtain ⟨r0, r1, r2⟩ := HRC3.out.cells
              go_wp2_with (at_builtin; refine wpList_append_lies _ rfl _ _ 37 rfl (w5.heap.size + 2) 58 i0 _ 4 48 Tryz.underlying37 hi0 hz0 hz1 hz2 rfl (by decide) _ _ _ rfl HFO3.out ⟨w3.heap.size + 1, 0, none⟩ 1 1 (fcells [⟨y.text, u⟩]) rfl rfl (World.news_of_block (cs := #[.string y.text, .int .i64 u.kind, .int .i64 u.len, .string u.nm]) HN3.out) (fcells_one _) (by decide) ?c3 ?c4 ?c5 (w3.heap.size + 2) (by simp) ?_)
              case c3 => unfold maxLen; omega
              case c4 => omega
              case c5 => simp; omega
              intro g cap w4 hown4 hgr hsel hgl
              have hle : w5.heap.size + 2 ≤ ((w3.alloc (.cells #[.int .i64 u.kind, .int .i64 u.len, .string u.nm] 31)).alloc (.cells #[.string y.text, .int .i64 u.kind, .int .i64 u.len, .string u.nm] 58)).heap.size := by simp; omega
              have hbg : Below (w5.heap.size + 2) ((w3.alloc (.cells #[.int .i64 u.kind, .int .i64 u.len, .string u.nm] 31)).alloc (.cells #[.string y.text, .int .i64 u.kind, .int .i64 u.len, .string u.nm] 58)) w4 := ((Below.refl _ _).mono hle).grown hgr hle (fun b e => (HLT.out b e).1)
              have HRC4 := Lib.hid ((HRC3.out.below ((Below.refl _ _).alloc (Nat.le_refl _) (.cells #[.string y.text, .int .i64 u.kind, .int .i64 u.len, .string u.nm] 58)) (by simp; omega)).below hbg (by omega))
              have HO4 := Lib.hid hown4
              have HB4 := Lib.hid ((HB3.out.alloc (by simp; omega) (.cells #[.string y.text, .int .i64 u.kind, .int .i64 u.len, .string u.nm] 58)).trans (hbg.mono (by omega)))
              have HS4 := Lib.hid (Nat.le_trans hle hbg.size)
              clear hown4 hgr hsel hgl hle hbg r0 r1 r2 q1
              obtain ⟨r0, r1, r2⟩ := HRC4.out.cells
              go_wp2_with (fail)
              exact ⟨⟨j + 1, some ⟨g, 0, none⟩, cap, by omega, by go_num, Lib.hid (hset HRC4.out _), Lib.hid (by rw [HRJ.out]; exact ownsRow_setCell_below HO4.out (by simp) _), Lib.hid (HB4.out.setCell (by simp) _), by have := HS4.out; simp; omega⟩, by simp [intOf]; omega⟩
            · obtain rfl : j = x.kids.length := by omega
              have HRO := Lib.hid (hro.out.below hbr.out)
              have HRW := Lib.hid (HRO.out.1.alloc (.cells #[.string x.text, .slice Z x.kids.length cz] 39))
              have HLT := Lib.hid (fun q e => HRO.out.1.lt q e)
              obtain ⟨r0, r1, r2⟩ := hrc.out.cells
              go_wp2_with (at_builtin; refine wpList_append_lies _ rfl _ _ 25 rfl w.heap.size 39 i1 _ 2 40 Tryz.underlying25 hi1 hy0 hy1 hy2 rfl (by decide) _ _ _ rfl HRW.out ⟨wr.heap.size, 0, none⟩ 1 1 (rcells [⟨x.text, Z, cz, recF x⟩]) rfl rfl ?c2 (rcells_one _) (by decide) ?c3 ?c4 ?c5 (wr.heap.size + 1) (by simp) ?_)
              case c2 =>
                rw [show rcells [⟨x.text, Z, cz, recF x⟩] = [.string x.text, .slice Z x.kids.length cz] from by simp [rcells, recF]]
                exact World.news_of_block (cs := #[.string x.text, .slice Z x.kids.length cz]) (heap_alloc_new wr _)
              case c3 => unfold maxLen; omega
              case c4 => omega
              case c5 => simp; omega
              intro g cap w4 hown4 hgr hsel hgl
              have hfl : (recF x).length = x.kids.length := by simp [recF]
              have HR4 := Lib.hid (show RecsOwn w4 w.heap.size (.slice (some ⟨g, 0, none⟩) (rs ++ [RcV.mk x.text Z cz (recF x)]).length cap) (rs ++ [RcV.mk x.text Z cz (recF x)]) from by
                refine ⟨by rw [rcells_append, List.length_append]; exact hown4, fun r hr => ?_⟩
                rcases List.mem_append.1 hr with hr | hr
                · exact ⟨((HRO.out.2 r hr).1.alloc (.cells #[.string x.text, .slice Z x.kids.length cz] 39)).kept hgr (rec_ne_own ((HRO.out.2 r hr).1.alloc (.cells #[.string x.text, .slice Z x.kids.length cz] 39)) HRW.out (by decide)), (HRO.out.2 r hr).2⟩
                · obtain rfl : r = RcV.mk x.text Z cz (recF x) := by simpa using hr
                  have h := hfo.out
                  rw [List.take_of_length_le (Nat.le_of_eq hfl)] at h
                  have h' := (rec_mono (B' := w.heap.size) h (by omega)).alloc (.cells #[.string x.text, .slice Z x.kids.length cz] 39)
                  dsimp only
                  rw [hfl]
                  exact ⟨h'.kept hgr (rec_ne_own h' HRW.out (by decide)), by omega⟩)
              have HB4 := Lib.hid (((hbw.out.trans (hbr.out.mono hzw)).alloc (by omega) (.cells #[.string x.text, .slice Z x.kids.length cz] 39)).grown hgr (by simp; omega) (fun b e => (HLT.out b e).1))
              have HM4 := Lib.hid (show (rs ++ [RcV.mk x.text Z cz (recF x)]).map (fun r => (r.name, r.flds)) = recL (n.kids.take (k + 1)) by rw [HL.out, List.map_append, hrl.out]; rfl)
              clear hown4 hgr hsel hgl r0 r1 r2
              go_wp2_with (fail)
              exact ⟨⟨k + 1, rs ++ [RcV.mk x.text Z cz (recF x)], some ⟨g, 0, none⟩, cap, by omega, by simp; omega, by go_num, by simp, HR4, HM4, HB4⟩, by simp [intOf]; omega⟩
      · obtain rfl : k = n.kids.length := by omega
        go_wp2_with (fail)
        go_ret
        refine ⟨_, rs, rfl, hro.out, ?_, hbw.out⟩
        have h := hrl.out
        rw [List.take_of_length_le (Nat.le_refl _)] at h
        exact h.trans (HKS.out.trans (if_pos trivial)).symm
end Go.Proofs.YtlpoeflbnpbmgaaGreatDoor
