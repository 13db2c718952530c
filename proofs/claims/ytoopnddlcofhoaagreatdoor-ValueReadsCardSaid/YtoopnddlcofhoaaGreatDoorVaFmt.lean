/- What is proved: the text of the example's record. -/
import Derived.Test.YtoopnddlcofhoaaGreatDoorVaBr
import Derived.Test.YtoopnddlcofhoaaGreatDoorSJoin
set_option linter.unusedVariables false
namespace Go.Proofs.YtoopnddlcofhoaaGreatDoor
open Go.RowKit

abbrev ptB : Obj := .cells #[.int .i64 4, .int .i64 0, .string ⟨#[112, 111, 105, 110, 116]⟩] 23
theorem fmt_start (w : World) : ∃ W2, (w.alloc ptB).alloc ptB = W2 ∧ Below w.heap.size w W2 ∧ W2.heap.size = w.heap.size + 2 ∧ TCells W2 w.heap.size 0 ptT ∧ TCells W2 (w.heap.size + 1) 0 ptT := by
  have z1 : (w.alloc ptB).heap.size = w.heap.size + 1 := by simp
  have b1 := (Below.refl w.heap.size w).alloc (Nat.le_refl _) ptB
  have b2 := (Below.refl (w.alloc ptB).heap.size (w.alloc ptB)).alloc (Nat.le_refl _) ptB
  have t1 : TCells (w.alloc ptB) w.heap.size 0 ptT := TCells.of_box (x := ptT)
  have t2 : TCells ((w.alloc ptB).alloc ptB) (w.alloc ptB).heap.size 0 ptT := TCells.of_box (x := ptT)
  rw [z1] at t2
  exact ⟨_, rfl, b1.alloc (by omega) _, by simp, t1.below b2 (by omega), t2⟩
/-- the scalars' texts -/
def ptS : List ByteArray := [⟨#[49]⟩, ⟨#[102, 97, 108, 115, 101]⟩]
def scells (l : List ByteArray) : List Value := l.map Value.string
theorem scells_one (l : List ByteArray) : ∀ u ∈ scells l, u.oneCell' = true := by
  intro u hu
  obtain ⟨x, _, rfl⟩ := List.mem_map.1 hu
  rfl
theorem infoStr : (Tryz.prog.info? 9).map (fun i => (i.zero, i.size, i.bytes)) = some (some (.string ⟨#[]⟩), 1, 16) := by kernel_rfl

/-- a round: the kind, the number, the text -/
theorem fmt_round {k : Nat} (hk : k < 2) : ∃ (q n : Int) (s : ByteArray), [bsc 1, bsc 2][k]'(by simpa using hk) = bsc q ∧ ([1, 0] : List Int)[k]'(by simpa using hk) = n ∧ ptS.take (k + 1) = ptS.take k ++ [s] ∧ (q = 1 ∧ n = 1 ∧ s = ⟨#[49]⟩ ∨ q = 2 ∧ n = 0 ∧ s = ⟨#[102, 97, 108, 115, 101]⟩) := by
  have : k = 0 ∨ k = 1 := by omega
  rcases this with rfl | rfl
  · exact ⟨1, 1, _, rfl, rfl, rfl, .inl ⟨rfl, rfl, rfl⟩⟩
  · exact ⟨2, 0, _, rfl, rfl, rfl, .inr ⟨rfl, rfl, rfl⟩⟩
theorem str_below {w w' : World} {B n : Nat} {v : Value} {xs : List Value} (h : w.ownsRow B 9 1 v n xs) (hb : Below w.heap.size w w') : w'.ownsRow B 9 1 v n xs := ty_own_below h hb

theorem str_own {w : World} {B : Nat} {v : Value} {l : List ByteArray} (h : w.ownsRow B 9 1 v l.length (scells l)) (h0 : 0 < l.length) : ∃ g c, v = .slice (some ⟨g, 0, none⟩) l.length c ∧ l.length ≤ c ∧ g < w.heap.size ∧ ∀ (j : Nat) x, l[j]? = some x → w.cell? ⟨g, 0 + j, none⟩ = some (.string x) := by
  rcases h.2 with ⟨_, h1⟩ | ⟨g, cap, cur, hv, hB, hg, hn, _⟩
  · omega
  · have hb : v.ownBlock = some g := by rw [hv]; rfl
    refine ⟨g, cap, hv, hn, (h.lt g hb).2, fun j x hj => ?_⟩
    have a := h.cells hb j (.string x) (by simp [scells, hj])
    rw [Go.WideShapes.add_plain] at a
    exact a
theorem join_pt : Lib.join (ptS.map (·.data.toList)) (⟨#[44, 32]⟩ : ByteArray).data.toList = [49, 44, 32, 102, 97, 108, 115, 101] := by kernel_rfl

set_option maxRecDepth 100000 in
set_option maxHeartbeats 4000000 in
theorem format_pt (A C Af : Option Addr) (c cc cf : Nat) (w : World) (hr : RRow w.heap.size w A [ptR Af cf]) (hl : ZRow w.heap.size w C [1, 0]) :
    Calls Tryz.prog 8 #[.agg #[.int .i64 4, .int .i64 0, .string ⟨#[112, 111, 105, 110, 116]⟩], .slice A 1 c, .slice C 2 cc] w fun e w' => e = .returned (.string ⟨#[112, 111, 105, 110, 116, 40, 49, 44, 32, 102, 97, 108, 115, 101, 41]⟩) ∧ Below w.heap.size w w' := by
  obtain ⟨i0, hi0, hz0, hz1, hz2⟩ := info_parts infoStr
  have HR := Lib.hid hr
  have HL := Lib.hid hl
  clear hr hl
  obtain ⟨W2, HW2, hb2, hz2', ht0, ht1⟩ := fmt_start w
  have HB2 := Lib.hid hb2
  have HZ2 := Lib.hid hz2'
  have HT0 := Lib.hid ht0
  have HT1 := Lib.hid ht1
  obtain ⟨c0, c1, c2⟩ := (TCells.of_box (w := w) (x := ptT)).now
  have HC := Lib.hid (And.intro c0 (And.intro c1 c2))
  clear hb2 hz2' ht0 ht1
  go_enter Tryz.func8, Tryz.ntmps8
  go_wp2_with (fail)
  clear HC c0 c1 c2
  have HS := Lib.hid (scalars_any A (some ⟨w.heap.size + 1, 0, none⟩) c 1 [ptR Af cf] [ptT] W2 ((HR.out.later HB2.out)) (fun _ => ⟨w.heap.size + 1, 0, rfl, by have := HZ2.out; omega, fun i h => by
    obtain rfl : i = 0 := by simpa using h
    exact HT1.out⟩) (by simp) (fun r hr => by simp at hr; subst hr; simp [ptR]) (by simp))
  rw [pt_parts] at HS
  clear HW2
  refine HS.out.mono ?_
  rintro e w3 ⟨v, rfl, hown, hb3⟩
  obtain ⟨A3, c3, rfl, hrow⟩ := types_own hown
  have HB3 := Lib.hid (HB2.out.trans (hb3.mono HB2.out.size))
  have HT3 := Lib.hid (HT0.out.below hb3 (by have := HZ2.out; omega))
  have HROW := Lib.hid hrow
  have HZ3 := Lib.hid (show w.heap.size < w3.heap.size from by have := hb3.size; have := HZ2.out; omega)
  obtain ⟨c0, c1, c2⟩ := HT3.out.now
  clear hown hb3 hrow HS
  go_wp2_with (fail)
  refine (ty_valid_f ptT A c [ptR Af cf] w3 true (pt_valid Af cf) (HR.out.later HB3.out) (by simp)).mono ?_
  rintro e w4 ⟨rfl, hb4⟩
  have HB4 := Lib.hid (HB3.out.trans (hb4.mono HB3.out.size))
  have HT4 := Lib.hid (HT3.out.below hb4 HZ3.out)
  have HROW4 := Lib.hid (HROW.out.later hb4)
  have HZ4 := Lib.hid (show w.heap.size < w4.heap.size from by have := hb4.size; have := HZ3.out; omega)
  have HL4 := Lib.hid (HL.out.later HB4.out)
  clear hb4 c0 c1 c2 HT3 HROW HZ3 HL
  go_wp2_with (fail)
  go_loopw [8, 31] (fun v i wr => ∃ k : Nat, k ≤ 2 ∧ i = .int .i64 (k : Int) ∧ Hid (wr.ownsRow w4.heap.size 9 1 v k (scells (ptS.take k))) ∧ Hid (Below w4.heap.size w4 wr)) (fun _ i _ => 2 - (intOf i).toNat)
  case atStart => exact ⟨0, Nat.zero_le _, rfl, Lib.hid (World.ownsRow_nil _ _ _ _), Lib.hid (Below.refl _ _)⟩
  case round =>
    obtain ⟨k, hk, rfl, hown, hbw⟩ := hrel
    by_cases hlt : k < 2
    · obtain ⟨b, off, hA, hb, hcs⟩ := (HROW4.out.below hbw.out) (by simp)
      obtain ⟨c0, c1, c2⟩ := hcs k (by simpa using hlt)
      obtain ⟨bl, ol, hC, hbl, hcl⟩ := (HL4.out.below hbw.out) (by simp)
      have cl := hcl k (by simpa using hlt)
      obtain ⟨q, n, s, e1, e2, e3, e4⟩ := fmt_round hlt
      rw [e1] at c0 c1 c2
      rw [e2] at cl
      have HE3 := Lib.hid e3
      clear e1 e2 e3 hcs hcl
      have hzw := hbw.out.size
      obtain ⟨hal, hc0, hza⟩ := box_ty wr (bsc q)
      have cla := (hal.cell (p := ⟨bl, ol + k, none⟩) (by show bl < wr.heap.size; omega)).trans cl
      obtain ⟨d0, d1, d2⟩ := hc0.now
      have HAL := Lib.hid hal
      have HZA := Lib.hid hza
      have HOA := Lib.hid (str_below hown.out hal)
      have HBA := Lib.hid (hbw.out.trans (hal.mono hzw))
      have HLT := Lib.hid (fun b e => hown.out.lt b e)
      clear hb hbl cl hal hc0 hza hown
      rw [hA, hC]
      rcases e4 with ⟨rfl, rfl, rfl⟩ | ⟨rfl, rfl, rfl⟩
      · go_wp2_with (fail)
        clear d1 d2 c0 c1 c2
        have HG := Lib.hid (And.intro d0 cla)
        clear d0 cla
        generalize (wr.alloc (.cells #[.int .i64 (bsc 1).kind, .int .i64 (bsc 1).len, .string (bsc 1).nm] 23)) = wa at *
        have d0 : wa.cell? ⟨wr.heap.size, 0, none⟩ = some (.int .i64 1) := HG.out.1
        have cla := HG.out.2
        refine (itoa_1 wa).mono ?_
        rintro e w5 ⟨rfl, rfl⟩
        go_wp2_with (at_builtin; refine wpList_append_lies _ rfl _ _ 38 rfl w4.heap.size 9 i0 _ 1 16 Tryz.underlying38 hi0 hz0 hz1 hz2 rfl (by decide) _ _ _ rfl (HOA.out.alloc _) ⟨w5.heap.size, 0, none⟩ 1 1 [.string ⟨#[49]⟩] rfl rfl (World.news_of_block (cs := #[.string ⟨#[49]⟩]) (heap_alloc_new w5 _)) (by simp [Value.oneCell']) (by decide) ?c3 ?c4 ?c5 (w5.heap.size + 1) (by simp) ?_)
        case c3 => unfold maxLen; omega
        case c4 => omega
        case c5 => have := HBA.out.size; simp; omega
        intro g cap w7 hown7 hgr hsel hgl
        have HO7 := Lib.hid hown7
        have HB7 := Lib.hid ((HBA.out.alloc (by have := HBA.out.size; omega) (.cells #[.string ⟨#[49]⟩] 9)).grown hgr (by have := HBA.out.size; simp; omega) (fun b e => (HLT.out b e).1))
        clear hown7 hgr hsel hgl
        go_wp2_with (fail)
        exact ⟨⟨k + 1, by omega, by go_num, by rw [HE3.out, show scells (ptS.take k ++ [⟨#[49]⟩]) = scells (ptS.take k) ++ [.string ⟨#[49]⟩] by simp [scells]]; exact HO7, HB7⟩, by simp [intOf]; omega⟩
      · go_wp2_with (fail)
        clear d1 d2 c0 c1 c2
        have HG := Lib.hid (And.intro d0 cla)
        clear d0 cla
        generalize (wr.alloc (.cells #[.int .i64 (bsc 2).kind, .int .i64 (bsc 2).len, .string (bsc 2).nm] 23)) = wa at *
        have d0 : wa.cell? ⟨wr.heap.size, 0, none⟩ = some (.int .i64 2) := HG.out.1
        have cla := HG.out.2
        refine (itoa_0 wa).mono ?_
        rintro e w5 ⟨rfl, rfl⟩
        go_wp2_with (fail)
        refine (fbool_any false _).mono ?_
        rintro e w6 ⟨rfl, rfl⟩
        go_wp2_with (at_builtin; refine wpList_append_lies _ rfl _ _ 38 rfl w4.heap.size 9 i0 _ 1 16 Tryz.underlying38 hi0 hz0 hz1 hz2 rfl (by decide) _ _ _ rfl (HOA.out.alloc _) ⟨w6.heap.size, 0, none⟩ 1 1 [.string ⟨#[102, 97, 108, 115, 101]⟩] rfl rfl (World.news_of_block (cs := #[.string ⟨#[102, 97, 108, 115, 101]⟩]) (heap_alloc_new w6 _)) (by simp [Value.oneCell']) (by decide) ?c3 ?c4 ?c5 (w6.heap.size + 1) (by simp) ?_)
        case c3 => unfold maxLen; omega
        case c4 => omega
        case c5 => have := HBA.out.size; simp; omega
        intro g cap w7 hown7 hgr hsel hgl
        have HO7 := Lib.hid hown7
        have HB7 := Lib.hid ((HBA.out.alloc (by have := HBA.out.size; omega) (.cells #[.string ⟨#[102, 97, 108, 115, 101]⟩] 9)).grown hgr (by have := HBA.out.size; simp; omega) (fun b e => (HLT.out b e).1))
        clear hown7 hgr hsel hgl
        go_wp2_with (fail)
        exact ⟨⟨k + 1, by omega, by go_num, by rw [HE3.out, show scells (ptS.take k ++ [⟨#[102, 97, 108, 115, 101]⟩]) = scells (ptS.take k) ++ [.string ⟨#[102, 97, 108, 115, 101]⟩] by simp [scells]]; exact HO7, HB7⟩, by simp [intOf]; omega⟩
    · obtain rfl : k = 2 := by omega
      obtain ⟨g5, c5, rfl, hc5, hg5, hcs5⟩ := str_own (l := ptS) hown.out (by decide)
      have HB5 := Lib.hid (HB4.out.trans (hbw.out.mono HB4.out.size))
      obtain ⟨c0, c1, c2⟩ := (HT4.out.below hbw.out HZ4.out).now
      have HJ := Lib.hid (fun (W : World) (hb : Below wr.heap.size wr W) => sjoin_any g5 0 c5 ptS ⟨#[44, 32]⟩ W (fun j x hj => (hb.cell (p := ⟨g5, 0 + j, none⟩) hg5).trans (hcs5 j x hj)) (by have := hb.size; omega) (by decide) hc5 (by rw [join_pt]; decide))
      rw [join_pt] at HJ
      have HBR := Lib.hid (brackets_pt wr)
      clear hcs5 hg5 hc5 hown hbw
      go_wp2_with (fail)
      refine HBR.out.mono ?_
      rintro e w6 ⟨rfl, hb6⟩
      have HB6 := Lib.hid (HB5.out.trans (hb6.mono HB5.out.size))
      have HJ6 := Lib.hid (HJ.out w6 hb6)
      clear hb6 HJ HBR
      go_wp2_with (fail)
      refine HJ6.out.mono ?_
      rintro e w7 ⟨rfl, hb7⟩
      have HB7 := Lib.hid (HB6.out.trans (hb7.mono HB6.out.size))
      clear hb7
      go_wp2_with (fail)
      go_ret
      exact ⟨rfl, HB7.out⟩
end Go.Proofs.YtoopnddlcofhoaaGreatDoor
