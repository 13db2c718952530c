/- What is proved: parts, the scalars of a type that exists. -/
import Derived.Test.YtoopnddlcofhoaaGreatDoorTyRow
import Derived.Test.YtoopnddlcofhoaaGreatDoorTySame2
set_option linter.unusedVariables false
namespace Go.Proofs.YtoopnddlcofhoaaGreatDoor
open Go.RowKit

/-- a row of new types is returned -/
def RowRes (l : List TyV) (w : World) (e : Ending) (w' : World) : Prop := ∃ v, e = .returned v ∧ w'.ownsRow w.heap.size 23 3 v l.length (tcells l) ∧ Below w.heap.size w w'

set_option maxHeartbeats 1000000 in
theorem parts_basic (t : TyV) (A : Option Addr) (c : Nat) (l : List RcV) (w : World) (h3 : (t.kind == 3) = false) (h4 : (t.kind == 4) = false) :
    Calls Tryz.prog 35 #[.agg #[.int .i64 t.kind, .int .i64 t.len, .string t.nm], .slice A l.length c] w (RowRes [t] w) := by
  go_enter Tryz.func35, Tryz.ntmps35
  go_wp2_with (fail)
  go_ret
  have hb := ((Below.refl w.heap.size w).alloc (Nat.le_refl _) (.cells #[.int .i64 t.kind, .int .i64 t.len, .string t.nm] 23)).alloc (by simp) (.cells #[.int .i64 t.kind, .int .i64 t.len, .string t.nm] 23)
  have hn := heap_alloc_new (w.alloc (.cells #[.int .i64 t.kind, .int .i64 t.len, .string t.nm] 23)) (.cells #[.int .i64 t.kind, .int .i64 t.len, .string t.nm] 23)
  rw [World.size_alloc] at hn
  exact ⟨_, rfl, own_block [t] hn _ (by omega) (by simp), hb⟩

theorem int_box (w : World) (k : Int) : TCells (w.alloc (.cells #[.int .i64 k, .int .i64 0, .string ⟨#[]⟩] 23)) w.heap.size 0 (bsc k) := TCells.of_box (x := bsc k)

set_option maxHeartbeats 2000000 in
theorem parts_array (t : TyV) (n : Nat) (A : Option Addr) (c : Nat) (l : List RcV) (w : World) (h3 : (t.kind == 3) = true) (hn : t.len = (n : Int)) (h1 : 1 ≤ n) (h8 : n ≤ 8) :
    Calls Tryz.prog 35 #[.agg #[.int .i64 t.kind, .int .i64 t.len, .string t.nm], .slice A l.length c] w (RowRes (List.replicate n (bsc 1)) w) := by
  have HN := Lib.hid hn
  clear hn
  go_enter Tryz.func35, Tryz.ntmps35
  go_wp2_with (fail)
  obtain ⟨hb0, hc0, hs0⟩ := box_ty w t
  generalize (w.alloc (.cells #[.int .i64 t.kind, .int .i64 t.len, .string t.nm] 23)) = w0 at *
  have HB0 := Lib.hid hb0
  have HC0 := Lib.hid hc0
  have HS0 := Lib.hid (show w.heap.size + 1 ≤ w0.heap.size by omega)
  obtain ⟨c0, c1, c2⟩ := hc0.now
  rw [HN.out] at c1
  clear hb0 hc0 hs0 c0 c2
  go_region_held3 (fun w' => w'.cell? ⟨w.heap.size, 1, none⟩ = some (.int .i64 (n : Int))) (first | (with_reducible exact HKA.out) | (with_reducible exact HK.out) | go_keep)
    ((first
      | (go_at_call 33; refine (ty_basic_any 1 _).mono ?_; rintro e w1 ⟨rfl, hb⟩; have HB1 := Lib.hid (HB0.out.trans (((Below.refl _ _).drew.trans hb).mono (by have := HS0.out; show w.heap.size ≤ w0.heap.size; omega))); have HS1 := Lib.hid (Nat.le_trans HS0.out hb.size); have HK := Lib.hid (show w1.cell? ⟨w.heap.size, 1, none⟩ = some (.int .i64 (n : Int)) from ((hb.cell (p := ⟨w.heap.size, 1, none⟩) (by have := HS0.out; show w.heap.size < w0.heap.size; omega)).trans c1)); have HA := Lib.hid ((Below.refl w1.heap.size w1).alloc (Nat.le_refl _) (.cells #[.int .i64 1, .int .i64 0, .string ⟨#[]⟩] 23)); have HT := Lib.hid (show TCells (w1.alloc (.cells #[.int .i64 1, .int .i64 0, .string ⟨#[]⟩] 23)) w1.heap.size 0 (bsc 1) from int_box w1 1); have HKA := Lib.hid ((HA.out.cell (p := ⟨w.heap.size, 1, none⟩) (by have := HS1.out; show w.heap.size < w1.heap.size; omega)).trans HK.out); clear hb)
      | (go_at_call 53; (refine (repeat_any w1.heap.size n h1 h8 _ HT.out (by simp)).mono ?_); rintro e w2 ⟨rfl, hg2, hb2⟩; have HG2 := Lib.hid hg2; have HB2 := Lib.hid (HB1.out.trans ((HA.out.trans (hb2.mono (by simp))).mono HB1.out.size)); have HK := Lib.hid ((hb2.cell (p := ⟨w.heap.size, 1, none⟩) (by have := HS1.out; simp; omega)).trans HKA.out); clear hg2 hb2)))
  go_wp2_with (fail)
  go_ret
  refine ⟨_, rfl, ?_, HB2.out⟩
  have h := HG2.out
  rw [tcells_pats] at h
  have h2 := own_block (List.replicate n (bsc 1)) h w.heap.size (by have := HS1.out; simp; omega) (by simp; omega)
  simpa using h2
set_option maxHeartbeats 2000000 in
theorem parts_record (t : TyV) (r : RcV) (A : Option Addr) (c : Nat) (l : List RcV) (w : World) (h3 : (t.kind == 3) = false) (h4 : (t.kind == 4) = true) (hf : fndR l t.nm = some r) (hl20 : r.flds.length ≤ 20) (hr : RRow w.heap.size w A l) (hl : l.length ≤ 1000000000) :
    Calls Tryz.prog 35 #[.agg #[.int .i64 t.kind, .int .i64 t.len, .string t.nm], .slice A l.length c] w (RowRes (r.flds.map fty) w) := by
  obtain ⟨i0, hi0, hz0, hz1, hz2⟩ := info_parts infoType
  have HF := Lib.hid hf
  have HR := Lib.hid hr
  clear hf hr
  go_enter Tryz.func35, Tryz.ntmps35
  go_wp2_with (fail)
  obtain ⟨hb0, hc0, hs0⟩ := box_ty w t
  generalize (w.alloc (.cells #[.int .i64 t.kind, .int .i64 t.len, .string t.nm] 23)) = w0 at *
  have HB0 := Lib.hid hb0
  have HS0 := Lib.hid (show w.heap.size + 1 ≤ w0.heap.size by omega)
  clear hb0 hc0 hs0
  refine (find_yes A c l t.nm r w0 HF.out (HR.out.later HB0.out) hl).mono ?_
  rintro e w1 ⟨rfl, hb1⟩
  have HB1 := Lib.hid (HB0.out.trans (hb1.mono (by have := HS0.out; omega)))
  have HFR := Lib.hid (HR.out.fields (fndR_mem HF.out)).1
  clear hb1
  go_wp2_with (fail)
  go_loopw [7, 30] (fun v i wr => ∃ k : Nat, k ≤ r.flds.length ∧ i = .int .i64 (k : Int) ∧ Hid (wr.ownsRow w.heap.size 23 3 v k (tcells ((r.flds.map fty).take k))) ∧ Hid (Below w.heap.size w wr)) (fun _ i _ => r.flds.length - (intOf i).toNat)
  case atStart => exact ⟨0, Nat.zero_le _, rfl, Lib.hid (by simpa [tcells] using World.ownsRow_nil _ _ _ _), HB1⟩
  case round =>
    obtain ⟨k, hk, rfl, hown, hbw⟩ := hrel
    by_cases hlt : k < r.flds.length
    · obtain ⟨b, off, hA, hb, hcs⟩ := (HFR.out.below hbw.out) (by omega)
      obtain ⟨c0, c1, c2, c3⟩ := hcs k hlt
      clear hcs
      obtain ⟨x, HX⟩ : ∃ x, Hid (r.flds[k] = x) := ⟨_, Lib.hid rfl⟩
      rw [HX.out] at c0 c1 c2 c3
      have HT := Lib.hid (show tcells ((r.flds.map fty).take (k + 1)) = tcells ((r.flds.map fty).take k) ++ tcells [fty x] by
        rw [← tcells_append, List.take_succ_eq_append_getElem (by simpa using hlt), List.getElem_map, HX.out])
      have hzw := hbw.out.size
      rw [hA]
      go_wp2_with (fail)
      clear c0 c1 c2 c3
      have hal := (Below.refl wr.heap.size wr).alloc (Nat.le_refl _) (.cells #[.string x.name, .int .i64 x.ty.kind, .int .i64 x.ty.len, .string x.ty.nm] 55)
      have hza : (wr.alloc (.cells #[.string x.name, .int .i64 x.ty.kind, .int .i64 x.ty.len, .string x.ty.nm] 55)).heap.size = wr.heap.size + 1 := by simp
      generalize (wr.alloc (.cells #[.string x.name, .int .i64 x.ty.kind, .int .i64 x.ty.len, .string x.ty.nm] 55)) = wa at *
      have HAL := Lib.hid hal
      refine (fieldType_any x wa).mono ?_
      rintro e w2 ⟨rfl, hb2⟩
      have HB2 := Lib.hid (hbw.out.trans ((HAL.out.trans (hb2.mono (by omega))).mono hzw))
      have HO2 := Lib.hid ((ty_own_below (ty_own_below hown.out HAL.out) hb2).alloc (.cells #[.int .i64 ((fty x)).kind, .int .i64 ((fty x)).len, .string ((fty x)).nm] 23))
      have HZ2 := Lib.hid (show w.heap.size ≤ w2.heap.size from HB2.out.size)
      have HLT := Lib.hid (fun b e => hown.out.lt b e)
      clear hal hza hb2
      generalize fty x = y at *
      go_wp2_with (at_builtin; refine wpList_append_lies _ rfl _ _ 46 rfl w.heap.size 23 i0 _ 3 32 Tryz.underlying46 hi0 hz0 hz1 hz2 rfl (by decide) _ _ _ rfl HO2.out ⟨w2.heap.size, 0, none⟩ 1 1 (tcells [y]) rfl rfl (World.news_of_block (cs := #[.int .i64 y.kind, .int .i64 y.len, .string y.nm]) (heap_alloc_new w2 _)) (tcells_one _) (by decide) ?c3 ?c4 ?c5 (w2.heap.size + 1) (by simp) ?_)
      case c3 => unfold maxLen; omega
      case c4 => omega
      case c5 => have := HZ2.out; simp; omega
      intro g cap w3 hown3 hgr hsel hgl
      have HO3 := Lib.hid hown3
      have HB3 := Lib.hid ((HB2.out.alloc HZ2.out (.cells #[.int .i64 y.kind, .int .i64 y.len, .string y.nm] 23)).grown hgr (by have := HZ2.out; simp; omega) (fun b e => (HLT.out b e).1))
      clear hown3 hgr hsel hgl
      go_wp2_with (fail)
      exact ⟨⟨k + 1, by omega, by go_num, by rw [HT.out]; exact HO3, HB3⟩, by simp [intOf]; omega⟩
    · obtain rfl : k = r.flds.length := by omega
      go_wp2_with (fail)
      go_ret
      refine ⟨_, rfl, ?_, hbw.out⟩
      have h := hown.out
      rw [List.take_of_length_le (by simp)] at h
      simpa using h
theorem parts_any (t : TyV) (A : Option Addr) (c : Nat) (l : List RcV) (w : World) (hv : validB t l = true) (hr : RRow w.heap.size w A l) (hl : l.length ≤ 1000000000) (h20 : ∀ r ∈ l, r.flds.length ≤ 20) :
    Calls Tryz.prog 35 #[.agg #[.int .i64 t.kind, .int .i64 t.len, .string t.nm], .slice A l.length c] w (RowRes (partsT t l) w) := by
  by_cases k3 : t.kind = 3
  · have hb : 1 ≤ t.len ∧ t.len ≤ 8 := by
      unfold validB at hv
      rw [if_neg (by omega), if_pos k3] at hv
      simp only [Bool.and_eq_true, decide_eq_true_eq] at hv
      exact hv.1
    have h := parts_array t t.len.toNat A c l w (by simpa using k3) (by omega) (by omega) (by omega)
    rwa [show partsT t l = List.replicate t.len.toNat (bsc 1) by unfold partsT; rw [if_pos k3]]
  · by_cases k4 : t.kind = 4
    · obtain ⟨r, hf⟩ := kind4 k4 hv
      have h := parts_record t r A c l w (by simpa using k3) (by simpa using k4) hf (h20 r (fndR_mem hf)) hr hl
      rwa [show partsT t l = r.flds.map fty by unfold partsT; rw [if_neg k3, if_pos k4, hf]]
    · rw [show partsT t l = [t] by unfold partsT; rw [if_neg k3, if_neg k4]]
      exact parts_basic t A c l w (by simpa using k3) (by simpa using k4)
theorem parts_len (t : TyV) (l : List RcV) (hv : validB t l = true) (h20 : ∀ r ∈ l, r.flds.length ≤ 20) : (partsT t l).length ≤ 20 := by
  unfold partsT
  by_cases k3 : t.kind = 3
  · have hb : 1 ≤ t.len ∧ t.len ≤ 8 := by
      unfold validB at hv
      rw [if_neg (by omega), if_pos k3] at hv
      simp only [Bool.and_eq_true, decide_eq_true_eq] at hv
      exact hv.1
    rw [if_pos k3]; simp; omega
  · rw [if_neg k3]
    by_cases k4 : t.kind = 4
    · obtain ⟨r, hf⟩ := kind4 k4 hv
      rw [if_pos k4, hf]
      simpa using h20 r (fndR_mem hf)
    · rw [if_neg k4]; simp
end Go.Proofs.YtoopnddlcofhoaaGreatDoor
