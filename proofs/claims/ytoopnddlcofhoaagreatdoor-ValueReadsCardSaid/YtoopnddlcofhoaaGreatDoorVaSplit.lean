/- What is proved: split returns the words of a text. -/
import Derived.Test.YtoopnddlcofhoaaGreatDoorLxSpaces
import Derived.Test.YtoopnddlcofhoaaGreatDoorVaFmt
import Derived.Deep.Onto
set_option linter.unusedVariables false
namespace Go.Proofs.YtoopnddlcofhoaaGreatDoor
open Go.RowKit

/-- the words of a text, but for the end -/
def wds (s : ByteArray) : List ByteArray := (Lx.scan s.data.toList).dropLast.map (Lx.word s)
theorem toks_cap {w : World} {B : Nat} {v : Value} {l : List Lx.Tok} {m : Nat} (h : w.ownsRow B 66 4 v l.length (Lx.tcells l)) (hl : l.length = m + 1) :
    ∃ g c, v = .slice (some ⟨g, 0, none⟩) (m + 1) c ∧ m + 1 ≤ c ∧ g < w.heap.size ∧ Lx.TokA w (some ⟨g, 0, none⟩) l := by
  obtain ⟨A, c, hv, hr⟩ := Lx.toks_own h
  rcases h.2 with ⟨_, h1⟩ | ⟨g, cap, cur, hv2, hB, hg, hn, _⟩
  · omega
  · have hb : v.ownBlock = some g := by rw [hv2]; rfl
    rw [hv] at hv2
    injection hv2 with e1 e2 e3
    subst e1 e3
    rw [hl] at hv hn
    exact ⟨g, c, hv, hn, (h.lt g hb).2, hr⟩
theorem scan_last (s : ByteArray) : ∃ m, (Lx.scan s.data.toList).length = m + 1 ∧ (Lx.scan s.data.toList).dropLast.length = m := by
  have h := Lx.scan_ne s.data.toList
  cases hl : Lx.scan s.data.toList with
  | nil => exact absurd hl h
  | cons a r => exact ⟨r.length, by simp, by simp⟩
theorem toks_drop {w : World} {A : Option Addr} {l : List Lx.Tok} (h : Lx.TokA w A l) : Lx.TokA w A l.dropLast := by
  intro h0
  obtain ⟨b, off, hA, hb, hr⟩ := h (by simp at h0; omega)
  refine ⟨b, off, hA, hb, fun i hi => ?_⟩
  have := hr i (by simp at hi; omega)
  rw [List.getElem_dropLast]
  exact this
theorem fit_drop {n : Int} {l : List Lx.Tok} (h : Lx.fitB n l = true) : Lx.fitB n l.dropLast = true := by
  unfold Lx.fitB at h ⊢
  simp only [Bool.and_eq_true, List.all_eq_true, decide_eq_true_eq] at h ⊢
  exact ⟨fun x hx => h.1 x (List.dropLast_subset _ hx), by simp; omega⟩

set_option maxRecDepth 100000 in
set_option maxHeartbeats 1000000 in
theorem split_any (s : ByteArray) (w : World) (hs : s.size ≤ 4096) :
    Calls Tryz.prog 47 #[.string s] w fun e w' => ∃ v, e = .returned (.tuple #[v, .bool true]) ∧ w'.ownsRow w.heap.size 9 1 v (wds s).length (scells (wds s)) ∧ Below w.heap.size w w' := by
  obtain ⟨m, hm, hd⟩ := scan_last s
  have HM := Lib.hid hm
  have HD := Lib.hid hd
  have hm4 : m ≤ 4096 := by have := Lx.scan_length s.data.toList; have e : s.data.toList.length = s.size := by simp
                            omega
  have HS := Lib.hid (Lx.scan_good s w hs)
  have HF := Lib.hid (fit_drop (Lx.scan_fit s hs))
  clear hm hd
  go_enter Tryz.func47, Tryz.ntmps47
  go_wp2_with (fail)
  refine HS.out.mono ?_
  rintro e w1 ⟨v, rfl, hown, hb⟩
  obtain ⟨g, c, rfl, hc, hg, hr⟩ := toks_cap hown HM.out
  have HB := Lib.hid hb
  have HR := Lib.hid (toks_drop hr)
  have HW := Lib.hid (Lx.words_good s (some ⟨g, 0, none⟩) c (Lx.scan s.data.toList).dropLast w1 (by omega) HR.out HF.out)
  rw [HD.out] at HW
  have k1 : (m : Int) + 1 - 1 = m := by omega
  have k2 : IntKind.i64.wrap (m : Int) = m := IntWalk.i64_in _ (by omega)
  have k3 : (0 : Int) ≤ (m : Int) := by omega
  have k4 : m ≤ c := by omega
  have k5 : (m : Int) ≤ (c : Int) := by omega
  clear hown hb hr HS
  go_wp2_with (fail)
  refine HW.out.mono ?_
  rintro e w2 ⟨v2, rfl, hown2, hb2⟩
  have HO := Lib.hid hown2
  have HB2 := Lib.hid hb2
  clear hown2 hb2
  go_wp2_with (fail)
  go_ret2
  have e : (wds s).length = m := by unfold wds; rw [List.length_map]; exact HD.out
  refine ⟨_, rfl, ?_, HB.out.trans (HB2.out.mono HB.out.size)⟩
  rw [e]
  exact HO.out.mono HB.out.size
end Go.Proofs.YtoopnddlcofhoaaGreatDoor
