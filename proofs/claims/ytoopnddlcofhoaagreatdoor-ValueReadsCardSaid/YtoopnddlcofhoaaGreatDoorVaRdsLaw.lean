/- What is proved: the law ValueReads answers true. -/
import Derived.Test.YtoopnddlcofhoaaGreatDoorTySame
import Derived.Test.YtoopnddlcofhoaaGreatDoorVaRow
import Derived.Deep.Slices
import Derived.ChangeSlices
import Derived.ChangeSame
import Derived.Deep.Fields
import Derived.Lib.SmallJoins
import Derived.Test.YtoopnddlcofhoaaGreatDoorVaParse
import Derived.Test.YtoopnddlcofhoaaGreatDoorVaAwake
set_option linter.unusedVariables false
namespace Go.Proofs.YtoopnddlcofhoaaGreatDoor
open Go.RowKit

/-- few records, each with few fields -/
def fewB (l : List RcV) : Bool := l.all (fun r => decide (r.flds.length ≤ 20)) && decide (l.length ≤ 20)
theorem few_len {l : List RcV} (h : fewB l = true) : l.length ≤ 20 := by
  unfold fewB at h
  simp at h
  exact h.2
theorem few_fields {l : List RcV} (h : fewB l = true) {r : RcV} (hr : r ∈ l) : r.flds.length ≤ 20 := by
  unfold fewB at h
  simp at h
  exact h.1 r hr

set_option maxHeartbeats 1000000 in
theorem few_any (A : Option Addr) (c : Nat) (l : List RcV) (w : World) (hl : l.length ≤ 9223372036854775807) (hr : RRow w.heap.size w A l) :
    Calls Tryz.prog 4 #[.slice A l.length c] w fun e w' => e = .returned (.bool (fewB l)) ∧ w = w' := by
  have HR := Lib.hid hr
  clear hr
  go_enter Tryz.func4, Tryz.ntmps4
  go_wp2_with (fail)
  go_loop [3] (fun i => ∃ k : Nat, k ≤ l.length ∧ i = .int .i64 (k : Int) ∧ Hid ((l.take k).all (fun r => decide (r.flds.length ≤ 20)) = true)) (fun i => l.length - (intOf i).toNat)
  case atStart => exact ⟨0, Nat.zero_le _, rfl, rfl⟩
  case round =>
    obtain ⟨k, hk, rfl, hal⟩ := hrel
    by_cases hlt : k < l.length
    · obtain ⟨b, off, rfl, hb, hr⟩ := HR.out (by omega)
      obtain ⟨c1, c2, _, hfl⟩ := hr k hlt
      clear hr
      obtain ⟨x, HX⟩ : ∃ x, Hid (l[k] = x) := ⟨_, Lib.hid rfl⟩
      rw [HX.out] at c1 c2 hfl
      have HT := Lib.hid (show (l.take (k + 1)).all (fun r => decide (r.flds.length ≤ 20)) = ((l.take k).all (fun r => decide (r.flds.length ≤ 20)) && decide (x.flds.length ≤ 20)) by
        rw [List.take_succ_eq_append_getElem hlt, List.all_append, HX.out]; simp)
      by_cases g : x.flds.length ≤ 20
      · have HN := Lib.hid (show (l.take (k + 1)).all (fun r => decide (r.flds.length ≤ 20)) = true by rw [HT.out, hal.out]; simpa using g)
        have g' : decide ((20 : Int) < (x.flds.length : Int)) = false := by simp; omega
        go_wp2_with (fail)
        exact ⟨⟨k + 1, by omega, by go_num, HN⟩, by simp [intOf]; omega⟩
      · have HN := Lib.hid (show fewB l = false by
          unfold fewB
          have : l.all (fun r => decide (r.flds.length ≤ 20)) = false := by
            rw [List.all_eq_false]
            exact ⟨l[k], List.getElem_mem hlt, by rw [HX.out]; simpa using g⟩
          rw [this]; rfl)
        have g' : decide ((20 : Int) < (x.flds.length : Int)) = true := by simp; omega
        go_wp2_with (fail)
        go_ret
        exact ⟨ret_bool HN.out.symm, rfl⟩
    · have HN := Lib.hid (show fewB l = decide (l.length ≤ 20) by
        have h := hal.out
        rw [List.take_of_length_le (by omega)] at h
        unfold fewB
        rw [h]; rfl)
      by_cases g : l.length ≤ 20
      · go_wp2_with (fail)
        go_ret
        exact ⟨ret_bool (HN.out.trans (by simp; omega)).symm, rfl⟩
      · go_wp2_with (fail)
        go_ret
        exact ⟨ret_bool (HN.out.trans (by simp; omega)).symm, rfl⟩
theorem few_f (A : Option Addr) (c : Nat) (l : List RcV) (w : World) (v : Bool) (hv : fewB l = v) (hl : l.length ≤ 9223372036854775807) (hr : RRow w.heap.size w A l) :
    Calls Tryz.prog 4 #[.slice A l.length c] w fun e w' => e = .returned (.bool v) ∧ w = w' := by
  rw [← hv]
  exact few_any A c l w hl hr

end Go.Proofs.YtoopnddlcofhoaaGreatDoor
set_option linter.unusedVariables false
namespace Go.Proofs.YtoopnddlcofhoaaGreatDoor
open Go.RowKit

/-- a slice of records, whatever their number -/
def RRowW (n₀ : Nat) (w : World) (A : Option Addr) (l : List RcV) : Prop :=
  0 < l.length → ∃ b off, A = some ⟨b, off, none⟩ ∧ b < n₀ ∧ ∀ (i : Nat) (h : i < l.length),
    w.cell? ⟨b, off + i * 2, none⟩ = some (.string l[i].name) ∧ w.cell? ⟨b, off + i * 2 + 1, none⟩ = some (.slice l[i].A l[i].flds.length l[i].c) ∧ FRow n₀ w l[i].A l[i].flds ∧ l[i].flds.length ≤ 9223372036854775807

theorem RRowW.below {n₀ : Nat} {w w' : World} {A : Option Addr} {l : List RcV} (h : RRowW n₀ w A l) (hb : Below n₀ w w') : RRowW n₀ w' A l := fun h0 => by
  obtain ⟨b, off, e, hlt, hc⟩ := h h0
  exact ⟨b, off, e, hlt, fun i hi => ⟨(hb.cell (p := ⟨b, off + i * 2, none⟩) hlt).trans (hc i hi).1, (hb.cell (p := ⟨b, off + i * 2 + 1, none⟩) hlt).trans (hc i hi).2.1, (hc i hi).2.2.1.below hb, (hc i hi).2.2.2⟩⟩
theorem RRowW.mono {n₀ n₁ : Nat} {w : World} {A : Option Addr} {l : List RcV} (h : RRowW n₀ w A l) (hn : n₀ ≤ n₁) : RRowW n₁ w A l := fun h0 => by
  obtain ⟨b, off, e, hlt, hc⟩ := h h0
  exact ⟨b, off, e, Nat.lt_of_lt_of_le hlt hn, fun i hi => ⟨(hc i hi).1, (hc i hi).2.1, (hc i hi).2.2.1.mono hn, (hc i hi).2.2.2⟩⟩
theorem RRowW.later {w w' : World} {A : Option Addr} {l : List RcV} (h : RRowW w.heap.size w A l) (hb : Below w.heap.size w w') : RRowW w'.heap.size w' A l := (h.below hb).mono hb.size
theorem RRowW.few {n₀ : Nat} {w : World} {A : Option Addr} {l : List RcV} (h : RRowW n₀ w A l) (hf : fewB l = true) : RRow n₀ w A l := fun h0 => by
  obtain ⟨b, off, e, hlt, hc⟩ := h h0
  exact ⟨b, off, e, hlt, fun i hi => ⟨(hc i hi).1, (hc i hi).2.1, (hc i hi).2.2.1, by have := few_fields hf (List.getElem_mem hi); omega⟩⟩

set_option maxHeartbeats 1000000 in
theorem fewW_any (A : Option Addr) (c : Nat) (l : List RcV) (w : World) (hl : l.length ≤ 9223372036854775807) (hr : RRowW w.heap.size w A l) :
    Calls Tryz.prog 4 #[.slice A l.length c] w fun e w' => e = .returned (.bool (fewB l)) ∧ w = w' := by
  have HR := Lib.hid hr
  clear hr
  go_enter Tryz.func4, Tryz.ntmps4
  go_wp2_with (fail)
  go_loop [3] (fun i => ∃ k : Nat, k ≤ l.length ∧ i = .int .i64 (k : Int) ∧ Hid ((l.take k).all (fun r => decide (r.flds.length ≤ 20)) = true)) (fun i => l.length - (intOf i).toNat)
  case atStart => exact ⟨0, Nat.zero_le _, rfl, rfl⟩
  case round =>
    obtain ⟨k, hk, rfl, hal⟩ := hrel
    by_cases hlt : k < l.length
    · obtain ⟨b, off, rfl, hb, hr⟩ := HR.out (by omega)
      obtain ⟨c1, c2, _, hfl⟩ := hr k hlt
      clear hr
      obtain ⟨x, HX⟩ : ∃ x, Hid (l[k] = x) := ⟨_, Lib.hid rfl⟩
      rw [HX.out] at c1 c2 hfl
      have HT := Lib.hid (show (l.take (k + 1)).all (fun r => decide (r.flds.length ≤ 20)) = ((l.take k).all (fun r => decide (r.flds.length ≤ 20)) && decide (x.flds.length ≤ 20)) by
        rw [List.take_succ_eq_append_getElem hlt, List.all_append, HX.out]; simp)
      by_cases g : x.flds.length ≤ 20
      · have HN := Lib.hid (show (l.take (k + 1)).all (fun r => decide (r.flds.length ≤ 20)) = true by rw [HT.out, hal.out]; simpa using g)
        have g' : decide ((20 : Int) < (x.flds.length : Int)) = false := by simp; omega
        go_wp2_with (fail)
        exact ⟨⟨k + 1, by omega, by go_num, HN⟩, by simp [intOf]; omega⟩
      · have HN := Lib.hid (show fewB l = false by
          unfold fewB
          have : l.all (fun r => decide (r.flds.length ≤ 20)) = false := by
            rw [List.all_eq_false]
            exact ⟨l[k], List.getElem_mem hlt, by rw [HX.out]; simpa using g⟩
          rw [this]; rfl)
        have g' : decide ((20 : Int) < (x.flds.length : Int)) = true := by simp; omega
        go_wp2_with (fail)
        go_ret
        exact ⟨ret_bool HN.out.symm, rfl⟩
    · have HN := Lib.hid (show fewB l = decide (l.length ≤ 20) by
        have h := hal.out
        rw [List.take_of_length_le (by omega)] at h
        unfold fewB
        rw [h]; rfl)
      by_cases g : l.length ≤ 20
      · go_wp2_with (fail)
        go_ret
        exact ⟨ret_bool (HN.out.trans (by simp; omega)).symm, rfl⟩
      · go_wp2_with (fail)
        go_ret
        exact ⟨ret_bool (HN.out.trans (by simp; omega)).symm, rfl⟩
theorem fewW_f (A : Option Addr) (c : Nat) (l : List RcV) (w : World) (v : Bool) (hv : fewB l = v) (hl : l.length ≤ 9223372036854775807) (hr : RRowW w.heap.size w A l) :
    Calls Tryz.prog 4 #[.slice A l.length c] w fun e w' => e = .returned (.bool v) ∧ w = w' := by
  rw [← hv]
  exact fewW_any A c l w hl hr

end Go.Proofs.YtoopnddlcofhoaaGreatDoor
set_option linter.unusedVariables false
namespace Go.Proofs.YtoopnddlcofhoaaGreatDoor
open Go.RowKit Go.Joins Go.ChangeShapes Go.WideShapes Go.Deep

theorem intCells : Tryz.prog.cellsOf 3 = 1 := by kernel_rfl
/-- what is known of an argument's list: its room, its size, its numbers -/
def ZArg (W : World) (A : Option Addr) (c : Nat) (l : List Int) : Prop := l.length ≤ c ∧ l.length ≤ 9223372036854775807 ∧ ZRow W.heap.size W A l ∧ ∀ i, -9223372036854775808 ≤ l.getD i 0 ∧ l.getD i 0 ≤ 9223372036854775807
set_option maxRecDepth 100000 in
theorem open_zs {H : Type} {enc : TypeId × Value → H} {W : World} {base : Nat} {v : Value} {d : DataW H} {p : List MemPlace}
    (hv : Value.okWide Tryz.prog W .any base 25 v) (h : DataW.Trod enc Tryz.prog W 0 (fun _ => true) true 25 v d p) :
    ∃ (A : Option Addr) (c : Nat) (l : List Int), v = .slice A l.length c ∧ ZArg W A c l := by
  obtain ⟨a, len, cap, rfl⟩ := okWide_slice Tryz.underlying25 hv
  obtain ⟨fuel, hf⟩ := h
  rcases open_ints Tryz.underlying25 Tryz.underlying3 intCells hf with ⟨hcs, hx⟩ | ⟨a', len', cap', zs, hcs, _, hl, hm, hlen, hx, hcell, hwf⟩
  · simp [Value.cells] at hcs
    obtain ⟨rfl, rfl, rfl⟩ := hcs
    exact ⟨none, 0, [], rfl, by simp, by simp, fun h0 => absurd h0 (by simp), fun i => by simp⟩
  · simp [Value.cells] at hcs
    obtain ⟨rfl, rfl, rfl⟩ := hcs
    have hle : len ≤ zs.length := by rw [hlen]; simp; exact hl
    have hll : (zs.take len).length = len := by rw [List.length_take]; omega
    refine ⟨some a', cap, zs.take len, by rw [hll], by rw [hll]; exact hl, by rw [hll]; unfold maxLen at hm; omega, fun h0 => ?_, fun i => ?_⟩
    · rw [hll] at h0
      obtain ⟨bk, off, spot⟩ := a'
      have h1 := hcell 0 (by omega)
      have hspot : spot = none := by simpa [Addr.add] using World.cell?_spot h1
      subst hspot
      have hbk : bk < W.heap.size := World.block_lt_of_cell? W _ (by simpa [Addr.add] using h1)
      refine ⟨bk, off, rfl, hbk, fun i hil => ?_⟩
      have h2 := hcell i (by rw [hll] at hil; omega)
      rw [Go.WideShapes.add_plain] at h2
      rw [h2]
      have : i < zs.length := by rw [hll] at hil; omega
      simp [List.getD_eq_getElem?_getD, List.getElem?_eq_getElem this]
    · rcases Nat.lt_or_ge i (zs.take len).length with hi | hi
      · have hm2 : (zs.take len)[i] ∈ zs := List.mem_of_mem_take (List.getElem_mem hi)
        have hw := hwf _ hm2
        simp [Lit.wf, IntKind.min, IntKind.max, IntKind.bits, IntKind.signed] at hw
        rw [List.getD_eq_getElem?_getD, List.getElem?_eq_getElem hi]
        simp only [Option.getD_some, List.getElem_take]
        omega
      · rw [List.getD_eq_getElem?_getD, List.getElem?_eq_none hi]
        simp
end Go.Proofs.YtoopnddlcofhoaaGreatDoor
set_option linter.unusedVariables false
namespace Go.Proofs.YtoopnddlcofhoaaGreatDoor
open Go.RowKit

theorem scS_size (wd : Int) (q : Bool) (n : Int) (h : scB wd q n = true) : (scS q n).data.toList.length ≤ 5 := by
  have hb := sc_bound h
  unfold scS
  cases q with
  | true =>
    rw [if_pos rfl]
    by_cases h0 : n = 0
    · rw [if_pos h0]; exact Nat.le_refl 5
    · rw [if_neg h0]; show 4 ≤ 5; omega
  | false =>
    rw [if_neg (by decide)]
    show (Lib.itoa n).length ≤ 5
    unfold Lib.itoa
    by_cases h0 : n < 0
    · rw [if_pos h0, List.length_cons]
      have := dec_len 2 n.natAbs (by omega)
      omega
    · rw [if_neg h0]
      have := dec_len 2 n.toNat (by omega)
      omega
theorem tail_size (wd : Int) : ∀ (ts : List TyV) (m : List Int), fitsZ wd ts m = true → (Lib.joinTail [44, 32] ((scSs ts m).map (·.data.toList))).length ≤ 7 * ts.length
  | t :: ts, n :: ns, h => by
    unfold fitsZ at h
    rw [Bool.and_eq_true] at h
    have h1 := scS_size wd _ n h.1
    have h2 := tail_size wd ts ns h.2
    show (Lib.joinTail [44, 32] ((scS (t.kind == 2) n).data.toList :: (scSs ts ns).map (·.data.toList))).length ≤ _
    rw [Lx.tail_cons]
    simp only [List.length_append, List.length_cons, List.length_nil] at h1 h2 ⊢
    omega
  | [], [], _ => by simp [scSs, Lib.joinTail]
  | [], _ :: _, h => by simp [fitsZ] at h
  | _ :: _, [], h => by simp [fitsZ] at h
theorem fmt_size (wd : Int) (ts : List TyV) (m : List Int) (h : fitsZ wd ts m = true) : (fmtL ts m).length ≤ 7 * ts.length := by
  unfold fmtL
  match ts, m, h with
  | t :: ts, n :: ns, h =>
    unfold fitsZ at h
    rw [Bool.and_eq_true] at h
    have h1 := scS_size wd _ n h.1
    have h2 := tail_size wd ts ns h.2
    show (Lib.join ((scS (t.kind == 2) n).data.toList :: (scSs ts ns).map (·.data.toList)) [44, 32]).length ≤ _
    rw [Lib.join_cons, List.length_append, List.length_cons]
    omega
  | [], [], _ => simp [scSs, Lib.join_nil]
  | [], _ :: _, h => simp [fitsZ] at h
  | _ :: _, [], h => simp [fitsZ] at h
theorem nm_size (t : TyV) (l : List RcV) (hv : validB t l = true) (hn : t.kind = 4 → Lx.nameB t.nm.data.toList = true) : t.nm.size ≤ 16 := by
  have e : t.nm.data.toList.length = t.nm.size := by simp
  by_cases h4 : t.kind = 4
  · have h := hn h4
    unfold Lx.nameB at h
    simp only [Bool.and_eq_true, decide_eq_true_eq] at h
    omega
  · have h0 : t.nm.toList = [] := by
      unfold validB at hv
      by_cases h12 : t.kind = 1 ∨ t.kind = 2
      · rw [if_pos h12] at hv
        simp only [Bool.and_eq_true, beq_iff_eq] at hv
        exact hv.2
      · rw [if_neg h12] at hv
        by_cases h3 : t.kind = 3
        · rw [if_pos h3] at hv
          simp only [Bool.and_eq_true, beq_iff_eq] at hv
          exact hv.2
        · rw [if_neg h3, if_neg h4] at hv
          cases hv
    rw [ByteArray.toList_eq] at h0
    rw [h0] at e
    simp at e
    omega
/-- all that the law wants to know of the texts -/
structure RdF (wd : Int) (t : TyV) (l : List RcV) (ts : List TyV) (m : List Int) (S G : ByteArray) : Prop where
  sz : S.size ≤ 400
  ws : Lx.Ws S.data.toList = Lx.vWl t ts m ++ [[]]
  wl : (Lx.vWl t ts m).length ≤ 400
  gz : G.size ≤ 4096
  gs : Lx.Ws G.data.toList = Lx.vWl t ts m ++ [[]]
  jn : (⟨(Lib.join (((Lx.scan S.data.toList).map (Lx.word S)).map (·.data.toList)) (⟨#[32, 35, 32, 99, 10]⟩ : ByteArray).data.toList).toArray⟩ : ByteArray) = G
  fm : (fmtL ts m).length ≤ 1000000
  nm : t.nm.size ≤ 16
theorem reads_facts (wd : Int) (t : TyV) (l : List RcV) (m : List Int) (hv : vlB wd t l m = true) (h20 : ∀ r ∈ l, r.flds.length ≤ 20) (hn : t.kind = 4 → Lx.nameB t.nm.data.toList = true) : ∃ G, RdF wd t l (scalT [t] l) m (valS t l m) G := by
  have hv2 : validB t l = true := by
    cases h : validB t l with
    | true => rfl
    | false => rw [vlB_type h] at hv; cases hv
  have hv3 : fitsZ wd (scalT [t] l) m = true := by
    cases h : fitsZ wd (scalT [t] l) m with
    | true => rfl
    | false => rw [vlB_fits h] at hv; cases hv
  have hnm := nm_size t l hv2 hn
  have htl := scalT_len t l h20
  have hfm := fmt_size wd _ m hv3
  have hws := Lx.ws_val t (scalT [t] l) m hn
  have hsz : (valS t l m).size ≤ 400 := by
    have h1 := brk_front t 16 hnm
    have h2 := brk_back t
    unfold valS
    rw [ByteArray.size_append, ByteArray.size_append]
    have h3 : (⟨(fmtL (scalT [t] l) m).toArray⟩ : ByteArray).size = (fmtL (scalT [t] l) m).length := by simp [ByteArray.size]
    omega
  obtain ⟨g1, g2, g3⟩ := Lx.gap_facts (valS t l m) (Lx.vWl t (scalT [t] l) m) hsz hws
  refine ⟨Lx.gapS (Lx.vWl t (scalT [t] l) m), hsz, hws, g3, g1, g2, ?_, by omega, hnm⟩
  have hw := (Lx.wds_of (valS t l m) _ (by omega) hws).2
  have e2 : Lx.words (valS t l m) (Lx.scan (valS t l m).data.toList) = (Lx.scan (valS t l m).data.toList).map (Lx.word (valS t l m)) := if_pos (Lx.scan_fit _ (by omega))
  rw [← e2, hw]
  unfold Lx.gapS
  congr 2
  simp [Function.comp_def, Lx.gap]
theorem RdF.sz2 {wd : Int} {t : TyV} {l : List RcV} {ts : List TyV} {m : List Int} {S G : ByteArray} (h : RdF wd t l ts m S G) : S.size ≤ 4096 := by have := h.sz; omega
theorem RdF.jlen {wd : Int} {t : TyV} {l : List RcV} {ts : List TyV} {m : List Int} {S G : ByteArray} (h : RdF wd t l ts m S G) : (Lib.join (((Lx.scan S.data.toList).map (Lx.word S)).map (·.data.toList)) (⟨#[32, 35, 32, 99, 10]⟩ : ByteArray).data.toList).length ≤ 140737488355328 := by
  have e := congrArg ByteArray.size h.jn
  have g := h.gz
  have e2 : ∀ x : List UInt8, (⟨x.toArray⟩ : ByteArray).size = x.length := fun x => by simp [ByteArray.size]
  rw [e2] at e
  omega
theorem RdF.slen {wd : Int} {t : TyV} {l : List RcV} {ts : List TyV} {m : List Int} {S G : ByteArray} (h : RdF wd t l ts m S G) : ((Lx.scan S.data.toList).map (Lx.word S)).length ≤ 1000000 := by
  have h1 := Lx.scan_length S.data.toList
  have h2 : S.data.toList.length = S.size := by simp
  have h3 := h.sz
  rw [List.length_map]
  omega

set_option maxRecDepth 100000 in
set_option maxHeartbeats 8000000 in
theorem reads_law (wd : Int) (t : TyV) (A C : Option Addr) (c cc : Nat) (l : List RcV) (m : List Int) (W : World) (hwd : IntKind.i64.wrap wd = wd) (hr : RRowW W.heap.size W A l) (hl : l.length ≤ 9223372036854775807) (hz : ZArg W C cc m) (htab : Tab10 W) :
    Calls Tryz.prog 3 #[.int .i64 wd, .agg #[.int .i64 t.kind, .int .i64 t.len, .string t.nm], .slice A l.length c, .slice C m.length cc] W fun e w' => e = .returned (.bool true) ∧ Below W.heap.size W w' := by
  obtain ⟨hzc, hm63, hzr, hz64⟩ := hz
  have HZR := Lib.hid hzr
  have HTB := Lib.hid htab
  have H64 := Lib.hid (show ∀ n ∈ m, -9223372036854775808 ≤ n ∧ n ≤ 9223372036854775807 from fun n hn => by
    obtain ⟨i, hi, rfl⟩ := List.getElem_of_mem hn
    have := hz64 i
    rwa [List.getD_eq_getElem?_getD, List.getElem?_eq_getElem hi] at this)
  have HAW := Lib.hid (fun w => va_awake w)
  obtain ⟨W2, HW2, hb2, hz2, ht2⟩ := va_start t W
  have HB2 := Lib.hid hb2
  have HZ2 := Lib.hid (show W.heap.size < W2.heap.size from by omega)
  have HT2 := Lib.hid ht2
  have HFE := Lib.hid (fewW_any A c l W2 hl (hr.later hb2))
  obtain ⟨c0, c1, c2⟩ := ht2.now
  clear hz64 hzr htab hb2 hz2 ht2 hzc
  cases hf : fewB l with
  | false =>
    rw [hf] at HFE
    clear hf
    go_enter Tryz.func3, Tryz.ntmps3
    go_wp2_with (fail)
    refine HFE.out.mono ?_
    rintro e w3 ⟨rfl, rfl⟩
    go_wp2_with (fail)
    refine (HAW.out _).mono ?_
    rintro e w9 ⟨rfl, hb9⟩
    have HB9 := Lib.hid (HB2.out.trans (hb9.mono HB2.out.size))
    clear hb9
    go_wp2_with (fail)
    go_ret
    exact ⟨rfl, HB9.out⟩
  | true =>
    rw [hf] at HFE
    have HRR := Lib.hid (hr.few hf)
    have HL20 := Lib.hid (few_len hf)
    have H20 := Lib.hid (show ∀ r ∈ l, r.flds.length ≤ 20 from fun r hr => few_fields hf hr)
    have HVA := Lib.hid (val_any wd t A C c cc l m W2 hwd (HRR.out.later HB2.out) (HZR.out.later HB2.out) (by have := HL20.out; omega) H20.out hm63)
    clear hf hr
    cases hv : vlB wd t l m with
    | false =>
      rw [hv] at HVA
      clear hv
      go_enter Tryz.func3, Tryz.ntmps3
      go_wp2_with (fail)
      refine HFE.out.mono ?_
      rintro e w3 ⟨rfl, rfl⟩
      go_wp2_with (fail)
      refine HVA.out.mono ?_
      rintro e w3 ⟨rfl, hb3⟩
      have HB3 := Lib.hid (HB2.out.trans (hb3.mono HB2.out.size))
      have HT3 := Lib.hid (HT2.out.below hb3 HZ2.out)
      clear hb3 c0 c1 c2
      obtain ⟨c0, c1, c2⟩ := HT3.out.now
      go_wp2_with (fail)
      refine (HAW.out _).mono ?_
      rintro e w9 ⟨rfl, hb9⟩
      have HB9 := Lib.hid (HB3.out.trans (hb9.mono HB3.out.size))
      clear hb9
      go_wp2_with (fail)
      go_ret
      exact ⟨rfl, HB9.out⟩
    | true =>
      rw [hv] at HVA
      have HV2 := Lib.hid (show validB t l = true from by
        cases h : validB t l with
        | true => rfl
        | false => rw [vlB_type h] at hv; cases hv)
      have HFZ := Lib.hid (show fitsZ wd (scalT [t] l) m = true from by
        cases h : fitsZ wd (scalT [t] l) m with
        | true => rfl
        | false => rw [vlB_fits h] at hv; cases hv)
      have HLEN := Lib.hid (fitsZ_len wd _ m HFZ.out)
      have HLM := Lib.hid (show m.length ≤ 20 from by have := HLEN.out; have := scalT_len t l H20.out; omega)
      have HVV := Lib.hid hv
      have HSk := Lib.hid (fun (w' : World) (h : Below W.heap.size W w') => h.size)
      clear hv
      by_cases hk : t.kind = 4
      · have hk4 : (t.kind == 4) = true := by rw [hk]; rfl
        cases hnb : Lx.nameB t.nm.data.toList with
        | false =>
          have HNA := Lib.hid (fun W' => Lx.r_name_any t.nm W')
          rw [hnb] at HNA
          clear hnb hk
          go_enter Tryz.func3, Tryz.ntmps3
          go_wp2_with (fail)
          refine HFE.out.mono ?_
          rintro e w3 ⟨rfl, rfl⟩
          go_wp2_with (fail)
          refine HVA.out.mono ?_
          rintro e w3 ⟨rfl, hb3⟩
          have HB3 := Lib.hid (HB2.out.trans (hb3.mono HB2.out.size))
          have HT3 := Lib.hid (HT2.out.below hb3 HZ2.out)
          clear hb3 c0 c1 c2
          obtain ⟨c0, c1, c2⟩ := HT3.out.now
          go_wp2_with (fail)
          refine (HNA.out _).mono ?_
          rintro e w4 ⟨rfl, hb4⟩
          have HB4 := Lib.hid (HB3.out.trans (hb4.mono HB3.out.size))
          clear hb4
          go_wp2_with (fail)
          refine (HAW.out _).mono ?_
          rintro e w9 ⟨rfl, hb9⟩
          have HB9 := Lib.hid (HB4.out.trans (hb9.mono HB4.out.size))
          clear hb9
          go_wp2_with (fail)
          go_ret
          exact ⟨rfl, HB9.out⟩
        | true =>
          have HNA := Lib.hid (fun W' => Lx.r_name_any t.nm W')
          rw [hnb] at HNA
          obtain ⟨G, hrf⟩ := reads_facts wd t l m HVV.out H20.out (fun _ => hnb)
          obtain ⟨S, HS⟩ : ∃ S, Hid (valS t l m = S) := ⟨_, Lib.hid rfl⟩
          rw [HS.out] at hrf
          have HRF := Lib.hid hrf
          have HPA := Lib.hid (fun (s : ByteArray) (hs : s.size ≤ 4096) (hW : Lx.Ws s.data.toList = Lx.vWl t (scalT [t] l) m ++ [[]]) (W' : World) (h : RRow W'.heap.size W' A l) => parse_any wd t A c l (scalT [t] l) m s W' hwd h (by have := HL20.out; omega) H20.out rfl HVV.out (fun _ => hnb) (by have := HRF.out.nm; omega) hs hW HRF.out.wl)
          have hj := fun (B : Nat) (v : Value) (W' : World) (h : W'.ownsRow B 9 1 v (Lx.scan S.data.toList).length (Lx.scells ((Lx.scan S.data.toList).map (Lx.word S)))) => sjoin_own (w := W') (B := B) (v := v) (L := (Lx.scan S.data.toList).map (Lx.word S)) (by rw [List.length_map]; exact h) ⟨#[32, 35, 32, 99, 10]⟩ HRF.out.jlen HRF.out.slen W' (Below.refl _ _)
          rw [HRF.out.jn] at hj
          have HJ := Lib.hid hj
          clear hj
          clear hnb hk hrf
          go_enter Tryz.func3, Tryz.ntmps3
          go_wp2_with (fail)
          refine HFE.out.mono ?_
          rintro e w3 ⟨rfl, rfl⟩
          go_wp2_with (fail)
          refine HVA.out.mono ?_
          rintro e w3 ⟨rfl, hb3⟩
          have HB3 := Lib.hid (HB2.out.trans (hb3.mono HB2.out.size))
          have HT3 := Lib.hid (HT2.out.below hb3 HZ2.out)
          have HZ3 := Lib.hid (show W.heap.size < w3.heap.size from by have := hb3.size; have := HZ2.out; omega)
          clear hb3 c0 c1 c2
          obtain ⟨c0, c1, c2⟩ := HT3.out.now
          go_wp2_with (fail)
          refine (HNA.out _).mono ?_
          rintro e wk ⟨rfl, hb4⟩
          have HBk := Lib.hid (HB3.out.trans (hb4.mono HB3.out.size))
          have HTk := Lib.hid (HT3.out.below hb4 HZ3.out)
          have HZk := Lib.hid (show W.heap.size < wk.heap.size from by have := hb4.size; have := HZ3.out; omega)
          clear hb4 c0 c1 c2
          have HFM := Lib.hid (vformat_any t A C c cc l m wk (HRR.out.later HBk.out) (HZR.out.later HBk.out) (by have := HL20.out; omega) H20.out HV2.out HLEN.out H64.out (by have := HRF.out.nm; omega) HRF.out.fm (Lib.tabBelow_of_tabIs HTB.out _ HBk.out))
          rw [HS.out] at HFM
          obtain ⟨c0, c1, c2⟩ := HTk.out.now
          go_wp2_with (fail)
          refine HFM.out.mono ?_
          rintro e w5 ⟨rfl, hb5⟩
          have HB5 := Lib.hid (HBk.out.trans (hb5.mono HBk.out.size))
          have HT5 := Lib.hid (HTk.out.below hb5 HZk.out); have HZ5 := Lib.hid (Nat.lt_of_lt_of_le HZk.out hb5.size)
          clear hb5 c0 c1 c2
          obtain ⟨c0, c1, c2⟩ := HT5.out.now
          go_wp2_with (fail)
          refine (HPA.out S HRF.out.sz2 HRF.out.ws w5 (HRR.out.later HB5.out)).mono ?_
          rintro e w6 ⟨v6, rfl, ho6, hb6⟩
          obtain ⟨A6, c6, rfl, _, hz6⟩ := z_row ho6
          have HB6 := Lib.hid (HB5.out.trans (hb6.mono HB5.out.size))
          have HT6 := Lib.hid (HT5.out.below hb6 HZ5.out); have HZ6 := Lib.hid (Nat.lt_of_lt_of_le HZ5.out hb6.size)
          have HZR6 := Lib.hid hz6
          clear ho6 hb6 hz6 c0 c1 c2
          go_wp2_with (fail)
          refine (Lx.r_scan_any S w6 (by have := HRF.out.sz; omega)).mono ?_
          rintro e w7 ⟨A7, c7, rfl, hto7, hb7⟩
          have HB7 := Lib.hid (HB6.out.trans (hb7.mono HB6.out.size))
          have HT7 := Lib.hid (HT6.out.below hb7 HZ6.out)
          have HZ7 := Lib.hid (show W.heap.size < w7.heap.size from by have := HZ6.out; have := hb7.size; omega)
          have HZR7 := Lib.hid (HZR6.out.later hb7)
          have HWO := Lib.hid (Lx.r_words_good S A7 c7 (Lx.scan S.data.toList) w7.drew (by have := HRF.out.sz; omega) (show Lx.TokA w7.drew A7 (Lx.scan S.data.toList) from hto7) (Lx.scan_fit S (by have := HRF.out.sz; omega)))
          have HDR := Lib.hid (show Below w7.heap.size w7 w7.drew from (Below.refl _ _).drew)
          have HKD := Lib.hid (show w7.drew.cell? ⟨W.heap.size, 0, none⟩ = some (.int .i64 t.kind) ∧ w7.drew.cell? ⟨W.heap.size, 1, none⟩ = some (.int .i64 t.len) ∧ w7.drew.cell? ⟨W.heap.size, 2, none⟩ = some (.string t.nm) from HT7.out.now)
          clear hto7 hb7
          obtain ⟨c0, c1, c2⟩ := HT7.out.now
          go_wp2_with (fail)
          go_region_held3 (fun w' => w'.cell? ⟨W.heap.size, 0, none⟩ = some (.int .i64 t.kind) ∧ w'.cell? ⟨W.heap.size, 1, none⟩ = some (.int .i64 t.len) ∧ w'.cell? ⟨W.heap.size, 2, none⟩ = some (.string t.nm)) (first | (with_reducible exact HK10.out) | (with_reducible exact HK9.out) | (with_reducible exact HK8.out) | (with_reducible exact HKD.out) | go_keep) ((first | (go_at_call 9; refine (HPA.out G HRF.out.gz HRF.out.gs w9 (HRR.out.later HB9.out)).mono ?_; rintro e w10 ⟨v10, rfl, ho10, hb10⟩; have HO10 := Lib.hid ho10; have HB10 := Lib.hid (HB9.out.trans (hb10.mono HB9.out.size)); have HT10 := Lib.hid (HT9.out.below hb10 HZ9.out); have HK10 := Lib.hid HT10.out.now; have HZR10 := Lib.hid (HZR9.out.later hb10); clear ho10 hb10) | (go_at_call 11; refine (HJ.out _ v8 w8 HO8.out).mono ?_; rintro e w9 ⟨rfl, hb9⟩; have HB9 := Lib.hid (HB8.out.trans (hb9.mono HB8.out.size)); have HT9 := Lib.hid (HT8.out.below hb9 HZ8.out); have HK9 := Lib.hid HT9.out.now; have HZ9 := Lib.hid (show W.heap.size < w9.heap.size from Nat.lt_of_lt_of_le HZ8.out hb9.size); have HZR9 := Lib.hid (HZR8.out.later hb9); clear hb9) | (go_at_call 12; refine HWO.out.mono ?_; rintro e w8 ⟨v8, rfl, ho8, hb8⟩; have HO8 := Lib.hid ho8; have HB8 := Lib.hid (HB7.out.trans ((HDR.out.trans hb8).mono HB7.out.size)); have HT8 := Lib.hid (HT7.out.below (HDR.out.trans hb8) HZ7.out); have HK8 := Lib.hid HT8.out.now; have HZ8 := Lib.hid (show W.heap.size < w8.heap.size from Nat.lt_of_lt_of_le HZ7.out hb8.size); have HZR8 := Lib.hid (HZR7.out.later (HDR.out.trans hb8)); clear ho8 hb8)))
          obtain ⟨A10, c10, rfl, _, hz10⟩ := z_row HO10.out
          have HQ1 := Lib.hid (zEq_any A6 C c6 cc m m w10 HZR10.out (HZR.out.later HB10.out) (by have := HLM.out; omega) (by have := HLM.out; omega))
          have HQ2 := Lib.hid (fun n => zEq_any A10 C c10 cc m m (w10.drewN n) hz10 (HZR.out.later (below_drewN HB10.out n)) (by have := HLM.out; omega) (by have := HLM.out; omega))
          rw [decide_eq_true rfl] at HQ1 HQ2
          clear hz10 c0 c1 c2
          go_wp2_with (fail)
          refine HQ1.out.mono ?_
          rintro e w11 ⟨rfl, n11, rfl⟩
          go_wp2_with (fail)
          refine (HQ2.out n11).mono ?_
          rintro e w12 ⟨rfl, n12, rfl⟩
          have HB12 := Lib.hid (below_drewN HB10.out (n11 + n12))
          go_wp2_with (fail)
          refine (HAW.out _).mono ?_
          rintro e w13 ⟨rfl, hb13⟩
          have HB13 := Lib.hid (HB12.out.trans (hb13.mono HB12.out.size))
          clear hb13
          go_wp2_with (fail)
          go_ret
          exact ⟨rfl, HB13.out⟩
      · have hk4 : (t.kind == 4) = false := by simpa using hk
        obtain ⟨G, hrf⟩ := reads_facts wd t l m HVV.out H20.out (fun h => absurd h hk)
        have hnb : t.kind = 4 → Lx.nameB t.nm.data.toList = true := fun h => absurd h hk
        obtain ⟨S, HS⟩ : ∃ S, Hid (valS t l m = S) := ⟨_, Lib.hid rfl⟩
        rw [HS.out] at hrf
        have HRF := Lib.hid hrf
        have HPA := Lib.hid (fun (s : ByteArray) (hs : s.size ≤ 4096) (hW : Lx.Ws s.data.toList = Lx.vWl t (scalT [t] l) m ++ [[]]) (W' : World) (h : RRow W'.heap.size W' A l) => parse_any wd t A c l (scalT [t] l) m s W' hwd h (by have := HL20.out; omega) H20.out rfl HVV.out (hnb) (by have := HRF.out.nm; omega) hs hW HRF.out.wl)
        have hj := fun (B : Nat) (v : Value) (W' : World) (h : W'.ownsRow B 9 1 v (Lx.scan S.data.toList).length (Lx.scells ((Lx.scan S.data.toList).map (Lx.word S)))) => sjoin_own (w := W') (B := B) (v := v) (L := (Lx.scan S.data.toList).map (Lx.word S)) (by rw [List.length_map]; exact h) ⟨#[32, 35, 32, 99, 10]⟩ HRF.out.jlen HRF.out.slen W' (Below.refl _ _)
        rw [HRF.out.jn] at hj
        have HJ := Lib.hid hj
        clear hj
        clear hnb hk hrf
        go_enter Tryz.func3, Tryz.ntmps3
        go_wp2_with (fail)
        refine HFE.out.mono ?_
        rintro e w3 ⟨rfl, rfl⟩
        go_wp2_with (fail)
        refine HVA.out.mono ?_
        rintro e wk ⟨rfl, hb3⟩
        have HBk := Lib.hid (HB2.out.trans (hb3.mono HB2.out.size))
        have HTk := Lib.hid (HT2.out.below hb3 HZ2.out)
        have HZk := Lib.hid (show W.heap.size < wk.heap.size from by have := hb3.size; have := HZ2.out; omega)
        clear hb3 c0 c1 c2
        have HFM := Lib.hid (vformat_any t A C c cc l m wk (HRR.out.later HBk.out) (HZR.out.later HBk.out) (by have := HL20.out; omega) H20.out HV2.out HLEN.out H64.out (by have := HRF.out.nm; omega) HRF.out.fm (Lib.tabBelow_of_tabIs HTB.out _ HBk.out))
        rw [HS.out] at HFM
        obtain ⟨c0, c1, c2⟩ := HTk.out.now
        go_wp2_with (fail)
        refine HFM.out.mono ?_
        rintro e w5 ⟨rfl, hb5⟩
        have HB5 := Lib.hid (HBk.out.trans (hb5.mono HBk.out.size))
        have HT5 := Lib.hid (HTk.out.below hb5 HZk.out); have HZ5 := Lib.hid (Nat.lt_of_lt_of_le HZk.out hb5.size)
        clear hb5 c0 c1 c2
        obtain ⟨c0, c1, c2⟩ := HT5.out.now
        go_wp2_with (fail)
        refine (HPA.out S HRF.out.sz2 HRF.out.ws w5 (HRR.out.later HB5.out)).mono ?_
        rintro e w6 ⟨v6, rfl, ho6, hb6⟩
        obtain ⟨A6, c6, rfl, _, hz6⟩ := z_row ho6
        have HB6 := Lib.hid (HB5.out.trans (hb6.mono HB5.out.size))
        have HT6 := Lib.hid (HT5.out.below hb6 HZ5.out); have HZ6 := Lib.hid (Nat.lt_of_lt_of_le HZ5.out hb6.size)
        have HZR6 := Lib.hid hz6
        clear ho6 hb6 hz6 c0 c1 c2
        go_wp2_with (fail)
        refine (Lx.r_scan_any S w6 (by have := HRF.out.sz; omega)).mono ?_
        rintro e w7 ⟨A7, c7, rfl, hto7, hb7⟩
        have HB7 := Lib.hid (HB6.out.trans (hb7.mono HB6.out.size))
        have HT7 := Lib.hid (HT6.out.below hb7 HZ6.out)
        have HZ7 := Lib.hid (show W.heap.size < w7.heap.size from by have := HZ6.out; have := hb7.size; omega)
        have HZR7 := Lib.hid (HZR6.out.later hb7)
        have HWO := Lib.hid (Lx.r_words_good S A7 c7 (Lx.scan S.data.toList) w7.drew (by have := HRF.out.sz; omega) (show Lx.TokA w7.drew A7 (Lx.scan S.data.toList) from hto7) (Lx.scan_fit S (by have := HRF.out.sz; omega)))
        have HDR := Lib.hid (show Below w7.heap.size w7 w7.drew from (Below.refl _ _).drew)
        have HKD := Lib.hid (show w7.drew.cell? ⟨W.heap.size, 0, none⟩ = some (.int .i64 t.kind) ∧ w7.drew.cell? ⟨W.heap.size, 1, none⟩ = some (.int .i64 t.len) ∧ w7.drew.cell? ⟨W.heap.size, 2, none⟩ = some (.string t.nm) from HT7.out.now)
        clear hto7 hb7
        obtain ⟨c0, c1, c2⟩ := HT7.out.now
        go_wp2_with (fail)
        go_region_held3 (fun w' => w'.cell? ⟨W.heap.size, 0, none⟩ = some (.int .i64 t.kind) ∧ w'.cell? ⟨W.heap.size, 1, none⟩ = some (.int .i64 t.len) ∧ w'.cell? ⟨W.heap.size, 2, none⟩ = some (.string t.nm)) (first | (with_reducible exact HK10.out) | (with_reducible exact HK9.out) | (with_reducible exact HK8.out) | (with_reducible exact HKD.out) | go_keep) ((first | (go_at_call 9; refine (HPA.out G HRF.out.gz HRF.out.gs w9 (HRR.out.later HB9.out)).mono ?_; rintro e w10 ⟨v10, rfl, ho10, hb10⟩; have HO10 := Lib.hid ho10; have HB10 := Lib.hid (HB9.out.trans (hb10.mono HB9.out.size)); have HT10 := Lib.hid (HT9.out.below hb10 HZ9.out); have HK10 := Lib.hid HT10.out.now; have HZR10 := Lib.hid (HZR9.out.later hb10); clear ho10 hb10) | (go_at_call 11; refine (HJ.out _ v8 w8 HO8.out).mono ?_; rintro e w9 ⟨rfl, hb9⟩; have HB9 := Lib.hid (HB8.out.trans (hb9.mono HB8.out.size)); have HT9 := Lib.hid (HT8.out.below hb9 HZ8.out); have HK9 := Lib.hid HT9.out.now; have HZ9 := Lib.hid (show W.heap.size < w9.heap.size from Nat.lt_of_lt_of_le HZ8.out hb9.size); have HZR9 := Lib.hid (HZR8.out.later hb9); clear hb9) | (go_at_call 12; refine HWO.out.mono ?_; rintro e w8 ⟨v8, rfl, ho8, hb8⟩; have HO8 := Lib.hid ho8; have HB8 := Lib.hid (HB7.out.trans ((HDR.out.trans hb8).mono HB7.out.size)); have HT8 := Lib.hid (HT7.out.below (HDR.out.trans hb8) HZ7.out); have HK8 := Lib.hid HT8.out.now; have HZ8 := Lib.hid (show W.heap.size < w8.heap.size from Nat.lt_of_lt_of_le HZ7.out hb8.size); have HZR8 := Lib.hid (HZR7.out.later (HDR.out.trans hb8)); clear ho8 hb8)))
        obtain ⟨A10, c10, rfl, _, hz10⟩ := z_row HO10.out
        have HQ1 := Lib.hid (zEq_any A6 C c6 cc m m w10 HZR10.out (HZR.out.later HB10.out) (by have := HLM.out; omega) (by have := HLM.out; omega))
        have HQ2 := Lib.hid (fun n => zEq_any A10 C c10 cc m m (w10.drewN n) hz10 (HZR.out.later (below_drewN HB10.out n)) (by have := HLM.out; omega) (by have := HLM.out; omega))
        rw [decide_eq_true rfl] at HQ1 HQ2
        clear hz10 c0 c1 c2
        go_wp2_with (fail)
        refine HQ1.out.mono ?_
        rintro e w11 ⟨rfl, n11, rfl⟩
        go_wp2_with (fail)
        refine (HQ2.out n11).mono ?_
        rintro e w12 ⟨rfl, n12, rfl⟩
        have HB12 := Lib.hid (below_drewN HB10.out (n11 + n12))
        go_wp2_with (fail)
        refine (HAW.out _).mono ?_
        rintro e w13 ⟨rfl, hb13⟩
        have HB13 := Lib.hid (HB12.out.trans (hb13.mono HB12.out.size))
        clear hb13
        go_wp2_with (fail)
        go_ret
        exact ⟨rfl, HB13.out⟩
end Go.Proofs.YtoopnddlcofhoaaGreatDoor
