/- What is proved: the reference's Scan returns the tokens of a text. -/
import Derived.Test.YtnpcfmoiiecadaaDoorLxRefName
import Derived.Laws.MakeOwn
import Derived.Deep.RegionHeld3
import Derived.Deep.AppendLies
set_option linter.unusedVariables false
namespace Go.Proofs.YtnpcfmoiiecadaaDoor.Lx
open Go.RowKit

theorem infoTok : (Tryd.prog.info? 93).map (fun i => (i.zero, i.size, i.bytes)) = some (some (.agg #[.int .i64 0, .int .i64 0, .int .i64 0, .int .i64 0]), 4, 32) := by kernel_rfl
/-- the cells from off on in block b are those of the tokens -/
def Toks (w : World) (b off : Nat) (l : List Tok) : Prop :=
  ∀ (i : Nat) (h : i < l.length), w.cell? ⟨b, off + i * 4, none⟩ = some (.int .i64 l[i].kind) ∧ w.cell? ⟨b, off + i * 4 + 1, none⟩ = some (.int .i64 l[i].lo) ∧ w.cell? ⟨b, off + i * 4 + 2, none⟩ = some (.int .i64 l[i].at_) ∧ w.cell? ⟨b, off + i * 4 + 3, none⟩ = some (.int .i64 l[i].hi)
theorem Toks.below {w w' : World} {b off B : Nat} {l : List Tok} (h : Toks w b off l) (hb : Below B w w') (hlt : b < B) : Toks w' b off l := by
  intro i hi
  obtain ⟨h1, h2, h3, h4⟩ := h i hi
  exact ⟨(hb.cell (p := ⟨b, off + i * 4, none⟩) hlt).trans h1, (hb.cell (p := ⟨b, off + i * 4 + 1, none⟩) hlt).trans h2, (hb.cell (p := ⟨b, off + i * 4 + 2, none⟩) hlt).trans h3, (hb.cell (p := ⟨b, off + i * 4 + 3, none⟩) hlt).trans h4⟩
/-- a slice value, nil or not, reads as these tokens -/
def TokA (w : World) (A : Option Addr) (l : List Tok) : Prop := 0 < l.length → ∃ b off, A = some ⟨b, off, none⟩ ∧ b < w.heap.size ∧ Toks w b off l
theorem TokA.below {w w' : World} {A : Option Addr} {l : List Tok} (h : TokA w A l) (hb : Below w.heap.size w w') : TokA w' A l := by
  intro hl
  obtain ⟨b, off, hA, hlt, hr⟩ := h hl
  exact ⟨b, off, hA, Nat.lt_of_lt_of_le hlt hb.size, hr.below hb hlt⟩
theorem TokA.nil (w : World) (A : Option Addr) : TokA w A [] := fun h => absurd h (by simp)
/-- the cells of tokens -/
def tcells : List Tok → List Value
  | [] => []
  | t :: ts => .int .i64 t.kind :: .int .i64 t.lo :: .int .i64 t.at_ :: .int .i64 t.hi :: tcells ts
theorem tcells_append (l m : List Tok) : tcells (l ++ m) = tcells l ++ tcells m := by
  induction l with
  | nil => rfl
  | cons r rs ih => simp [tcells, ih]
theorem tcells_get (l : List Tok) : ∀ (i : Nat) (h : i < l.length), (tcells l)[i * 4]? = some (.int .i64 l[i].kind) ∧ (tcells l)[i * 4 + 1]? = some (.int .i64 l[i].lo) ∧ (tcells l)[i * 4 + 2]? = some (.int .i64 l[i].at_) ∧ (tcells l)[i * 4 + 3]? = some (.int .i64 l[i].hi) := by
  induction l with
  | nil => intro i h; simp at h
  | cons r rs ih =>
    intro i h
    cases i with
    | zero => simp [tcells]
    | succ i =>
      have h' := ih i (by simpa using h)
      rw [show (i + 1) * 4 = i * 4 + 4 from by omega]
      simpa [tcells] using h'
/-- a row of its own that holds tokens reads as they -/
theorem toks_own {w : World} {B : Nat} {v : Value} {l : List Tok} (h : w.ownsRow B 93 4 v l.length (tcells l)) : ∃ A c, v = .slice A l.length c ∧ TokA w A l := by
  rcases Nat.eq_zero_or_pos l.length with h0 | h0
  · rcases h.2 with ⟨rfl, _⟩ | ⟨g, cap, cur, rfl, _⟩
    · exact ⟨none, 0, by rw [h0], fun hh => by omega⟩
    · exact ⟨_, _, rfl, fun hh => by omega⟩
  · obtain ⟨g, cap, hv, _, hlt⟩ := h.form h0
    refine ⟨some ⟨g, 0, none⟩, cap, hv, fun _ => ⟨g, 0, rfl, hlt, fun i hi => ?_⟩⟩
    have hc := h.cells (g := g) (by rw [hv]; rfl)
    obtain ⟨e1, e2, e3, e4⟩ := tcells_get l i hi
    have key : ∀ k, (⟨g, 0, none⟩ : Addr).add k = ⟨g, 0 + k, none⟩ := by
      intro k
      unfold Addr.add
      by_cases hk : k = 0
      · simp [hk]
      · simp [hk]
    have a1 := hc _ _ e1
    have a2 := hc _ _ e2
    have a3 := hc _ _ e3
    have a4 := hc _ _ e4
    rw [key] at a1 a2 a3 a4
    exact ⟨a1, a2, a3, a4⟩
theorem own_below {w w' : World} {B n sz : Nat} {E : TypeId} {v : Value} {xs : List Value} (h : w.ownsRow B E sz v n xs) (hb : Below w.heap.size w w') : w'.ownsRow B E sz v n xs :=
  h.kept (row := none) ⟨hb.os, hb.tape, hb.output, hb.size, fun k hk _ => hb.block k hk⟩ (by
    cases hv : v.ownBlock with
    | none => exact .inl rfl
    | some g => exact .inr (by simp))
theorem news_four (w : World) (x y z u : Value) (e : TypeId) : ∀ (j : Nat) (q : Value), [x, y, z, u][j]? = some q → (w.alloc (.cells #[x, y, z, u] e)).cell? ((⟨w.heap.size, 0, none⟩ : Addr).add j) = some q :=
  World.news_of_block (cs := #[x, y, z, u]) (t := e) (fr := (0, 0)) (heap_alloc_new w _)
theorem heap_new2 (w : World) (o o' : Obj) : ((w.alloc o).alloc o').heap[w.heap.size + 1]? = some o' := by
  have h := heap_new1 (w.alloc o) o'
  rwa [World.size_alloc] at h
theorem heap_old2 (w : World) (o o' : Obj) : ((w.alloc o).alloc o').heap[w.heap.size]? = some o := (heap_alloc_old _ _ (by simp)).trans (heap_new1 w o)
end Go.Proofs.YtnpcfmoiiecadaaDoor.Lx
set_option linter.unusedVariables false
namespace Go.Proofs.YtnpcfmoiiecadaaDoor.Lx
open Go.RowKit

/-- does a token lie within a text of n bytes -/
def okTok (n : Int) (t : Tok) : Bool := decide (0 ≤ t.lo) && decide (t.lo ≤ t.at_) && decide (t.at_ ≤ t.hi) && decide (t.hi ≤ n)
def fitB (n : Int) (l : List Tok) : Bool := l.all (okTok n) && decide (l.length ≤ 4097)
theorem okTok_iff (n : Int) (t : Tok) : okTok n t = true ↔ 0 ≤ t.lo ∧ t.lo ≤ t.at_ ∧ t.at_ ≤ t.hi ∧ t.hi ≤ n := by
  unfold okTok
  simp
  omega
theorem fit_long (n : Int) (l : List Tok) (h : 4097 < l.length) : fitB n l = false := by
  unfold fitB
  rw [show decide (l.length ≤ 4097) = false from by simp; omega]
  simp
theorem ok_step (n : Int) (l : List Tok) (k : Nat) (hk : k < l.length) (h : (l.take k).all (okTok n) = true) (h2 : okTok n l[k] = true) : (l.take (k + 1)).all (okTok n) = true := by
  rw [List.take_succ_eq_append_getElem hk, List.all_append, h]
  simp [h2]
theorem ok_halt (n : Int) (l : List Tok) (k : Nat) (hk : k < l.length) (h : ¬ okTok n l[k] = true) : fitB n l = false := by
  unfold fitB
  have : l.all (okTok n) = false := by
    rw [List.all_eq_false]
    exact ⟨l[k], List.getElem_mem hk, by simpa using h⟩
  rw [this]
  rfl
theorem ok_end (n : Int) (l : List Tok) (k : Nat) (hk : ¬ k < l.length) (hl : l.length ≤ 4097) (h : (l.take k).all (okTok n) = true) : fitB n l = true := by
  rw [List.take_of_length_le (by omega)] at h
  unfold fitB
  rw [h]
  simpa using hl
theorem fit_get (n : Int) (l : List Tok) (h : fitB n l = true) (k : Nat) (hk : k < l.length) : 0 ≤ l[k].lo ∧ l[k].lo ≤ l[k].at_ ∧ l[k].at_ ≤ l[k].hi ∧ l[k].hi ≤ n := by
  unfold fitB at h
  simp only [Bool.and_eq_true, List.all_eq_true, decide_eq_true_eq] at h
  exact (okTok_iff _ _).1 (h.1 _ (List.getElem_mem hk))
theorem fit_len (n : Int) (l : List Tok) (h : fitB n l = true) : l.length ≤ 4097 := by
  unfold fitB at h
  simp only [Bool.and_eq_true, decide_eq_true_eq] at h
  exact h.2
end Go.Proofs.YtnpcfmoiiecadaaDoor.Lx
set_option linter.unusedVariables false
namespace Go.Proofs.YtnpcfmoiiecadaaDoor.Lx
open Go.RowKit

theorem infoStr : (Tryd.prog.info? 9).map (fun i => (i.zero, i.size, i.bytes)) = some (some (.string ⟨#[]⟩), 1, 16) := by kernel_rfl
theorem make_cap {P : Program} (t e : TypeId) (i : TypeInfo) (z : Value) (ht : P.underlying t = some (.slice e)) (hi : P.info? e = some i) (hz : i.zero = some z)
    (c : Nat) (hbytes : i.bytes * c ≤ 281474976710656) (h63 : c ≤ 9223372036854775807) (w : World) :
    (Instr.makeSlice t (.int .i64 0) (.int .i64 (c : Int))).run P w = .ok (.slice (some ⟨w.heap.size, 0, none⟩) 0 c) (w.alloc (.cells (madeCells z.cells (c * i.size)) e)) := by
  have hb : (i.bytes : Int) * (c : Int) ≤ 281474976710656 := by
    have h : ((i.bytes * c : Nat) : Int) ≤ 281474976710656 := by omega
    rwa [Int.natCast_mul] at h
  have hr := run_make (P := P) w t e i z ht hi hz .i64 .i64 ((0 : Nat) : Int) c (by omega) (by omega) hb (by omega)
  simp only [Int.toNat_natCast] at hr
  exact hr
theorem strs_own {w : World} {B : Nat} {v : Value} {l : List ByteArray} (h : w.ownsRow B 9 1 v l.length (scells l)) : ∃ A c, v = .slice A l.length c ∧ StrA w A l := by
  rcases Nat.eq_zero_or_pos l.length with h0 | h0
  · rcases h.2 with ⟨rfl, _⟩ | ⟨g, cap, cur, rfl, _⟩
    · exact ⟨none, 0, by rw [h0], fun hh => by omega⟩
    · exact ⟨_, _, rfl, fun hh => by omega⟩
  · obtain ⟨g, cap, hv, _, hlt⟩ := h.form h0
    refine ⟨some ⟨g, 0, none⟩, cap, hv, fun _ => ⟨g, 0, rfl, hlt, fun i hi => ?_⟩⟩
    have hc := h.cells (g := g) (by rw [hv]; rfl)
    have e1 : (scells l)[i]? = some (.string l[i]) := by unfold scells; rw [List.getElem?_map, List.getElem?_eq_getElem hi]; rfl
    have a1 := hc _ _ e1
    have key : (⟨g, 0, none⟩ : Addr).add i = ⟨g, 0 + i, none⟩ := by
      unfold Addr.add
      by_cases hk : i = 0
      · simp [hk]
      · simp [hk]
    rwa [key] at a1
/-- the text of a token without what stands before it -/
def word (s : ByteArray) (t : Tok) : ByteArray := s.extract t.at_.toNat t.hi.toNat
def words (s : ByteArray) (l : List Tok) : List ByteArray := if fitB s.size l then l.map (word s) else []
theorem words_step (s : ByteArray) (l : List Tok) (k : Nat) (hk : k < l.length) : (l.map (word s)).take (k + 1) = (l.map (word s)).take k ++ [word s l[k]] := by
  rw [List.take_succ_eq_append_getElem (by simpa using hk), List.getElem_map]
end Go.Proofs.YtnpcfmoiiecadaaDoor.Lx
set_option linter.unusedVariables false
namespace Go.Proofs.YtnpcfmoiiecadaaDoor.Lx
open Go.RowKit

set_option maxRecDepth 100000 in
set_option maxHeartbeats 1000000 in
theorem r_skip_any (s : ByteArray) (i : Nat) (w : World) (hs : s.size ≤ 1000000) (hi : i ≤ s.size) :
    Calls Tryd.prog 61 #[.string s, .int .i64 (i : Int)] w fun e w' => e = .returned (.int .i64 (blank s.data.toList i : Int)) ∧ w = w' := by
  have hl : s.data.toList.length = s.size := by simp
  have HW := Lib.hid (fun (k : Nat) (h : k < s.size) => r_blank_any s[k] w)
  have HL := Lib.hid hl
  clear hl
  go_enter Tryd.func61, Tryd.ntmps61
  go_wp2_with (fail)
  go_loop [1] (fun x => ∃ k : Nat, k ≤ s.size ∧ x = .int .i64 (k : Int) ∧ Hid (blank s.data.toList i = blank s.data.toList k)) (fun x => s.size - (intOf x).toNat)
  case atStart => exact ⟨i, hi, rfl, rfl⟩
  case round =>
    obtain ⟨k, hk, rfl, hq⟩ := hrel
    by_cases hlt : k < s.size
    · have hlt' : (k : Int) < (s.size : Int) := by omega
      have hat := at_get s k hlt
      have hl := HL.out
      have hw := Lib.hid (HW.out k hlt)
      cases hc : white s[k] with
      | true =>
        have HV := Lib.hid (hq.out.trans (blank_white s.data.toList k (by omega) (by rw [hat]; exact hc)))
        have h35 : ((s[k].toNat : Int) == 35) = false := by
          cases hx : ((s[k].toNat : Int) == 35) with
          | false => rfl
          | true =>
            rw [(u8_35 _).2 hx] at hc
            cases hc
        rw [hc] at hw
        clear hc hat hl
        go_wp2_with (fail)
        refine hw.out.mono ?_
        rintro e w' ⟨rfl, rfl⟩
        go_wp2_with (fail)
        exact ⟨⟨k + 1, by omega, by go_num, HV⟩, by simp [intOf]; omega⟩
      | false =>
        rw [hc] at hw
        cases h35 : ((s[k].toNat : Int) == 35) with
        | false =>
          have HV := Lib.hid (hq.out.trans (blank_none s.data.toList k (by omega) (by rw [hat]; exact hc) (by rw [hat]; intro e; rw [(u8_35 _).1 e] at h35; cases h35)))
          clear hc hat hl
          go_wp2_with (fail)
          refine hw.out.mono ?_
          rintro e w' ⟨rfl, rfl⟩
          go_wp2_with (fail)
          go_ret
          exact ⟨by rw [HV.out]; rfl, rfl⟩
        | true =>
          have HV := Lib.hid (hq.out.trans (blank_hash s.data.toList k (by omega) (by rw [hat]; exact (u8_35 _).2 h35)))
          have HY := Lib.hid (run_yes s.data.toList notNl k (by omega) (by rw [hat, (u8_35 _).2 h35]; rfl))
          have HB := Lib.hid (run_bd s.data.toList notNl k (by omega))
          clear hc hat hl
          go_wp2_with (fail)
          refine hw.out.mono ?_
          rintro e w' ⟨rfl, rfl⟩
          go_wp2_with (fail)
          go_loop [1] (fun x => ∃ j : Nat, j ≤ s.size ∧ x = .int .i64 (j : Int) ∧ Hid (run s.data.toList notNl k = run s.data.toList notNl j)) (fun x => s.size - (intOf x).toNat)
          case atStart => exact ⟨k, hk, rfl, rfl⟩
          case round =>
            obtain ⟨j, hj, rfl, hr⟩ := hrel
            by_cases hjl : j < s.size
            · have hjl' : (j : Int) < (s.size : Int) := by omega
              have hat := at_get s j hjl
              have hl := HL.out
              have hnn := notNl_eq s[j]
              cases h10 : ((s[j].toNat : Int) == 10) with
              | false =>
                have HR := Lib.hid (hr.out.trans (run_next s.data.toList notNl j (by omega) (by rw [hat, hnn, h10]; rfl)))
                have h10' : ((s[j].toNat : Int) != 10) = true := by unfold bne; rw [h10]; rfl
                clear hat hl hnn
                go_wp2_with (fail)
                exact ⟨⟨j + 1, by omega, by go_num, HR⟩, by simp [intOf]; omega⟩
              | true =>
                have HR := Lib.hid (hr.out.trans (run_halt s.data.toList notNl j (by rw [hat, hnn, h10]; rfl)))
                have h10' : ((s[j].toNat : Int) != 10) = false := by unfold bne; rw [h10]; rfl
                have hy := HY.out
                have e := HR.out
                clear hat hl hnn
                go_wp2_with (fail)
                have HF := Lib.hid (HV.out.trans (by rw [HR.out]))
                exact ⟨⟨j, by omega, rfl, HF⟩, by simp [intOf]; omega⟩
            · have hl := HL.out
              have HR := Lib.hid (hr.out.trans (run_out s.data.toList notNl j (by omega)))
              have hy := HY.out
              have e := HR.out
              have hjl' : (s.size : Int) ≤ (j : Int) := by omega
              clear hl
              go_wp2_with (fail)
              have HF := Lib.hid (HV.out.trans (by rw [HR.out]))
              exact ⟨⟨j, by omega, rfl, HF⟩, by simp [intOf]; omega⟩
    · have HV := Lib.hid (hq.out.trans (blank_out s.data.toList k (by rw [HL.out]; omega)))
      have hlt' : (s.size : Int) ≤ (k : Int) := by omega
      go_wp2_with (fail)
      go_ret
      exact ⟨by rw [HV.out]; rfl, rfl⟩
theorem nextTok_fin (l : List UInt8) (i : Nat) (h : blank l i = l.length) : nextTok l i = ⟨5, i, l.length, l.length⟩ := by
  unfold nextTok
  rw [h]
  have e : tokAt l l.length = (5, l.length) := by unfold tokAt; rw [if_pos rfl]
  rw [e]
  rfl
set_option maxRecDepth 100000 in
set_option maxHeartbeats 1000000 in
theorem r_scan_good (s : ByteArray) (w : World) (hs : s.size ≤ 4096) :
    Calls Tryd.prog 44 #[.string s] w fun e w' => ∃ v, e = .returned (.tuple #[v, .int .i64 0]) ∧ w'.ownsRow w.heap.size 93 4 v (scan s.data.toList).length (tcells (scan s.data.toList)) ∧ Below w.heap.size w w' := by
  obtain ⟨i0, hi0, hz0, hz1, hz2⟩ := info_parts infoTok
  have hl : s.data.toList.length = s.size := by simp
  have HS := Lib.hid (fun (i : Nat) (h : i ≤ s.size) (w : World) => r_skip_any s i w (by omega) h)
  have HT := Lib.hid (fun (i : Nat) (h : i < s.size) (w : World) => r_token_any s i w (by omega) h)
  have HM0 := Lib.hid (World.ownsRow_made (base := w.heap.size) (e := 93) (size := 4) w #[] 0 (Nat.le_refl _) (by unfold maxLen; omega) rfl)
  go_enter Tryd.func44, Tryd.ntmps44
  go_wp2_with (fail)
  go_loopw [4, 5] (fun v x wr => ∃ (i f : Nat) (acc : List Tok), i ≤ s.size ∧ x = .int .i64 (i : Int) ∧ s.size - i < f ∧ Hid (wr.ownsRow w.heap.size 93 4 v acc.length (tcells acc)) ∧ acc.length ≤ i ∧ Hid (scan s.data.toList = acc ++ scanTo s.data.toList f i) ∧ Hid (Below w.heap.size w wr)) (fun _ x _ => s.size + 1 - (intOf x).toNat)
  case atStart => exact ⟨0, s.data.toList.length + 1, [], Nat.zero_le _, rfl, by omega, HM0, Nat.le_refl _, rfl, (Below.refl _ _).alloc (Nat.le_refl _) _⟩
  case round =>
    obtain ⟨i, f, acc, hi, rfl, hf, hown, hacc, hsq, hbw⟩ := hrel
    obtain ⟨f', rfl⟩ : ∃ f', f = f' + 1 := ⟨f - 1, by omega⟩
    have hstep := scanTo_step s.data.toList f' i
    have hend := nextTok_end s.data.toList i (by omega)
    have htm := nextTok_more s.data.toList i (by omega)
    have hbl := blank_bd s.data.toList i (by omega)
    have hfin := nextTok_fin s.data.toList i
    have hdef : nextTok s.data.toList i = ⟨((tokAt s.data.toList (blank s.data.toList i)).1 : Nat), i, (blank s.data.toList i : Nat), ((tokAt s.data.toList (blank s.data.toList i)).2 : Nat)⟩ := rfl
    have hsk := Lib.hid (HS.out i hi wr)
    have hto := Lib.hid (fun h w => HT.out (blank s.data.toList i) h w)
    have htb := tokAt_bd s.data.toList (blank s.data.toList i) hbl.2
    rw [hl] at hbl hend hfin htb
    have HO := Lib.hid hown.out
    have o1 := hown.out.lt
    have hzr := hbw.out.size
    generalize blank s.data.toList i = m at *
    by_cases hm : m = s.size
    · have hseq := hsq.out.trans (by rw [hstep, hfin hm, if_pos rfl])
      have HQ := Lib.hid hseq
      clear hstep hend htm hfin hdef htb hseq hto
      have hmb : ((m : Int) == (s.size : Int)) = true := by simp [hm]
      subst hm
      go_wp2_with (fail)
      refine hsk.out.mono ?_
      rintro e w' ⟨rfl, rfl⟩
      go_wp2_with (at_builtin; refine wpList_append_own _ rfl _ _ 67 rfl w.heap.size 93 i0 _ 4 32 Tryd.underlying67 hi0 hz0 hz1 hz2 rfl (by decide) _ _ _ rfl (HO.out.alloc _) ⟨wr.heap.size, 0, none⟩ 1 1 [.int .i64 5, .int .i64 (i : Int), .int .i64 (s.size : Int), .int .i64 (s.size : Int)] rfl rfl ?c1 ?c2 ?c3 ?c4 ?c5 ?_)
      case c1 => exact news_four _ _ _ _ _ _
      case c2 => intro u hu; simp at hu; rcases hu with rfl | rfl | rfl | rfl <;> rfl
      case c3 => unfold maxLen; omega
      case c4 => omega
      case c5 => simp; omega
      intro v' w3 hown' hgrow _
      have B3 := Lib.hid ((hbw.out.alloc hzr _).grown hgrow (by simp; omega) (fun k hk => (o1 k hk).1))
      have O3 : Hid (w3.ownsRow w.heap.size 93 4 v' (acc ++ [(⟨5, (i : Int), s.size, s.size⟩ : Tok)]).length (tcells (acc ++ [⟨5, (i : Int), s.size, s.size⟩]))) := by
        rw [tcells_append, show (acc ++ [(⟨5, (i : Int), s.size, s.size⟩ : Tok)]).length = acc.length + 1 from by simp]
        exact hown'
      clear hown' hgrow o1
      go_wp2_with (fail)
      go_ret2
      exact ⟨_, rfl, by rw [HQ.out]; exact O3.out, B3.out⟩
    · have hmb : ((m : Int) == (s.size : Int)) = false := by simp; omega
      have hk5 : (nextTok s.data.toList i).kind ≠ 5 := fun h => hm (hend.1 h)
      have htm' := htm hk5
      have HQ0 := Lib.hid (hsq.out.trans (by rw [hstep, if_neg hk5]))
      have hto2 := Lib.hid (hto.out (by omega))
      rw [hdef] at HQ0 htm'
      clear hstep hend htm hfin hdef hto hk5
      generalize tokAt s.data.toList m = z at *
      obtain ⟨kd, e⟩ := z
      simp only at htm' htb hto2 HQ0
      have htm2 : m < e := by omega
      have hee : ((e : Nat) : Int).toNat = e := by omega
      rw [hee] at HQ0
      clear htm' hee
      go_wp2_with (fail)
      refine hsk.out.mono ?_
      rintro e' w' ⟨rfl, rfl⟩
      go_wp2_with (fail)
      refine (hto2.out _).mono ?_
      rintro e' w2 ⟨rfl, hb2⟩
      have B2 := hbw.out.trans (hb2.mono hzr)
      have z2 := B2.size
      have O2 := own_below HO.out hb2
      have o2 := O2.lt
      go_wp2_with (at_builtin; refine wpList_append_own _ rfl _ _ 67 rfl w.heap.size 93 i0 _ 4 32 Tryd.underlying67 hi0 hz0 hz1 hz2 rfl (by decide) _ _ _ rfl (O2.alloc _) ⟨w2.heap.size, 0, none⟩ 1 1 [.int .i64 (kd : Int), .int .i64 (i : Int), .int .i64 (m : Int), .int .i64 (e : Int)] rfl rfl ?c1 ?c2 ?c3 ?c4 ?c5 ?_)
      case c1 => exact news_four _ _ _ _ _ _
      case c2 => intro u hu; simp at hu; rcases hu with rfl | rfl | rfl | rfl <;> rfl
      case c3 => unfold maxLen; omega
      case c4 => omega
      case c5 => simp; omega
      intro v' w3 hown' hgrow _
      have B3 := Lib.hid ((B2.alloc z2 _).grown hgrow (by simp; omega) (fun k hk => (o2 k hk).1))
      have O3 : Hid (w3.ownsRow w.heap.size 93 4 v' (acc ++ [(⟨kd, (i : Int), m, e⟩ : Tok)]).length (tcells (acc ++ [⟨kd, (i : Int), m, e⟩]))) := by
        rw [tcells_append, show (acc ++ [(⟨kd, (i : Int), m, e⟩ : Tok)]).length = acc.length + 1 from by simp]
        exact hown'
      clear hown' hgrow o1 o2 O2 B2 hb2
      go_wp2_with (fail)
      refine ⟨⟨e, f', acc ++ [⟨kd, (i : Int), m, e⟩], by omega, rfl, by omega, O3, by simp; omega, ?_, B3⟩, ?_⟩
      · show scan s.data.toList = acc ++ [⟨kd, (i : Int), m, e⟩] ++ scanTo s.data.toList f' e
        rw [HQ0.out, List.append_assoc]
        rfl
      · simp [intOf]
        omega
theorem r_scan_any (s : ByteArray) (w : World) (hs : s.size ≤ 4096) :
    Calls Tryd.prog 44 #[.string s] w fun e w' => ∃ A c, e = .returned (.tuple #[.slice A (scan s.data.toList).length c, .int .i64 0]) ∧ TokA w' A (scan s.data.toList) ∧ Below w.heap.size w w' := by
  refine (r_scan_good s w hs).mono fun e w' he => ?_
  obtain ⟨v, h1, h2, h3⟩ := he
  obtain ⟨A', c', hv, hr'⟩ := toks_own h2
  exact ⟨A', c', by rw [h1, hv], hr', h3⟩
end Go.Proofs.YtnpcfmoiiecadaaDoor.Lx
