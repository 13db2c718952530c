/- What is proved: the tree of a procedure with one parameter whose type is a name. -/
import Derived.Test.YtnpcfmoiiecadaaDoorParAll
import Derived.Test.YtnpcfmoiiecadaaDoorLxRefToks
import Derived.Test.YtnpcfmoiiecadaaDoorLxRefName
import Derived.Test.YtnpcfmoiiecadaaDoorLxRefWords
import Derived.Test.YtnpcfmoiiecadaaDoorParTot
set_option linter.unusedVariables false
namespace Go.Proofs.YtnpcfmoiiecadaaDoor.Par
open Go.RowKit
open Lx (Tok)

theorem scan_shape (l : List UInt8) : ∀ (f i : Nat), i ≤ l.length → l.length - i < f → ∃ (ts : List Tok) (t : Tok), Lx.scanTo l f i = ts ++ [t] ∧ ts.length + i ≤ l.length ∧ (∀ x ∈ ts, x.kind ≠ 5 ∧ 0 ≤ x.at_ ∧ x.at_ ≤ x.hi ∧ x.hi ≤ l.length) ∧ t.kind = 5 ∧ 0 ≤ t.at_ ∧ t.at_ = t.hi ∧ t.hi ≤ l.length := by
  intro f
  induction f with
  | zero => intro i _ h; omega
  | succ f ih =>
    intro i hi hf
    have hb := Lx.nextTok_bd l i hi
    rw [Lx.scanTo_step]
    by_cases h5 : (Lx.nextTok l i).kind = 5
    · rw [if_pos h5]
      have hx := Lx.nextTok_fin l i ((Lx.nextTok_end l i hi).1 h5)
      refine ⟨[], _, rfl, by simpa using hi, by simp, h5, ?_, ?_, ?_⟩ <;> rw [hx] <;> simp
    · rw [if_neg h5]
      have hm := Lx.nextTok_more l i hi h5
      have hbl := Lx.blank_bd l i hi
      obtain ⟨ts, t, h1, hn, h2, h3⟩ := ih (Lx.nextTok l i).hi.toNat (by omega) (by omega)
      refine ⟨Lx.nextTok l i :: ts, t, by rw [h1]; rfl, by simp only [List.length_cons]; omega, ?_, h3⟩
      intro x hx
      rcases List.mem_cons.1 hx with rfl | hx
      · exact ⟨h5, by omega, by omega, by omega⟩
      · exact h2 x hx

/-- the tokens that a parser reads -/
def flt (T : List Tok) : List Tok := T.filter (fun t => t.kind != 4)
theorem flt_snoc (l : List Tok) (t : Tok) : flt (l ++ [t]) = if t.kind = 4 then flt l else flt l ++ [t] := by
  unfold flt
  rw [List.filter_append]
  by_cases h : t.kind = 4 <;> simp [h]
theorem flt_len (l : List Tok) : (flt l).length ≤ l.length := List.length_filter_le _ _
theorem flt_shape (s : ByteArray) : ∃ (us : List Tok) (t : Tok), flt (Lx.scan s.data.toList) = us ++ [t] ∧ us.length ≤ s.size ∧ (∀ x ∈ us, x.kind ≠ 5 ∧ 0 ≤ x.at_ ∧ x.at_ ≤ x.hi ∧ x.hi ≤ s.size) ∧ t.kind = 5 ∧ 0 ≤ t.at_ ∧ t.at_ = t.hi ∧ t.hi ≤ s.size := by
  obtain ⟨ts, t, h1, hn, h2, h3⟩ := scan_shape s.data.toList (s.data.toList.length + 1) 0 (Nat.zero_le _) (by omega)
  have hl : s.data.toList.length = s.size := by simp
  rw [hl] at hn h2 h3
  refine ⟨flt ts, t, ?_, by have := flt_len ts; omega, fun x hx => h2 x (List.mem_filter.1 hx).1, h3⟩
  show flt (Lx.scanTo _ _ 0) = _
  rw [h1, flt_snoc, if_neg (by omega)]
theorem tk_mem (E : Env) (i : Nat) (h : i < E.T.length) : tk E i ∈ E.T ∧ tk E i = E.T[i] := by
  unfold tk
  have e : E.T.getD i ⟨5, 0, 0, 0⟩ = E.T[i] := by simp [List.getD, h]
  rw [e]
  exact ⟨List.getElem_mem h, rfl⟩
theorem env_ok (s : ByteArray) (A : Option Addr) (c : Nat) (hs : s.size ≤ 4096) : (⟨s, flt (Lx.scan s.data.toList), A, c⟩ : Env).Ok ∧ (⟨s, flt (Lx.scan s.data.toList), A, c⟩ : Env).Fin := by
  obtain ⟨us, t, h1, hn, h2, h3, h4, h5, h6⟩ := flt_shape s
  have hlen : (flt (Lx.scan s.data.toList)).length ≤ 5000 := by
    rw [h1, List.length_append]
    simp
    omega
  have hk : ∀ i, i < (⟨s, flt (Lx.scan s.data.toList), A, c⟩ : Env).T.length → (tk ⟨s, flt (Lx.scan s.data.toList), A, c⟩ i ∈ us ∧ i < us.length) ∨ (tk ⟨s, flt (Lx.scan s.data.toList), A, c⟩ i = t ∧ i = us.length) := by
    intro i hi
    have e := (tk_mem _ i hi).2
    rw [e]
    have hi' : i < (flt (Lx.scan s.data.toList)).length := hi
    have h1' : (⟨s, flt (Lx.scan s.data.toList), A, c⟩ : Env).T = us ++ [t] := h1
    rw [h1] at hi'
    rw [List.length_append] at hi'
    by_cases hx : i < us.length
    · left
      refine ⟨?_, hx⟩
      simp only [h1, List.getElem_append_left hx]
      exact List.getElem_mem hx
    · right
      have : i = us.length := by simp at hi'; omega
      refine ⟨?_, this⟩
      subst this
      simp only [h1]
      simp
  have hT : (⟨s, flt (Lx.scan s.data.toList), A, c⟩ : Env).T.length = us.length + 1 := by
    show (flt _).length = _
    rw [h1]; simp
  refine ⟨⟨by omega, hlen, hs, fun i hi => ?_, fun i hi => ?_⟩, fun i hi h => ?_⟩
  · rcases hk i hi with ⟨hm, _⟩ | ⟨e, _⟩
    · have := h2 _ hm; exact ⟨this.2.1, this.2.2.1, this.2.2.2⟩
    · rw [e]; exact ⟨h4, by omega, h6⟩
  · rcases hk i hi with ⟨hm, hx⟩ | ⟨e, hx⟩
    · have := h2 _ hm
      rw [hT]
      exact ⟨fun h => absurd h this.1, fun h => by omega⟩
    · rw [hT, e]
      exact ⟨fun _ => by omega, fun _ => h3⟩
  · rcases hk i hi with ⟨hm, hx⟩ | ⟨e, hx⟩
    · exact absurd h (h2 _ hm).1
    · rw [e]; exact h5

/-- a parser while its tokens are gathered -/
structure SB (w : World) (B1 N b off : Nat) (s : ByteArray) (T acc : List Tok) (wr : World) (v : Value) : Prop where
  box : wr.heap[N]? = some (.cells #[.string s, v, .int .i64 0, .int .i64 0, .slice none 0 0] 69 (0, 0))
  own : wr.ownsRow B1 93 4 v acc.length (Lx.tcells acc)
  tok : Lx.Toks wr b off T
  lo : N < b
  hi : b < B1
  le : B1 ≤ wr.heap.size
  n : N = w.heap.size
  below : Below N w wr

theorem SB.grown {w wr wa w3 : World} {B1 N b off : Nat} {s : ByteArray} {T acc : List Tok} {v : Value} {t : Tok} {g cap : Nat} (h : SB w B1 N b off s T acc wr v) (ha : Below wr.heap.size wr wa) (hg : wa.grownBy w3 v.ownBlock)
    (hown : w3.ownsRow B1 93 4 (.slice (some ⟨g, 0, none⟩) (acc.length + 1) cap) (acc.length + 1) (Lx.tcells acc ++ Lx.tcells [t])) :
    SB w B1 N b off s T (acc ++ [t]) (w3.setCell ⟨N, 1, none⟩ (.slice (some ⟨g, 0, none⟩) (acc.length + 1) cap)) (.slice (some ⟨g, 0, none⟩) (acc.length + 1) cap) ∧ w3.cell? ⟨N, 1, none⟩ = some v ∧ w3.frozen? ⟨N, 1, none⟩ = false := by
  have hoa := own_later h.own ha
  have hnb : ∀ i, i < B1 → some i ≠ v.ownBlock := fun i hi hk => by
    have := (own_ty hoa i hk.symm).2
    omega
  have k : ∀ i, i < B1 → w3.heap[i]? = wr.heap[i]? := fun i hi => (hg.block i (Nat.lt_of_lt_of_le hi (Nat.le_trans h.le ha.size)) (hnb i hi)).trans (ha.block i (Nat.lt_of_lt_of_le hi h.le))
  have h3 := (k N (by have := h.lo; have := h.hi; omega)).trans h.box
  have hgB := (own_ty hown g rfl).2
  have hNB : N < B1 := by have := h.lo; have := h.hi; omega
  refine ⟨⟨by rw [hset h3 _]; rfl, ?_, ?_, h.lo, h.hi, ?_, h.n, ?_⟩, Lib.cell_of_heap h3 1, hfrz h3 1⟩
  · rw [Lx.tcells_append, show (acc ++ [t]).length = acc.length + 1 from by simp]
    refine own_far (g0 := 0) hown (fun b' hb' => Below.heap_setCell w3 ⟨N, 1, none⟩ _ b' (fun e1 => ?_))
    obtain ⟨cs, fr, e3⟩ := hb'
    rw [show b' = N from e1, h3] at e3; cases e3
  · have kb := (Below.heap_setCell w3 ⟨N, 1, none⟩ (.slice (some ⟨g, 0, none⟩) (acc.length + 1) cap) b (fun e => by have := h.lo; have e' : b = N := e; omega)).trans (k b h.hi)
    intro i hi
    obtain ⟨h1, h2, h3, h4⟩ := h.tok i hi
    exact ⟨(World.cell?_of_block (a := ⟨b, off + i * 4, none⟩) kb).trans h1, (World.cell?_of_block (a := ⟨b, off + i * 4 + 1, none⟩) kb).trans h2, (World.cell?_of_block (a := ⟨b, off + i * 4 + 2, none⟩) kb).trans h3, (World.cell?_of_block (a := ⟨b, off + i * 4 + 3, none⟩) kb).trans h4⟩
  · have := hg.size
    have h1 := ha.size
    have h2 := h.le
    show B1 ≤ (w3.setCell _ _).heap.size
    simp only [World.setCell, Array.size_modify]
    omega
  · have hb := (h.below.trans (ha.mono (by have := h.le; omega))).grown hg (by have := h.n; have := ha.size; have := h.le; omega) (fun i hi => Nat.le_of_lt (Nat.lt_of_lt_of_le hNB (own_ty hoa i hi).2))
    exact hb.setCell (p := ⟨N, 1, none⟩) (Nat.le_refl _) _

theorem infoTk : (Tryd.prog.info? 93).map (fun i => (i.zero, i.size, i.bytes)) = some (some (.agg #[.int .i64 0, .int .i64 0, .int .i64 0, .int .i64 0]), 4, 32) := by kernel_rfl
theorem tcells_four (t : Tok) : ∀ u ∈ Lx.tcells [t], u.oneCell' = true := by
  intro u hu
  simp [Lx.tcells] at hu
  rcases hu with rfl | rfl | rfl | rfl <;> rfl
theorem toks_own2 {w : World} {B : Nat} {v : Value} {l : List Tok} (h : w.ownsRow B 93 4 v l.length (Lx.tcells l)) (hl : 0 < l.length) : ∃ g c, v = .slice (some ⟨g, 0, none⟩) l.length c ∧ B ≤ g ∧ g < w.heap.size ∧ Lx.Toks w g 0 l ∧ TyB 93 w g := by
  obtain ⟨A, c, hv, hr⟩ := Lx.toks_own h
  obtain ⟨b, off, hA, hb, hT⟩ := hr hl
  obtain ⟨g, cap, hv2, hB, hlt⟩ := h.form hl
  rw [hv] at hv2
  injection hv2 with e1 e2 e3
  rw [hA] at e1
  injection e1 with e1
  injection e1 with e1 e4
  subst e1 e4
  exact ⟨b, c, by rw [hv, hA], hB, hlt, hT, (own_ty h b (by rw [hv, hA]; rfl)).1⟩

set_option maxRecDepth 100000 in
set_option maxHeartbeats 4000000 in
theorem start_any (s : ByteArray) (w : World) (hs : s.size ≤ 4096) :
    Calls Tryd.prog 22 #[.string s] w fun e w' => ∃ A c, e = .returned (ptr w.heap.size) ∧ PIs w.heap.size w.heap.size ⟨s, flt (Lx.scan s.data.toList), A, c⟩ w' st0 ∧ Below w.heap.size w w' := by
  obtain ⟨i0, hi0, hz0, hz1, hz2⟩ := info_parts infoTk
  have HSC := Lib.hid (fun w => Lx.r_scan_good s w hs)
  have HSL : 0 < (Lx.scan s.data.toList).length ∧ (Lx.scan s.data.toList).length ≤ 4097 := by
    obtain ⟨ts, t, h1, hn, _⟩ := scan_shape s.data.toList (s.data.toList.length + 1) 0 (Nat.zero_le _) (by omega)
    have hl : s.data.toList.length = s.size := by simp
    have e : (Lx.scan s.data.toList).length = ts.length + 1 := by
      show (Lx.scanTo _ _ 0).length = _
      rw [h1]; simp
    omega
  have HEK := Lib.hid (fun A c => (env_ok s A c hs).1)
  have HFS := Lib.hid (show ∃ (us : List Tok) (t : Tok), flt (Lx.scan s.data.toList) = us ++ [t] ∧ True from by obtain ⟨us, t, h, _⟩ := flt_shape s; exact ⟨us, t, h, trivial⟩)
  generalize hT : Lx.scan s.data.toList = T at *
  clear hT
  unfold ptr at *
  go_enter Tryd.func22, Tryd.ntmps22
  go_wp2_with (fail)
  have hb0 := heap_alloc_new w (.cells #[.string s, .slice none 0 0, .int .i64 0, .int .i64 0, .slice none 0 0] 69)
  have hB0 := (Below.refl w.heap.size w).alloc (Nat.le_refl _) (.cells #[.string s, .slice none 0 0, .int .i64 0, .int .i64 0, .slice none 0 0] 69)
  have hZ0 := World.size_alloc w (.cells #[.string s, .slice none 0 0, .int .i64 0, .int .i64 0, .slice none 0 0] 69)
  generalize (w.alloc (.cells #[.string s, .slice none 0 0, .int .i64 0, .int .i64 0, .slice none 0 0] 69)) = w0 at *
  refine (HSC.out w0).mono ?_
  rintro e w1 ⟨v, rfl, hown, hbe⟩
  obtain ⟨b, c, rfl, hbB, hblt, hTk, hTy⟩ := toks_own2 hown HSL.1
  have HSB : Hid (SB w w1.heap.size w.heap.size b 0 s T [] w1 (.slice none 0 0)) := ⟨(hbe.block w.heap.size (by omega)).trans hb0, ⟨by rfl, .inl ⟨rfl, rfl⟩⟩, hTk, by omega, hblt, Nat.le_refl _, rfl, hB0.trans (hbe.mono (by omega))⟩
  clear hown hbe hb0 hB0 hTk hTy hbB
  go_wp2_with (fail)
  go_loopw [6] (fun x wr => ∃ (i : Nat) (acc : List Tok) (v : Value), i ≤ T.length ∧ x = .int .i64 (i : Int) ∧ Hid (SB w w1.heap.size w.heap.size b 0 s T acc wr v) ∧ Hid (acc = flt (T.take i))) (fun x _ => T.length + 1 - (intOf x).toNat)
  case atStart => exact ⟨0, [], _, Nat.zero_le _, rfl, HSB, rfl⟩
  case round =>
    obtain ⟨i, acc, v, hi, rfl, HS, HA⟩ := hrel
    by_cases hlt : i < T.length
    · have hd : decide ((i : Int) < (T.length : Int)) = true := by simp; omega
      have hi1 : (i : Int) < (T.length : Int) := by omega
      have hi0' : (0 : Int) ≤ (i : Int) := by omega
      have hw1 : IntKind.i64.wrap ((i : Int) + 1) = (i : Int) + 1 := IntWalk.i64_in _ (by omega)
      obtain ⟨t0, t1, t2, t3⟩ := HS.out.tok i hlt
      rw [Nat.zero_add] at t0 t1 t2 t3
      have HTI := Lib.hid (show flt (T.take (i + 1)) = if (T[i]).kind = 4 then acc else acc ++ [T[i]] by
        rw [List.take_succ_eq_append_getElem hlt, flt_snoc, HA.out])
      have hal : acc.length ≤ i := by have := flt_len (T.take i); rw [HA.out]; simp at this; omega
      obtain ⟨A1, cap1, hv⟩ := own_shape HS.out.own
      subst hv
      generalize T[i] = t at *
      have HL := Lib.hid hlt
      by_cases h4 : t.kind = 4
      · have hk4 : (t.kind != 4) = false := by simp [h4]
        rw [if_pos h4] at HTI
        go_wp2_with (fail)
        refine ⟨⟨i + 1, acc, _, HL.out, rfl, HS, HTI.out.symm⟩, ?_⟩
        simp [intOf]
        omega
      · have hk4 : (t.kind != 4) = true := by simp [h4]
        rw [if_neg h4] at HTI
        have c1 : wr.cell? ⟨w.heap.size, 1, none⟩ = some (.slice A1 acc.length cap1) := Lib.cell_of_heap HS.out.box 1
        have HBA := Lib.hid ((Below.refl wr.heap.size wr).alloc (Nat.le_refl _) (.cells #[.int .i64 t.kind, .int .i64 t.lo, .int .i64 t.at_, .int .i64 t.hi] 93))
        have ca1 : (wr.alloc (.cells #[.int .i64 t.kind, .int .i64 t.lo, .int .i64 t.at_, .int .i64 t.hi] 93)).cell? ⟨w.heap.size, 1, none⟩ = some (.slice A1 acc.length cap1) := (HBA.out.cell (p := ⟨w.heap.size, 1, none⟩) (by have := HS.out.le; have := HS.out.lo; have := HS.out.hi; show w.heap.size < wr.heap.size; omega)).trans c1
        have HC1 := Lib.hid (show acc.length + 1 ≤ maxLen by unfold maxLen; omega)
        have HC2 := Lib.hid (show (acc.length + 1) * 32 ≤ 140737488355328 by omega)
        have HNB := Lib.hid (show ∀ (j : Nat) (u : Value), (Lx.tcells [t])[j]? = some u → (wr.alloc (.cells #[.int .i64 t.kind, .int .i64 t.lo, .int .i64 t.at_, .int .i64 t.hi] 93)).drew.cell? ((⟨wr.heap.size, 0, none⟩ : Addr).add j) = some u from World.news_of_block (cs := #[.int .i64 t.kind, .int .i64 t.lo, .int .i64 t.at_, .int .i64 t.hi]) (heap_alloc_new wr _))
        have HOA := Lib.hid (show (wr.alloc (.cells #[.int .i64 t.kind, .int .i64 t.lo, .int .i64 t.at_, .int .i64 t.hi] 93)).drew.ownsRow w1.heap.size 93 4 (.slice A1 acc.length cap1) acc.length (Lx.tcells acc) from own_later HS.out.own HBA.out.drew)
        have HLA := Lib.hid (show w1.heap.size ≤ (wr.alloc (.cells #[.int .i64 t.kind, .int .i64 t.lo, .int .i64 t.at_, .int .i64 t.hi] 93)).drew.heap.size by have := HS.out.le; show w1.heap.size ≤ (wr.alloc _).heap.size; rw [World.size_alloc]; omega)
        have HSA := Lib.hid (show (wr.alloc (.cells #[.int .i64 t.kind, .int .i64 t.lo, .int .i64 t.at_, .int .i64 t.hi] 93)).drew.heap.size = wr.heap.size + 1 from World.size_alloc _ _)
        go_upto_region 7 with (fail)
        clear hd hal
        go_region_law (first | (refine step_append_lies _ (by rfl) _ _ _ (by rfl) w1.heap.size 93 i0 _ 4 32 Tryd.underlying67 hi0 hz0 hz1 hz2 rfl (by decide) (.slice A1 acc.length cap1) acc.length (Lx.tcells acc) (by rfl) HOA.out ⟨wr.heap.size, 0, none⟩ 1 1 (Lx.tcells [t]) (by rfl) (by rfl) HNB.out (tcells_four _) (by decide) HC1.out HC2.out HLA.out (wr.heap.size + 1) HSA.out ?_; intro g cap w3 hown hgr hsel hgl; obtain ⟨hpn, x4, y4⟩ := SB.grown (t := t) HS.out HBA.out.drew hgr hown; have HPN := Lib.hid hpn; clear hown hgr hsel hgl hpn))
        all_goals
          go_wp2_with (fail)
          refine ⟨⟨i + 1, acc ++ [t], _, HL.out, rfl, HPN, HTI.out.symm⟩, ?_⟩
          simp [intOf]
          omega
    · have hd : decide ((i : Int) < (T.length : Int)) = false := by simp; omega
      have hi1 : i = T.length := by omega
      subst hi1
      go_wp2_with (fail)
      go_ret
      have HA' := HA.out
      rw [List.take_length] at HA'
      subst HA'
      obtain ⟨us, x, hx, _⟩ := HFS.out
      have h0 : 0 < (flt T).length := by rw [hx]; simp
      obtain ⟨g, cap, hv, hgB, hgl, hgT, hgY⟩ := toks_own2 HS.out.own h0
      subst hv
      refine ⟨_, _, rfl, ⟨Nat.le_refl _, ⟨_, HS.out.box, ⟨by rfl, .inl ⟨rfl, rfl⟩⟩⟩, ⟨g, 0, rfl, hgY, ?_⟩, HEK.out _ _, by rw [hx]; simp [st0], .inl (by simp [st0])⟩, HS.out.below⟩
      intro j hj
      rw [(tk_mem _ j hj).2]
      exact hgT j hj
end Go.Proofs.YtnpcfmoiiecadaaDoor.Par
set_option linter.unusedVariables false
namespace Go.Proofs.YtnpcfmoiiecadaaDoor.Par
open Go.RowKit
open Lx (Tok)

theorem whl_all' (p : Nat → Bool) : ∀ f i j, i ≤ j → j < Lx.whl p f i → p j = true := by
  intro f
  induction f with
  | zero => intro i j h1 h2; simp [Lx.whl] at h2; omega
  | succ f ih =>
    intro i j h1 h2
    rw [Lx.whl] at h2
    by_cases hp : p i = true
    · rw [if_pos hp] at h2
      by_cases hj : j = i
      · rw [hj]; exact hp
      · exact ih (i + 1) j (by omega) h2
    · rw [if_neg hp] at h2; omega
theorem num_some (bs : List UInt8) : ∀ n, (∀ b ∈ bs, Lx.digit b = true) → (Lx.num bs n).isSome = true := by
  induction bs with
  | nil => intro n _; rfl
  | cons b bs ih =>
    intro n h
    rw [Lx.num_cons, if_pos (h b (by simp))]
    exact ih _ (fun x hx => h x (by simp [hx]))
theorem num_tok (s : ByteArray) (j : Nat) (hj : j ≤ s.data.toList.length) (hk : (Lx.nextTok s.data.toList j).kind = 2) :
    Lx.numOk (s.extract (Lx.nextTok s.data.toList j).at_.toNat (Lx.nextTok s.data.toList j).hi.toNat) = !decide (9 < (Lx.nextTok s.data.toList j).hi - (Lx.nextTok s.data.toList j).at_) := by
  have hl : s.data.toList.length = s.size := by simp
  have hbl := Lx.blank_bd s.data.toList j hj
  have hbd := Lx.nextTok_bd s.data.toList j hj
  unfold Lx.nextTok at *
  generalize Lx.blank s.data.toList j = m at *
  have hk' : (Lx.tokAt s.data.toList m).1 = 2 := by have h : (((Lx.tokAt s.data.toList m).1 : Nat) : Int) = 2 := hk; omega
  have hd : m < s.data.toList.length ∧ Lx.digit (Lx.at_ s.data.toList m) = true ∧ (Lx.tokAt s.data.toList m).2 = Lx.run s.data.toList Lx.digit m := by
    unfold Lx.tokAt at hk' ⊢
    by_cases h1 : m = s.data.toList.length
    · rw [if_pos h1] at hk'; simp at hk'
    · rw [if_neg h1] at hk' ⊢
      split at hk'
      · simp only at hk'; split at hk' <;> omega
      · rename_i h2
        split at hk'
        · rename_i h3
          rw [if_neg h2, if_pos h3]
          exact ⟨by omega, h3, rfl⟩
        · split at hk' <;> simp at hk'
  obtain ⟨h1, h2, h3⟩ := hd
  simp only at *
  have hr := Lx.run_yes s.data.toList Lx.digit m h1 h2
  rw [h3] at hbd ⊢
  have hall : ∀ k, m ≤ k → k < Lx.run s.data.toList Lx.digit m → Lx.digit (Lx.at_ s.data.toList k) = true := fun k a b => whl_all' (fun j => Lx.digit (Lx.at_ s.data.toList j)) _ m k a b
  generalize Lx.run s.data.toList Lx.digit m = e at *
  have e1 : ((m : Nat) : Int).toNat = m := by omega
  have e2 : ((e : Nat) : Int).toNat = e := by omega
  rw [e1, e2]
  have hsz : (s.extract m e).size = e - m := by simp; omega
  have hn : (Lx.num (s.extract m e).data.toList 0).isSome = true := by
    refine num_some _ 0 (fun b hb => ?_)
    rw [Lx.slice_list] at hb
    obtain ⟨k, hk2, rfl⟩ := List.mem_iff_getElem.1 hb
    have hk3 : k < e - m := by simp at hk2; omega
    have := hall (m + k) (by omega) (by omega)
    have e4 : Lx.at_ s.data.toList (m + k) = ((s.data.toList.take e).drop m)[k] := by
      unfold Lx.at_
      rw [List.getElem_drop, List.getElem_take]
      simp [List.getD, show m + k < s.size by omega]
    rw [← e4]; exact this
  unfold Lx.numOk
  rw [hn, hsz]
  by_cases h9 : 9 < e - m
  · have a : decide (e - m ≤ 9) = false := by simp; omega
    have b : decide ((9 : Int) < (e : Int) - (m : Int)) = true := by simp; omega
    rw [a, b]; simp
  · have a : decide (e - m ≤ 9) = true := by simp; omega
    have b : decide ((9 : Int) < (e : Int) - (m : Int)) = false := by simp; omega
    have c : decide (1 ≤ e - m) = true := by simp; omega
    rw [a, b, c]; rfl
theorem scan_from (l : List UInt8) : ∀ (f i : Nat), i ≤ l.length → ∀ x ∈ Lx.scanTo l f i, ∃ j, j ≤ l.length ∧ x = Lx.nextTok l j := by
  intro f
  induction f with
  | zero => intro i _ x hx; simp [Lx.scanTo] at hx
  | succ f ih =>
    intro i hi x hx
    rw [Lx.scanTo_step] at hx
    rcases List.mem_cons.1 hx with rfl | hx
    · exact ⟨i, hi, rfl⟩
    · by_cases h5 : (Lx.nextTok l i).kind = 5
      · rw [if_pos h5] at hx; simp at hx
      · rw [if_neg h5] at hx
        have := Lx.nextTok_bd l i hi
        exact ih _ (by omega) x hx
/-- what a token of a text is -/
theorem tok_facts (s : ByteArray) (x : Tok) (hx : x ∈ Lx.scan s.data.toList) : (0 ≤ x.at_ ∧ x.at_ ≤ x.hi ∧ x.hi ≤ s.size) ∧ (x.kind = 2 → Lx.numOk (s.extract x.at_.toNat x.hi.toNat) = !decide (9 < x.hi - x.at_)) := by
  obtain ⟨j, hj, rfl⟩ := scan_from s.data.toList _ 0 (Nat.zero_le _) x hx
  have h := Lx.nextTok_bd s.data.toList j hj
  have hl : s.data.toList.length = s.size := by simp
  exact ⟨⟨by omega, h.2.1, by rw [← hl]; exact h.2.2.1⟩, num_tok s j hj⟩
theorem lexical_snoc (l : List Tok) (t : Tok) : lexical (l ++ [t]) = if 0 < lexC t then lexical l ++ [⟨lexC t, t.at_, t.hi, (⟨#[]⟩ : ByteArray)⟩] else lexical l := by
  unfold lexical
  rw [List.filterMap_append]
  by_cases h : 0 < lexC t <;> simp [h]
theorem lexical_len (l : List Tok) : (lexical l).length ≤ l.length := List.length_filterMap_le _ _

/-- what is gathered -/
structure LXS (w : World) (b : Nat) (T : List Tok) (acc : List Dg) (wr : World) (v : Value) : Prop where
  own : wr.ownsRow w.heap.size 96 5 v acc.length (dcells acc)
  tok : Lx.Toks wr b 0 T
  ty : TyB 93 wr b
  below : Below w.heap.size w wr
theorem toks_block {w w' : World} {b : Nat} {T : List Tok} (h : Lx.Toks w b 0 T) (kb : w'.heap[b]? = w.heap[b]?) : Lx.Toks w' b 0 T := by
  intro i hi
  obtain ⟨h1, h2, h3, h4⟩ := h i hi
  exact ⟨(World.cell?_of_block (a := ⟨b, 0 + i * 4, none⟩) kb).trans h1, (World.cell?_of_block (a := ⟨b, 0 + i * 4 + 1, none⟩) kb).trans h2, (World.cell?_of_block (a := ⟨b, 0 + i * 4 + 2, none⟩) kb).trans h3, (World.cell?_of_block (a := ⟨b, 0 + i * 4 + 3, none⟩) kb).trans h4⟩
theorem LXS.later {w wr wa : World} {b : Nat} {T : List Tok} {acc : List Dg} {v : Value} (h : LXS w b T acc wr v) (ha : Below wr.heap.size wr wa) : LXS w b T acc wa v :=
  ⟨own_later h.own ha, toks_block h.tok (ha.block b h.ty.lt), h.ty.of_eq (ha.block b h.ty.lt), h.below.trans (ha.mono h.below.size)⟩
theorem LXS.grown {w wr wa w3 : World} {b : Nat} {T : List Tok} {acc : List Dg} {v : Value} {d : Dg} {g cap : Nat} (h : LXS w b T acc wr v) (ha : Below wr.heap.size wr wa) (hg : wa.grownBy w3 v.ownBlock)
    (hown : w3.ownsRow w.heap.size 96 5 (.slice (some ⟨g, 0, none⟩) (acc.length + 1) cap) (acc.length + 1) (dcells acc ++ dcells [d])) :
    LXS w b T (acc ++ [d]) w3 (.slice (some ⟨g, 0, none⟩) (acc.length + 1) cap) := by
  have hl := h.later ha
  have kb : w3.heap[b]? = wa.heap[b]? := hg.block b hl.ty.lt (fun hk => by
    obtain ⟨cs, fr, e⟩ := (own_ty hl.own b hk.symm).1
    obtain ⟨cs', fr', e'⟩ := hl.ty
    rw [e] at e'; cases e')
  refine ⟨?_, toks_block hl.tok kb, hl.ty.of_eq kb, hl.below.grown hg hl.below.size (fun i hi => (own_ty hl.own i hi).2)⟩
  rw [dcells_append, show (acc ++ [d]).length = acc.length + 1 from by simp]
  exact hown
end Go.Proofs.YtnpcfmoiiecadaaDoor.Par
set_option linter.unusedVariables false
set_option linter.unusedSimpArgs false
namespace Go.Proofs.YtnpcfmoiiecadaaDoor.Wt
open Lx Par

theorem whl_is (p : Nat → Bool) : ∀ f i e, i ≤ e → e ≤ i + f → (∀ j, i ≤ j → j < e → p j = true) → (e < i + f → p e = false) → whl p f i = e := by
  intro f
  induction f with
  | zero => intro i e h1 h2 _ _; simp only [whl]; omega
  | succ f ih =>
    intro i e h1 h2 h3 h4
    rw [whl]
    by_cases he : e = i
    · subst he
      rw [if_neg (by rw [h4 (by omega)]; decide)]
    · rw [if_pos (h3 i (Nat.le_refl _) (by omega))]
      exact ih (i + 1) e (by omega) (by omega) (fun j a b => h3 j (by omega) b) (fun a => h4 (by omega))
theorem run_is (l : List UInt8) (p : UInt8 → Bool) (i e : Nat) (h1 : i ≤ e) (h2 : e ≤ l.length) (h3 : ∀ j, i ≤ j → j < e → p (at_ l j) = true) (h4 : e < l.length → p (at_ l e) = false) : run l p i = e :=
  whl_is _ _ _ _ h1 (by omega) h3 (fun h => h4 (by omega))
theorem at_left (a b : List UInt8) (j : Nat) (h : j < a.length) : at_ (a ++ b) j = at_ a j := by unfold at_; simp [List.getD, List.getElem?_append_left h]
theorem at_right (a b : List UInt8) (j : Nat) : at_ (a ++ b) (a.length + j) = at_ b j := by unfold at_; simp [List.getD, List.getElem?_append_right]
theorem tok_word (l : List UInt8) (i e : Nat) (hi : i < l.length) (h1 : letter (at_ l i) = true) (hr : run l inName i = e) : tokAt l i = (if isKw ((l.take e).drop i) then 1 else 0, e) := by
  unfold tokAt
  rw [if_neg (by omega), if_pos h1, hr]
theorem tok_sym (l : List UInt8) (i : Nat) (hi : i < l.length) (h1 : letter (at_ l i) = false) (h2 : digit (at_ l i) = false) (h3 : sym l i = 1) : tokAt l i = (3, i + 1) := by
  unfold tokAt
  rw [if_neg (by omega), if_neg (by rw [h1]; decide), if_neg (by rw [h2]; decide), if_pos (by omega), h3]
theorem tok_end (l : List UInt8) : tokAt l l.length = (5, l.length) := by unfold tokAt; rw [if_pos rfl]
theorem st {l : List UInt8} {i m k e f : Nat} (h : nextTok l i = ⟨(k : Nat), (i : Nat), (m : Nat), (e : Nat)⟩) (hk : k ≠ 5) : scanTo l (f + 1) i = ⟨(k : Nat), (i : Nat), (m : Nat), (e : Nat)⟩ :: scanTo l f e := by
  rw [scanTo_step, h, if_neg (by show ¬ ((k : Nat) : Int) = 5; omega)]
  simp
theorem st_end {l : List UInt8} {i m e f : Nat} (h : nextTok l i = ⟨(5 : Nat), (i : Nat), (m : Nat), (e : Nat)⟩) : scanTo l (f + 1) i = [⟨(5 : Nat), (i : Nat), (m : Nat), (e : Nat)⟩] := by
  rw [scanTo_step, h, if_pos (show ((5 : Nat) : Int) = 5 from rfl)]
theorem next_of {l : List UInt8} {i m k e : Nat} (hb : Lx.blank l i = m) (ht : tokAt l m = (k, e)) : nextTok l i = ⟨k, i, m, e⟩ := by unfold nextTok; rw [hb, ht]
theorem bl_here {l : List UInt8} {i : Nat} (hi : i < l.length) (h1 : white (at_ l i) = false) (h2 : at_ l i ≠ 35) : Lx.blank l i = i := blank_none l i hi h1 h2
theorem bl_white {l : List UInt8} {i : Nat} (hi : i + 1 < l.length) (h0 : white (at_ l i) = true) (h1 : white (at_ l (i + 1)) = false) (h2 : at_ l (i + 1) ≠ 35) : Lx.blank l i = i + 1 := by
  rw [blank_white l i (by omega) h0]; exact bl_here hi h1 h2

def preL : List UInt8 := [112, 114, 111, 99, 32, 102, 40, 120, 58, 32]
def postL : List UInt8 := [41, 32, 123, 32, 125]
def wtL (nm : List UInt8) : List UInt8 := preL ++ (nm ++ postL)
/-- the tokens -/
def wtT (n : Nat) : List Tok := [⟨1, 0, 0, 4⟩, ⟨0, 4, 5, 6⟩, ⟨3, 6, 6, 7⟩, ⟨0, 7, 7, 8⟩, ⟨3, 8, 8, 9⟩, ⟨0, 9, 10, (10 + n : Nat)⟩, ⟨3, (10 + n : Nat), (10 + n : Nat), (10 + n + 1 : Nat)⟩, ⟨3, (10 + n + 1 : Nat), (10 + n + 2 : Nat), (10 + n + 3 : Nat)⟩, ⟨3, (10 + n + 3 : Nat), (10 + n + 4 : Nat), (10 + n + 5 : Nat)⟩, ⟨5, (10 + n + 5 : Nat), (10 + n + 5 : Nat), (10 + n + 5 : Nat)⟩]
section
variable {nm : List UInt8} (hn : nameB nm = true)
theorem wt_len : (wtL nm).length = 10 + nm.length + 5 := by simp [wtL, preL, postL]; omega
theorem wt_a (j : Nat) (h : j < 10) : at_ (wtL nm) j = at_ preL j := at_left _ _ _ h
theorem wt_b (k : Nat) (h : k < nm.length) : at_ (wtL nm) (10 + k) = at_ nm k := (at_right preL _ k).trans (at_left _ _ _ h)
theorem wt_c (j : Nat) : at_ (wtL nm) (10 + nm.length + j) = at_ postL j := by
  rw [Nat.add_assoc]
  exact (at_right preL _ _).trans (at_right nm postL j)
include hn
theorem nm_facts : 1 ≤ nm.length ∧ nm.length ≤ 16 ∧ letter (at_ nm 0) = true ∧ isKw nm = false ∧ ∀ k, k < nm.length → inName (at_ nm k) = true := by
  unfold nameB at hn
  simp only [Bool.and_eq_true, decide_eq_true_eq, Bool.not_eq_true', beq_iff_eq] at hn
  obtain ⟨⟨⟨⟨h1, h2⟩, h3⟩, h4⟩, h5⟩ := hn
  refine ⟨h1, h2, h3, h4, fun k hk => ?_⟩
  unfold tokAt at h5
  rw [if_neg (by omega), if_pos h3] at h5
  simp only at h5
  exact whl_all' (fun j => inName (at_ nm j)) _ 0 k (Nat.zero_le _) (by unfold run at h5; rw [h5]; exact hk)
theorem wt_scan : scan (wtL nm) = wtT nm.length := by
  obtain ⟨n1, n2, n3, n4, n5⟩ := nm_facts hn
  have hl := wt_len (nm := nm)
  have c0 := wt_c (nm := nm) 0
  have c1 := wt_c (nm := nm) 1
  have c2 := wt_c (nm := nm) 2
  have c3 := wt_c (nm := nm) 3
  have c4 := wt_c (nm := nm) 4
  have c5 := wt_c (nm := nm) 5
  have a4 := wt_a (nm := nm) 4 (by decide)
  have a5 := wt_a (nm := nm) 5 (by decide)
  have a6 := wt_a (nm := nm) 6 (by decide)
  have a7 := wt_a (nm := nm) 7 (by decide)
  have a8 := wt_a (nm := nm) 8 (by decide)
  have a9 := wt_a (nm := nm) 9 (by decide)
  have a0 := wt_a (nm := nm) 0 (by decide)
  have b0 := wt_b (nm := nm) 0 (by omega)
  rw [show at_ postL 0 = 41 from rfl] at c0
  rw [show at_ postL 1 = 32 from rfl] at c1
  rw [show at_ postL 2 = 123 from rfl] at c2
  rw [show at_ postL 3 = 32 from rfl] at c3
  rw [show at_ postL 4 = 125 from rfl] at c4
  rw [show at_ postL 5 = 0 from rfl] at c5
  rw [show at_ preL 0 = 112 from rfl] at a0
  rw [show at_ preL 4 = 32 from rfl] at a4
  rw [show at_ preL 5 = 102 from rfl] at a5
  rw [show at_ preL 6 = 40 from rfl] at a6
  rw [show at_ preL 7 = 120 from rfl] at a7
  rw [show at_ preL 8 = 58 from rfl] at a8
  rw [show at_ preL 9 = 32 from rfl] at a9
  have hpre : ∀ j, j < 4 → inName (at_ preL j) = true := by decide
  have r0 : run (wtL nm) inName 0 = 4 := run_is _ _ _ _ (by omega) (by omega) (fun j _ h => by rw [wt_a j (by omega)]; exact hpre j h) (fun _ => by rw [a4]; rfl)
  have r5 : run (wtL nm) inName 5 = 6 := run_is _ _ _ _ (by omega) (by omega) (fun j h h' => by rw [show j = 5 by omega, a5]; rfl) (fun _ => by rw [a6]; rfl)
  have r7 : run (wtL nm) inName 7 = 8 := run_is _ _ _ _ (by omega) (by omega) (fun j h h' => by rw [show j = 7 by omega, a7]; rfl) (fun _ => by rw [a8]; rfl)
  have r10 : run (wtL nm) inName 10 = 10 + nm.length := run_is _ _ _ _ (by omega) (by omega) (fun j h h' => by
    obtain ⟨k, rfl⟩ : ∃ k, j = 10 + k := ⟨j - 10, by omega⟩
    rw [wt_b k (by omega)]; exact n5 k (by omega)) (fun _ => by rw [show 10 + nm.length = 10 + nm.length + 0 from rfl, c0]; rfl)
  have k0 : ((wtL nm).take 4).drop 0 = [112, 114, 111, 99] := rfl
  have k5 : ((wtL nm).take 6).drop 5 = [102] := rfl
  have k7 : ((wtL nm).take 8).drop 7 = [120] := rfl
  have k10 : ((wtL nm).take (10 + nm.length)).drop 10 = nm := by
    rw [Nat.add_comm 10]
    simp [wtL, preL]
  have t0 := next_of (i := 0) (bl_here (l := wtL nm) (i := 0) (by omega) (by rw [a0]; rfl) (by rw [a0]; decide)) (tok_word _ 0 4 (by omega) (by rw [a0]; rfl) r0)
  have t1 := next_of (i := 4) (bl_white (l := wtL nm) (i := 4) (by omega) (by rw [a4]; rfl) (by rw [a5]; rfl) (by rw [a5]; decide)) (tok_word _ 5 6 (by omega) (by rw [a5]; rfl) r5)
  have t2 := next_of (i := 6) (bl_here (l := wtL nm) (i := 6) (by omega) (by rw [a6]; rfl) (by rw [a6]; decide)) (tok_sym _ 6 (by omega) (by rw [a6]; rfl) (by rw [a6]; rfl) (by unfold sym two; simp only [a6, a7]; rfl))
  have t3 := next_of (i := 7) (bl_here (l := wtL nm) (i := 7) (by omega) (by rw [a7]; rfl) (by rw [a7]; decide)) (tok_word _ 7 8 (by omega) (by rw [a7]; rfl) r7)
  have t4 := next_of (i := 8) (bl_here (l := wtL nm) (i := 8) (by omega) (by rw [a8]; rfl) (by rw [a8]; decide)) (tok_sym _ 8 (by omega) (by rw [a8]; rfl) (by rw [a8]; rfl) (by unfold sym two; simp only [a8, a9]; rfl))
  have lw := letter_not _ n3
  have t5 := next_of (i := 9) (bl_white (l := wtL nm) (i := 9) (by omega) (by rw [a9]; rfl) (by rw [b0]; exact lw.1) (by rw [b0]; exact lw.2)) (tok_word _ 10 _ (by omega) (by rw [b0]; exact n3) r10)
  have t6 := next_of (i := 10 + nm.length + 0) (bl_here (l := wtL nm) (i := 10 + nm.length + 0) (by omega) (by rw [c0]; rfl) (by rw [c0]; decide)) (tok_sym _ (10 + nm.length + 0) (by omega) (by rw [c0]; rfl) (by rw [c0]; rfl) (by unfold sym two; simp only [c0, c1]; rfl))
  have t7 := next_of (i := 10 + nm.length + 1) (bl_white (l := wtL nm) (i := 10 + nm.length + 1) (by omega) (by rw [c1]; rfl) (by rw [c2]; rfl) (by rw [c2]; decide)) (tok_sym _ (10 + nm.length + 2) (by omega) (by rw [c2]; rfl) (by rw [c2]; rfl) (by unfold sym two; simp only [c2, c3]; rfl))
  have t8 := next_of (i := 10 + nm.length + 3) (bl_white (l := wtL nm) (i := 10 + nm.length + 3) (by omega) (by rw [c3]; rfl) (by rw [c4]; rfl) (by rw [c4]; decide)) (tok_sym _ (10 + nm.length + 4) (by omega) (by rw [c4]; rfl) (by rw [c4]; rfl) (by unfold sym two; simp only [c4, c5]; rfl))
  have t9 := next_of (blank_out (wtL nm) (wtL nm).length rfl) (tok_end (wtL nm))
  rw [k0, show isKw [112, 114, 111, 99] = true from by decide] at t0
  rw [k5, show isKw [102] = false from by decide] at t1
  rw [k7, show isKw [120] = false from by decide] at t3
  rw [k10, n4] at t5
  rw [hl] at t9
  unfold scan
  rw [hl, show 10 + nm.length + 5 + 1 = 6 + nm.length + 10 by omega]
  exact (st (f := 6 + nm.length + 9) t0 (by decide)).trans (congrArg (List.cons _) ((st (f := 6 + nm.length + 8) t1 (by decide)).trans (congrArg (List.cons _) ((st (f := 6 + nm.length + 7) t2 (by decide)).trans (congrArg (List.cons _) ((st (f := 6 + nm.length + 6) t3 (by decide)).trans (congrArg (List.cons _) ((st (f := 6 + nm.length + 5) t4 (by decide)).trans (congrArg (List.cons _) ((st (f := 6 + nm.length + 4) t5 (by decide)).trans (congrArg (List.cons _) ((st (f := 6 + nm.length + 3) t6 (by decide)).trans (congrArg (List.cons _) ((st (f := 6 + nm.length + 2) t7 (by decide)).trans (congrArg (List.cons _) ((st (f := 6 + nm.length + 1) t8 (by decide)).trans (congrArg (List.cons _) (st_end (f := 6 + nm.length) t9))))))))))))))))))
end
end Go.Proofs.YtnpcfmoiiecadaaDoor.Wt
set_option linter.unusedVariables false
set_option linter.unusedSimpArgs false
namespace Go.Proofs.YtnpcfmoiiecadaaDoor.Wt
open Lx Par

theorem wt_env (nm : List UInt8) (s : ByteArray) (hn : nameB nm = true) (hs : s.data.toList = wtL nm) : env s = ⟨s, wtT nm.length, none, 0⟩ := by
  unfold env
  rw [hs, wt_scan hn]
  rfl
section
variable {nm : List UInt8} {s : ByteArray} (hs : s.data.toList = wtL nm)
include hs
theorem wt_w {k a b : Nat} {kd : Int} {l : List UInt8} (ht : (tk ⟨s, wtT nm.length, none, 0⟩ k).at_ = (a : Int) ∧ (tk ⟨s, wtT nm.length, none, 0⟩ k).hi = (b : Int) ∧ (tk ⟨s, wtT nm.length, none, 0⟩ k).kind = kd) (h5 : (kd != 5) = true) (hl : ((wtL nm).take b).drop a = l) (la : Int) (d : List Dg) (x : ByteArray) :
    isW ⟨s, wtT nm.length, none, 0⟩ ⟨k, la, d⟩ x = (l == x.data.toList) := by
  unfold isW knd eqS wd
  simp only []
  rw [ht.1, ht.2.1, ByteArray.toList_eq, ByteArray.toList_eq]
  have e : ((tk ⟨s, wtT nm.length, none, 0⟩ k).kind != 5) = true := by rw [ht.2.2]; exact h5
  rw [e, Bool.true_and]
  simp only [Int.toNat_natCast]
  rw [slice_list, hs, hl]
end
theorem cut_right (a b : List UInt8) (i j : Nat) : ((a ++ b).take (a.length + j)).drop (a.length + i) = (b.take j).drop i := by
  rw [List.take_length_add_append, List.drop_length_add_append]
theorem wt_cut (nm : List UInt8) (i j : Nat) : ((wtL nm).take (10 + nm.length + j)).drop (10 + nm.length + i) = (postL.take j).drop i := by
  have h := cut_right (preL ++ nm) postL i j
  have e : (preL ++ nm).length = 10 + nm.length := by simp [preL]; omega
  rw [e, List.append_assoc] at h
  exact h
theorem wt_tree (nm : List UInt8) (s : ByteArray) (hn : nameB nm = true) (hs : s.data.toList = wtL nm) : ∃ E qa qb qc qd f x, parse s = some (.mk 2 (⟨#[]⟩ : ByteArray) 0 s.size none 0 [mkN E qa 0 5 f [mkN E qb 2 6 (⟨#[]⟩ : ByteArray) [mkN E qc 3 7 x [mkN E qd 5 9 ⟨nm.toArray⟩ []]], mkN E qb 7 0 (⟨#[]⟩ : ByteArray) [], mkN E qa 7 11 (⟨#[]⟩ : ByteArray) []]], []) := by
  have n10 : ((wtL nm).take (10 + nm.length)).drop 10 = nm := by
    rw [Nat.add_comm 10]
    simp [wtL, preL]
  have d6 : ((wtL nm).take (10 + nm.length + 1)).drop (10 + nm.length) = [41] := wt_cut nm 0 1
  have d7 : ((wtL nm).take (10 + nm.length + 3)).drop (10 + nm.length + 2) = [123] := wt_cut nm 2 3
  have d8 : ((wtL nm).take (10 + nm.length + 5)).drop (10 + nm.length + 4) = [125] := wt_cut nm 4 5
  have i0 := wt_w (k := 0) (l := [112, 114, 111, 99]) (kd := 1) (a := 0) (b := 4) hs ⟨rfl, rfl, rfl⟩ (by decide) rfl
  have i2 := wt_w (k := 2) (l := [40]) (kd := 3) (a := 6) (b := 7) hs ⟨rfl, rfl, rfl⟩ (by decide) rfl
  have i3 := wt_w (k := 3) (l := [120]) (kd := 0) (a := 7) (b := 8) hs ⟨rfl, rfl, rfl⟩ (by decide) rfl
  have i4 := wt_w (k := 4) (l := [58]) (kd := 3) (a := 8) (b := 9) hs ⟨rfl, rfl, rfl⟩ (by decide) rfl
  have i5 := wt_w (k := 5) (kd := 0) (a := 10) (b := 10 + nm.length) hs ⟨rfl, rfl, rfl⟩ (by decide) n10
  have i6 := wt_w (k := 6) (kd := 3) hs ⟨rfl, rfl, rfl⟩ (by decide) d6
  have i7 := wt_w (k := 7) (kd := 3) hs ⟨rfl, rfl, rfl⟩ (by decide) d7
  have i8 := wt_w (k := 8) (kd := 3) hs ⟨rfl, rfl, rfl⟩ (by decide) d8
  have q1 : ∀ la d, knd (⟨s, wtT nm.length, none, 0⟩ : Env) ⟨1, la, d⟩ = 0 := fun _ _ => rfl
  have q0 : ∀ la d, knd (⟨s, wtT nm.length, none, 0⟩ : Env) ⟨0, la, d⟩ = 1 := fun _ _ => rfl
  have q3 : ∀ la d, knd (⟨s, wtT nm.length, none, 0⟩ : Env) ⟨3, la, d⟩ = 0 := fun _ _ => rfl
  have q5 : ∀ la d, knd (⟨s, wtT nm.length, none, 0⟩ : Env) ⟨5, la, d⟩ = 0 := fun _ _ => rfl
  have q8 : ∀ la d, knd (⟨s, wtT nm.length, none, 0⟩ : Env) ⟨8, la, d⟩ = 3 := fun _ _ => rfl
  have q9 : ∀ la d, knd (⟨s, wtT nm.length, none, 0⟩ : Env) ⟨9, la, d⟩ = 5 := fun _ _ => rfl
  have hw : wd (⟨s, wtT nm.length, none, 0⟩ : Env) 5 = ⟨nm.toArray⟩ := by
    show s.extract (((10 : Nat) : Int)).toNat (((10 + nm.length : Nat) : Int)).toNat = _
    have e := slice_list s 10 (10 + nm.length)
    rw [hs, n10] at e
    simp only [Int.toNat_natCast]
    cases hx : s.extract 10 (10 + nm.length) with
    | mk a => rw [hx] at e; simp only at e; rw [← e]
  have hlx : lexical (scan s.data.toList) = [] := by
    rw [hs, wt_scan hn]
    have h2 := (nm_facts hn).2.1
    have e : ¬ ((16 : Int) < ((10 + nm.length : Nat) : Int) - 10) := by omega
    have c5 : lexC ⟨0, 9, 10, ((10 + nm.length : Nat) : Int)⟩ = 0 := by
      unfold lexC
      simp only [decide_eq_false e]
      rfl
    unfold lexical wtT
    simp only [List.filterMap_cons, List.filterMap_nil, c5]
    rfl
  have hkw := (nm_facts hn).2.2.2.1
  have i5b : (nm == [98, 111, 111, 108]) = false := by
    cases h : nm == [98, 111, 111, 108] with
    | false => rfl
    | true => rw [eq_of_beq h] at hkw; exact absurd hkw (by decide)
  have i5i : (nm == [105, 110, 116]) = false := by
    cases h : nm == [105, 110, 116] with
    | false => rfl
    | true => rw [eq_of_beq h] at hkw; exact absurd hkw (by decide)
  unfold parse
  rw [wt_env nm s hn hs, hlx]
  simp only []
  have hfu : fuel (⟨s, wtT nm.length, none, 0⟩ : Env) = 11 := rfl
  have hR : ∀ q, (it (⟨s, wtT nm.length, none, 0⟩ : Env) (deep ⟨s, wtT nm.length, none, 0⟩)).blk q = blkS ⟨s, wtT nm.length, none, 0⟩ (it ⟨s, wtT nm.length, none, 0⟩ 131) q := fun _ => rfl
  generalize hE : (⟨s, wtT nm.length, none, 0⟩ : Env) = E at *
  have f0_0 : ∀ la d, isW E ⟨0, la, d⟩ (⟨#[114, 101, 99, 111, 114, 100]⟩ : ByteArray) = false := fun la d => (i0 la d _).trans (by decide)
  have f0_1 : ∀ la d, isW E ⟨0, la, d⟩ (⟨#[112, 114, 111, 99]⟩ : ByteArray) = true := fun la d => (i0 la d _).trans (by decide)
  have f2_2 : ∀ la d, isW E ⟨2, la, d⟩ (⟨#[40]⟩ : ByteArray) = true := fun la d => (i2 la d _).trans (by decide)
  have f3_3 : ∀ la d, isW E ⟨3, la, d⟩ (⟨#[41]⟩ : ByteArray) = false := fun la d => (i3 la d _).trans (by decide)
  have f3_4 : ∀ la d, isW E ⟨3, la, d⟩ (⟨#[118, 97, 114]⟩ : ByteArray) = false := fun la d => (i3 la d _).trans (by decide)
  have f4_5 : ∀ la d, isW E ⟨4, la, d⟩ (⟨#[58]⟩ : ByteArray) = true := fun la d => (i4 la d _).trans (by decide)
  have f6_6 : ∀ la d, isW E ⟨6, la, d⟩ (⟨#[44]⟩ : ByteArray) = false := fun la d => (i6 la d _).trans (by decide)
  have f6_7 : ∀ la d, isW E ⟨6, la, d⟩ (⟨#[41]⟩ : ByteArray) = true := fun la d => (i6 la d _).trans (by decide)
  have f7_8 : ∀ la d, isW E ⟨7, la, d⟩ (⟨#[58]⟩ : ByteArray) = false := fun la d => (i7 la d _).trans (by decide)
  have f7_9 : ∀ la d, isW E ⟨7, la, d⟩ (⟨#[123]⟩ : ByteArray) = true := fun la d => (i7 la d _).trans (by decide)
  have f8_10 : ∀ la d, isW E ⟨8, la, d⟩ (⟨#[125]⟩ : ByteArray) = true := fun la d => (i8 la d _).trans (by decide)
  have f5b : ∀ la d, isW E ⟨5, la, d⟩ (⟨#[98, 111, 111, 108]⟩ : ByteArray) = false := fun la d => (i5 la d _).trans i5b
  have f5i : ∀ la d, isW E ⟨5, la, d⟩ (⟨#[105, 110, 116]⟩ : ByteArray) = false := fun la d => (i5 la d _).trans i5i
  have g1 : nam E ⟨1, (tk E 0).hi, []⟩ = (wd E 1, ⟨2, (tk E 1).hi, []⟩) := by unfold nam; rw [q1, if_pos rfl]; rfl
  have g2 : exq E ⟨2, (tk E 1).hi, []⟩ (⟨#[40]⟩ : ByteArray) = ⟨3, (tk E 2).hi, []⟩ := by unfold exq; rw [f2_2, if_pos rfl]; rfl
  have g3 : nam E ⟨3, (tk E 2).hi, []⟩ = (wd E 3, ⟨4, (tk E 3).hi, []⟩) := by unfold nam; rw [q3, if_pos rfl]; rfl
  have g4 : typ E ⟨5, (tk E 4).hi, []⟩ = (mkN E ⟨6, (tk E 5).hi, []⟩ 5 9 (wd E 5) [], ⟨6, (tk E 5).hi, []⟩) := by
    unfold typ
    rw [f5b, if_neg (by decide), f5i, if_neg (by decide), q5, if_pos rfl]
    rfl
  have g5 : opt E ⟨4, (tk E 3).hi, []⟩ = (mkN E ⟨6, (tk E 5).hi, []⟩ 5 9 (wd E 5) [], ⟨6, (tk E 5).hi, []⟩) := by
    unfold opt
    rw [f4_5, if_pos rfl]
    exact g4
  have g6 : par E ⟨3, (tk E 2).hi, []⟩ = (mkN E ⟨6, (tk E 5).hi, []⟩ 3 7 (wd E 3) [mkN E ⟨6, (tk E 5).hi, []⟩ 5 9 (wd E 5) []], ⟨6, (tk E 5).hi, []⟩) := by
    unfold par
    simp only []
    rw [f3_4]
    simp only [Bool.false_eq_true, if_false]
    rw [g3]
    simp only []
    rw [g5]
  have g7 : exq E ⟨6, (tk E 5).hi, []⟩ (⟨#[41]⟩ : ByteArray) = ⟨7, (tk E 6).hi, []⟩ := by unfold exq; rw [f6_7, if_pos rfl]; rfl
  have g8 : pars E ⟨2, (tk E 1).hi, []⟩ = some (mkN E ⟨7, (tk E 6).hi, []⟩ 2 6 (⟨#[]⟩ : ByteArray) [mkN E ⟨6, (tk E 5).hi, []⟩ 3 7 (wd E 3) [mkN E ⟨6, (tk E 5).hi, []⟩ 5 9 (wd E 5) []]], ⟨7, (tk E 6).hi, []⟩) := by
    unfold pars
    simp only []
    rw [g2, f3_3]
    simp only [Bool.false_eq_true, if_false]
    rw [g6, hfu]
    simp only []
    rw [more, f6_6]
    simp only [Bool.false_eq_true, if_false, Option.map_some]
    rw [g7]
  have g9 : opt E ⟨7, (tk E 6).hi, []⟩ = (mkN E ⟨7, (tk E 6).hi, []⟩ 7 0 (⟨#[]⟩ : ByteArray) [], ⟨7, (tk E 6).hi, []⟩) := by
    unfold opt
    rw [f7_8]
    rfl
  have g10 : stops E ⟨8, (tk E 7).hi, []⟩ = true := by
    unfold stops
    rw [f8_10]
    simp
  have g11 : exq E ⟨8, (tk E 7).hi, []⟩ (⟨#[125]⟩ : ByteArray) = ⟨9, (tk E 8).hi, []⟩ := by unfold exq; rw [f8_10, if_pos rfl]; rfl
  have g12 : ∀ R, blkS E R ⟨7, (tk E 6).hi, []⟩ = some (mkN E ⟨9, (tk E 8).hi, []⟩ 7 11 (⟨#[]⟩ : ByteArray) [], ⟨9, (tk E 8).hi, []⟩) := by
    intro R
    unfold blkS
    rw [f7_9, if_pos rfl, hfu, stmL]
    rw [show rd E ⟨7, (tk E 6).hi, []⟩ = ⟨8, (tk E 7).hi, []⟩ from rfl, g10, if_pos rfl]
    simp only [Option.map_some]
    rw [g11]
  generalize it E (deep E) = R at *
  have g13 : prc E R st0 = some (mkN E ⟨9, (tk E 8).hi, []⟩ 0 5 (wd E 1) [mkN E ⟨7, (tk E 6).hi, []⟩ 2 6 (⟨#[]⟩ : ByteArray) [mkN E ⟨6, (tk E 5).hi, []⟩ 3 7 (wd E 3) [mkN E ⟨6, (tk E 5).hi, []⟩ 5 9 (wd E 5) []]], mkN E ⟨7, (tk E 6).hi, []⟩ 7 0 (⟨#[]⟩ : ByteArray) [], mkN E ⟨9, (tk E 8).hi, []⟩ 7 11 (⟨#[]⟩ : ByteArray) []], ⟨9, (tk E 8).hi, []⟩) := by
    unfold prc
    simp only []
    rw [show rd E st0 = ⟨1, (tk E 0).hi, []⟩ from rfl, g1]
    simp only []
    rw [g8]
    simp only [Option.bind_some]
    rw [g9]
    simp only []
    rw [hR, g12]
    rfl
  have g14 : decl E R st0 = prc E R st0 := by
    unfold decl
    rw [show isW E st0 (⟨#[114, 101, 99, 111, 114, 100]⟩ : ByteArray) = false from f0_0 _ _, show isW E st0 (⟨#[112, 114, 111, 99]⟩ : ByteArray) = true from f0_1 _ _]
    rfl
  refine ⟨E, ⟨9, (tk E 8).hi, []⟩, ⟨7, (tk E 6).hi, []⟩, ⟨6, (tk E 5).hi, []⟩, ⟨6, (tk E 5).hi, []⟩, wd E 1, wd E 3, ?_⟩
  rw [hfu]
  rw [declL, show knd E st0 = 1 from q0 _ _, if_neg (by decide), g14, g13]
  simp only [Option.bind_some]
  rw [declL, q9, if_pos rfl, hw]
  rfl
end Go.Proofs.YtnpcfmoiiecadaaDoor.Wt
