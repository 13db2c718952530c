/- What is proved: parts, the scalars of a type that exists. -/
import Derived.Test.YtnpcfmoiiecadaaDoorTyCopy
import Derived.Test.YtnpcfmoiiecadaaDoorTyMul
import Derived.Deep.AppendLies
import Derived.Test.YtnpcfmoiiecadaaDoorTyMember
set_option linter.unusedVariables false
namespace Go.Proofs.YtnpcfmoiiecadaaDoor
open Go.RowKit

theorem infoType : (Tryd.prog.info? 23).map (fun i => (i.zero, i.size, i.bytes)) = some (some (.agg #[.int .i64 0, .int .i64 0, .string ⟨#[]⟩]), 3, 32) := by kernel_rfl
theorem info_parts {x : Option TypeInfo} {z : Value} {s b : Nat} (h : x.map (fun i => (i.zero, i.size, i.bytes)) = some (some z, s, b)) : ∃ i, x = some i ∧ i.zero = some z ∧ i.size = s ∧ i.bytes = b := by
  cases x with
  | none => cases h
  | some i =>
    simp only [Option.map_some, Option.some.injEq, Prod.mk.injEq] at h
    exact ⟨i, rfl, h.1, h.2.1, h.2.2⟩
theorem made_0 : madeCells #[.int .i64 0, .int .i64 0, .string ⟨#[]⟩] (0 * 3) = (zers 0).toArray := by kernel_rfl
theorem made_1 : madeCells #[.int .i64 0, .int .i64 0, .string ⟨#[]⟩] (1 * 3) = (zers 1).toArray := by kernel_rfl
theorem made_2 : madeCells #[.int .i64 0, .int .i64 0, .string ⟨#[]⟩] (2 * 3) = (zers 2).toArray := by kernel_rfl
theorem made_3 : madeCells #[.int .i64 0, .int .i64 0, .string ⟨#[]⟩] (3 * 3) = (zers 3).toArray := by kernel_rfl
theorem made_4 : madeCells #[.int .i64 0, .int .i64 0, .string ⟨#[]⟩] (4 * 3) = (zers 4).toArray := by kernel_rfl
theorem made_5 : madeCells #[.int .i64 0, .int .i64 0, .string ⟨#[]⟩] (5 * 3) = (zers 5).toArray := by kernel_rfl
theorem made_6 : madeCells #[.int .i64 0, .int .i64 0, .string ⟨#[]⟩] (6 * 3) = (zers 6).toArray := by kernel_rfl
theorem made_7 : madeCells #[.int .i64 0, .int .i64 0, .string ⟨#[]⟩] (7 * 3) = (zers 7).toArray := by kernel_rfl
theorem made_8 : madeCells #[.int .i64 0, .int .i64 0, .string ⟨#[]⟩] (8 * 3) = (zers 8).toArray := by kernel_rfl
theorem made_zers (n : Nat) (hn : n ≤ 8) : madeCells #[.int .i64 0, .int .i64 0, .string ⟨#[]⟩] (n * 3) = (zers n).toArray := by
  have h : n = 0 ∨ n = 1 ∨ n = 2 ∨ n = 3 ∨ n = 4 ∨ n = 5 ∨ n = 6 ∨ n = 7 ∨ n = 8 := by omega
  rcases h with rfl | rfl | rfl | rfl | rfl | rfl | rfl | rfl | rfl
  · exact made_0
  · exact made_1
  · exact made_2
  · exact made_3
  · exact made_4
  · exact made_5
  · exact made_6
  · exact made_7
  · exact made_8
theorem run_make_types (n : Nat) (hn : n ≤ 8) (W : World) : (Instr.makeSlice 60 (.int .i64 (n : Int)) (.int .i64 (n : Int))).run Tryd.prog W = .ok (.slice (some ⟨W.heap.size, 0, none⟩) n n) (W.alloc (.cells (rowK 0 n).toArray 23)) := by
  obtain ⟨i0, hi0, hz0, hz1, hz2⟩ := info_parts infoType
  have h := run_make (P := Tryd.prog) W 60 23 i0 _ Tryd.underlying60 hi0 hz0 .i64 .i64 n n (by omega) (by omega) (by rw [hz2]; omega) (by omega)
  rw [hz1, Int.toNat_natCast] at h
  rw [h]
  have e := made_zers n hn
  rw [show rowK 0 n = zers n from by simp [rowK, pats], ← e]
  rfl
theorem run_slice_to (A : Option Addr) (len c F : Nat) (h : F ≤ c) (hF : F ≤ 1000000000) (W : World) : (Instr.slice 60 (.slice A len c) none (some (.int .i64 (F : Int))) none).run Tryd.prog W = .ok (.slice A F c) W := by
  obtain ⟨i0, hi0, hz0, hz1, hz2⟩ := info_parts infoType
  have e : (if c = 0 then A else Option.map (fun a => a.add 0) A) = A := by
    split
    · rfl
    · cases A <;> simp [Addr.add]
  simp [Instr.slice, run_underlying Tryd.underlying60, Instr.sliceBounds, Instr.sliceBound, asIntOf, h, sizeOf, typeInfo, hi0, e]
theorem run_slice_from (b len c T : Nat) (h : T ≤ len) (hc : c ≠ T) (W : World) : (Instr.slice 60 (.slice (some ⟨b, 0, none⟩) len c) (some (.int .i64 (T : Int))) none none).run Tryd.prog W = .ok (.slice (some ⟨b, T * 3, none⟩) (len - T) (c - T)) W := by
  obtain ⟨i0, hi0, hz0, hz1, hz2⟩ := info_parts infoType
  simp [Instr.slice, run_underlying Tryd.underlying60, Instr.sliceBounds, Instr.sliceBound, asIntOf, h, sizeOf, typeInfo, hi0, hz1, hc, Addr.add]
  intro h; omega
theorem infoSize : (Tryd.prog.info? 23).map (·.size) = some 3 := by kernel_rfl

theorem copy_row (W w0 : World) (g k m n b o sLen sCap B : Nat) (hg : W.heap[g]? = some (.cells (rowK k n).toArray 23 (0, 0))) (hk : k + m ≤ n) (hm : Nat.min sLen (n - k) = m)
    (hsrc : ∀ j v, (pats m)[j]? = some v → W.cell? ((⟨b, o, none⟩ : Addr).add j) = some v) (hb : Below B w0 W) (hBg : B ≤ g) :
    ∃ w', (Builtin.copy_ #[60, 60] 3 #[.slice (some ⟨g, k * 3, none⟩) (n - k) (n - k), .slice (some ⟨b, o, none⟩) sLen sCap]).run Tryd.prog W = .ok (.int .i64 (m : Int)) w' ∧ w'.heap[g]? = some (.cells (rowK (k + m) n).toArray 23 (0, 0)) ∧ Below B w0 w' := by
  have h := run_copy_rowN (P := Tryd.prog) W 60 60 3 23 g (k * 3) (n - k) (n - k) ⟨b, o, none⟩ sLen sCap 3 (rowK k n).toArray 23 (pats m) Tryd.underlying60 infoSize hg (by rw [pats_len, hm]) hsrc
    (by rw [pats_len, List.size_toArray, rowK_len _ _ (by omega)]; omega) (pats_one m)
  rw [hm, List.toList_toArray, rowK_splice k m n hk] at h
  exact ⟨_, h, setRow_heap W g _ _ _ _ hg, below_setRow hb hBg _⟩

set_option maxRecDepth 100000 in
set_option maxHeartbeats 2000000 in
theorem repeat_any (b n : Nat) (h1 : 1 ≤ n) (h8 : n ≤ 8) (w : World) (hs : TCells w b 0 (bsc 1)) (hb : b < w.heap.size) :
    Calls Tryd.prog 60 #[.slice (some ⟨b, 0, none⟩) 1 1, .int .i64 (n : Int)] w fun e w' => e = .returned (.slice (some ⟨w.heap.size, 0, none⟩) n n) ∧ w'.heap[w.heap.size]? = some (.cells (rowK n n).toArray 23 (0, 0)) ∧ Below w.heap.size w w' := by
  have HS := Lib.hid hs
  have HMK := Lib.hid (fun W => run_make_types n h8 W)
  clear hs
  go_enter Tryd.func60, Tryd.ntmps60
  go_wp2_with (fail)
  refine (mul_any n h8 w).mono ?_
  rintro e w' ⟨rfl, rfl⟩
  have hmk := HMK.out w
  have hng : decide ((9223372036854775807 : Int) < (n : Int)) = false := by simp; omega
  have hsn : (0 : Int) < (n : Int) := by omega
  have hb0 := (Below.refl w.heap.size w).alloc (Nat.le_refl _) (.cells (rowK 0 n).toArray 23)
  obtain ⟨w2, hc2, hg2, hb2⟩ := copy_row (w.alloc (.cells (rowK 0 n).toArray 23)) w w.heap.size 0 1 n b 0 1 1 w.heap.size (heap_alloc_new w _) (by omega) (by show min 1 (n - 0) = 1; omega)
    (fun j v hj => by
      have hcs := HS.out.below hb0 hb
      have hadd : (⟨b, 0, none⟩ : Addr).add j = ⟨b, j, none⟩ := by unfold Addr.add; split <;> simp_all
      rw [hadd]
      match j, hj with
      | 0, hj => cases hj; exact hcs.1
      | 1, hj => cases hj; exact hcs.2.1
      | 2, hj => cases hj; exact hcs.2.2) hb0 (Nat.le_refl _)
  rw [Nat.zero_mul, Nat.sub_zero] at hc2
  have HC2 := Lib.hid hc2
  have HG2 := Lib.hid hg2
  have HB2 := Lib.hid hb2
  clear hc2 hg2 hb2 hb0
  go_wp2_with (refine wpList_copy_by _ (by rfl) (.tmp 31) (.tmp 32) 60 60 (by rfl) _ _ (by rfl) (by rfl) _ _ HC2.out ?_)
  clear hmk
  go_loopw [8] (fun i wr => ∃ k : Nat, 1 ≤ k ∧ k ≤ n ∧ i = .int .i64 (k : Int) ∧ Hid (wr.heap[w.heap.size]? = some (.cells (rowK k n).toArray 23 (0, 0))) ∧ Hid (Below w.heap.size w wr)) (fun i _ => n - (intOf i).toNat)
  case atStart => exact ⟨1, Nat.le_refl _, h1, rfl, HG2, HB2⟩
  case round =>
    obtain ⟨k, hk1, hkn, rfl, hgr, hbr⟩ := hrel
    by_cases hlt : k < n
    · obtain ⟨m, HM⟩ : ∃ m, Hid (Nat.min k (n - k) = m) := ⟨_, Lib.hid rfl⟩
      have hm1 : 1 ≤ m := by rw [← HM.out]; show 1 ≤ min k (n - k); omega
      have hm2 : k + m ≤ n := by rw [← HM.out]; show k + min k (n - k) ≤ n; omega
      have hm3 : m ≤ k := by rw [← HM.out]; show min k (n - k) ≤ k; omega
      obtain ⟨w3, hc3, hg3, hb3⟩ := copy_row wr.drew w w.heap.size k m n w.heap.size 0 k n w.heap.size hgr.out hm2 HM.out
        (fun j v hj => by
          have hadd : (⟨w.heap.size, 0, none⟩ : Addr).add j = ⟨w.heap.size, j, none⟩ := by unfold Addr.add; split <;> simp_all
          have hj' := rowK_src k m n hm3 j v hj
          rw [hadd]
          show wr.cell? ⟨w.heap.size, j, none⟩ = some v
          rw [Lib.cell_of_heap hgr.out j]
          simpa using hj') hbr.out.drew (Nat.le_refl _)
      have HC3 := Lib.hid hc3
      have HG3 := Lib.hid hg3
      have HB3 := Lib.hid hb3
      have hsf := fun W => run_slice_from w.heap.size n n k hkn (by omega) W
      have hst := fun W => run_slice_to (some ⟨w.heap.size, 0, none⟩) n n k hkn (by omega) W
      have hwr : IntKind.i64.wrap ((k : Int) + (m : Int)) = (k : Int) + (m : Int) := IntWalk.i64_in _ (by omega)
      have HK := Lib.hid (show w3.cell? ⟨b, 0, none⟩ = some (.int .i64 1) from (HS.out.below hb3 hb).1)
      have c0 : wr.cell? ⟨b, 0, none⟩ = some (.int .i64 1) := (HS.out.below hbr.out hb).1
      clear hc3 hg3 hb3
      go_wp2_with (fail)
      go_region_held3 (fun w' => w'.cell? ⟨b, 0, none⟩ = some (.int .i64 1)) (first | (with_reducible exact HK.out) | go_keep) ((refine step_copy_by _ (by rfl) (.tmp 41) (.tmp 44) 60 60 (by rfl) _ _ (by rfl) (by rfl) _ _ HC3.out ?_))
      all_goals
        go_wp2_with (fail)
        exact ⟨⟨k + m, by omega, hm2, by go_num, HG3, HB3⟩, by simp [intOf]; omega⟩
    · obtain rfl : k = n := by omega
      go_wp2_with (fail)
      go_ret
      exact ⟨rfl, hgr.out, hbr.out⟩
end Go.Proofs.YtnpcfmoiiecadaaDoor
set_option linter.unusedVariables false
namespace Go.Proofs.YtnpcfmoiiecadaaDoor
open Go.RowKit

/-- the cells of types -/
def tcells : List TyV → List Value
  | [] => []
  | t :: ts => .int .i64 t.kind :: .int .i64 t.len :: .string t.nm :: tcells ts
theorem tcells_append (l m : List TyV) : tcells (l ++ m) = tcells l ++ tcells m := by
  induction l with
  | nil => rfl
  | cons r rs ih => simp [tcells, ih]
theorem tcells_len (l : List TyV) : (tcells l).length = l.length * 3 := by
  induction l with
  | nil => rfl
  | cons r rs ih => simp [tcells, ih]; omega
theorem tcells_one (l : List TyV) : ∀ u ∈ tcells l, u.oneCell' = true := by
  induction l with
  | nil => simp [tcells]
  | cons r rs ih =>
    intro u hu
    simp only [tcells, List.mem_cons] at hu
    rcases hu with rfl | rfl | rfl | hu
    · rfl
    · rfl
    · rfl
    · exact ih u hu
theorem tcells_get (l : List TyV) : ∀ (i : Nat) (h : i < l.length), (tcells l)[i * 3]? = some (.int .i64 l[i].kind) ∧ (tcells l)[i * 3 + 1]? = some (.int .i64 l[i].len) ∧ (tcells l)[i * 3 + 2]? = some (.string l[i].nm) := by
  induction l with
  | nil => intro i h; simp at h
  | cons r rs ih =>
    intro i h
    cases i with
    | zero => simp [tcells]
    | succ i =>
      have h' := ih i (by simpa using h)
      rw [show (i + 1) * 3 = i * 3 + 3 from by omega]
      simpa [tcells] using h'
theorem tcells_pats (n : Nat) : rowK n n = tcells (List.replicate n (bsc 1)) := by
  have e : ∀ n, pats n = tcells (List.replicate n (bsc 1)) := by
    intro n
    induction n with
    | zero => rfl
    | succ n ih =>
      unfold pats at *
      rw [List.replicate_succ, List.flatten_cons, ih, List.replicate_succ]
      rfl
  unfold rowK
  rw [Nat.sub_self, e]
  simp [zers]
theorem ty_addr_add (g k : Nat) : (⟨g, 0, none⟩ : Addr).add k = ⟨g, 0 + k, none⟩ := by
  unfold Addr.add
  by_cases hk : k = 0
  · simp [hk]
  · simp [hk]
/-- a row of its own that holds types reads as they -/
theorem types_own {w : World} {B : Nat} {v : Value} {l : List TyV} (h : w.ownsRow B 23 3 v l.length (tcells l)) : ∃ A c, v = .slice A l.length c ∧ TRow w.heap.size w A l := by
  rcases Nat.eq_zero_or_pos l.length with h0 | h0
  · rcases h.2 with ⟨rfl, _⟩ | ⟨g, cap, cur, rfl, _⟩
    · exact ⟨none, 0, by rw [h0], fun hh => by omega⟩
    · exact ⟨_, _, rfl, fun hh => by omega⟩
  · obtain ⟨g, cap, hv, _, hlt⟩ := h.form h0
    refine ⟨some ⟨g, 0, none⟩, cap, hv, fun _ => ⟨g, 0, rfl, hlt, fun i hi => ?_⟩⟩
    have hc := h.cells (g := g) (by rw [hv]; rfl)
    obtain ⟨e1, e2, e3⟩ := tcells_get l i hi
    have a1 := hc _ _ e1
    have a2 := hc _ _ e2
    have a3 := hc _ _ e3
    rw [ty_addr_add] at a1 a2 a3
    exact ⟨a1, a2, a3⟩
theorem ty_own_below {w w' : World} {B n sz : Nat} {E : TypeId} {v : Value} {xs : List Value} (h : w.ownsRow B E sz v n xs) (hb : Below w.heap.size w w') : w'.ownsRow B E sz v n xs :=
  h.kept (row := none) ⟨hb.os, hb.tape, hb.output, hb.size, fun k hk _ => hb.block k hk⟩ (by
    cases hv : v.ownBlock with
    | none => exact .inl rfl
    | some g => exact .inr (by simp))
theorem ty_own_base {w : World} {B B' n sz : Nat} {E : TypeId} {v : Value} {xs : List Value} (hB : B' ≤ B) (h : w.ownsRow B E sz v n xs) : w.ownsRow B' E sz v n xs := by
  refine ⟨h.1, ?_⟩
  rcases h.2 with h0 | ⟨g, cap, cur, hv, hb, hr⟩
  · exact .inl h0
  · exact .inr ⟨g, cap, cur, hv, by omega, hr⟩
/-- a block of n new elements is a row of n types -/
theorem own_block {w : World} {g : Nat} (l : List TyV) (hg : w.heap[g]? = some (.cells (tcells l).toArray 23 (0, 0))) (B : Nat) (hB : B ≤ g) (hl : l.length ≤ 1000000) : w.ownsRow B 23 3 (.slice (some ⟨g, 0, none⟩) l.length l.length) l.length (tcells l) :=
  ⟨tcells_len l, .inr ⟨g, l.length, (tcells l).toArray, rfl, hB, hg, Nat.le_refl _, by unfold maxLen; omega, by rw [List.size_toArray, tcells_len], by have h : (tcells l).length ≤ l.length * 3 := (by rw [tcells_len]; exact Nat.le_refl _); simpa using List.take_of_length_le h⟩⟩

section
variable {P : Program} (w : World)
theorem run_append_none (t ty e : TypeId) (i : TypeInfo) (ht : P.underlying t = some (.slice e)) (hi : P.info? e = some i) (b : Option Addr) (n cap c : Nat) (hn : n ≤ cap) :
    (Builtin.append_ #[t, t] ty #[.slice b n cap, .slice none 0 c]).run P w = .ok (.slice b n cap) w := by
  cases b with
  | none => simp [Builtin.append_, run_underlying ht, sizeOf, typeInfo, hi, Builtin.lenOf, Builtin.firstCells, hn]
  | some a => simp [Builtin.append_, run_underlying ht, sizeOf, typeInfo, hi, Builtin.lenOf, Builtin.firstCells, hn, storeCells]
end
end Go.Proofs.YtnpcfmoiiecadaaDoor
set_option linter.unusedVariables false
namespace Go.Proofs.YtnpcfmoiiecadaaDoor
open Go.RowKit

/-- a row of new types is returned -/
def RowRes (l : List TyV) (w : World) (e : Ending) (w' : World) : Prop := ∃ v, e = .returned v ∧ w'.ownsRow w.heap.size 23 3 v l.length (tcells l) ∧ Below w.heap.size w w'

set_option maxHeartbeats 1000000 in
theorem parts_basic (t : TyV) (A : Option Addr) (c : Nat) (l : List RcV) (w : World) (h3 : (t.kind == 3) = false) (h4 : (t.kind == 4) = false) :
    Calls Tryd.prog 43 #[.agg #[.int .i64 t.kind, .int .i64 t.len, .string t.nm], .slice A l.length c] w (RowRes [t] w) := by
  go_enter Tryd.func43, Tryd.ntmps43
  go_wp2_with (fail)
  go_ret
  have hb := ((Below.refl w.heap.size w).alloc (Nat.le_refl _) (.cells #[.int .i64 t.kind, .int .i64 t.len, .string t.nm] 23)).alloc (by simp) (.cells #[.int .i64 t.kind, .int .i64 t.len, .string t.nm] 23)
  have hn := heap_alloc_new (w.alloc (.cells #[.int .i64 t.kind, .int .i64 t.len, .string t.nm] 23)) (.cells #[.int .i64 t.kind, .int .i64 t.len, .string t.nm] 23)
  rw [World.size_alloc] at hn
  exact ⟨_, rfl, own_block [t] hn _ (by omega) (by simp), hb⟩

theorem int_box (w : World) (k : Int) : TCells (w.alloc (.cells #[.int .i64 k, .int .i64 0, .string ⟨#[]⟩] 23)) w.heap.size 0 (bsc k) := TCells.of_box (x := bsc k)

set_option maxHeartbeats 2000000 in
theorem parts_array (t : TyV) (n : Nat) (A : Option Addr) (c : Nat) (l : List RcV) (w : World) (h3 : (t.kind == 3) = true) (hn : t.len = (n : Int)) (h1 : 1 ≤ n) (h8 : n ≤ 8) :
    Calls Tryd.prog 43 #[.agg #[.int .i64 t.kind, .int .i64 t.len, .string t.nm], .slice A l.length c] w (RowRes (List.replicate n (bsc 1)) w) := by
  have HN := Lib.hid hn
  clear hn
  go_enter Tryd.func43, Tryd.ntmps43
  go_wp2_with (fail)
  obtain ⟨hb0, hc0, hs0⟩ := box_ty w t
  generalize (w.alloc (.cells #[.int .i64 t.kind, .int .i64 t.len, .string t.nm] 23)) = w0 at *
  have HB0 := Lib.hid hb0
  have HC0 := Lib.hid hc0
  have HS0 := Lib.hid (show w.heap.size + 1 ≤ w0.heap.size by omega)
  obtain ⟨c0, c1, c2⟩ := hc0.now
  rw [HN.out] at c1
  clear hb0 hc0 hs0 c0 c2
  go_region_held3 (fun w' => w'.cell? ⟨w.heap.size, 1, none⟩ = some (.int .i64 (n : Int))) (first | (with_reducible exact HKA.out) | (with_reducible exact HK.out) | go_keep)
    ((first
      | (go_at_call 12; refine (ty_basic_any 1 _).mono ?_; rintro e w1 ⟨rfl, hb⟩; have HB1 := Lib.hid (HB0.out.trans (((Below.refl _ _).drew.trans hb).mono (by have := HS0.out; show w.heap.size ≤ w0.heap.size; omega))); have HS1 := Lib.hid (Nat.le_trans HS0.out hb.size); have HK := Lib.hid (show w1.cell? ⟨w.heap.size, 1, none⟩ = some (.int .i64 (n : Int)) from ((hb.cell (p := ⟨w.heap.size, 1, none⟩) (by have := HS0.out; show w.heap.size < w0.heap.size; omega)).trans c1)); have HA := Lib.hid ((Below.refl w1.heap.size w1).alloc (Nat.le_refl _) (.cells #[.int .i64 1, .int .i64 0, .string ⟨#[]⟩] 23)); have HT := Lib.hid (show TCells (w1.alloc (.cells #[.int .i64 1, .int .i64 0, .string ⟨#[]⟩] 23)) w1.heap.size 0 (bsc 1) from int_box w1 1); have HKA := Lib.hid ((HA.out.cell (p := ⟨w.heap.size, 1, none⟩) (by have := HS1.out; show w.heap.size < w1.heap.size; omega)).trans HK.out); clear hb)
      | (go_at_call 60; (refine (repeat_any w1.heap.size n h1 h8 _ HT.out (by simp)).mono ?_); rintro e w2 ⟨rfl, hg2, hb2⟩; have HG2 := Lib.hid hg2; have HB2 := Lib.hid (HB1.out.trans ((HA.out.trans (hb2.mono (by simp))).mono HB1.out.size)); have HK := Lib.hid ((hb2.cell (p := ⟨w.heap.size, 1, none⟩) (by have := HS1.out; simp; omega)).trans HKA.out); clear hg2 hb2)))
  go_wp2_with (fail)
  go_ret
  refine ⟨_, rfl, ?_, HB2.out⟩
  have h := HG2.out
  rw [tcells_pats] at h
  have h2 := own_block (List.replicate n (bsc 1)) h w.heap.size (by have := HS1.out; simp; omega) (by simp; omega)
  simpa using h2
set_option maxHeartbeats 2000000 in
theorem parts_record (t : TyV) (r : RcV) (A : Option Addr) (c : Nat) (l : List RcV) (w : World) (h3 : (t.kind == 3) = false) (h4 : (t.kind == 4) = true) (hf : fndR l t.nm = some r) (hl20 : r.flds.length ≤ 20) (hr : RRow w.heap.size w A l) (hl : l.length ≤ 1000000000) :
    Calls Tryd.prog 43 #[.agg #[.int .i64 t.kind, .int .i64 t.len, .string t.nm], .slice A l.length c] w (RowRes (r.flds.map fty) w) := by
  obtain ⟨i0, hi0, hz0, hz1, hz2⟩ := info_parts infoType
  have HF := Lib.hid hf
  have HR := Lib.hid hr
  clear hf hr
  go_enter Tryd.func43, Tryd.ntmps43
  go_wp2_with (fail)
  obtain ⟨hb0, hc0, hs0⟩ := box_ty w t
  generalize (w.alloc (.cells #[.int .i64 t.kind, .int .i64 t.len, .string t.nm] 23)) = w0 at *
  have HB0 := Lib.hid hb0
  have HS0 := Lib.hid (show w.heap.size + 1 ≤ w0.heap.size by omega)
  clear hb0 hc0 hs0
  refine (find_yes A c l t.nm r w0 HF.out (HR.out.later HB0.out) hl).mono ?_
  rintro e w1 ⟨rfl, hb1⟩
  have HB1 := Lib.hid (HB0.out.trans (hb1.mono (by have := HS0.out; omega)))
  have HFR := Lib.hid (HR.out.fields (fndR_mem HF.out)).1
  clear hb1
  go_wp2_with (fail)
  go_loopw [7, 30] (fun v i wr => ∃ k : Nat, k ≤ r.flds.length ∧ i = .int .i64 (k : Int) ∧ Hid (wr.ownsRow w.heap.size 23 3 v k (tcells ((r.flds.map fty).take k))) ∧ Hid (Below w.heap.size w wr)) (fun _ i _ => r.flds.length - (intOf i).toNat)
  case atStart => exact ⟨0, Nat.zero_le _, rfl, Lib.hid (by simpa [tcells] using World.ownsRow_nil _ _ _ _), HB1⟩
  case round =>
    obtain ⟨k, hk, rfl, hown, hbw⟩ := hrel
    by_cases hlt : k < r.flds.length
    · obtain ⟨b, off, hA, hb, hcs⟩ := (HFR.out.below hbw.out) (by omega)
      obtain ⟨c0, c1, c2, c3⟩ := hcs k hlt
      clear hcs
      obtain ⟨x, HX⟩ : ∃ x, Hid (r.flds[k] = x) := ⟨_, Lib.hid rfl⟩
      rw [HX.out] at c0 c1 c2 c3
      have HT := Lib.hid (show tcells ((r.flds.map fty).take (k + 1)) = tcells ((r.flds.map fty).take k) ++ tcells [fty x] by
        rw [← tcells_append, List.take_succ_eq_append_getElem (by simpa using hlt), List.getElem_map, HX.out])
      have hzw := hbw.out.size
      rw [hA]
      go_wp2_with (fail)
      clear c0 c1 c2 c3
      have hal := (Below.refl wr.heap.size wr).alloc (Nat.le_refl _) (.cells #[.string x.name, .int .i64 x.ty.kind, .int .i64 x.ty.len, .string x.ty.nm] 87)
      have hza : (wr.alloc (.cells #[.string x.name, .int .i64 x.ty.kind, .int .i64 x.ty.len, .string x.ty.nm] 87)).heap.size = wr.heap.size + 1 := by simp
      generalize (wr.alloc (.cells #[.string x.name, .int .i64 x.ty.kind, .int .i64 x.ty.len, .string x.ty.nm] 87)) = wa at *
      have HAL := Lib.hid hal
      refine (fieldType_any x wa).mono ?_
      rintro e w2 ⟨rfl, hb2⟩
      have HB2 := Lib.hid (hbw.out.trans ((HAL.out.trans (hb2.mono (by omega))).mono hzw))
      have HO2 := Lib.hid ((ty_own_below (ty_own_below hown.out HAL.out) hb2).alloc (.cells #[.int .i64 ((fty x)).kind, .int .i64 ((fty x)).len, .string ((fty x)).nm] 23))
      have HZ2 := Lib.hid (show w.heap.size ≤ w2.heap.size from HB2.out.size)
      have HLT := Lib.hid (fun b e => hown.out.lt b e)
      clear hal hza hb2
      generalize fty x = y at *
      go_wp2_with (at_builtin; refine wpList_append_lies _ rfl _ _ 60 rfl w.heap.size 23 i0 _ 3 32 Tryd.underlying60 hi0 hz0 hz1 hz2 rfl (by decide) _ _ _ rfl HO2.out ⟨w2.heap.size, 0, none⟩ 1 1 (tcells [y]) rfl rfl (World.news_of_block (cs := #[.int .i64 y.kind, .int .i64 y.len, .string y.nm]) (heap_alloc_new w2 _)) (tcells_one _) (by decide) ?c3 ?c4 ?c5 (w2.heap.size + 1) (by simp) ?_)
      case c3 => unfold maxLen; omega
      case c4 => omega
      case c5 => have := HZ2.out; simp; omega
      intro g cap w3 hown3 hgr hsel hgl
      have HO3 := Lib.hid hown3
      have HB3 := Lib.hid ((HB2.out.alloc HZ2.out (.cells #[.int .i64 y.kind, .int .i64 y.len, .string y.nm] 23)).grown hgr (by have := HZ2.out; simp; omega) (fun b e => (HLT.out b e).1))
      clear hown3 hgr hsel hgl
      go_wp2_with (fail)
      exact ⟨⟨k + 1, by omega, by go_num, by rw [HT.out]; exact HO3, HB3⟩, by simp [intOf]; omega⟩
    · obtain rfl : k = r.flds.length := by omega
      go_wp2_with (fail)
      go_ret
      refine ⟨_, rfl, ?_, hbw.out⟩
      have h := hown.out
      rw [List.take_of_length_le (by simp)] at h
      simpa using h
theorem parts_any (t : TyV) (A : Option Addr) (c : Nat) (l : List RcV) (w : World) (hv : validB t l = true) (hr : RRow w.heap.size w A l) (hl : l.length ≤ 1000000000) (h20 : ∀ r ∈ l, r.flds.length ≤ 20) :
    Calls Tryd.prog 43 #[.agg #[.int .i64 t.kind, .int .i64 t.len, .string t.nm], .slice A l.length c] w (RowRes (partsT t l) w) := by
  by_cases k3 : t.kind = 3
  · have hb : 1 ≤ t.len ∧ t.len ≤ 8 := by
      unfold validB at hv
      rw [if_neg (by omega), if_pos k3] at hv
      simp only [Bool.and_eq_true, decide_eq_true_eq] at hv
      exact hv.1
    have h := parts_array t t.len.toNat A c l w (by simpa using k3) (by omega) (by omega) (by omega)
    rwa [show partsT t l = List.replicate t.len.toNat (bsc 1) by unfold partsT; rw [if_pos k3]]
  · by_cases k4 : t.kind = 4
    · obtain ⟨r, hf⟩ := kind4 k4 hv
      have h := parts_record t r A c l w (by simpa using k3) (by simpa using k4) hf (h20 r (fndR_mem hf)) hr hl
      rwa [show partsT t l = r.flds.map fty by unfold partsT; rw [if_neg k3, if_pos k4, hf]]
    · rw [show partsT t l = [t] by unfold partsT; rw [if_neg k3, if_neg k4]]
      exact parts_basic t A c l w (by simpa using k3) (by simpa using k4)
theorem parts_len (t : TyV) (l : List RcV) (hv : validB t l = true) (h20 : ∀ r ∈ l, r.flds.length ≤ 20) : (partsT t l).length ≤ 20 := by
  unfold partsT
  by_cases k3 : t.kind = 3
  · have hb : 1 ≤ t.len ∧ t.len ≤ 8 := by
      unfold validB at hv
      rw [if_neg (by omega), if_pos k3] at hv
      simp only [Bool.and_eq_true, decide_eq_true_eq] at hv
      exact hv.1
    rw [if_pos k3]; simp; omega
  · rw [if_neg k3]
    by_cases k4 : t.kind = 4
    · obtain ⟨r, hf⟩ := kind4 k4 hv
      rw [if_pos k4, hf]
      simpa using h20 r (fndR_mem hf)
    · rw [if_neg k4]; simp
end Go.Proofs.YtnpcfmoiiecadaaDoor
