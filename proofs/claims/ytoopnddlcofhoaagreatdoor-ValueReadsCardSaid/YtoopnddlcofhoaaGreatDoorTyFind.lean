/- What is proved: basic, fieldType, find. -/
import Derived.Test.YtoopnddlcofhoaaGreatDoorTyBase
set_option linter.unusedVariables false
namespace Go.Proofs.YtoopnddlcofhoaaGreatDoor
open Go.RowKit

set_option maxHeartbeats 400000 in
theorem ty_basic_any (k : Int) (w : World) : Calls Tryz.prog 33 #[.int .i64 k] w fun e w' => e = .returned (.agg #[.int .i64 k, .int .i64 0, .string ⟨#[]⟩]) ∧ Below w.heap.size w w' := by
  go_enter Tryz.func33, Tryz.ntmps33
  go_wp2_with (fail)
  refine bodyPost_ret (v := .agg #[.int .i64 k, .int .i64 0, .string ⟨#[]⟩]) (by simp [results, Tryz.results33, go_sem]) rfl ⟨rfl, ?_⟩
  exact (Below.refl _ _).alloc (Nat.le_refl _) _

/-- three cells behind a name, in a block -/
def Ty3 (w : World) (b o : Nat) (x : TyV) : Prop := w.cell? ⟨b, o, none⟩ = some (.int .i64 x.kind) ∧ w.cell? ⟨b, o + 1, none⟩ = some (.int .i64 x.len) ∧ w.cell? ⟨b, o + 2, none⟩ = some (.string x.nm)
/-- a result's cells as they are made: a type -/
def ZT (w : World) (b : Nat) : Prop := w.heap[b]? = some (.cells #[.int .i64 0, .int .i64 0, .string ⟨#[]⟩] 23 (0, 0))
theorem ZT.below {B : Nat} {w w' : World} {b : Nat} (h : ZT w b) (hb : Below B w w') (hlt : b < B) : ZT w' b := (hb.block _ hlt).trans h
theorem ZT.cells {w : World} {b : Nat} (h : ZT w b) : w.cell? ⟨b, 0, none⟩ = some (.int .i64 0) ∧ w.cell? ⟨b, 1, none⟩ = some (.int .i64 0) ∧ w.cell? ⟨b, 2, none⟩ = some (.string ⟨#[]⟩) :=
  ⟨Lib.cell_of_heap h 0, Lib.cell_of_heap h 1, Lib.cell_of_heap h 2⟩
theorem ZT.frozen {w : World} {b : Nat} (h : ZT w b) (i : Nat) : w.frozen? ⟨b, i, none⟩ = false := hfrz h i
theorem FCells.of_box {w : World} {x : FldV} : FCells (w.alloc (.cells #[.string x.name, .int .i64 x.ty.kind, .int .i64 x.ty.len, .string x.ty.nm] 55)) w.heap.size 0 x :=
  ⟨Lib.cell_of_heap (heap_alloc_new w _) 0, Lib.cell_of_heap (heap_alloc_new w _) 1, Lib.cell_of_heap (heap_alloc_new w _) 2, Lib.cell_of_heap (heap_alloc_new w _) 3⟩

set_option maxHeartbeats 400000 in
theorem fieldType_any (f : FldV) (w : World) : Calls Tryz.prog 54 #[.agg #[.string f.name, .int .i64 f.ty.kind, .int .i64 f.ty.len, .string f.ty.nm]] w fun e w' => e = .returned (.agg #[.int .i64 (fty f).kind, .int .i64 (fty f).len, .string (fty f).nm]) ∧ Below w.heap.size w w' := by
  have HF : ∃ b, Hid (tyB f.ty (bsc 2) = b) := ⟨_, rfl⟩
  obtain ⟨b, HF⟩ := HF
  have hb3 : b = true ∧ (f.ty.kind == 2) = true ∧ (f.ty.len == 0) = true ∧ (f.ty.nm.toList == []) = true ∨ b = false ∧ ((f.ty.kind == 2) = false ∨ (f.ty.kind == 2) = true ∧ ((f.ty.len == 0) = false ∨ (f.ty.len == 0) = true ∧ (f.ty.nm.toList == []) = false)) := by
    have h := HF.out
    unfold tyB bsc at h
    dsimp only at h
    have e0 : (⟨#[]⟩ : ByteArray).toList = [] := by rw [ByteArray.toList_eq]
    rw [e0] at h
    cases h1 : (f.ty.kind == 2) <;> cases h2 : (f.ty.len == 0) <;> cases h3 : (f.ty.nm.toList == []) <;> simp [h1, h2, h3] at h <;> simp [h.symm]
  have HV1 := Lib.hid (show tyB f.ty (bsc 2) = false → fty f = bsc 1 from fun h => by unfold fty; rw [h]; rfl)
  have HV2 := Lib.hid (show tyB f.ty (bsc 2) = true → fty f = bsc 2 from fun h => by unfold fty; rw [h]; rfl)
  rcases hb3 with ⟨rfl, h1, h2, h3⟩ | ⟨rfl, h1 | ⟨h1, h2 | ⟨h2, h3⟩⟩⟩
  · have HV := Lib.hid (HV2.out HF.out)
    clear HV1 HV2
    rw [HV.out]
    go_enter Tryz.func54, Tryz.ntmps54
    go_wp2_with (fail)
    have hb0 : Below w.heap.size w ((w.alloc (.cells #[.string f.name, .int .i64 f.ty.kind, .int .i64 f.ty.len, .string f.ty.nm] 55)).alloc (.cells #[.int .i64 0, .int .i64 0, .string ⟨#[]⟩] 23)) := ((Below.refl _ _).alloc (Nat.le_refl _) _).alloc (by simp) _
    have hz0 : ZT ((w.alloc (.cells #[.string f.name, .int .i64 f.ty.kind, .int .i64 f.ty.len, .string f.ty.nm] 55)).alloc (.cells #[.int .i64 0, .int .i64 0, .string ⟨#[]⟩] 23)) (w.heap.size + 1) := by
      have h := heap_alloc_new (w.alloc (.cells #[.string f.name, .int .i64 f.ty.kind, .int .i64 f.ty.len, .string f.ty.nm] 55)) (.cells #[.int .i64 0, .int .i64 0, .string ⟨#[]⟩] 23)
      rwa [World.size_alloc] at h
    have hc0 : FCells ((w.alloc (.cells #[.string f.name, .int .i64 f.ty.kind, .int .i64 f.ty.len, .string f.ty.nm] 55)).alloc (.cells #[.int .i64 0, .int .i64 0, .string ⟨#[]⟩] 23)) w.heap.size 0 f := FCells.of_box.below ((Below.refl _ _).alloc (Nat.le_refl _) _) (by simp)
    have hs0 : ((w.alloc (.cells #[.string f.name, .int .i64 f.ty.kind, .int .i64 f.ty.len, .string f.ty.nm] 55)).alloc (.cells #[.int .i64 0, .int .i64 0, .string ⟨#[]⟩] 23)).heap.size = w.heap.size + 2 := by simp
    generalize ((w.alloc (.cells #[.string f.name, .int .i64 f.ty.kind, .int .i64 f.ty.len, .string f.ty.nm] 55)).alloc (.cells #[.int .i64 0, .int .i64 0, .string ⟨#[]⟩] 23)) = w0 at *
    have HB0 := Lib.hid hb0
    have HZ0 := Lib.hid hz0
    have HC0 := Lib.hid hc0
    have hs1 : w.heap.size + 2 ≤ w0.drew.heap.size := by simp; omega
    have HS0 := Lib.hid hs0
    clear hb0 hz0 hs0
    obtain ⟨c0, c1, c2, c3⟩ := hc0
    go_region_held3 (fun w' => w'.cell? ⟨w.heap.size, 1, none⟩ = some (.int .i64 f.ty.kind) ∧ w'.cell? ⟨w.heap.size, 2, none⟩ = some (.int .i64 f.ty.len) ∧ w'.cell? ⟨w.heap.size, 3, none⟩ = some (.string f.ty.nm)) (first | exact HK.out | go_keep) ((go_at_call 33; refine (ty_basic_any 2 _).mono ?_; rintro e w1 ⟨rfl, hb⟩; have HK := Lib.hid (show w1.cell? ⟨w.heap.size, 1, none⟩ = some (.int .i64 f.ty.kind) ∧ w1.cell? ⟨w.heap.size, 2, none⟩ = some (.int .i64 f.ty.len) ∧ w1.cell? ⟨w.heap.size, 3, none⟩ = some (.string f.ty.nm) from (HC0.out.below ((Below.refl _ _).drew.trans hb) (by omega)).2); have HB1 := Lib.hid hb; clear hb))
    have hz := HZ0.out.below ((Below.refl _ _).drew.trans HB1.out) (by have := HS0.out; omega)
    obtain ⟨z0, z1, z2⟩ := hz.cells
    have y0 := hz.frozen 0
    have y1 := hz.frozen 1
    have y2 := hz.frozen 2
    have HBB := Lib.hid (HB0.out.trans (((Below.refl w0.heap.size w0).drew.trans HB1.out).mono (by have := HS0.out; omega)))
    clear hz
    go_wp2_with (fail)
    refine bodyPost_ret (v := .agg #[.int .i64 f.ty.kind, .int .i64 f.ty.len, .string f.ty.nm]) (by simp [results, Tryz.results54, go_sem, z0, z1, z2]) rfl ⟨?_, ?_⟩
    · have h := tyB_eq HF.out
      rw [h]
    · repeat (first | exact HBB.out | (refine Below.setCell ?_ (by simp) _))
  all_goals
    have HV := Lib.hid (HV1.out HF.out)
    clear HV1 HV2
    rw [HV.out]
    go_enter Tryz.func54, Tryz.ntmps54
    go_wp2_with (fail)
    have hb0 : Below w.heap.size w ((w.alloc (.cells #[.string f.name, .int .i64 f.ty.kind, .int .i64 f.ty.len, .string f.ty.nm] 55)).alloc (.cells #[.int .i64 0, .int .i64 0, .string ⟨#[]⟩] 23)) := ((Below.refl _ _).alloc (Nat.le_refl _) _).alloc (by simp) _
    have hz0 : ZT ((w.alloc (.cells #[.string f.name, .int .i64 f.ty.kind, .int .i64 f.ty.len, .string f.ty.nm] 55)).alloc (.cells #[.int .i64 0, .int .i64 0, .string ⟨#[]⟩] 23)) (w.heap.size + 1) := by
      have h := heap_alloc_new (w.alloc (.cells #[.string f.name, .int .i64 f.ty.kind, .int .i64 f.ty.len, .string f.ty.nm] 55)) (.cells #[.int .i64 0, .int .i64 0, .string ⟨#[]⟩] 23)
      rwa [World.size_alloc] at h
    have hc0 : FCells ((w.alloc (.cells #[.string f.name, .int .i64 f.ty.kind, .int .i64 f.ty.len, .string f.ty.nm] 55)).alloc (.cells #[.int .i64 0, .int .i64 0, .string ⟨#[]⟩] 23)) w.heap.size 0 f := FCells.of_box.below ((Below.refl _ _).alloc (Nat.le_refl _) _) (by simp)
    have hs0 : ((w.alloc (.cells #[.string f.name, .int .i64 f.ty.kind, .int .i64 f.ty.len, .string f.ty.nm] 55)).alloc (.cells #[.int .i64 0, .int .i64 0, .string ⟨#[]⟩] 23)).heap.size = w.heap.size + 2 := by simp
    generalize ((w.alloc (.cells #[.string f.name, .int .i64 f.ty.kind, .int .i64 f.ty.len, .string f.ty.nm] 55)).alloc (.cells #[.int .i64 0, .int .i64 0, .string ⟨#[]⟩] 23)) = w0 at *
    have HB0 := Lib.hid hb0
    have HZ0 := Lib.hid hz0
    have HC0 := Lib.hid hc0
    have hs1 : w.heap.size + 2 ≤ w0.drew.heap.size := by simp; omega
    have HS0 := Lib.hid hs0
    clear hb0 hz0 hs0
    obtain ⟨c0, c1, c2, c3⟩ := hc0
    go_region_held3 (fun w' => w'.cell? ⟨w.heap.size, 1, none⟩ = some (.int .i64 f.ty.kind) ∧ w'.cell? ⟨w.heap.size, 2, none⟩ = some (.int .i64 f.ty.len) ∧ w'.cell? ⟨w.heap.size, 3, none⟩ = some (.string f.ty.nm)) (first | exact HK.out | go_keep) ((go_at_call 33; refine (ty_basic_any 2 _).mono ?_; rintro e w1 ⟨rfl, hb⟩; have HK := Lib.hid (show w1.cell? ⟨w.heap.size, 1, none⟩ = some (.int .i64 f.ty.kind) ∧ w1.cell? ⟨w.heap.size, 2, none⟩ = some (.int .i64 f.ty.len) ∧ w1.cell? ⟨w.heap.size, 3, none⟩ = some (.string f.ty.nm) from (HC0.out.below ((Below.refl _ _).drew.trans hb) (by omega)).2); have HB1 := Lib.hid hb; clear hb))
    go_wp2_with (fail)
    refine (ty_basic_any 1 _).mono ?_
    rintro e w2 ⟨rfl, hb⟩
    have HB2 := Lib.hid (((Below.refl w0.heap.size w0).drew.trans HB1.out).trans (hb.mono (by have := HB1.out.size; have := hs1; have := HS0.out; omega)))
    clear hb
    have hz := HZ0.out.below HB2.out (by have := HS0.out; omega)
    obtain ⟨z0, z1, z2⟩ := hz.cells
    have y0 := hz.frozen 0
    have y1 := hz.frozen 1
    have y2 := hz.frozen 2
    have HBB := Lib.hid (HB0.out.trans (HB2.out.mono (by have := HS0.out; omega)))
    clear hz
    go_wp2_with (fail)
    refine bodyPost_ret (v := .agg #[.int .i64 1, .int .i64 0, .string ⟨#[]⟩]) (by simp [results, Tryz.results54, go_sem, z0, z1, z2]) rfl ⟨rfl, ?_⟩
    repeat (first | exact HBB.out | (refine Below.setCell ?_ (by simp) _))

/-- find's literal -/
theorem nameIs_any (x : RcV) (s : ByteArray) (B : Nat) (w : World) (hb : w.cell? ⟨B, 0, none⟩ = some (.string s)) (hB : B < w.heap.size) :
    Calls Tryz.prog 52 #[.agg #[.string x.name, .slice x.A x.flds.length x.c], .pointer (some ⟨B, 0, none⟩)] w fun e w' => e = .returned (.bool (x.name.toList == s.toList)) ∧ Below w.heap.size w w' := by
  have hcell : (w.alloc (.cells #[.string x.name, .slice x.A x.flds.length x.c] 43)).cell? ⟨B, 0, none⟩ = some (.string s) := (((Below.refl w.heap.size w).alloc (Nat.le_refl _) _).cell (p := ⟨B, 0, none⟩) hB).trans hb
  clear hb
  go_enter Tryz.func52, Tryz.ntmps52
  go_wp2_with (fail)
  go_ret
  exact ⟨rfl, (Below.refl _ _).alloc (Nat.le_refl _) _⟩

def nameB (s : ByteArray) (x : RcV) : Bool := x.name.toList == s.toList
theorem nameIs_yes (x : RcV) (s : ByteArray) (B : Nat) (w : World) (v : Bool) (hv : nameB s x = v) (hb : w.cell? ⟨B, 0, none⟩ = some (.string s)) (hB : B < w.heap.size) :
    Calls Tryz.prog 52 #[.agg #[.string x.name, .slice x.A x.flds.length x.c], .pointer (some ⟨B, 0, none⟩)] w fun e w' => e = .returned (.bool v) ∧ Below w.heap.size w w' := by
  have h := nameIs_any x s B w hb hB
  rw [show (x.name.toList == s.toList) = v from hv] at h
  exact h

set_option maxHeartbeats 1000000 in
theorem indexFunc_any (A : Option Addr) (c : Nat) (l : List RcV) (s : ByteArray) (B : Nat) (w : World) (hb : w.cell? ⟨B, 0, none⟩ = some (.string s)) (hB : B < w.heap.size) (hr : RRow w.heap.size w A l) (hl : l.length ≤ 1000000000) :
    Calls Tryz.prog 51 #[.slice A l.length c, .func (.func 52) #[] #[.pointer (some ⟨B, 0, none⟩)]] w fun e w' => ∃ r : Int, e = .returned (.int .i64 r) ∧ ((r = -1 ∧ ∀ k ∈ l, nameB s k = false) ∨ ∃ (i : Nat) (hi : i < l.length), r = i ∧ nameB s l[i] = true ∧ ∀ (j : Nat) (hj : j < i), nameB s (l[j]'(by omega)) = false) ∧ Below w.heap.size w w' := by
  have HB := Lib.hid hb
  have HW := Lib.hid hr
  clear hb hr
  go_enter Tryz.func51, Tryz.ntmps51
  go_wp2_with (fail)
  go_loopw [8] (fun i wr => ∃ k : Nat, k ≤ l.length ∧ i = .int .i64 (k : Int) ∧ Hid (∀ (j : Nat) (h : j < l.length), j < k → nameB s l[j] = false) ∧ Hid (Below w.heap.size w wr)) (fun i _ => l.length - (intOf i).toNat)
  case atStart => exact ⟨0, Nat.zero_le _, rfl, (fun j _ h => absurd h (by omega) : ∀ (j : Nat) (h : j < l.length), j < 0 → nameB s l[j] = false), Below.refl _ _⟩
  case round =>
    obtain ⟨k, hk, rfl, hno, hbw⟩ := hrel
    have hzw := hbw.out.size
    by_cases hlt : k < l.length
    · obtain ⟨b, off, rfl, hb, hcs⟩ := (HW.out.below hbw.out) (by omega)
      obtain ⟨c0, c1, _, _⟩ := hcs k hlt
      clear hcs
      have HX : ∃ x, Hid (l[k] = x) := ⟨_, Lib.hid rfl⟩
      obtain ⟨x, HX⟩ := HX
      rw [HX.out] at c0 c1
      go_wp2_with (fail)
      cases hh : nameB s x with
      | true =>
        have HH := Lib.hid hh
        clear hh
        refine (nameIs_yes x s B _ true HH.out ((hbw.out.cell (p := ⟨B, 0, none⟩) hB).trans HB.out) (by omega)).mono ?_
        rintro e w' ⟨rfl, hb2⟩
        have HB2 := Lib.hid (hbw.out.trans (hb2.mono hzw))
        clear hb2
        go_wp2_with (fail)
        go_ret
        exact ⟨_, rfl, .inr ⟨k, hlt, rfl, by rw [HX.out]; exact HH.out, fun j hj => hno.out j (by omega) hj⟩, HB2.out⟩
      | false =>
        have HH := Lib.hid hh
        clear hh
        refine (nameIs_yes x s B _ false HH.out ((hbw.out.cell (p := ⟨B, 0, none⟩) hB).trans HB.out) (by omega)).mono ?_
        rintro e w' ⟨rfl, hb2⟩
        have HB2 := Lib.hid (hbw.out.trans (hb2.mono hzw))
        clear hb2
        go_wp2_with (fail)
        have HN : Hid (∀ (j : Nat) (h : j < l.length), j < k + 1 → nameB s l[j] = false) := Lib.hid (fun j h hj => by
          rcases Nat.lt_or_ge j k with h' | h'
          · exact hno.out j h h'
          · obtain rfl : j = k := by omega
            rw [HX.out]; exact HH.out)
        exact ⟨⟨k + 1, by omega, by go_num, HN, HB2⟩, by simp [intOf]; omega⟩
    · have hkl : k = l.length := by omega
      subst hkl
      go_wp2_with (fail)
      go_ret
      exact ⟨-1, rfl, .inl ⟨rfl, fun x hx => by
        obtain ⟨j, hj, rfl⟩ := List.getElem_of_mem hx
        exact hno.out j hj hj⟩, hbw.out⟩

theorem fndR_none {l : List RcV} {s : ByteArray} (h : ∀ k ∈ l, nameB s k = false) : fndR l s = none := by
  unfold fndR
  rw [List.find?_eq_none]
  intro x hx
  have := h x hx
  unfold nameB at this
  simp [this]
theorem fndR_at {l : List RcV} {s : ByteArray} {i : Nat} (hi : i < l.length) (h : nameB s l[i] = true) (hno : ∀ (j : Nat) (hj : j < i), nameB s (l[j]'(by omega)) = false) : fndR l s = some l[i] := by
  unfold fndR
  rw [List.find?_eq_some_iff_getElem]
  refine ⟨h, i, hi, rfl, fun j hj => ?_⟩
  have := hno j hj
  unfold nameB at this
  simp [this]

/-- find: the fields of the first record with a name, and whether there is one -/
def FndRes (w : World) (l : List RcV) (s : ByteArray) (e : Ending) (w' : World) : Prop :=
  Below w.heap.size w w' ∧ ((fndR l s = none ∧ e = .returned (.tuple #[.slice none 0 0, .bool false])) ∨ ∃ r, fndR l s = some r ∧ e = .returned (.tuple #[.slice r.A r.flds.length r.c, .bool true]))

set_option maxHeartbeats 1000000 in
theorem find_any (A : Option Addr) (c : Nat) (l : List RcV) (s : ByteArray) (w : World) (hr : RRow w.heap.size w A l) (hl : l.length ≤ 1000000000) :
    Calls Tryz.prog 34 #[.slice A l.length c, .string s] w (FndRes w l s) := by
  have HR := Lib.hid hr
  clear hr
  go_enter Tryz.func34, Tryz.ntmps34
  go_wp2_with (fail)
  have hb0 := (Below.refl w.heap.size w).alloc (Nat.le_refl _) (.cells #[.string s] 9)
  have hn0 := heap_alloc_new w (.cells #[.string s] 9)
  have hs0 : (w.alloc (.cells #[.string s] 9)).heap.size = w.heap.size + 1 := by simp
  generalize (w.alloc (.cells #[.string s] 9)) = w0 at *
  have HB0 := Lib.hid hb0
  have hc0 := Lib.cell_of_heap hn0 0
  refine (indexFunc_any A c l s w.heap.size w0 hc0 (by omega) (HR.out.later hb0) hl).mono ?_
  rintro e w1 ⟨r, rfl, hr, hb1⟩
  have HB1 := Lib.hid (HB0.out.trans (hb1.mono (by omega)))
  clear hb0 hn0 hc0 hb1
  rcases hr with ⟨rfl, hno⟩ | ⟨i, hi, rfl, hyes, hno⟩
  · have HN := Lib.hid (fndR_none hno)
    clear hno hs0
    go_wp2_with (fail)
    go_ret2
    exact ⟨HB1.out, .inl ⟨HN.out, rfl⟩⟩
  · have HN := Lib.hid (fndR_at hi hyes hno)
    clear hno hyes hs0
    obtain ⟨b, off, rfl, hb, hcs⟩ := (HR.out.below HB1.out) (by omega)
    obtain ⟨c0, c1, _, _⟩ := hcs i hi
    clear hcs hb
    have HX : ∃ x, Hid (l[i] = x) := ⟨_, Lib.hid rfl⟩
    obtain ⟨x, HX⟩ := HX
    rw [HX.out] at c0 c1 HN
    have hi0 : decide ((i : Int) < 0) = false := by simp
    go_wp2_with (fail)
    go_ret2
    exact ⟨HB1.out, .inr ⟨x, HN.out, rfl⟩⟩

end Go.Proofs.YtoopnddlcofhoaaGreatDoor
