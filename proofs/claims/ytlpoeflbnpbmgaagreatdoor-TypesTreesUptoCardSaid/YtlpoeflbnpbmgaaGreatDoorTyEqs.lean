/- What is proved: the reference's Equals of two lists of the same records. -/
import Derived.Test.YtlpoeflbnpbmgaaGreatDoorTyWr
import Derived.Test.YtlpoeflbnpbmgaaGreatDoorTyScalar
set_option linter.unusedVariables false
namespace Go.Proofs.YtlpoeflbnpbmgaaGreatDoor
open Go.RowKit

/-- a type in a block of its own -/
def TBox (w : World) (b : Nat) (t : TyV) : Prop := w.heap[b]? = some (.cells #[.int .i64 t.kind, .int .i64 t.len, .string t.nm] 31 (0, 0))
theorem TBox.below {B b : Nat} {w w' : World} {t : TyV} (h : TBox w b t) (hb : Below B w w') (hlt : b < B) : TBox w' b t := (hb.block _ hlt).trans h
theorem TBox.cells {w : World} {b : Nat} {t : TyV} (h : TBox w b t) : w.cell? ⟨b, 0, none⟩ = some (.int .i64 t.kind) ∧ w.cell? ⟨b, 1, none⟩ = some (.int .i64 t.len) ∧ w.cell? ⟨b, 2, none⟩ = some (.string t.nm) :=
  ⟨Lib.cell_of_heap h 0, Lib.cell_of_heap h 1, Lib.cell_of_heap h 2⟩
theorem TBox.frozen {w : World} {b : Nat} {t : TyV} (h : TBox w b t) (i : Nat) : w.frozen? ⟨b, i, none⟩ = false := hfrz h i
theorem three (w : World) (n : NT) (t : TyV) : Below w.heap.size w (((w.alloc (.cells #[.int .i64 n.kind, .string n.text, .int .i64 n.lo, .int .i64 n.hi, .slice n.A n.kids.length n.c] 24)).alloc (.cells #[.int .i64 0, .int .i64 0, .string ⟨#[]⟩] 31)).alloc (.cells #[.int .i64 t.kind, .int .i64 t.len, .string t.nm] 31)) ∧ ZT (((w.alloc (.cells #[.int .i64 n.kind, .string n.text, .int .i64 n.lo, .int .i64 n.hi, .slice n.A n.kids.length n.c] 24)).alloc (.cells #[.int .i64 0, .int .i64 0, .string ⟨#[]⟩] 31)).alloc (.cells #[.int .i64 t.kind, .int .i64 t.len, .string t.nm] 31)) (w.heap.size + 1) ∧ TBox (((w.alloc (.cells #[.int .i64 n.kind, .string n.text, .int .i64 n.lo, .int .i64 n.hi, .slice n.A n.kids.length n.c] 24)).alloc (.cells #[.int .i64 0, .int .i64 0, .string ⟨#[]⟩] 31)).alloc (.cells #[.int .i64 t.kind, .int .i64 t.len, .string t.nm] 31)) (w.heap.size + 2) t ∧ (((w.alloc (.cells #[.int .i64 n.kind, .string n.text, .int .i64 n.lo, .int .i64 n.hi, .slice n.A n.kids.length n.c] 24)).alloc (.cells #[.int .i64 0, .int .i64 0, .string ⟨#[]⟩] 31)).alloc (.cells #[.int .i64 t.kind, .int .i64 t.len, .string t.nm] 31)).heap.size = w.heap.size + 3 := by
  obtain ⟨h1, h2, h3⟩ := box_nt w n
  refine ⟨h1.alloc (by omega) _, (heap_alloc_old _ _ (by omega)).trans h2, ?_, by simp⟩
  have h := heap_alloc_new ((w.alloc (.cells #[.int .i64 n.kind, .string n.text, .int .i64 n.lo, .int .i64 n.hi, .slice n.A n.kids.length n.c] 24)).alloc (.cells #[.int .i64 0, .int .i64 0, .string ⟨#[]⟩] 31)) (.cells #[.int .i64 t.kind, .int .i64 t.len, .string t.nm] 31)
  rw [h3] at h
  exact h

set_option maxHeartbeats 2000000 in
/-- a name -/
theorem r_wr_name (n : NT) (A : Option Addr) (c : Nat) (l : List RcV) (w : World) (hr : RRow w.heap.size w A l) (hl : l.length ≤ 1000000000) (v : Bool) (u : TyV) (h9 : (n.kind == 9) = true) (h1 : (n.text.toList == [105, 110, 116]) = false) (h2 : (n.text.toList == [98, 111, 111, 108]) = false) (hv : validB ⟨4, 0, n.text⟩ l = v) (hu : u = if v then ⟨4, 0, n.text⟩ else ⟨0, 0, ⟨#[]⟩⟩) :
    Calls Tryz.prog 9 #[.agg #[.int .i64 n.kind, .string n.text, .int .i64 n.lo, .int .i64 n.hi, .slice n.A n.kids.length n.c], .slice A l.length c] w fun e w' => e = .returned (.tuple #[.agg #[.int .i64 u.kind, .int .i64 u.len, .string u.nm], .bool v]) ∧ Below w.heap.size w w' := by
  have HR := Lib.hid hr
  have HV := Lib.hid hv
  have HU := Lib.hid hu
  clear hr hv hu
  go_enter Tryz.func9, Tryz.ntmps9
  go_wp2_with (fail)
  obtain ⟨hb2, hz2, ht2, hs2⟩ := three w n ⟨4, 0, n.text⟩
  have HB2 := Lib.hid hb2
  have HZ2 := Lib.hid hz2
  have HT2 := Lib.hid ht2
  have HS2 := Lib.hid hs2
  clear hb2 hz2 ht2 hs2
  dsimp only [bsc] at HB2 HZ2 HT2 HS2
  generalize (((w.alloc (.cells #[.int .i64 n.kind, .string n.text, .int .i64 n.lo, .int .i64 n.hi, .slice n.A n.kids.length n.c] 24)).alloc (.cells #[.int .i64 0, .int .i64 0, .string ⟨#[]⟩] 31)).alloc (.cells #[.int .i64 4, .int .i64 0, .string n.text] 31)) = w2 at *
  refine (ty_r_valid_f ⟨4, 0, n.text⟩ A c l w2 v HV.out (HR.out.later HB2.out) hl).mono ?_
  rintro e w3 ⟨rfl, hb3⟩
  have HB3 := Lib.hid (HB2.out.trans (hb3.mono HB2.out.size))
  have hz := HZ2.out.below hb3 (by have := HS2.out; omega)
  obtain ⟨z0, z1, z2⟩ := hz.cells
  have y0 := hz.frozen 0
  have y1 := hz.frozen 1
  have y2 := hz.frozen 2
  obtain ⟨c0, c1, c2⟩ := (HT2.out.below hb3 (by have := HS2.out; omega)).cells
  clear hb3 hz
  cases v with
  | true =>
    go_wp2_with (fail)
    refine bodyPost_ret (v := .tuple #[.agg #[.int .i64 4, .int .i64 0, .string n.text], .bool true]) (by simp [results, Tryz.results9, go_sem, z0, z1, z2]) rfl ⟨?_, ?_⟩
    · rw [HU.out]; rfl
    · repeat (first | exact HB3.out | (refine Below.setCell ?_ (by simp) _))
  | false =>
    go_wp2_with (fail)
    refine bodyPost_ret (v := .tuple #[.agg #[.int .i64 0, .int .i64 0, .string ⟨#[]⟩], .bool false]) (by simp [results, Tryz.results9, go_sem, z0, z1, z2]) rfl ⟨?_, ?_⟩
    · rw [HU.out]; rfl
    · repeat (first | exact HB3.out | (refine Below.setCell ?_ (by simp) _))

set_option maxHeartbeats 2000000 in
/-- nothing -/
theorem r_wr_none (n : NT) (A : Option Addr) (c : Nat) (l : List RcV) (w : World) (hr : RRow w.heap.size w A l) (hl : l.length ≤ 1000000000) (v : Bool) (u : TyV) (h9 : (n.kind == 9) = false) (h10 : (n.kind == 10) = false) (hv : validB ⟨0, 0, ⟨#[]⟩⟩ l = v) (hu : u = if v then ⟨0, 0, ⟨#[]⟩⟩ else ⟨0, 0, ⟨#[]⟩⟩) :
    Calls Tryz.prog 9 #[.agg #[.int .i64 n.kind, .string n.text, .int .i64 n.lo, .int .i64 n.hi, .slice n.A n.kids.length n.c], .slice A l.length c] w fun e w' => e = .returned (.tuple #[.agg #[.int .i64 u.kind, .int .i64 u.len, .string u.nm], .bool v]) ∧ Below w.heap.size w w' := by
  have HR := Lib.hid hr
  have HV := Lib.hid hv
  have HU := Lib.hid hu
  clear hr hv hu
  go_enter Tryz.func9, Tryz.ntmps9
  go_wp2_with (fail)
  obtain ⟨hb2, hz2, ht2, hs2⟩ := three w n ⟨0, 0, ⟨#[]⟩⟩
  have HB2 := Lib.hid hb2
  have HZ2 := Lib.hid hz2
  have HT2 := Lib.hid ht2
  have HS2 := Lib.hid hs2
  clear hb2 hz2 ht2 hs2
  dsimp only [bsc] at HB2 HZ2 HT2 HS2
  generalize (((w.alloc (.cells #[.int .i64 n.kind, .string n.text, .int .i64 n.lo, .int .i64 n.hi, .slice n.A n.kids.length n.c] 24)).alloc (.cells #[.int .i64 0, .int .i64 0, .string ⟨#[]⟩] 31)).alloc (.cells #[.int .i64 0, .int .i64 0, .string ⟨#[]⟩] 31)) = w2 at *
  refine (ty_r_valid_f ⟨0, 0, ⟨#[]⟩⟩ A c l w2 v HV.out (HR.out.later HB2.out) hl).mono ?_
  rintro e w3 ⟨rfl, hb3⟩
  have HB3 := Lib.hid (HB2.out.trans (hb3.mono HB2.out.size))
  have hz := HZ2.out.below hb3 (by have := HS2.out; omega)
  obtain ⟨z0, z1, z2⟩ := hz.cells
  have y0 := hz.frozen 0
  have y1 := hz.frozen 1
  have y2 := hz.frozen 2
  obtain ⟨c0, c1, c2⟩ := (HT2.out.below hb3 (by have := HS2.out; omega)).cells
  clear hb3 hz
  cases v with
  | true =>
    go_wp2_with (fail)
    refine bodyPost_ret (v := .tuple #[.agg #[.int .i64 0, .int .i64 0, .string ⟨#[]⟩], .bool true]) (by simp [results, Tryz.results9, go_sem, z0, z1, z2]) rfl ⟨?_, ?_⟩
    · rw [HU.out]; rfl
    · repeat (first | exact HB3.out | (refine Below.setCell ?_ (by simp) _))
  | false =>
    go_wp2_with (fail)
    refine bodyPost_ret (v := .tuple #[.agg #[.int .i64 0, .int .i64 0, .string ⟨#[]⟩], .bool false]) (by simp [results, Tryz.results9, go_sem, z0, z1, z2]) rfl ⟨?_, ?_⟩
    · rw [HU.out]; rfl
    · repeat (first | exact HB3.out | (refine Below.setCell ?_ (by simp) _))
theorem put3 {w w1 : World} {t t' : TyV} (hb : Below w.heap.size w w1) (ht : TBox w1 (w.heap.size + 2) t) (hz : ZT w1 (w.heap.size + 1)) (hs : w.heap.size + 3 ≤ w1.heap.size) :
    Below w.heap.size w (((w1.setCell ⟨w.heap.size + 2, 0, none⟩ (.int .i64 t'.kind)).setCell ⟨w.heap.size + 2, 1, none⟩ (.int .i64 t'.len)).setCell ⟨w.heap.size + 2, 2, none⟩ (.string t'.nm)) ∧ ZT (((w1.setCell ⟨w.heap.size + 2, 0, none⟩ (.int .i64 t'.kind)).setCell ⟨w.heap.size + 2, 1, none⟩ (.int .i64 t'.len)).setCell ⟨w.heap.size + 2, 2, none⟩ (.string t'.nm)) (w.heap.size + 1) ∧ TBox (((w1.setCell ⟨w.heap.size + 2, 0, none⟩ (.int .i64 t'.kind)).setCell ⟨w.heap.size + 2, 1, none⟩ (.int .i64 t'.len)).setCell ⟨w.heap.size + 2, 2, none⟩ (.string t'.nm)) (w.heap.size + 2) t' ∧ w.heap.size + 3 ≤ (((w1.setCell ⟨w.heap.size + 2, 0, none⟩ (.int .i64 t'.kind)).setCell ⟨w.heap.size + 2, 1, none⟩ (.int .i64 t'.len)).setCell ⟨w.heap.size + 2, 2, none⟩ (.string t'.nm)).heap.size := by
  refine ⟨((hb.setCell (p := ⟨w.heap.size + 2, 0, none⟩) (by simp) _).setCell (p := ⟨w.heap.size + 2, 1, none⟩) (by simp) _).setCell (p := ⟨w.heap.size + 2, 2, none⟩) (by simp) _, ?_, hset (hset (hset ht _) _) _, by simpa using hs⟩
  unfold ZT
  rw [Below.heap_setCell _ ⟨w.heap.size + 2, 2, none⟩ _ _ (by simp), Below.heap_setCell _ ⟨w.heap.size + 2, 1, none⟩ _ _ (by simp), Below.heap_setCell _ ⟨w.heap.size + 2, 0, none⟩ _ _ (by simp)]
  exact hz

set_option maxHeartbeats 2000000 in
/-- int, bool -/
theorem r_wr_basic (n : NT) (A : Option Addr) (c : Nat) (l : List RcV) (w : World) (hr : RRow w.heap.size w A l) (hl : l.length ≤ 1000000000) (v : Bool) (u : TyV) (k : Int) (h9 : (n.kind == 9) = true) (hk : (n.text.toList == [105, 110, 116]) = true ∨ (n.text.toList == [105, 110, 116]) = false ∧ (n.text.toList == [98, 111, 111, 108]) = true) (hk2 : (if n.text.toList == [98, 111, 111, 108] then (2 : Int) else 1) = k) (hv : validB (bsc k) l = v) (hu : u = if v then (bsc k) else ⟨0, 0, ⟨#[]⟩⟩) :
    Calls Tryz.prog 9 #[.agg #[.int .i64 n.kind, .string n.text, .int .i64 n.lo, .int .i64 n.hi, .slice n.A n.kids.length n.c], .slice A l.length c] w fun e w' => e = .returned (.tuple #[.agg #[.int .i64 u.kind, .int .i64 u.len, .string u.nm], .bool v]) ∧ Below w.heap.size w w' := by
  have HR := Lib.hid hr
  have HV := Lib.hid hv
  have HU := Lib.hid hu
  clear hr hv hu
  have HK := Lib.hid hk2
  clear hk2
  rcases hk with h1 | ⟨h1, h2⟩
  all_goals
    go_enter Tryz.func9, Tryz.ntmps9
    go_wp2_with (fail)
    obtain ⟨hb2, hz2, ht2, hs2⟩ := three w n ⟨4, 0, n.text⟩
    dsimp only at hb2 hz2 ht2 hs2
    have HB0 := Lib.hid hb2
    have HZ0 := Lib.hid hz2
    have HT0 := Lib.hid ht2
    have HS0 := Lib.hid hs2
    clear hb2 hz2 ht2 hs2
    generalize (((w.alloc (.cells #[.int .i64 n.kind, .string n.text, .int .i64 n.lo, .int .i64 n.hi, .slice n.A n.kids.length n.c] 24)).alloc (.cells #[.int .i64 0, .int .i64 0, .string ⟨#[]⟩] 31)).alloc (.cells #[.int .i64 4, .int .i64 0, .string n.text] 31)) = w0 at *
    refine (scalar_any n.text w0 k HK.out).mono ?_
    rintro e w1 ⟨rfl, hb1⟩
    have HB1 := Lib.hid (HB0.out.trans (hb1.mono (by have := HS0.out; omega)))
    have HZ1 := Lib.hid (HZ0.out.below hb1 (by have := HS0.out; omega))
    have HT1 := Lib.hid (HT0.out.below hb1 (by have := HS0.out; omega))
    have HS1 := Lib.hid (show w.heap.size + 3 ≤ w1.heap.size by have := hb1.size; have := HS0.out; omega)
    obtain ⟨c0, c1, c2⟩ := HT1.out.cells
    have f0 := HT1.out.frozen 0
    have f1 := HT1.out.frozen 1
    have f2 := HT1.out.frozen 2
    clear hb1
    go_wp2_with (fail)
    clear c0 c1 c2 f0 f1 f2
    obtain ⟨hb2, hz2, ht2, hs2⟩ := put3 (t' := (bsc k)) HB1.out HT1.out HZ1.out HS1.out
    dsimp only [bsc] at hb2 hz2 ht2 hs2
    have HB2 := Lib.hid hb2
    have HZ2 := Lib.hid hz2
    have HT2 := Lib.hid ht2
    have HS2 := Lib.hid hs2
    clear hb2 hz2 ht2 hs2
    generalize (((w1.setCell ⟨w.heap.size + 2, 0, none⟩ (.int .i64 k)).setCell ⟨w.heap.size + 2, 1, none⟩ (.int .i64 0)).setCell ⟨w.heap.size + 2, 2, none⟩ (.string ⟨#[]⟩)) = w2 at *
    refine (ty_r_valid_f (bsc k) A c l w2 v HV.out (HR.out.later HB2.out) hl).mono ?_
    rintro e w3 ⟨rfl, hb3⟩
    have HB3 := Lib.hid (HB2.out.trans (hb3.mono HB2.out.size))
    have hz := HZ2.out.below hb3 (by have := HS2.out; omega)
    obtain ⟨z0, z1, z2⟩ := hz.cells
    have y0 := hz.frozen 0
    have y1 := hz.frozen 1
    have y2 := hz.frozen 2
    obtain ⟨c0, c1, c2⟩ := (HT2.out.below hb3 (by have := HS2.out; omega)).cells
    clear hb3 hz
    cases v with
    | true =>
      go_wp2_with (fail)
      refine bodyPost_ret (v := .tuple #[.agg #[.int .i64 k, .int .i64 0, .string ⟨#[]⟩], .bool true]) (by simp [results, Tryz.results9, go_sem, z0, z1, z2]) rfl ⟨?_, ?_⟩
      · rw [HU.out]; rfl
      · repeat (first | exact HB3.out | (refine Below.setCell ?_ (by simp) _))
    | false =>
      go_wp2_with (fail)
      refine bodyPost_ret (v := .tuple #[.agg #[.int .i64 0, .int .i64 0, .string ⟨#[]⟩], .bool false]) (by simp [results, Tryz.results9, go_sem, z0, z1, z2]) rfl ⟨?_, ?_⟩
      · rw [HU.out]; rfl
      · repeat (first | exact HB3.out | (refine Below.setCell ?_ (by simp) _))

set_option maxHeartbeats 2000000 in
/-- an array -/
theorem r_wr_array (n : NT) (A : Option Addr) (c : Nat) (l : List RcV) (w : World) (hr : RRow w.heap.size w A l) (hl : l.length ≤ 1000000000) (v : Bool) (u : TyV) {nv : ByteArray → Nat} {ok : ByteArray → Bool} (HN : NumC 22 nv ok) (q : Nat) (hq : nv n.text = q) (h9 : (n.kind == 9) = false) (h10 : (n.kind == 10) = true) (hv : validB ⟨3, (q : Int), ⟨#[]⟩⟩ l = v) (hu : u = if v then ⟨3, (q : Int), ⟨#[]⟩⟩ else ⟨0, 0, ⟨#[]⟩⟩) :
    Calls Tryz.prog 9 #[.agg #[.int .i64 n.kind, .string n.text, .int .i64 n.lo, .int .i64 n.hi, .slice n.A n.kids.length n.c], .slice A l.length c] w fun e w' => e = .returned (.tuple #[.agg #[.int .i64 u.kind, .int .i64 u.len, .string u.nm], .bool v]) ∧ Below w.heap.size w w' := by
  have HR := Lib.hid hr
  have HV := Lib.hid hv
  have HU := Lib.hid hu
  clear hr hv hu
  have HNN := Lib.hid (fun w => HN n.text w)
  rw [hq] at HNN
  clear HN hq
  go_enter Tryz.func9, Tryz.ntmps9
  go_wp2_with (fail)
  obtain ⟨hb2, hz2, ht2, hs2⟩ := three w n ⟨0, 0, ⟨#[]⟩⟩
  dsimp only at hb2 hz2 ht2 hs2
  have HB0 := Lib.hid hb2
  have HZ0 := Lib.hid hz2
  have HT0 := Lib.hid ht2
  have HS0 := Lib.hid hs2
  clear hb2 hz2 ht2 hs2
  generalize (((w.alloc (.cells #[.int .i64 n.kind, .string n.text, .int .i64 n.lo, .int .i64 n.hi, .slice n.A n.kids.length n.c] 24)).alloc (.cells #[.int .i64 0, .int .i64 0, .string ⟨#[]⟩] 31)).alloc (.cells #[.int .i64 0, .int .i64 0, .string ⟨#[]⟩] 31)) = w0 at *
  refine (HNN.out w0).mono ?_
  rintro e w1 ⟨rfl, hw1⟩
  subst hw1
  have hb1 := Below.refl w0.heap.size w0
  have HB1 := Lib.hid (HB0.out.trans (hb1.mono (by have := HS0.out; omega)))
  have HZ1 := Lib.hid (HZ0.out.below hb1 (by have := HS0.out; omega))
  have HT1 := Lib.hid (HT0.out.below hb1 (by have := HS0.out; omega))
  have HS1 := Lib.hid (show w.heap.size + 3 ≤ w0.heap.size by have := hb1.size; have := HS0.out; omega)
  obtain ⟨c0, c1, c2⟩ := HT1.out.cells
  have f0 := HT1.out.frozen 0
  have f1 := HT1.out.frozen 1
  have f2 := HT1.out.frozen 2
  clear hb1
  go_wp2_with (fail)
  clear c0 c1 c2 f0 f1 f2
  obtain ⟨hb2, hz2, ht2, hs2⟩ := put3 (t' := ⟨3, (q : Int), ⟨#[]⟩⟩) HB1.out HT1.out HZ1.out HS1.out
  dsimp only [bsc] at hb2 hz2 ht2 hs2
  have HB2 := Lib.hid hb2
  have HZ2 := Lib.hid hz2
  have HT2 := Lib.hid ht2
  have HS2 := Lib.hid hs2
  clear hb2 hz2 ht2 hs2
  generalize (((w0.setCell ⟨w.heap.size + 2, 0, none⟩ (.int .i64 3)).setCell ⟨w.heap.size + 2, 1, none⟩ (.int .i64 (q : Int))).setCell ⟨w.heap.size + 2, 2, none⟩ (.string ⟨#[]⟩)) = w2 at *
  refine (ty_r_valid_f ⟨3, (q : Int), ⟨#[]⟩⟩ A c l w2 v HV.out (HR.out.later HB2.out) hl).mono ?_
  rintro e w3 ⟨rfl, hb3⟩
  have HB3 := Lib.hid (HB2.out.trans (hb3.mono HB2.out.size))
  have hz := HZ2.out.below hb3 (by have := HS2.out; omega)
  obtain ⟨z0, z1, z2⟩ := hz.cells
  have y0 := hz.frozen 0
  have y1 := hz.frozen 1
  have y2 := hz.frozen 2
  obtain ⟨c0, c1, c2⟩ := (HT2.out.below hb3 (by have := HS2.out; omega)).cells
  clear hb3 hz
  cases v with
  | true =>
    go_wp2_with (fail)
    refine bodyPost_ret (v := .tuple #[.agg #[.int .i64 3, .int .i64 (q : Int), .string ⟨#[]⟩], .bool true]) (by simp [results, Tryz.results9, go_sem, z0, z1, z2]) rfl ⟨?_, ?_⟩
    · rw [HU.out]; rfl
    · repeat (first | exact HB3.out | (refine Below.setCell ?_ (by simp) _))
  | false =>
    go_wp2_with (fail)
    refine bodyPost_ret (v := .tuple #[.agg #[.int .i64 0, .int .i64 0, .string ⟨#[]⟩], .bool false]) (by simp [results, Tryz.results9, go_sem, z0, z1, z2]) rfl ⟨?_, ?_⟩
    · rw [HU.out]; rfl
    · repeat (first | exact HB3.out | (refine Below.setCell ?_ (by simp) _))

theorem r_wr_any {nv : ByteArray → Nat} {ok : ByteArray → Bool} (HN : NumC 22 nv ok) (n : NT) (A : Option Addr) (c : Nat) (l : List RcV) (w : World) (t : TyV) (ht : wrT nv n = t) (hr : RRow w.heap.size w A l) (hl : l.length ≤ 1000000000) (v : Bool) (hv : validB t l = v) (u : TyV) (hu : u = if v then t else ⟨0, 0, ⟨#[]⟩⟩) :
    Calls Tryz.prog 9 #[.agg #[.int .i64 n.kind, .string n.text, .int .i64 n.lo, .int .i64 n.hi, .slice n.A n.kids.length n.c], .slice A l.length c] w fun e w' => e = .returned (.tuple #[.agg #[.int .i64 u.kind, .int .i64 u.len, .string u.nm], .bool v]) ∧ Below w.heap.size w w' := by
  subst ht
  cases h9 : (n.kind == 9) with
  | true =>
    cases h1 : (n.text.toList == [105, 110, 116]) with
    | true =>
      have e : wrT nv n = bsc 1 := by unfold wrT; rw [h9, h1]; rfl
      rw [e] at hv hu
      refine r_wr_basic n A c l w hr hl v u 1 h9 (.inl h1) ?_ hv hu
      have h3 : n.text.toList = [105, 110, 116] := by simpa using h1
      rw [h3]; rfl
    | false =>
      cases h2 : (n.text.toList == [98, 111, 111, 108]) with
      | true =>
        have e : wrT nv n = bsc 2 := by unfold wrT; rw [h9, h1, h2]; rfl
        rw [e] at hv hu
        exact r_wr_basic n A c l w hr hl v u 2 h9 (.inr ⟨h1, h2⟩) (by rw [h2]; rfl) hv hu
      | false =>
        have e : wrT nv n = ⟨4, 0, n.text⟩ := by unfold wrT; rw [h9, h1, h2]; rfl
        rw [e] at hv hu
        exact r_wr_name n A c l w hr hl v u h9 h1 h2 hv hu
  | false =>
    cases h10 : (n.kind == 10) with
    | true =>
      have e : wrT nv n = ⟨3, (nv n.text : Int), ⟨#[]⟩⟩ := by unfold wrT; rw [h9, h10]; rfl
      rw [e] at hv hu
      exact r_wr_array n A c l w hr hl v u HN _ rfl h9 h10 hv hu
    | false =>
      have e : wrT nv n = ⟨0, 0, ⟨#[]⟩⟩ := by unfold wrT; rw [h9, h10]; rfl
      rw [e] at hv hu
      exact r_wr_none n A c l w hr hl v u h9 h10 hv hu
end Go.Proofs.YtlpoeflbnpbmgaaGreatDoor
set_option linter.unusedVariables false
namespace Go.Proofs.YtlpoeflbnpbmgaaGreatDoor
open Go.RowKit

/-- two lists hold the same records -/
def SameRcs (l m : List RcV) : Prop := l.length = m.length ∧ ∀ (i : Nat) (h : i < l.length) (h' : i < m.length), l[i].name = m[i].name ∧ l[i].flds = m[i].flds

set_option maxRecDepth 100000 in
set_option maxHeartbeats 4000000 in
theorem equals_any (A B : Option Addr) (c d : Nat) (l m : List RcV) (w : World) (ha : RRow w.heap.size w A l) (hb : RRow w.heap.size w B m) (hs : SameRcs l m) (hl : l.length ≤ 1000000000) :
    Calls Tryz.prog 10 #[.slice A l.length c, .slice B m.length d] w fun e w' => e = .returned (.bool true) ∧ Below w.heap.size w w' := by
  have H1 := Lib.hid ha
  have H2 := Lib.hid hb
  have HS := Lib.hid hs.2
  have hlm := hs.1
  have HLM := Lib.hid hlm
  rw [← hlm]
  clear ha hb hs hlm
  go_enter Tryz.func10, Tryz.ntmps10
  go_wp2_with (fail)
  go_loopw [5] (fun i wr => ∃ k n : Nat, k ≤ l.length ∧ i = .int .i64 (k : Int) ∧ wr = w.drewN n) (fun i _ => l.length - (intOf i).toNat)
  case atStart => exact ⟨0, 0, Nat.zero_le _, rfl, rfl⟩
  case round =>
    obtain ⟨k, n, hk, rfl, rfl⟩ := hrel
    by_cases hlt : k < l.length
    · have hlt2 : k < m.length := by have := HLM.out; omega
      obtain ⟨b1, o1, hA, _, hc1⟩ := H1.out (by omega)
      obtain ⟨b2, o2, hB, _, hc2⟩ := H2.out (by have := HLM.out; omega)
      obtain ⟨c0, c1, cf, cl⟩ := hc1 k hlt
      obtain ⟨d0, d1, df, _⟩ := hc2 k hlt2
      obtain ⟨hn, hf⟩ := HS.out k hlt hlt2
      rw [← hn] at d0
      rw [← hf] at d1 df
      clear hc1 hc2 hn hf
      obtain ⟨x, HX⟩ : ∃ x, Hid (l[k] = x) := ⟨_, Lib.hid rfl⟩
      obtain ⟨Y, HY⟩ : ∃ y, Hid (m[k].A = y) := ⟨_, Lib.hid rfl⟩
      obtain ⟨z, HZ⟩ : ∃ y, Hid (m[k].c = y) := ⟨_, Lib.hid rfl⟩
      rw [HX.out] at c0 c1 cf cl d0 d1 df
      rw [HY.out] at d1 df
      rw [HZ.out] at d1
      have HCF := Lib.hid cf
      have HDF := Lib.hid df
      clear cf df
      obtain ⟨q, HQ⟩ : ∃ q, Hid (x.flds.length = q) := ⟨_, Lib.hid rfl⟩
      rw [HQ.out] at c1 d1 cl
      have i0 : (0 : Int) ≤ (k : Int) := by omega
      have i1 : (k : Int) < (l.length : Int) := by omega
      subst hA
      subst hB
      go_wp2_with (fail)
      go_quiet (fail)
      go_wp2_with (fail)
      go_loopw [6] (fun i wr => ∃ j n : Nat, j ≤ q ∧ i = .int .i64 (j : Int) ∧ wr = w.drewN n) (fun i _ => q - (intOf i).toNat)
      case atStart => exact ⟨0, n + nq, Nat.zero_le _, rfl, by simp⟩
      case round =>
        obtain ⟨j, n2, hj, rfl, rfl⟩ := hrel
        by_cases hjt : j < q
        · obtain ⟨g1, p1, hXA, _, hg1⟩ := HCF.out (by have := HQ.out; omega)
          obtain ⟨g2, p2, hYA, _, hg2⟩ := HDF.out (by have := HQ.out; omega)
          obtain ⟨e0, e1, e2, e3⟩ := hg1 j (by have := HQ.out; omega)
          obtain ⟨f0, f1, f2, f3⟩ := hg2 j (by have := HQ.out; omega)
          clear hg1 hg2
          generalize x.flds[j]'(by have := HQ.out; omega) = y at *
          rw [hXA] at c1
          rw [hYA] at d1
          have j0 : (0 : Int) ≤ (j : Int) := by omega
          have j1 : (j : Int) < (q : Int) := by omega
          clear hXA hYA
          go_wp2_with (fail)
          go_quiet (fail)
          go_wp2_with (fail)
          exact ⟨⟨j + 1, n2 + nq, by omega, by go_num, rfl⟩, by simp [intOf]; omega⟩
        · go_wp2_with (fail)
          exact ⟨⟨k + 1, n2, by omega, by go_num, rfl⟩, by simp [intOf]; omega⟩
    · go_wp2_with (fail)
      go_ret
      exact ⟨rfl, drewN_below _ _⟩
end Go.Proofs.YtlpoeflbnpbmgaaGreatDoor
