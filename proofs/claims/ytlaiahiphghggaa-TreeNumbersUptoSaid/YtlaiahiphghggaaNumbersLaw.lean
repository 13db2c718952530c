/- What is proved: TreeNumbers answers true. -/
import Derived.Test.YtlaiahiphghggaaRefNumber
import Derived.Test.YtlaiahiphghggaaRefPath
import Derived.Test.YtlaiahiphghggaaRefFind
import Derived.Test.YtlaiahiphghggaaRefEqual
import Derived.OpenShut
set_option linter.unusedVariables false
namespace Go.Proofs.Ytlaiahiphghggaa
open Go.RowKit Go.Shelf

theorem NBox.next {W W' : World} {b : Nat} {n : NT} (h : NBox W b n) (hb : Below W.heap.size W W') : NBox W' b n := h.below hb (Array.getElem?_eq_some_iff.1 h).1
theorem inT_zero (n₀ : Nat) (w : World) : InT n₀ w zeroN := (inT_iff _).2 ⟨fun h => absurd h (by simp [zeroN, NT.kids]), by simp [zeroN, NT.kids], by simp [zeroN, NT.kids]⟩
theorem cnt_zero : NT.cnt zeroN = 1 := rfl
theorem getZ_in {n₀ : Nat} {w : World} : ∀ (p : List Int) (n x : NT), NT.getZ n p = some x → InT n₀ w n → InT n₀ w x ∧ NT.cnt x ≤ NT.cnt n
  | [], n, x, h, hi => by simp only [NT.getZ, Option.some.injEq] at h; subst h; exact ⟨hi, Nat.le_refl _⟩
  | i :: p, n, x, h, hi => by
    unfold NT.getZ at h
    split at h
    · rename_i hh
      have h1 := getZ_in p _ x h (hi.kid (List.getElem_mem hh.2))
      have h2 := NT.cnt_kid (List.getElem_mem hh.2)
      exact ⟨h1.1, by omega⟩
    · cases h
theorem getD_in {n₀ : Nat} {w : World} {n : NT} (p : List Int) (hi : InT n₀ w n) : InT n₀ w ((NT.getZ n p).getD zeroN) ∧ NT.cnt ((NT.getZ n p).getD zeroN) ≤ NT.cnt n := by
  cases h : NT.getZ n p with
  | none => exact ⟨inT_zero _ _, by have := NT.cnt_pos n; rw [Option.getD_none, cnt_zero]; omega⟩
  | some x => exact getZ_in p n x h hi
theorem res_same {o : Option NT} {w w' : World} {m : NT} (h : GetRes o w w' m) : NT.strip m = NT.strip (o.getD zeroN) ∧ InT w'.heap.size w' m := by
  cases o with
  | none => rw [h.2 rfl]; exact ⟨rfl, inT_zero _ _⟩
  | some x => exact ⟨(h.1 x rfl).1, fresh_inT (h.1 x rfl).2⟩
theorem cnt_same {m g : NT} (h : NT.strip m = NT.strip g) : NT.cnt m = NT.cnt g := by rw [← NT.cnt_strip m, h, NT.cnt_strip]
theorem pathAt_len (n : NT) (k : Int) : (pathAt n k).length ≤ NT.cnt n := by
  unfold pathAt
  split
  · rcases Nat.lt_or_ge k.toNat (NT.pths n).length with h | h
    · rw [List.getD_eq_getElem?_getD, List.getElem?_eq_getElem h]
      have := path_len (NT.pths_some n _ (List.getElem_mem h)).1
      simp only [Option.getD_some]
      omega
    · rw [List.getD_eq_getElem?_getD, List.getElem?_eq_none h]; simp
  · simp
theorem ints_same (A B : Option Addr) (c d : Nat) (q : List Nat) (w : World) (ha : IRow w.heap.size w A (q.map Int.ofNat)) (hb : IRow w.heap.size w B (q.map Int.ofNat)) (hl : q.length ≤ 1000000000) :
    Calls Try.prog 33 #[.slice A q.length c, .slice B q.length d] w fun e w' => e = .returned (.bool true) ∧ Below w.heap.size w w' := by
  have h := intsEq_any A B c d (q.map Int.ofNat) (q.map Int.ofNat) w ha hb (by simpa using hl) (by simpa using hl)
  simp only [List.length_map] at h
  refine h.mono ?_
  rintro e w' ⟨rfl, n, rfl⟩
  exact ⟨by simp, drewN_below w n⟩

/-- the tree in its variable, the two nodes that were got in theirs, the two paths -/
structure Nu (w : World) (n m g : NT) (Ba Bb : Nat) (A1 A2 : Option Addr) (q : List Nat) (W : World) : Prop where
  below : Below w.heap.size w W
  box : NBox W w.heap.size n
  boxA : NBox W Ba m
  boxB : NBox W Bb g
  inM : InT W.heap.size W m
  p1 : IRow W.heap.size W A1 (q.map Int.ofNat)
  p2 : IRow W.heap.size W A2 (q.map Int.ofNat)
theorem Nu.later {w : World} {n m g : NT} {Ba Bb : Nat} {A1 A2 : Option Addr} {q : List Nat} {W W' : World} (h : Nu w n m g Ba Bb A1 A2 q W) (hb : Below W.heap.size W W') : Nu w n m g Ba Bb A1 A2 q W' :=
  ⟨h.below.trans (hb.mono h.below.size), h.box.next hb, h.boxA.next hb, h.boxB.next hb, InT.later h.inM hb, h.p1.later hb, h.p2.later hb⟩
theorem Nu.cells {w : World} {n m g : NT} {Ba Bb : Nat} {A1 A2 : Option Addr} {q : List Nat} {W : World} (h : Nu w n m g Ba Bb A1 A2 q W) : W.cell? ⟨w.heap.size, 0, none⟩ = some (.int .i64 n.kind) ∧ W.cell? ⟨w.heap.size, 1, none⟩ = some (.string n.text) ∧ W.cell? ⟨w.heap.size, 2, none⟩ = some (.int .i64 n.lo) ∧ W.cell? ⟨w.heap.size, 3, none⟩ = some (.int .i64 n.hi) ∧ W.cell? ⟨w.heap.size, 4, none⟩ = some (.slice n.A n.kids.length n.c) ∧ W.cell? ⟨Ba, 0, none⟩ = some (.int .i64 m.kind) ∧ W.cell? ⟨Ba, 1, none⟩ = some (.string m.text) ∧ W.cell? ⟨Ba, 2, none⟩ = some (.int .i64 m.lo) ∧ W.cell? ⟨Ba, 3, none⟩ = some (.int .i64 m.hi) ∧ W.cell? ⟨Ba, 4, none⟩ = some (.slice m.A m.kids.length m.c) ∧ W.cell? ⟨Bb, 0, none⟩ = some (.int .i64 g.kind) ∧ W.cell? ⟨Bb, 1, none⟩ = some (.string g.text) ∧ W.cell? ⟨Bb, 2, none⟩ = some (.int .i64 g.lo) ∧ W.cell? ⟨Bb, 3, none⟩ = some (.int .i64 g.hi) ∧ W.cell? ⟨Bb, 4, none⟩ = some (.slice g.A g.kids.length g.c) :=
  ⟨h.box.cells.1, h.box.cells.2.1, h.box.cells.2.2.1, h.box.cells.2.2.2.1, h.box.cells.2.2.2.2, h.boxA.cells.1, h.boxA.cells.2.1, h.boxA.cells.2.2.1, h.boxA.cells.2.2.2.1, h.boxA.cells.2.2.2.2, h.boxB.cells⟩

set_option maxHeartbeats 8000000 in
set_option maxRecDepth 100000 in
theorem treeNumbers_any (n : NT) (A : Option Addr) (c : Nat) (p : List Int) (k o : Int) (w : World) (hin : InT w.heap.size w n) (hc : NT.cnt n ≤ 1000000000) (hp : IRow w.heap.size w A p) (hpl : p.length ≤ 1000000000) (hk : (Lit.int .i64 k).wf = true) (ho : (Lit.int .i64 o).wf = true) :
    Calls Try.prog 4 #[.agg #[.int .i64 n.kind, .string n.text, .int .i64 n.lo, .int .i64 n.hi, .slice n.A n.kids.length n.c], .slice A p.length c, .int .i64 k, .int .i64 o] w fun e w' => e = .returned (.bool true) ∧ Below w.heap.size w w' := by
  have HI := Lib.hid hin
  have HP := Lib.hid hp
  have HK := Lib.hid (bounds_i64 hk)
  clear hin hp hk ho
  go_enter Try.func4, Try.ntmps4
  go_wp2_with (fail)
  have hb0 := (Below.refl w.heap.size w).alloc (Nat.le_refl _) (.cells #[.int .i64 n.kind, .string n.text, .int .i64 n.lo, .int .i64 n.hi, .slice n.A n.kids.length n.c] 24)
  have hn0 := NBox.new w n
  generalize (w.alloc (.cells #[.int .i64 n.kind, .string n.text, .int .i64 n.lo, .int .i64 n.hi, .slice n.A n.kids.length n.c] 24)) = w1 at *
  refine (r_small_any n 150 w1 (InT.later HI.out hb0) hc).mono ?_
  rintro e w2 ⟨rfl, hb2⟩
  have HB2 := Lib.hid (hb0.trans (hb2.mono hb0.size))
  have HN2 := Lib.hid (hn0.next hb2)
  clear hb0 hn0 hb2
  obtain ⟨c0, c1, c2, c3, c4⟩ := HN2.out.cells
  cases hs : smallB n 150 with
  | false =>
    clear hs
    go_wp2_with (fail)
    refine (awake_any w2).mono ?_
    rintro e w3 ⟨rfl, hb3⟩
    have HB3 := Lib.hid (HB2.out.trans (hb3.mono HB2.out.size))
    clear hb3
    go_wp2_with (fail)
    go_ret
    exact ⟨rfl, HB3.out⟩
  | true =>
    clear hs
    by_cases hlen : 20 < p.length
    · go_wp2_with (fail)
      refine (awake_any w2).mono ?_
      rintro e w3 ⟨rfl, hb3⟩
      have HB3 := Lib.hid (HB2.out.trans (hb3.mono HB2.out.size))
      clear hb3
      go_wp2_with (fail)
      go_ret
      exact ⟨rfl, HB3.out⟩
    · go_wp2_with (fail)
      refine (get_any n A c p w2 (InT.later HI.out HB2.out) (HP.out.later HB2.out) hc hpl).mono ?_
      rintro e w3 ⟨m, rfl, hm, hb3⟩
      have HR := Lib.hid (res_same hm)
      have HG := Lib.hid (getD_in p HI.out)
      have HB3 := Lib.hid (HB2.out.trans (hb3.mono HB2.out.size))
      have HN3 := Lib.hid (HN2.out.next hb3)
      clear hm hb3 c0 c1 c2 c3 c4
      obtain ⟨c0, c1, c2, c3, c4⟩ := HN3.out.cells
      obtain ⟨d0, d1, d2, d3, d4⟩ := (nbox_alloc HN3.out (.cells #[.int .i64 m.kind, .string m.text, .int .i64 m.lo, .int .i64 m.hi, .slice m.A m.kids.length m.c] 24)).cells
      go_wp2_with (fail)
      clear d0 d1 d2 d3 d4
      have HB4 := Lib.hid (HB3.out.alloc HB3.out.size (.cells #[.int .i64 m.kind, .string m.text, .int .i64 m.lo, .int .i64 m.hi, .slice m.A m.kids.length m.c] 24))
      have HN4 := Lib.hid (nbox_alloc HN3.out (.cells #[.int .i64 m.kind, .string m.text, .int .i64 m.lo, .int .i64 m.hi, .slice m.A m.kids.length m.c] 24))
      have HA4 := Lib.hid (NBox.new w3 m)
      have HM4 := Lib.hid (InT.later HR.out.2 ((Below.refl w3.heap.size w3).alloc (Nat.le_refl _) (.cells #[.int .i64 m.kind, .string m.text, .int .i64 m.lo, .int .i64 m.hi, .slice m.A m.kids.length m.c] 24)))
      generalize hBa : w3.heap.size = Ba at *
      clear hBa
      generalize (w3.alloc (.cells #[.int .i64 m.kind, .string m.text, .int .i64 m.lo, .int .i64 m.hi, .slice m.A m.kids.length m.c] 24)) = w4 at *
      refine (r_get_any n A c p w4 (InT.later HI.out HB4.out) (HP.out.later HB4.out) hc hpl).mono ?_
      rintro e w5 ⟨rfl, hb5⟩
      have HST := Lib.hid HR.out.1
      have HB5 := Lib.hid (HB4.out.trans (hb5.mono HB4.out.size))
      have HN5 := Lib.hid (HN4.out.next hb5)
      have HA5 := Lib.hid (HA4.out.next hb5)
      have HM5 := Lib.hid (InT.later HM4.out hb5)
      clear hb5 c0 c1 c2 c3 c4 HR HM4 HB4 HN4 HA4
      obtain ⟨c0, c1, c2, c3, c4⟩ := HN5.out.cells
      generalize (NT.getZ n p).getD zeroN = g at *
      generalize (NT.getZ n p).isSome = ok at *
      obtain ⟨d0, d1, d2, d3, d4⟩ := (nbox_alloc HN5.out (.cells #[.int .i64 g.kind, .string g.text, .int .i64 g.lo, .int .i64 g.hi, .slice g.A g.kids.length g.c] 24)).cells
      go_wp2_with (fail)
      clear d0 d1 d2 d3 d4
      have HB6 := Lib.hid (HB5.out.alloc HB5.out.size (.cells #[.int .i64 g.kind, .string g.text, .int .i64 g.lo, .int .i64 g.hi, .slice g.A g.kids.length g.c] 24))
      have HN6 := Lib.hid (nbox_alloc HN5.out (.cells #[.int .i64 g.kind, .string g.text, .int .i64 g.lo, .int .i64 g.hi, .slice g.A g.kids.length g.c] 24))
      have HA6 := Lib.hid (nbox_alloc HA5.out (.cells #[.int .i64 g.kind, .string g.text, .int .i64 g.lo, .int .i64 g.hi, .slice g.A g.kids.length g.c] 24))
      have HX6 := Lib.hid (NBox.new w5 g)
      have HM6 := Lib.hid (InT.later HM5.out ((Below.refl w5.heap.size w5).alloc (Nat.le_refl _) (.cells #[.int .i64 g.kind, .string g.text, .int .i64 g.lo, .int .i64 g.hi, .slice g.A g.kids.length g.c] 24)))
      generalize hBb : w5.heap.size = Bb at *
      clear hBb
      generalize (w5.alloc (.cells #[.int .i64 g.kind, .string g.text, .int .i64 g.lo, .int .i64 g.hi, .slice g.A g.kids.length g.c] 24)) = w6 at *
      refine (path_any n k w6 (InT.later HI.out HB6.out) hc HK.out.1 HK.out.2).mono ?_
      rintro e w7 ⟨A1, c1', rfl, hr, hb7⟩
      have HQL := Lib.hid (pathAt_len n k)
      have HP7 := Lib.hid hr.ints
      have HB7 := Lib.hid (HB6.out.trans (hb7.mono HB6.out.size))
      have HN7 := Lib.hid (HN6.out.next hb7)
      have HA7 := Lib.hid (HA6.out.next hb7)
      have HX7 := Lib.hid (HX6.out.next hb7)
      have HM7 := Lib.hid (InT.later HM6.out hb7)
      clear hb7 hr c0 c1 c2 c3 c4 HB6 HN6 HA6 HX6 HM6 HB5 HN5 HA5 HM5
      obtain ⟨c0, c1, c2, c3, c4⟩ := HN7.out.cells
      go_wp2_with (fail)
      refine (r_path_any n k w7 (InT.later HI.out HB7.out) hc).mono ?_
      rintro e w8 ⟨A2, c2', rfl, hr, hb8⟩
      have HU : Hid (Nu w n m g Ba Bb A1 A2 (pathAt n k) w8) := ⟨HB7.out.trans (hb8.mono HB7.out.size), HN7.out.next hb8, HA7.out.next hb8, HX7.out.next hb8, InT.later HM7.out hb8, HP7.out.later hb8, hr.ints⟩
      have hql : (pathAt n k).length ≤ 1000000000 := by have := HQL.out; omega
      clear hb8 hr c0 c1 c2 c3 c4 HB7 HN7 HA7 HX7 HM7 HP7
      obtain ⟨c0, c1, c2, c3, c4⟩ := HU.out.box.cells
      generalize pathAt n k = q at *
      generalize isNum n k = good at *
      go_wp2_with (fail)
      refine (number_any n A c p w8 (InT.later HI.out HU.out.below) (HP.out.later HU.out.below) hc hpl).mono ?_
      rintro e w9 ⟨rfl, hb⟩
      have HU9 := Lib.hid (HU.out.later hb)
      clear hb c0 c1 c2 c3 c4
      obtain ⟨c0, c1, c2, c3, c4⟩ := HU9.out.box.cells
      go_wp2_with (fail)
      refine (r_number_any n A c p w9 (InT.later HI.out HU9.out.below) (HP.out.later HU9.out.below) hc hpl).mono ?_
      rintro e w10 ⟨rfl, hb⟩
      have HU10 := Lib.hid (HU9.out.later hb)
      clear hb c0 c1 c2 c3 c4
      obtain ⟨c0, c1, c2, c3, c4⟩ := HU10.out.box.cells
      generalize (NT.numZ n p).getD 0 = i at *
      generalize (NT.numZ n p).isSome = sure at *
      go_wp2_with (fail)
      obtain ⟨x, hx⟩ : ∃ x, (if NT.hasB n o = true then NT.fnd n o else 0) = x := ⟨_, rfl⟩
      obtain ⟨found, hfd⟩ : ∃ b, NT.hasB n o = b := ⟨_, rfl⟩
      have HXX := Lib.hid hx
      have HFD := Lib.hid hfd
      clear hx hfd
      refine (find_any n o w10 (InT.later HI.out HU10.out.below) hc x found HXX.out HFD.out).mono ?_
      rintro e w11 ⟨rfl, hb⟩
      have HU11 := Lib.hid (HU10.out.later hb)
      clear hb c0 c1 c2 c3 c4
      obtain ⟨c0, c1, c2, c3, c4⟩ := HU11.out.box.cells
      go_wp2_with (fail)
      refine (r_find_any o n w11 x found (InT.later HI.out HU11.out.below) hc HXX.out HFD.out).mono ?_
      rintro e w12 ⟨rfl, hb⟩
      have HU12 := Lib.hid (HU11.out.later hb)
      clear hb c0 c1 c2 c3 c4
      obtain ⟨c0, c1, c2, c3, c4⟩ := HU12.out.box.cells
      obtain ⟨a0, a1, a2, a3, a4⟩ := HU12.out.boxA.cells
      obtain ⟨b0, b1, b2, b3, b4⟩ := HU12.out.boxB.cells
      have hcm : NT.cnt m ≤ 1000000000 := by have h1 := cnt_same HST.out; have h2 := HG.out.2; omega
      have q1 : ((NT.cnt n : Int) == (NT.cnt n : Int)) = true := by simp
      have q2 : ((NT.lev n : Int) == (NT.lev n : Int)) = true := by simp
      have q3 : (ok == ok) = true := by simp
      have q4 : (good == good) = true := by simp
      have q5 : ((i : Int) == (i : Int)) = true := by simp
      have q6 : (sure == sure) = true := by simp
      have q7 : ((x : Int) == (x : Int)) = true := by simp
      have q8 : (found == found) = true := by simp
      go_wp2_with (fail)
      have HD := Lib.hid (show Nu w n m g Ba Bb A1 A2 q w12.drew from HU12.out.later (Below.refl w12.heap.size w12).drew)
      go_region_held3 (fun w' => w'.cell? ⟨w.heap.size, 0, none⟩ = some (.int .i64 n.kind) ∧ w'.cell? ⟨w.heap.size, 1, none⟩ = some (.string n.text) ∧ w'.cell? ⟨w.heap.size, 2, none⟩ = some (.int .i64 n.lo) ∧ w'.cell? ⟨w.heap.size, 3, none⟩ = some (.int .i64 n.hi) ∧ w'.cell? ⟨w.heap.size, 4, none⟩ = some (.slice n.A n.kids.length n.c) ∧ w'.cell? ⟨Ba, 0, none⟩ = some (.int .i64 m.kind) ∧ w'.cell? ⟨Ba, 1, none⟩ = some (.string m.text) ∧ w'.cell? ⟨Ba, 2, none⟩ = some (.int .i64 m.lo) ∧ w'.cell? ⟨Ba, 3, none⟩ = some (.int .i64 m.hi) ∧ w'.cell? ⟨Ba, 4, none⟩ = some (.slice m.A m.kids.length m.c) ∧ w'.cell? ⟨Bb, 0, none⟩ = some (.int .i64 g.kind) ∧ w'.cell? ⟨Bb, 1, none⟩ = some (.string g.text) ∧ w'.cell? ⟨Bb, 2, none⟩ = some (.int .i64 g.lo) ∧ w'.cell? ⟨Bb, 3, none⟩ = some (.int .i64 g.hi) ∧ w'.cell? ⟨Bb, 4, none⟩ = some (.slice g.A g.kids.length g.c)) (first | exact HS19.out | exact HS18.out | exact HS17.out | exact HS16.out | exact HS15.out | exact HS14.out | exact HS13.out | go_keep) ((first | (go_at_call 28; refine (count_any n _ (InT.later HI.out HD.out.below) hc).mono ?_; rintro e w13 ⟨rfl, hb⟩; have HA13 := Lib.hid (HD.out.later hb); have HS13 := Lib.hid HA13.out.cells; clear hb) | (go_at_call 29; refine (r_count_any n _ (InT.later HI.out HA13.out.below) hc).mono ?_; rintro e w14 ⟨rfl, hb⟩; have HA14 := Lib.hid (HA13.out.later hb); have HS14 := Lib.hid HA14.out.cells; clear hb) | (go_at_call 30; refine (levels_any n _ (InT.later HI.out HA14.out.below) hc).mono ?_; rintro e w15 ⟨rfl, hb⟩; have HA15 := Lib.hid (HA14.out.later hb); have HS15 := Lib.hid HA15.out.cells; clear hb) | (go_at_call 31; refine (r_levels_any n _ (InT.later HI.out HA15.out.below) hc).mono ?_; rintro e w16 ⟨rfl, hb⟩; have HA16 := Lib.hid (HA15.out.later hb); have HS16 := Lib.hid HA16.out.cells; clear hb) | (go_at_call 32; refine (r_equal_any m g _ HST.out HA16.out.inM (InT.later HG.out.1 HA16.out.below) hcm).mono ?_; rintro e w17 ⟨rfl, hb⟩; have HA17 := Lib.hid (HA16.out.later hb); have HS17 := Lib.hid HA17.out.cells; clear hb) | (go_at_call 33; refine (ints_same A1 A2 c1' c2' q _ HA17.out.p1 HA17.out.p2 hql).mono ?_; rintro e w18 ⟨rfl, hb⟩; have HA18 := Lib.hid (HA17.out.later hb); have HS18 := Lib.hid HA18.out.cells; clear hb) | (go_at_call 11; refine (awake_any _).mono ?_; rintro e w19 ⟨rfl, hb⟩; have HA19 := Lib.hid (HA18.out.later hb); have HS19 := Lib.hid HA19.out.cells; clear hb)))
      go_wp2_with (fail)
      go_ret
      exact ⟨rfl, HA19.out.below⟩
end Go.Proofs.Ytlaiahiphghggaa
