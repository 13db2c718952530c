/- What is proved: the reference's distances and Connected: how many equalities lead from a vertex to each other one. -/
import Derived.Test.YtmamajillkajoaaDoorCoDist
set_option linter.unusedVariables false
namespace Go.Proofs.YtmamajillkajoaaDoor
open Go.RowKit Go.Shelf

/-- integers in a block -/
def IArr (w : World) (b n : Nat) (f : Nat → Int) : Prop :=
  ∃ cs, w.heap[b]? = some (.cells cs 3 (0, 0)) ∧ cs.size = n ∧ ∀ v, v < n → cs[v]? = some (.int .i64 (f v))
theorem IArr.lt {w : World} {b n : Nat} {f : Nat → Int} (h : IArr w b n f) : b < w.heap.size := by
  obtain ⟨cs, h1, _⟩ := h
  exact (Array.getElem?_eq_some_iff.1 h1).1
theorem IArr.below {w w' : World} {b n : Nat} {f : Nat → Int} (h : IArr w b n f) (hb : Below w.heap.size w w') : IArr w' b n f := by
  obtain ⟨cs, h1, h2, h3⟩ := h
  exact ⟨cs, (hb.block _ (Array.getElem?_eq_some_iff.1 h1).1).trans h1, h2, h3⟩
theorem IArr.cell {w : World} {b n : Nat} {f : Nat → Int} (h : IArr w b n f) {v : Nat} (hv : v < n) : w.cell? ⟨b, v, none⟩ = some (.int .i64 (f v)) := by
  obtain ⟨cs, h1, _, h3⟩ := h
  exact (Lib.cell_of_heap h1 v).trans (h3 v hv)
theorem IArr.frz {w : World} {b n : Nat} {f : Nat → Int} (h : IArr w b n f) (i : Nat) : w.frozen? ⟨b, i, none⟩ = false := by
  obtain ⟨cs, h1, _⟩ := h
  exact hfrz h1 i
theorem IArr.set {w : World} {b n : Nat} {f : Nat → Int} (h : IArr w b n f) {y : Nat} (hy : y < n) (x : Int) : IArr (w.setCell ⟨b, y, none⟩ (.int .i64 x)) b n (setF f y x) := by
  obtain ⟨cs, h1, h2, h3⟩ := h
  refine ⟨_, hset h1 _, by simpa using h2, fun v hv => ?_⟩
  unfold setF
  by_cases e : v = y
  · subst e
    rw [if_pos rfl]
    simp [h2, hy]
  · rw [if_neg e, Array.getElem?_setIfInBounds_ne (fun h => e h.symm)]
    exact h3 v hv
theorem IArr.ext {w : World} {b n : Nat} {f f' : Nat → Int} (h : IArr w b n f) (he : ∀ v, v < n → f v = f' v) : IArr w b n f' := by
  obtain ⟨cs, h1, h2, h3⟩ := h
  exact ⟨cs, h1, h2, fun v hv => by rw [← he v hv]; exact h3 v hv⟩
theorem IArr.new (w : World) (n : Nat) : IArr (w.alloc (.cells (hdr (fun _ => .int .i64 0) n) 3)) w.heap.size n (fun _ => 0) :=
  ⟨_, heap_alloc_new w _, by simp [hdr], fun v hv => by simp [hdr, hv]⟩

/-- what distances answers -/
def DsRes (w : World) (n u : Nat) (l : List Con) (e : Ending) (w' : World) : Prop :=
  ∃ b f, e = .returned (.slice (some ⟨b, 0, none⟩) n n) ∧ IArr w' b n f ∧ DOk l n u f ∧ Below w.heap.size w w'
/-- the distances under way -/
def DsRel (l : List Con) (n u d : Nat) (cb : Bool) (f : Nat → Int) : Prop := d ≤ n ∧ (cb = true → DI l n u d 0 f false) ∧ (cb = false → DOk l n u f)

set_option maxRecDepth 100000 in
set_option maxHeartbeats 2000000 in
theorem dist_any (n u : Nat) (A : Option Addr) (c : Nat) (l : List Con) (w : World) (hn : n ≤ 1000000) (hu : u < n) (hp : ∀ x ∈ l, posB n x = true) (hl : l.length ≤ 1000000) (hr : CRow w.heap.size w A l) :
    Calls Tryd.prog 22 #[.int .i64 (n : Int), .slice A l.length c, .int .i64 (u : Int)] w (DsRes w n u l) := by
  have HR := Lib.hid hr
  have HP := Lib.hid hp
  clear hr hp
  have hmi := co_make_in n hn
  go_enter Tryd.func22, Tryd.ntmps22
  go_wp2_with (fail)
  clear hmi
  have HI0 := Lib.hid (IArr.new w n)
  have HB0 := Lib.hid ((Below.refl w.heap.size w).alloc (Nat.le_refl _) (.cells (hdr (fun _ => .int .i64 0) n) 3))
  generalize (w.alloc (.cells (hdr (fun _ => .int .i64 0) n) 3)) = w1 at *
  obtain ⟨b, HBE⟩ : ∃ b, Hid (w.heap.size = b) := ⟨_, Lib.hid rfl⟩
  rw [HBE.out]
  rw [HBE.out] at HI0
  go_loopw [8] (fun i wr => ∃ (k : Nat) (f : Nat → Int), k ≤ n ∧ i = .int .i64 (k : Int) ∧ Hid (IArr wr b n f) ∧ Hid (∀ v, v < k → f v = -1) ∧ Hid (Below w.heap.size w wr)) (fun i _ => n - (intOf i).toNat)
  case atStart => exact ⟨0, _, Nat.zero_le _, rfl, HI0, Lib.hid (fun v hv => by omega), HB0⟩
  case round =>
    obtain ⟨k, f, hk, rfl, hia, hf, hbw⟩ := hrel
    by_cases hlt : k < n
    · have c0 := hia.out.cell hlt
      have z0 := hia.out.frz k
      go_wp2_with (fail)
      exact ⟨⟨k + 1, setF f k (-1), by omega, by go_num, Lib.hid (hia.out.set hlt (-1)), Lib.hid (fun v hv => by
        unfold setF
        split
        · rfl
        · exact hf.out v (by omega)), Lib.hid (hbw.out.setCell (by have := HBE.out; simp; omega) _)⟩, by simp [intOf]; omega⟩
    · obtain rfl : k = n := by omega
      have c0 := hia.out.cell hu
      have z0 := hia.out.frz u
      have HI1 := Lib.hid (((hia.out.ext hf.out).set hu 0))
      have HB1 := Lib.hid (hbw.out.setCell (p := ⟨b, u, none⟩) (by have := HBE.out; simp; omega) (.int .i64 0))
      go_wp2_with (fail)
      clear c0 z0 hia hf hbw HI0 HB0
      generalize (wr.setCell ⟨b, u, none⟩ (.int .i64 0)) = w2 at *
      go_loopw [9, 10] (fun ch d wr => ∃ (dn : Nat) (cb : Bool) (f : Nat → Int), d = .int .i64 (dn : Int) ∧ ch = .bool cb ∧ dn ≤ k ∧ Hid (DsRel l k u dn cb f) ∧ Hid (IArr wr b k f) ∧ Hid (Below w.heap.size w wr)) (fun _ d _ => k + 1 - (intOf d).toNat)
      case atStart => exact ⟨0, true, _, rfl, rfl, Nat.zero_le _, Lib.hid ⟨Nat.zero_le _, fun _ => DI.start hu, fun h => by cases h⟩, HI1, HB1⟩
      case round =>
        obtain ⟨dn, cb, f, rfl, rfl, hdk, hd, hia, hbw⟩ := hrel
        cases cb with
        | false =>
          go_wp2_with (fail)
          go_ret
          exact ⟨b, f, rfl, hia.out, hd.out.2.2 rfl, hbw.out⟩
        | true =>
          have HD := Lib.hid (hd.out.2.1 rfl)
          clear hd HI1 HB1
          go_wp2_with (fail)
          go_loopw [9, 11] (fun ch i wq => ∃ (q : Nat) (cb : Bool) (f : Nat → Int), i = .int .i64 (q : Int) ∧ ch = .bool cb ∧ q ≤ l.length ∧ Hid (DI l k u dn q f cb) ∧ Hid (IArr wq b k f) ∧ Hid (Below w.heap.size w wq)) (fun _ i _ => l.length - (intOf i).toNat)
          case atStart => exact ⟨0, false, f, rfl, rfl, Nat.zero_le _, HD, hia, hbw⟩
          case round =>
            obtain ⟨q, cb, f, rfl, rfl, hq, hdi, hia, hbw⟩ := hrel
            by_cases hlt : q < l.length
            · obtain ⟨ab, off, rfl, hab, hcs⟩ := HR.out (by omega)
              obtain ⟨r0, r1, r2, _, _, _, _, _⟩ := (hcs q hlt).below hbw.out hab
              clear hcs
              obtain ⟨x, HX⟩ : ∃ x, Hid (l[q]? = some x) := ⟨_, Lib.hid (List.getElem?_eq_getElem hlt)⟩
              have hxe : l[q] = x := by have := HX.out; rw [List.getElem?_eq_getElem hlt] at this; exact Option.some.inj this
              have hpc := pos_cases (HP.out x (List.mem_of_getElem? HX.out))
              rw [hxe] at r0 r1 r2
              clear hxe
              rcases hpc.2 with ⟨k0, _⟩ | ⟨k1, b1, b2⟩
              · rw [k0] at r0
                have HS := Lib.hid (hdi.out.step HP.out HX.out (.inl (by rw [k0]; rfl)))
                clear hpc k0
                go_wp2_with (fail)
                exact ⟨⟨q + 1, cb, f, by go_num, rfl, by omega, HS, hia, hbw⟩, by simp [intOf]; omega⟩
              · obtain ⟨s, hs⟩ : ∃ s : Nat, x.a = (s : Int) := ⟨x.a.toNat, by omega⟩
                obtain ⟨t, ht⟩ : ∃ t : Nat, x.b = (t : Int) := ⟨x.b.toNat, by omega⟩
                have hsn : s < k := by omega
                have htn : t < k := by omega
                rw [k1] at r0
                rw [hs] at r1
                rw [ht] at r2
                have HKF := Lib.hid (show (x.kind == 0) = false by rw [k1]; rfl)
                have HA := Lib.hid (show Adj l s t from ⟨q, x, HX.out, HKF.out, .inl ⟨hs, ht⟩⟩)
                have HST := Lib.hid (And.intro hs ht)
                have cs0 := hia.out.cell hsn
                have ct0 := hia.out.cell htn
                have zs := hia.out.frz s
                have zt := hia.out.frz t
                clear hpc k1 b1 b2 hs ht
                obtain ⟨p, HPS⟩ : ∃ p, Hid (f s = p) := ⟨_, Lib.hid rfl⟩
                obtain ⟨g, HGT⟩ : ∃ g, Hid (f t = g) := ⟨_, Lib.hid rfl⟩
                rw [HPS.out] at cs0
                rw [HGT.out] at ct0
                have d1 : (0 : Int) ≤ (dn : Int) := by omega
                have HW1 := Lib.hid (show s = t → p = g from fun e => by rw [← HPS.out, ← HGT.out, e])
                by_cases h1 : p = (dn : Int) ∧ g < 0
                · obtain ⟨rfl, hg⟩ := h1
                  have hne : s ≠ t := fun e => by have := HW1.out e; omega
                  have HS1 := Lib.hid (hdi.out.set hsn htn HA.out HPS.out (by rw [HGT.out]; exact hg))
                  have HI2 := Lib.hid (hia.out.set htn ((dn : Int) + 1))
                  have hb2 := hbw.out.setCell (p := ⟨b, t, none⟩) (by have := HBE.out; simp; omega) (.int .i64 ((dn : Int) + 1))
                  have HB2 := Lib.hid hb2
                  have r1' := (HB2.out.cell (p := ⟨ab, off + q * 8 + 1, none⟩) hab).trans ((hbw.out.cell (p := ⟨ab, off + q * 8 + 1, none⟩) hab).symm.trans r1)
                  have r2' := (HB2.out.cell (p := ⟨ab, off + q * 8 + 2, none⟩) hab).trans ((hbw.out.cell (p := ⟨ab, off + q * 8 + 2, none⟩) hab).symm.trans r2)
                  have ct1 := HI2.out.cell htn
                  rw [show setF f t ((dn : Int) + 1) t = (dn : Int) + 1 from if_pos rfl] at ct1
                  have e1 : (((dn : Int) + 1) == (dn : Int)) = false := by simp; omega
                  have HS := Lib.hid (HS1.out.step HP.out HX.out (.inr (fun a b' ha hb' => by
                    obtain rfl : a = s := by have := HST.out.1; omega
                    obtain rfl : b' = t := by have := HST.out.2; omega
                    unfold setF
                    rw [if_pos rfl, if_neg hne]
                    exact ⟨fun _ => by omega, fun h => by omega⟩)))
                  clear hb2
                  go_wp2_with (fail)
                  exact ⟨⟨q + 1, true, _, by go_num, rfl, by omega, HS, HI2, HB2⟩, by simp [intOf]; omega⟩
                · by_cases h2 : g = (dn : Int) ∧ p < 0
                  · obtain ⟨rfl, hp0⟩ := h2
                    have hne : s ≠ t := fun e => by have := HW1.out e; omega
                    have e1 : (p == (dn : Int)) = false := by simp; omega
                    have HS1 := Lib.hid (hdi.out.set htn hsn HA.out.symm HGT.out (by rw [HPS.out]; exact hp0))
                    have HI2 := Lib.hid (hia.out.set hsn ((dn : Int) + 1))
                    have HB2 := Lib.hid (hbw.out.setCell (p := ⟨b, s, none⟩) (by have := HBE.out; simp; omega) (.int .i64 ((dn : Int) + 1)))
                    have HS := Lib.hid (HS1.out.step HP.out HX.out (.inr (fun a b' ha hb' => by
                      obtain rfl : a = s := by have := HST.out.1; omega
                      obtain rfl : b' = t := by have := HST.out.2; omega
                      unfold setF
                      rw [if_pos rfl, if_neg (fun h => hne h.symm)]
                      exact ⟨fun h => by omega, fun _ => by omega⟩)))
                    go_wp2_with (fail)
                    exact ⟨⟨q + 1, true, _, by go_num, rfl, by omega, HS, HI2, HB2⟩, by simp [intOf]; omega⟩
                  · have HS := Lib.hid (hdi.out.step HP.out HX.out (.inr (fun a b' ha hb' => by
                      obtain rfl : a = s := by have := HST.out.1; omega
                      obtain rfl : b' = t := by have := HST.out.2; omega
                      rw [HPS.out, HGT.out]
                      exact ⟨fun e h => h1 ⟨e, h⟩, fun e h => h2 ⟨e, h⟩⟩)))
                    by_cases e1 : p = (dn : Int)
                    · subst e1
                      have e3 : ¬ g < 0 := fun h => h1 ⟨rfl, h⟩
                      have e4 : ¬ ((dn : Int) < 0) := by omega
                      clear h1 h2
                      by_cases e2 : g = (dn : Int)
                      · subst e2
                        go_wp2_with (fail)
                        exact ⟨⟨q + 1, cb, f, by go_num, rfl, by omega, HS, hia, hbw⟩, by simp [intOf]; omega⟩
                      · have e5 : (g == (dn : Int)) = false := by simpa using e2
                        go_wp2_with (fail)
                        exact ⟨⟨q + 1, cb, f, by go_num, rfl, by omega, HS, hia, hbw⟩, by simp [intOf]; omega⟩
                    · have e6 : (p == (dn : Int)) = false := by simpa using e1
                      by_cases e2 : g = (dn : Int)
                      · subst e2
                        have e7 : ¬ p < 0 := fun h => h2 ⟨rfl, h⟩
                        clear h1 h2
                        go_wp2_with (fail)
                        exact ⟨⟨q + 1, cb, f, by go_num, rfl, by omega, HS, hia, hbw⟩, by simp [intOf]; omega⟩
                      · have e5 : (g == (dn : Int)) = false := by simpa using e2
                        clear h1 h2
                        go_wp2_with (fail)
                        exact ⟨⟨q + 1, cb, f, by go_num, rfl, by omega, HS, hia, hbw⟩, by simp [intOf]; omega⟩
            · obtain rfl : q = l.length := by omega
              have HE := Lib.hid (show DsRel l k u (dn + 1) cb f from by
                have hcn := hdi.out.cnt
                refine ⟨by omega, fun h => ?_, fun h => ?_⟩
                · subst h; exact hdi.out.round HP.out hu
                · subst h; exact hdi.out.fin HP.out hu)
              have hd1 : dn + 1 ≤ k := by have := hdi.out.cnt; omega
              go_wp2_with (fail)
              exact ⟨⟨dn + 1, cb, f, by go_num, rfl, hd1, HE, hia, hbw⟩, by simp [intOf]; omega⟩

/-- truth values in a block -/
def BArr (w : World) (b n : Nat) (f : Nat → Bool) : Prop :=
  ∃ cs, w.heap[b]? = some (.cells cs 4 (0, 0)) ∧ cs.size = n ∧ ∀ v, v < n → cs[v]? = some (.bool (f v))
theorem BArr.lt {w : World} {b n : Nat} {f : Nat → Bool} (h : BArr w b n f) : b < w.heap.size := by
  obtain ⟨cs, h1, _⟩ := h
  exact (Array.getElem?_eq_some_iff.1 h1).1
theorem BArr.below {w w' : World} {b n : Nat} {f : Nat → Bool} (h : BArr w b n f) (hb : Below w.heap.size w w') : BArr w' b n f := by
  obtain ⟨cs, h1, h2, h3⟩ := h
  exact ⟨cs, (hb.block _ (Array.getElem?_eq_some_iff.1 h1).1).trans h1, h2, h3⟩
theorem BArr.cell {w : World} {b n : Nat} {f : Nat → Bool} (h : BArr w b n f) {v : Nat} (hv : v < n) : w.cell? ⟨b, v, none⟩ = some (.bool (f v)) := by
  obtain ⟨cs, h1, _, h3⟩ := h
  exact (Lib.cell_of_heap h1 v).trans (h3 v hv)
theorem BArr.frz {w : World} {b n : Nat} {f : Nat → Bool} (h : BArr w b n f) (i : Nat) : w.frozen? ⟨b, i, none⟩ = false := by
  obtain ⟨cs, h1, _⟩ := h
  exact hfrz h1 i
theorem BArr.set {w : World} {b n : Nat} {f : Nat → Bool} (h : BArr w b n f) {y : Nat} (hy : y < n) (x : Bool) : BArr (w.setCell ⟨b, y, none⟩ (.bool x)) b n (fun v => if v = y then x else f v) := by
  obtain ⟨cs, h1, h2, h3⟩ := h
  refine ⟨_, hset h1 _, by simpa using h2, fun v hv => ?_⟩
  dsimp only
  by_cases e : v = y
  · subst e
    rw [if_pos rfl]
    simp [h2, hy]
  · rw [if_neg e, Array.getElem?_setIfInBounds_ne (fun h => e h.symm)]
    exact h3 v hv
theorem BArr.new (w : World) (n : Nat) : BArr (w.alloc (.cells (hdr (fun _ => .bool false) n) 4)) w.heap.size n (fun _ => false) :=
  ⟨_, heap_alloc_new w _, by simp [hdr], fun v hv => by simp [hdr, hv]⟩
theorem BArr.ne {w : World} {b b' n n' : Nat} {f : Nat → Bool} {g : Nat → Int} (h : BArr w b n f) (h' : IArr w b' n' g) : b' ≠ b := by
  rintro rfl
  obtain ⟨cs, h1, _⟩ := h
  obtain ⟨ds, h2, _⟩ := h'
  rw [h1] at h2
  simp only [Option.some.injEq, Obj.cells.injEq] at h2
  exact absurd h2.2.1 (by decide)
theorem IArr.other {w : World} {b n : Nat} {f : Nat → Int} (h : IArr w b n f) {p : Addr} (hne : b ≠ p.block) (v : Value) : IArr (w.setCell p v) b n f := by
  obtain ⟨cs, h1, h2, h3⟩ := h
  exact ⟨cs, (Below.heap_setCell _ _ _ _ hne).trans h1, h2, h3⟩
theorem infoBl : (Tryd.prog.info? 4).map (fun i => (i.zero, i.size, i.bytes)) = some (some (.bool false), 1, 1) := by kernel_rfl
theorem co_make_bl (n : Nat) (hn : n ≤ 1000000) (W : World) : (Instr.makeSlice 52 (.int .i64 (n : Int)) (.int .i64 (n : Int))).run Tryd.prog W = .ok (.slice (some ⟨W.heap.size, 0, none⟩) n n) (W.alloc (.cells (hdr (fun _ => .bool false) n) 4)) := by
  obtain ⟨i0, hi, hz0, hz1, hz2⟩ := info_parts infoBl
  have h := run_make (P := Tryd.prog) W 52 4 i0 _ Tryd.underlying52 hi hz0 .i64 .i64 (n : Int) (n : Int) (by omega) (Int.le_refl _) (by rw [hz2]; omega) (by omega)
  rw [hz1] at h
  simp only [Int.toNat_natCast, Nat.mul_one] at h
  rw [h, show (Value.bool false).cells = #[.bool false] from rfl, made_hdr]
/-- what Connected answers -/
def CnRes (w : World) (n u : Nat) (l : List Con) (e : Ending) (w' : World) : Prop :=
  ∃ b f, e = .returned (.slice (some ⟨b, 0, none⟩) n n) ∧ BArr w' b n f ∧ (∀ v, v < n → (f v = true ↔ Conn l u v)) ∧ Below w.heap.size w w'
end Go.Proofs.YtmamajillkajoaaDoor
