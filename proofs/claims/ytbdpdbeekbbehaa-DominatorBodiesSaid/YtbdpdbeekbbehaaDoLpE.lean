/- What is proved: two slices of equal loops are equal for EqualFunc and the law's function. -/
import Derived.Test.YtbdpdbeekbbehaaDoRefM
import Derived.Test.YtbdpdbeekbbehaaDoAwake
set_option linter.unusedVariables false
namespace Go.Proofs.Ytbdpdbeekbbehaa
open Go.RowKit Go.Shelf

/-- a slice of loops, as it may be read -/
def LpRd (w : World) (X : Option Addr) (bs : List LpV) (F : Nat → List Nat) : Prop :=
  0 < bs.length → ∃ g, X = some ⟨g, 0, none⟩ ∧ g < w.heap.size ∧ ∀ (i : Nat) (h : i < bs.length), w.cell? ⟨g, i * 2, none⟩ = some (.int .i64 (bs[i].head : Int)) ∧ w.cell? ⟨g, i * 2 + 1, none⟩ = some (.slice bs[i].A (F bs[i].head).length bs[i].c) ∧ ZRow w.heap.size w bs[i].A (zl (F bs[i].head))
theorem LpRd.later {w w' : World} {X : Option Addr} {bs : List LpV} {F : Nat → List Nat} (h : LpRd w X bs F) (hb : Below w.heap.size w w') : LpRd w' X bs F := fun h0 => by
  obtain ⟨g, h1, h2, h3⟩ := h h0
  refine ⟨g, h1, Nat.lt_of_lt_of_le h2 hb.size, fun i hi => ?_⟩
  obtain ⟨g1, g2, g3⟩ := h3 i hi
  exact ⟨(hb.cell (p := ⟨g, i * 2, none⟩) h2).trans g1, (hb.cell (p := ⟨g, i * 2 + 1, none⟩) h2).trans g2, (g3.below hb).mono hb.size⟩
theorem lpcells_get (F : Nat → List Nat) : ∀ (bs : List LpV) (i : Nat) (h : i < bs.length), (lpcells F bs)[i * 2]? = some (.int .i64 (bs[i].head : Int)) ∧ (lpcells F bs)[i * 2 + 1]? = some (.slice bs[i].A (F bs[i].head).length bs[i].c)
  | t :: bs, 0, _ => ⟨rfl, rfl⟩
  | t :: bs, i + 1, h => by
    have ih := lpcells_get F bs i (by simpa using h)
    have e : lpcells F (t :: bs) = .int .i64 (t.head : Int) :: .slice t.A (F t.head).length t.c :: lpcells F bs := rfl
    rw [e, show (i + 1) * 2 = i * 2 + 1 + 1 from by omega]
    exact ih
theorem LpRow.read {w : World} {M : Nat} {v : Value} {bs : List LpV} {F : Nat → List Nat} (h : LpRow w M v bs F) : ∃ X c, v = .slice X bs.length c ∧ LpRd w X bs F := by
  rcases Nat.eq_zero_or_pos bs.length with h0 | h0
  · rcases h.row.2 with ⟨rfl, _⟩ | ⟨g, cap, cur, rfl, _, _, _, _⟩
    · exact ⟨none, 0, by rw [h0], fun hh => by omega⟩
    · exact ⟨_, _, rfl, fun hh => by omega⟩
  · obtain ⟨g, cg, rfl, hg, _⟩ := World.ownsRow.form h.row h0
    refine ⟨_, cg, rfl, fun _ => ⟨g, rfl, (own_block' h.row rfl).2.1, fun i hi => ?_⟩⟩
    have he := h.body _ (List.getElem_mem hi)
    obtain ⟨g1, g2⟩ := lpcells_get F bs i hi
    have h1 := World.ownsRow.cells h.row (g := g) rfl _ _ g1
    have h2 := World.ownsRow.cells h.row (g := g) rfl _ _ g2
    rw [do_add] at h1 h2
    exact ⟨h1, h2, he.row.2.2⟩
theorem eqF_eK : ∀ args w, (callFunc 27 args).run Try.prog w = .ok (.enter 27 args) w := enters_of Try.func27 (by kernel_rfl) rfl
theorem eqF_any (w : World) (h : Int) (A B : Option Addr) (c d : Nat) (xs : List Int) (hx : ZRow w.heap.size w A xs) (hy : ZRow w.heap.size w B xs) (h1 : 0 < xs.length) (hn : xs.length ≤ 1000000) :
    Calls Try.prog 27 #[.agg #[.int .i64 h, .slice A xs.length c], .agg #[.int .i64 h, .slice B xs.length d]] w fun e W => e = .returned (.bool true) ∧ Below w.heap.size w W := by
  have a1 := (Below.refl w.heap.size w).alloc (Nat.le_refl _) (.cells #[.int .i64 h, .slice A xs.length c] 36)
  have a2 := (Below.refl _ _).alloc (Nat.le_refl (w.alloc (.cells #[.int .i64 h, .slice A xs.length c] 36)).heap.size) (.cells #[.int .i64 h, .slice B xs.length d] 36)
  have HB := Lib.hid (a1.trans (a2.mono a1.size))
  have n1 := heap_alloc_new w (.cells #[.int .i64 h, .slice A xs.length c] 36)
  have n2 := heap_alloc_new (w.alloc (.cells #[.int .i64 h, .slice A xs.length c] 36)) (.cells #[.int .i64 h, .slice B xs.length d] 36)
  have n3 := (heap_alloc_old (w.alloc (.cells #[.int .i64 h, .slice A xs.length c] 36)) (.cells #[.int .i64 h, .slice B xs.length d] 36) (hlt n1)).trans n1
  have hz : (w.alloc (.cells #[.int .i64 h, .slice A xs.length c] 36)).heap.size = w.heap.size + 1 := by simp
  rw [hz] at n2
  have k0 := Lib.cell_of_heap n3 0
  have k1 := Lib.cell_of_heap n3 1
  have k2 := Lib.cell_of_heap n2 0
  have k3 := Lib.cell_of_heap n2 1
  have HX := Lib.hid ((hx.below HB.out).mono HB.out.size)
  have HY := Lib.hid ((hy.below HB.out).mono HB.out.size)
  have HC := Lib.hid (fun W hW hV => equal_any W A B c d xs xs hW hV h1 h1 hn hn)
  clear hx hy a1 a2 n1 n2 n3 hz h1
  go_enter Try.func27, Try.ntmps27
  go_wp2_with (fail)
  generalize ((w.alloc (.cells #[.int .i64 h, .slice A xs.length c] 36)).alloc (.cells #[.int .i64 h, .slice B xs.length d] 36)) = w1 at *
  refine (HC.out w1 HX.out HY.out).mono ?_
  rintro e w2 ⟨rfl, hb⟩
  have HB2 := Lib.hid (HB.out.trans (hb.mono HB.out.size))
  have he : (xs == xs) = true := by simp
  rw [he]
  clear hb k0 k1 k2 k3 he
  go_wp2_with (fail)
  go_ret
  exact ⟨rfl, HB2.out⟩
set_option maxRecDepth 100000 in
set_option maxHeartbeats 2000000 in
theorem eqloops_any (w : World) (X Y : Option Addr) (c d n : Nat) (bs cs : List LpV) (F : Nat → List Nat) (hx : LpRd w X bs F) (hy : LpRd w Y cs F) (hn1 : n = bs.length) (hn2 : n = cs.length) (hh : bs.map (·.head) = cs.map (·.head)) (hF : ∀ t ∈ bs, 0 < (F t.head).length ∧ (F t.head).length ≤ 1000000) (hn : n ≤ 1000000) :
    Calls Try.prog 26 #[.slice X n c, .slice Y n d, .func (.func 27) #[] #[]] w fun e W => e = .returned (.bool true) ∧ Below w.heap.size w W := by
  have HX := Lib.hid hx
  have HY := Lib.hid hy
  have HN1 := Lib.hid hn1
  have HN2 := Lib.hid hn2
  have HH := Lib.hid hh
  have HF := Lib.hid hF
  have eK := eqF_eK
  clear hx hy hn1 hn2 hh hF
  go_enter Try.func26, Try.ntmps26
  go_wp2_with (fail)
  go_loopw [17] (fun i wr => ∃ k : Nat, i = .int .i64 (k : Int) ∧ k ≤ n ∧ Hid (Below w.heap.size w wr)) (fun i _ => n - (intOf i).toNat)
  case atStart => exact ⟨0, rfl, Nat.zero_le _, Lib.hid (Below.refl _ _)⟩
  case round =>
    obtain ⟨k, rfl, hk, hbw⟩ := hrel
    by_cases hkl : k < n
    · have hk1 : k < bs.length := by have := HN1.out; omega
      have hk2 : k < cs.length := by have := HN2.out; omega
      obtain ⟨g, rfl, hg, hc1⟩ := (HX.out.later hbw.out) (by omega)
      obtain ⟨g', rfl, hg', hc2⟩ := (HY.out.later hbw.out) (by omega)
      obtain ⟨k0, k1, z1⟩ := hc1 k hk1
      obtain ⟨k2, k3, z2⟩ := hc2 k hk2
      have he : bs[k].head = cs[k].head := by
        have h := congrArg (fun l => l[k]?) HH.out
        simp only [List.getElem?_map, List.getElem?_eq_getElem hk1, List.getElem?_eq_getElem hk2, Option.map_some, Option.some.injEq] at h
        exact h
      rw [← he] at k2 k3 z2
      have HFK := Lib.hid (HF.out bs[k] (List.getElem_mem hk1))
      generalize bs[k].head = hd at *
      generalize bs[k].A = A1 at *
      generalize bs[k].c = c1 at *
      generalize cs[k].A = A2 at *
      generalize cs[k].c = c2 at *
      clear he hc1 hc2 hk1 hk2
      have a1 := (Below.refl wr.heap.size wr).alloc (Nat.le_refl _) (.cells #[.int .i64 (hd : Int), .slice A1 (F hd).length c1] 36)
      have a2 := (Below.refl _ _).alloc (Nat.le_refl (wr.alloc (.cells #[.int .i64 (hd : Int), .slice A1 (F hd).length c1] 36)).heap.size) (.cells #[.int .i64 (hd : Int), .slice A2 (F hd).length c2] 36)
      have hb2 := a1.trans (a2.mono a1.size)
      have HB2 := Lib.hid hb2
      have n1 := heap_alloc_new wr (.cells #[.int .i64 (hd : Int), .slice A1 (F hd).length c1] 36)
      have n2 := heap_alloc_new (wr.alloc (.cells #[.int .i64 (hd : Int), .slice A1 (F hd).length c1] 36)) (.cells #[.int .i64 (hd : Int), .slice A2 (F hd).length c2] 36)
      have n3 := (heap_alloc_old (wr.alloc (.cells #[.int .i64 (hd : Int), .slice A1 (F hd).length c1] 36)) (.cells #[.int .i64 (hd : Int), .slice A2 (F hd).length c2] 36) (hlt n1)).trans n1
      have hz : (wr.alloc (.cells #[.int .i64 (hd : Int), .slice A1 (F hd).length c1] 36)).heap.size = wr.heap.size + 1 := by simp
      rw [hz] at n2
      have m0 := Lib.cell_of_heap n3 0
      have m1 := Lib.cell_of_heap n3 1
      have m2 := Lib.cell_of_heap n2 0
      have m3 := Lib.cell_of_heap n2 1
      have p2 : (wr.alloc (.cells #[.int .i64 (hd : Int), .slice A1 (F hd).length c1] 36)).cell? ⟨g', k * 2, none⟩ = some (.int .i64 (hd : Int)) := (a1.cell (p := ⟨g', k * 2, none⟩) hg').trans k2
      have p3 : (wr.alloc (.cells #[.int .i64 (hd : Int), .slice A1 (F hd).length c1] 36)).cell? ⟨g', k * 2 + 1, none⟩ = some (.slice A2 (F hd).length c2) := (a1.cell (p := ⟨g', k * 2 + 1, none⟩) hg').trans k3
      have HC := Lib.hid (eqF_any _ (hd : Int) A1 A2 c1 c2 (zl (F hd)) ((z1.below hb2).mono hb2.size) ((z2.below hb2).mono hb2.size) (by rw [zl_len]; exact HFK.out.1) (by rw [zl_len]; exact HFK.out.2))
      rw [zl_len] at HC
      clear a1 a2 n1 n2 n3 hz hb2 z1 z2
      generalize (F hd).length = nf at *
      go_wp2_with (fail)
      refine HC.out.mono ?_
      rintro e w3 ⟨rfl, hb3⟩
      have HB3 := Lib.hid (hbw.out.trans ((HB2.out.trans (hb3.mono HB2.out.size)).mono hbw.out.size))
      clear hb3
      go_wp2_with (fail)
      exact ⟨⟨k + 1, by go_num, by omega, HB3⟩, by simp [intOf]; omega⟩
    · obtain rfl : k = n := by omega
      go_wp2_with (fail)
      go_ret
      exact ⟨rfl, hbw.out⟩
theorem rloops_none (A : Option Addr) (c : Nat) (l : List PtV) (w : World) (hs : FlSm l) (hp : PRow w.heap.size w A l) (hv : validP l = false) :
    Calls Try.prog 25 #[.agg #[.slice A l.length c]] w fun e W => ∃ g, e = .returned (.slice (some ⟨g, 0, none⟩) 0 0) ∧ Below w.heap.size w W := by
  have HS := Lib.hid hs
  have HPP := Lib.hid hp
  have ha1 := (Below.refl w.heap.size w).alloc (Nat.le_refl _) (.cells #[.slice A l.length c] 24)
  have HFB := Lib.hid (show FBx (w.alloc (.cells #[.slice A l.length c] 24)) w.heap.size A c l from heap_alloc_new w _)
  have ha2 := (Below.refl _ _).alloc (Nat.le_refl (w.alloc (.cells #[.slice A l.length c] 24)).heap.size) (.cells #[] 36)
  have HF1 := Lib.hid (show FBx _ w.heap.size A c l from HFB.out.later ha2)
  have HB1 := Lib.hid (ha1.trans (ha2.mono ha1.size))
  have c0 := HF1.out.cell
  clear hs hp ha1 ha2 HFB
  go_enter Try.func25, Try.ntmps25
  go_wp2_with (fail)
  generalize ((w.alloc (.cells #[.slice A l.length c] 24)).alloc (.cells #[] 36)) = w1 at *
  refine (rvalid_any A c l w1 HS.out ((HPP.out.below HB1.out).mono HB1.out.size)).mono ?_
  rintro e w2 ⟨rfl, hb⟩
  rw [hv]
  have HB2 := Lib.hid (HB1.out.trans (hb.mono HB1.out.size))
  clear c0 hb hv
  go_wp2_with (fail)
  go_ret
  exact ⟨_, rfl, HB2.out⟩
/-- loops that may be read: what the project's, or the reference's, Loops gives -/
def LoRd (dm lp : Nat → Nat → Bool) (l : List PtV) (w : World) (e : Ending) (W : World) : Prop :=
  ∃ X c bs n, e = .returned (.slice X n c) ∧ LpRd W X bs (fun h => (List.range l.length).filter (lp h)) ∧ n = bs.length ∧ bs.map (·.head) = (if validP l then lpHeads dm l l.length else []) ∧ Below w.heap.size w W
theorem loops_rd (A : Option Addr) (c : Nat) (l : List PtV) (w : World) (hs : FlSm l) (hp : PRow w.heap.size w A l) (dm : Nat → Nat → Bool) (hdm : ∀ h u, dm h u = true ↔ Dom (edg l) 0 h u) (lp : Nat → Nat → Bool) (hlp : ∀ h c, lp h c = true ↔ LpP (edg l) h c) :
    Calls Try.prog 24 #[.agg #[.slice A l.length c]] w (LoRd dm lp l w) := by
  obtain ⟨rr, hrr⟩ : ∃ rr : Nat → Bool, ∀ v, rr v = true ↔ Rea (edg l) 0 v := by
    classical exact ⟨fun v => decide (Rea (edg l) 0 v), fun v => by simp⟩
  refine (loops_any A c l w hs hp dm hdm lp hlp rr hrr).mono ?_
  rintro e W ⟨hb, ⟨hv, v, bs, rfl, hr, hh⟩ | ⟨hv, rfl⟩⟩
  · obtain ⟨X, c', rfl, h2⟩ := hr.read
    exact ⟨X, c', bs, _, rfl, h2, rfl, by rw [hh, hv]; rfl, hb⟩
  · exact ⟨none, 0, [], 0, rfl, fun h => absurd h (by simp), rfl, by rw [hv]; rfl, hb⟩
theorem rloops_rd (A : Option Addr) (c : Nat) (l : List PtV) (w : World) (hs : FlSm l) (hp : PRow w.heap.size w A l) (dm : Nat → Nat → Bool) (hdm : ∀ h u, dm h u = true ↔ Dom (edg l) 0 h u) (lp : Nat → Nat → Bool) (hlp : ∀ h c, lp h c = true ↔ LpP (edg l) h c) :
    Calls Try.prog 25 #[.agg #[.slice A l.length c]] w (LoRd dm lp l w) := by
  cases hv : validP l with
  | true =>
    refine (rloops_some A c l w (hs.ok hv) hp dm hdm lp hlp).mono ?_
    rintro e W ⟨v, bs, rfl, hr, hh, hb⟩
    obtain ⟨X, c', rfl, h2⟩ := hr.read
    exact ⟨X, c', bs, _, rfl, h2, rfl, by rw [hh, hv]; rfl, hb⟩
  | false =>
    refine (rloops_none A c l w hs hp hv).mono ?_
    rintro e W ⟨g, rfl, hb⟩
    exact ⟨_, 0, [], 0, rfl, fun h => absurd h (by simp), rfl, by rw [hv]; rfl, hb⟩
/-- a loop's body has its head -/
theorem lp_pos {l : List PtV} {dm lp : Nat → Nat → Bool} (hlp : ∀ h c, lp h c = true ↔ LpP (edg l) h c) {bs : List LpV} (hh : bs.map (·.head) = (if validP l then lpHeads dm l l.length else [])) (hn : l.length ≤ 30) : ∀ t ∈ bs, 0 < ((List.range l.length).filter (lp t.head)).length ∧ ((List.range l.length).filter (lp t.head)).length ≤ 1000000 := by
  intro t ht
  have hm : t.head ∈ bs.map (·.head) := List.mem_map.2 ⟨t, ht, rfl⟩
  rw [hh] at hm
  split at hm
  · unfold lpHeads at hm
    have h1 := (List.mem_filter.1 hm).1
    have h2 := List.length_filter_le (lp t.head) (List.range l.length)
    rw [List.length_range] at h2
    refine ⟨List.length_pos_of_mem (a := t.head) (List.mem_filter.2 ⟨h1, (hlp _ _).2 (.inl rfl)⟩), by omega⟩
  · simp at hm
theorem lp_few {l : List PtV} {dm : Nat → Nat → Bool} {bs : List LpV} (hh : bs.map (·.head) = (if validP l then lpHeads dm l l.length else [])) (hn : l.length ≤ 30) : bs.length ≤ 30 := by
  have h := congrArg List.length hh
  rw [List.length_map] at h
  split at h
  · unfold lpHeads at h
    have h2 := List.length_filter_le (fun h => !(tlL (edg l) dm l.length h).isEmpty) (List.range l.length)
    rw [List.length_range] at h2
    omega
  · rw [List.length_nil] at h; omega
end Go.Proofs.Ytbdpdbeekbbehaa
