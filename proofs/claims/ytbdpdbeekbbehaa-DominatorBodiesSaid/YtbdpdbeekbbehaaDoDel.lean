/- What is proved: DeleteFunc of numbers: what is left of a slice that the call owns. -/
import Derived.Test.YtbdpdbeekbbehaaDoFind
import Derived.Lib.SliceRun
set_option linter.unusedVariables false
namespace Go.Proofs.Ytbdpdbeekbbehaa
open Go.RowKit Go.Shelf

/-- a function that says yes or no of a number, where the blocks below B lie -/
def PbOk (B : Nat) (P : Int → Bool) (l : List Int) (g : Nat) (caps : Array Value) (w : World) : Prop :=
  ∀ (W : World) (x : Int), Below B w W → x ∈ l → Calls Try.prog g (#[.int .i64 x] ++ caps) W fun e W' => e = .returned (.bool (P x)) ∧ Below W.heap.size W W'

theorem ZOwn.parts {w : World} {B g n c : Nat} {l : List Int} (hn : n = l.length) (h : ZOwn w B (.slice (some ⟨g, 0, none⟩) n c) l) : n ≤ c ∧ (∀ i, w.frozen? ⟨g, i, none⟩ = false) ∧ (∀ i, i < c → (w.cell? ⟨g, i, none⟩).isSome = true) ∧ ∀ (i : Nat) (h : i < l.length), w.cell? ⟨g, i, none⟩ = some (.int .i64 l[i]) := by
  subst hn
  rcases h.2 with ⟨h1, _⟩ | ⟨g', cap, cur, h1, h2, h3, h4, h5, h6, h7⟩
  · cases h1
  · cases h1
    refine ⟨h4, hfrz h3, fun i hi => ?_, fun i hi => ?_⟩
    · rw [Lib.cell_of_heap h3 i]
      simp [h6, hi]
    · rw [Lib.cell_of_heap h3 i]
      rw [Nat.mul_one] at h7
      have e : (cur.toList.take l.length)[i]? = some (.int .i64 l[i]) := by rw [h7]; simp [zcells, hi]
      rw [List.getElem?_take_of_lt hi] at e
      simpa using e
theorem ZOwn.put {w : World} {B g n c : Nat} {l : List Int} (hn : n = l.length) (h : ZOwn w B (.slice (some ⟨g, 0, none⟩) n c) l) {i : Nat} (x : Int) : ZOwn (w.setCell ⟨g, i, none⟩ (.int .i64 x)) B (.slice (some ⟨g, 0, none⟩) n c) (l.set i x) := by
  subst hn
  rcases h.2 with ⟨h1, _⟩ | ⟨g', cap, cur, h1, h2, h3, h4, h5, h6, h7⟩
  · cases h1
  · cases h1
    refine ⟨by simp [zcells], .inr ⟨g, c, _, by simp, h2, hset h3 _, by simpa using h4, h5, by simpa using h6, ?_⟩⟩
    have e : (cur.setIfInBounds i (.int .i64 x)).toList = cur.toList.set i (.int .i64 x) := by simp
    rw [e, Nat.mul_one, List.length_set, List.take_set]
    rw [Nat.mul_one] at h7
    rw [h7]
    simp [zcells, List.map_set]
theorem ZOwn.cut {w : World} {B g n c : Nat} {l : List Int} (hn : n = l.length) (h : ZOwn w B (.slice (some ⟨g, 0, none⟩) n c) l) {i : Nat} (hi : i ≤ l.length) : ZOwn w B (.slice (some ⟨g, 0, none⟩) i c) (l.take i) := by
  subst hn
  rcases h.2 with ⟨h1, _⟩ | ⟨g', cap, cur, h1, h2, h3, h4, h5, h6, h7⟩
  · cases h1
  · cases h1
    have e : (l.take i).length = i := by rw [List.length_take]; omega
    refine ⟨by simp [zcells], .inr ⟨g, c, _, by rw [e], h2, h3, by omega, h5, h6, ?_⟩⟩
    rw [Nat.mul_one] at h7
    rw [e, Nat.mul_one, show cur.toList.take i = (cur.toList.take l.length).take i from by rw [List.take_take]; congr 1; omega, h7]
    simp [zcells, List.map_take]
theorem ZOwn.past {B g n c : Nat} {l : List Int} (hn : n = l.length) : ∀ (vs : List Value) (o : Nat) (w : World), n ≤ o → ZOwn w B (.slice (some ⟨g, 0, none⟩) n c) l → ZOwn (w.setCells g o vs) B (.slice (some ⟨g, 0, none⟩) n c) l
  | [], _, _, _, h => h
  | v :: vs, o, w, ho, h => by
    refine ZOwn.past hn vs (o + 1) _ (by omega) ?_
    subst hn
    rcases h.2 with ⟨h1, _⟩ | ⟨g', cap, cur, h1, h2, h3, h4, h5, h6, h7⟩
    · cases h1
    · cases h1
      refine ⟨h.1, .inr ⟨g, c, _, rfl, h2, hset h3 _, h4, h5, by simpa using h6, ?_⟩⟩
      rw [Nat.mul_one] at h7 ⊢
      rw [Array.toList_setIfInBounds, List.take_set_of_le ho]
      exact h7
theorem below_cells {B b : Nat} {a : World} (hb : B ≤ b) : ∀ (vs : List Value) (o : Nat) (w : World), Below B a w → Below B a (w.setCells b o vs)
  | [], _, _, h => h
  | v :: vs, o, w, h => below_cells hb vs (o + 1) _ (h.setCell (by simpa using hb) _)
/-- deleting under way -/
structure DelI (P : Int → Bool) (l : List Int) (k i : Nat) (m : List Int) : Prop where
  len : m.length = l.length
  num : i = ((l.take k).filter fun x => !P x).length
  lo : m.take i = (l.take k).filter fun x => !P x
  hi : ∀ j, k ≤ j → m[j]? = l[j]?
  lt : i < k
theorem DelI.skip {P : Int → Bool} {l : List Int} {k i : Nat} {m : List Int} (h : DelI P l k i m) (hk : k < l.length) (hp : P l[k] = true) : DelI P l (k + 1) i m := by
  have e : ((l.take (k + 1)).filter fun x => !P x) = (l.take k).filter fun x => !P x := by
    rw [List.take_succ_eq_append_getElem hk, List.filter_append]
    simp [hp]
  exact ⟨h.len, by rw [e]; exact h.num, by rw [e]; exact h.lo, fun j hj => h.hi j (by omega), by have := h.lt; omega⟩
theorem DelI.keep {P : Int → Bool} {l : List Int} {k i : Nat} {m : List Int} (h : DelI P l k i m) (hk : k < l.length) (hp : P l[k] = false) : DelI P l (k + 1) (i + 1) (m.set i l[k]) := by
  have e : ((l.take (k + 1)).filter fun x => !P x) = ((l.take k).filter fun x => !P x) ++ [l[k]] := by
    rw [List.take_succ_eq_append_getElem hk, List.filter_append]
    simp [hp]
  have hlt := h.lt
  have hln := h.len
  refine ⟨by simpa using h.len, by rw [e, List.length_append, ← h.num]; rfl, ?_, fun j hj => by rw [List.getElem?_set_ne (by omega)]; exact h.hi j (by omega), by omega⟩
  rw [e, ← h.lo, List.take_succ_eq_append_getElem (by rw [List.length_set]; omega), List.getElem_set_self, List.take_set_of_le (Nat.le_refl _)]
theorem DelI.at {P : Int → Bool} {l : List Int} {k i : Nat} {m : List Int} (h : DelI P l k i m) (hk : k < l.length) : ∃ hm : k < m.length, m[k] = l[k] := by
  have hm : k < m.length := by rw [h.len]; exact hk
  refine ⟨hm, ?_⟩
  have := h.hi k (Nat.le_refl _)
  rw [List.getElem?_eq_getElem hm, List.getElem?_eq_getElem hk] at this
  exact Option.some.inj this
theorem DelI.start {P : Int → Bool} {l : List Int} {k : Nat} (hk : k < l.length) (hp : P l[k] = true) (ha : ∀ x ∈ l.take k, P x = false) : DelI P l (k + 1) k l := by
  have e0 : ((l.take k).filter fun x => !P x) = l.take k := List.filter_eq_self.2 fun x hx => by rw [ha x hx]; rfl
  have e : ((l.take (k + 1)).filter fun x => !P x) = l.take k := by
    rw [List.take_succ_eq_append_getElem hk, List.filter_append, e0]
    simp [hp]
  exact ⟨rfl, by rw [e, List.length_take]; omega, by rw [e], fun _ _ => rfl, by omega⟩
/-- what is left -/
def DlRes (B : Nat) (P : Int → Bool) (l : List Int) (X : Option Addr) (c : Nat) (w : World) (e : Ending) (W : World) : Prop :=
  e = .returned (.slice X (l.filter fun x => !P x).length c) ∧ ZOwn W B (.slice X (l.filter fun x => !P x).length c) (l.filter fun x => !P x) ∧ Below B w W
set_option maxRecDepth 100000 in
set_option maxHeartbeats 2000000 in
theorem delete_any (w : World) (B : Nat) (X : Option Addr) (c : Nat) (l : List Int) (g : Nat) (caps : Array Value) (P : Int → Bool) (ho : ZOwn w B (.slice X l.length c) l) (hB : B ≤ w.heap.size) (hn : l.length ≤ 1000000) (hP : PbOk B P l g caps w) (eK : ∀ args w, (callFunc g args).run Try.prog w = .ok (.enter g args) w) :
    Calls Try.prog 55 #[.slice X l.length c, .func (.func g) #[] caps] w (DlRes B P l X c w) := by
  have HI := Lib.hid (index_any w X c l g caps P ho.row.2.2 (by omega) (fun W x hb hx => hP W x (hb.mono hB) hx) eK)
  have HO := Lib.hid ho
  have HP := Lib.hid hP
  clear ho hP
  go_enter Try.func55, Try.ntmps55
  go_wp2_with (fail)
  refine HI.out.mono ?_
  rintro e w2 ⟨⟨k, hk, hp, ha, rfl⟩ | ⟨ha, rfl⟩, hb⟩
  · have HB2 := Lib.hid (hb.mono hB)
    have HO2 := Lib.hid (HO.out.later hb)
    have HD := Lib.hid (DelI.start hk hp ha)
    have hne : ((k : Int) == -1) = false := beq_eq_false_iff_ne.2 (by omega)
    obtain ⟨gb, gc, hv, hgB, hgl⟩ := World.ownsRow.form HO2.out (by omega)
    cases hv
    clear hb hp ha HI HO
    go_wp2_with (fail)
    clear hne
    go_loopw [5, 6] (fun s5 s6 wr => ∃ (i k : Nat) (m : List Int), s5 = .int .i64 (i : Int) ∧ s6 = .int .i64 (k : Int) ∧ k ≤ l.length ∧ Hid (DelI P l k i m) ∧ Hid (ZOwn wr B (.slice (some ⟨gb, 0, none⟩) l.length c) m) ∧ Hid (Below B w wr)) (fun _ s6 _ => l.length - (intOf s6).toNat)
    case atStart => exact ⟨k, k + 1, l, rfl, by go_num, by omega, HD, HO2, HB2⟩
    case round =>
      obtain ⟨i, k, m, rfl, rfl, hk, hd, how, hbw⟩ := hrel
      have hml := hd.out.len
      have hik := hd.out.lt
      obtain ⟨p1, p2, p3, p4⟩ := how.out.parts hml.symm
      by_cases hlt' : k < l.length
      · obtain ⟨hm, he⟩ := hd.out.at hlt'
        have r0 := p4 k hm
        have r1 := p4 i (by omega)
        have f1 := p2 i
        obtain ⟨y, hy⟩ : ∃ y, y = m[i]'(by omega) := ⟨_, rfl⟩
        rw [← hy] at r1
        obtain ⟨x, hx⟩ : ∃ x, x = l[k] := ⟨_, rfl⟩
        rw [he, ← hx] at r0
        have HC := Lib.hid (HP.out wr x hbw.out (hx ▸ List.getElem_mem hlt'))
        have HX := Lib.hid hx
        clear p2 p3 p4 hx hy he
        go_wp2_with (fail)
        refine HC.out.mono ?_
        rintro e w3 ⟨rfl, hb3⟩
        have hz3 : wr.heap.size ≤ w3.heap.size := hb3.size
        have HB3 := Lib.hid (hbw.out.trans (hb3.mono (by have := hbw.out.size; omega)))
        have HO3 := Lib.hid (how.out.later hb3)
        obtain ⟨p1, p2, p3, p4⟩ := HO3.out.parts hml.symm
        have r1 := p4 i (by omega)
        have f1 := p2 i
        obtain ⟨y, hy⟩ : ∃ y, y = m[i]'(by omega) := ⟨_, rfl⟩
        rw [← hy] at r1
        clear HC p2 p3 p4 hy hb3
        cases hpx : P x with
        | true =>
          have HN := Lib.hid (hd.out.skip hlt' (by rw [← HX.out]; exact hpx))
          clear hpx
          go_wp2_with (fail)
          exact ⟨⟨i, k + 1, m, rfl, by go_num, by omega, HN, HO3, HB3⟩, by simp [intOf]; omega⟩
        | false =>
          have HN := Lib.hid (hd.out.keep hlt' (by rw [← HX.out]; exact hpx))
          rw [← HX.out] at HN
          have HO4 := Lib.hid (HO3.out.put hml.symm (i := i) x)
          have HB4 := Lib.hid (HB3.out.setCell (p := ⟨gb, i, none⟩) hgB (.int .i64 x))
          clear hpx
          go_wp2_with (fail)
          exact ⟨⟨i + 1, k + 1, m.set i x, by go_num, by go_num, by omega, HN, HO4, HB4⟩, by simp [intOf]; omega⟩
      · obtain rfl : k = l.length := by omega
        have HFIN := Lib.hid (show DlRes B P l (some ⟨gb, 0, none⟩) c w (.returned (.slice (some ⟨gb, 0, none⟩) i c)) (wr.setCells gb i (List.replicate (l.length - i) (.int .i64 0))) from by
          have e1 := hd.out.num
          have e2 := hd.out.lo
          rw [List.take_length] at e1 e2
          refine ⟨by rw [← e1], ?_, below_cells hgB _ _ _ hbw.out⟩
          rw [← e1, ← e2]
          exact (how.out.cut hml.symm (by omega)).past (by rw [List.length_take]; omega) _ _ _ (Nat.le_refl _))
        have hz : ∀ w, (zeroValue 3).run Try.prog w = .ok (.int .i64 0) w := fun w => by kernel_rfl
        have hcl : ∀ ty, (Builtin.clear_ #[29] ty #[.slice (some ⟨gb, i, none⟩) (l.length - i) (c - i)]).run Try.prog wr = .ok (.tuple #[]) (wr.setCells gb i (List.replicate (l.length - i) (.int .i64 0))) :=
          fun ty => Lib.run_clear_slice wr _ _ ty _ Try.underlying29 hz rfl rfl gb i _ _ (by omega) (fun t ht => p3 (i + t) (by omega)) (fun t ht => p2 (i + t))
        clear p2 p3 p4 hz
        go_wp2_with (fail)
        go_ret
        exact HFIN.out
  · have HFIN := Lib.hid (show DlRes B P l X c w (.returned (.slice X l.length c)) w2 from by
      have e : (l.filter fun x => !P x) = l := List.filter_eq_self.2 fun x hx => by rw [ha x hx]; rfl
      exact ⟨by rw [e], by rw [e]; exact HO.out.later hb, hb.mono hB⟩)
    clear ha hb
    go_wp2_with (fail)
    go_ret
    exact HFIN.out
end Go.Proofs.Ytbdpdbeekbbehaa
