/- What is proved: Scan returns the tokens of a text, in new memory. -/
import Derived.Test.YtoopnddlcofhoaaGreatDoorLxRefName
import Derived.Laws.MakeOwn
import Derived.Deep.RegionHeld3
import Derived.Deep.AppendLies
set_option linter.unusedVariables false
namespace Go.Proofs.YtoopnddlcofhoaaGreatDoor.Lx
open Go.RowKit

theorem infoTok : (Tryz.prog.info? 66).map (fun i => (i.zero, i.size, i.bytes)) = some (some (.agg #[.int .i64 0, .int .i64 0, .int .i64 0, .int .i64 0]), 4, 32) := by kernel_rfl
/-- the cells from off on in block b are those of the tokens -/
def Toks (w : World) (b off : Nat) (l : List Tok) : Prop :=
  ∀ (i : Nat) (h : i < l.length), w.cell? ⟨b, off + i * 4, none⟩ = some (.int .i64 l[i].kind) ∧ w.cell? ⟨b, off + i * 4 + 1, none⟩ = some (.int .i64 l[i].lo) ∧ w.cell? ⟨b, off + i * 4 + 2, none⟩ = some (.int .i64 l[i].at_) ∧ w.cell? ⟨b, off + i * 4 + 3, none⟩ = some (.int .i64 l[i].hi)
theorem Toks.below {w w' : World} {b off B : Nat} {l : List Tok} (h : Toks w b off l) (hb : Below B w w') (hlt : b < B) : Toks w' b off l := by
  intro i hi
  obtain ⟨h1, h2, h3, h4⟩ := h i hi
  exact ⟨(hb.cell (p := ⟨b, off + i * 4, none⟩) hlt).trans h1, (hb.cell (p := ⟨b, off + i * 4 + 1, none⟩) hlt).trans h2, (hb.cell (p := ⟨b, off + i * 4 + 2, none⟩) hlt).trans h3, (hb.cell (p := ⟨b, off + i * 4 + 3, none⟩) hlt).trans h4⟩
/-- a slice value, nil or not, reads as these tokens -/
def TokA (w : World) (A : Option Addr) (l : List Tok) : Prop := 0 < l.length → ∃ b off, A = some ⟨b, off, none⟩ ∧ b < w.heap.size ∧ Toks w b off l
theorem TokA.below {w w' : World} {A : Option Addr} {l : List Tok} (h : TokA w A l) (hb : Below w.heap.size w w') : TokA w' A l := by
  intro hl
  obtain ⟨b, off, hA, hlt, hr⟩ := h hl
  exact ⟨b, off, hA, Nat.lt_of_lt_of_le hlt hb.size, hr.below hb hlt⟩
theorem TokA.nil (w : World) (A : Option Addr) : TokA w A [] := fun h => absurd h (by simp)
/-- the cells of tokens -/
def tcells : List Tok → List Value
  | [] => []
  | t :: ts => .int .i64 t.kind :: .int .i64 t.lo :: .int .i64 t.at_ :: .int .i64 t.hi :: tcells ts
theorem tcells_append (l m : List Tok) : tcells (l ++ m) = tcells l ++ tcells m := by
  induction l with
  | nil => rfl
  | cons r rs ih => simp [tcells, ih]
theorem tcells_get (l : List Tok) : ∀ (i : Nat) (h : i < l.length), (tcells l)[i * 4]? = some (.int .i64 l[i].kind) ∧ (tcells l)[i * 4 + 1]? = some (.int .i64 l[i].lo) ∧ (tcells l)[i * 4 + 2]? = some (.int .i64 l[i].at_) ∧ (tcells l)[i * 4 + 3]? = some (.int .i64 l[i].hi) := by
  induction l with
  | nil => intro i h; simp at h
  | cons r rs ih =>
    intro i h
    cases i with
    | zero => simp [tcells]
    | succ i =>
      have h' := ih i (by simpa using h)
      rw [show (i + 1) * 4 = i * 4 + 4 from by omega]
      simpa [tcells] using h'
/-- a row of its own that holds tokens reads as they -/
theorem toks_own {w : World} {B : Nat} {v : Value} {l : List Tok} (h : w.ownsRow B 66 4 v l.length (tcells l)) : ∃ A c, v = .slice A l.length c ∧ TokA w A l := by
  rcases Nat.eq_zero_or_pos l.length with h0 | h0
  · rcases h.2 with ⟨rfl, _⟩ | ⟨g, cap, cur, rfl, _⟩
    · exact ⟨none, 0, by rw [h0], fun hh => by omega⟩
    · exact ⟨_, _, rfl, fun hh => by omega⟩
  · obtain ⟨g, cap, hv, _, hlt⟩ := h.form h0
    refine ⟨some ⟨g, 0, none⟩, cap, hv, fun _ => ⟨g, 0, rfl, hlt, fun i hi => ?_⟩⟩
    have hc := h.cells (g := g) (by rw [hv]; rfl)
    obtain ⟨e1, e2, e3, e4⟩ := tcells_get l i hi
    have key : ∀ k, (⟨g, 0, none⟩ : Addr).add k = ⟨g, 0 + k, none⟩ := by
      intro k
      unfold Addr.add
      by_cases hk : k = 0
      · simp [hk]
      · simp [hk]
    have a1 := hc _ _ e1
    have a2 := hc _ _ e2
    have a3 := hc _ _ e3
    have a4 := hc _ _ e4
    rw [key] at a1 a2 a3 a4
    exact ⟨a1, a2, a3, a4⟩
theorem own_below {w w' : World} {B n sz : Nat} {E : TypeId} {v : Value} {xs : List Value} (h : w.ownsRow B E sz v n xs) (hb : Below w.heap.size w w') : w'.ownsRow B E sz v n xs :=
  h.kept (row := none) ⟨hb.os, hb.tape, hb.output, hb.size, fun k hk _ => hb.block k hk⟩ (by
    cases hv : v.ownBlock with
    | none => exact .inl rfl
    | some g => exact .inr (by simp))
theorem news_four (w : World) (x y z u : Value) (e : TypeId) : ∀ (j : Nat) (q : Value), [x, y, z, u][j]? = some q → (w.alloc (.cells #[x, y, z, u] e)).cell? ((⟨w.heap.size, 0, none⟩ : Addr).add j) = some q :=
  World.news_of_block (cs := #[x, y, z, u]) (t := e) (fr := (0, 0)) (heap_alloc_new w _)
theorem heap_new2 (w : World) (o o' : Obj) : ((w.alloc o).alloc o').heap[w.heap.size + 1]? = some o' := by
  have h := heap_new1 (w.alloc o) o'
  rwa [World.size_alloc] at h
theorem heap_old2 (w : World) (o o' : Obj) : ((w.alloc o).alloc o').heap[w.heap.size]? = some o := (heap_alloc_old _ _ (by simp)).trans (heap_new1 w o)
set_option maxRecDepth 100000 in
set_option maxHeartbeats 1000000 in
theorem scan_good (s : ByteArray) (w : World) (hs : s.size ≤ 4096) :
    Calls Tryz.prog 71 #[.string s] w fun e w' => ∃ v, e = .returned (.tuple #[v, .int .i64 0]) ∧ w'.ownsRow w.heap.size 66 4 v (scan s.data.toList).length (tcells (scan s.data.toList)) ∧ Below w.heap.size w w' := by
  obtain ⟨i0, hi0, hz0, hz1, hz2⟩ := info_parts infoTok
  have hl : s.data.toList.length = s.size := by simp
  have HS := Lib.hid (newScanner_any s w)
  have HX := Lib.hid (fun g b i wr hi h => next_any s g b i wr (by omega) hi h)
  go_enter Tryz.func71, Tryz.ntmps71
  go_wp2_with (fail)
  refine HS.out.mono ?_
  rintro e w1 ⟨g, b, rfl, hsc, hge, hb⟩
  go_wp2_with (fail)
  go_loopw [5] (fun v wr => ∃ (i f : Nat) (acc : List Tok), i ≤ s.size ∧ s.size - i < f ∧ Hid (Sc wr g b s i) ∧ Hid (wr.ownsRow w.heap.size 66 4 v acc.length (tcells acc)) ∧ Hid (v.ownBlock ≠ some g ∧ v.ownBlock ≠ some b) ∧ acc.length ≤ i ∧ Hid (scan s.data.toList = acc ++ scanTo s.data.toList f i) ∧ Hid (Below w.heap.size w wr)) (fun _ wr => s.size + 1 - (intOf ((wr.cell? ⟨g, 2, none⟩).getD (.int .i64 0))).toNat)
  case atStart => exact ⟨0, s.data.toList.length + 1, [], Nat.zero_le _, by omega, hsc, World.ownsRow_nil _ _ _ _, ⟨by simp [Value.ownBlock], by simp [Value.ownBlock]⟩, Nat.le_refl _, rfl, hb⟩
  case round =>
    obtain ⟨i, f, acc, hi, hf, hsc1, hown, hob, hacc, hsq, hbw⟩ := hrel
    obtain ⟨f', rfl⟩ : ∃ f', f = f' + 1 := ⟨f - 1, by omega⟩
    have hstep := scanTo_step s.data.toList f' i
    have htb := nextTok_bd s.data.toList i (by omega)
    have htm := nextTok_more s.data.toList i (by omega)
    have hbl := blank_bd s.data.toList i (by omega)
    have hn := Lib.hid (HX.out g b i wr hi hsc1.out)
    have hc0 := hsc1.out.c2
    rw [hl] at htb
    have hmeas : s.size + 1 - (intOf ((wr.cell? ⟨g, 2, none⟩).getD (.int .i64 0))).toNat = s.size + 1 - i := by rw [hc0]; simp [intOf]
    generalize nextTok s.data.toList i = t at *
    obtain ⟨kd, lo, at_, hi_⟩ := t
    unfold tokV at hn
    simp only at hstep htb htm hn
    obtain ⟨e, rfl⟩ : ∃ e : Nat, hi_ = (e : Int) := ⟨hi_.toNat, by omega⟩
    obtain rfl : lo = (i : Int) := htb.2.2.2.2.2
    have htm' : kd ≠ 5 → i < e := fun h => by have := htm h; omega
    have HT := Lib.hid htm'
    have HSt := Lib.hid hstep
    have hzr := hbw.out.size
    clear htm htm' hstep hbl hc0
    have HM := Lib.hid hmeas
    clear hmeas
    go_wp2_with (fail)
    refine hn.out.mono ?_
    rintro e' w2 ⟨rfl, hsc2, hg2⟩
    have O2 := hown.out.kept hg2 (.inr hob.out.1)
    have B2 := hbw.out.grown hg2 hzr (fun k hk => by injection hk with hk; omega)
    have o1 := O2.lt
    have gz := hsc2.lt
    have bz := hsc2.2.lt
    have z2 := B2.size
    have hob' := hob.out
    have hne : u5.ownBlock ≠ some w2.heap.size := fun e => by have := (o1 _ e).2; omega
    have HSc2 := Lib.hid hsc2
    clear hsc2
    go_wp2_with (at_builtin; refine wpList_append_own_at _ rfl _ _ 34 rfl w.heap.size 66 i0 _ 4 32 Tryz.underlying34 hi0 hz0 hz1 hz2 rfl (by decide) _ _ _ rfl ((O2.alloc _).alloc _) ⟨w2.heap.size + 1, 0, none⟩ 1 1 [.int .i64 kd, .int .i64 (i : Int), .int .i64 at_, .int .i64 (e : Int)] rfl rfl ?c1 ?c2 ?c3 ?c4 ?c5 ?_)
    case c1 => exact World.news_of_block (cs := #[.int .i64 kd, .int .i64 (i : Int), .int .i64 at_, .int .i64 (e : Int)]) (t := 66) (fr := (0, 0)) (heap_new2 w2 _ _)
    case c2 => intro u hu; simp at hu; rcases hu with rfl | rfl | rfl | rfl <;> rfl
    case c3 => unfold maxLen; omega
    case c4 => omega
    case c5 => simp; omega
    intro v' w3 hown' hgrow _ hblk
    have tO : w3.heap[w2.heap.size]? = some (.cells #[.int .i64 kd, .int .i64 (i : Int), .int .i64 at_, .int .i64 (e : Int)] 66) := (hgrow.block w2.heap.size (by simp <;> omega) (Ne.symm hne)).trans (heap_old2 w2 _ _)
    have t0 := (cells4 tO).1
    have B3 := Lib.hid ((((B2.alloc (by omega) (.cells #[.int .i64 kd, .int .i64 (i : Int), .int .i64 at_, .int .i64 (e : Int)] 66)).alloc (by simp; omega) (.cells #[.int .i64 kd, .int .i64 (i : Int), .int .i64 at_, .int .i64 (e : Int)] 66))).grown hgrow (by simp; omega) (fun k hk => (o1 k hk).1))
    have S3 := Lib.hid ((((HSc2.out.below ((Below.refl _ _).alloc (Nat.le_refl _) (.cells #[.int .i64 kd, .int .i64 (i : Int), .int .i64 at_, .int .i64 (e : Int)] 66))).below ((Below.refl _ _).alloc (Nat.le_refl _) (.cells #[.int .i64 kd, .int .i64 (i : Int), .int .i64 at_, .int .i64 (e : Int)] 66))).kept hgrow (Ne.symm hob'.1) (Ne.symm hob'.2)))
    have O3 : Hid (w3.ownsRow w.heap.size 66 4 v' (acc ++ [(⟨kd, (i : Int), at_, e⟩ : Tok)]).length (tcells (acc ++ [⟨kd, (i : Int), at_, e⟩]))) := by
      rw [tcells_append, show (acc ++ [(⟨kd, (i : Int), at_, e⟩ : Tok)]).length = acc.length + 1 from by simp]
      exact hown'
    have hnb : Hid (v'.ownBlock ≠ some g ∧ v'.ownBlock ≠ some b) := by
      rcases hblk with h | h
      · rw [h]; exact hob'
      · rw [h]
        show _ ≠ _ ∧ _ ≠ _
        simp
        omega
    clear tO hown' hgrow hblk hob' hne o1 O2 B2
    by_cases h5 : kd = 5
    · have h5' : (kd == 5) = true := by simpa using h5
      have hseq := hsq.out.trans (by rw [HSt.out, if_pos h5])
      have HQ := Lib.hid hseq
      clear h5 hseq
      go_wp2_with (fail)
      go_ret2
      exact ⟨_, rfl, by rw [HQ.out]; exact O3.out, B3.out⟩
    · have h5' : (kd == 5) = false := by simpa using h5
      have hie := HT.out h5
      have HQ := Lib.hid (hsq.out.trans (by rw [HSt.out, if_neg h5]))
      clear h5
      go_wp2_with (fail)
      have hee : ((e : Int)).toNat = e := by omega
      refine ⟨⟨e, f', acc ++ [⟨kd, (i : Int), at_, e⟩], by omega, by omega, S3, O3, hnb, by simp; omega, ?_, B3⟩, ?_⟩
      · show scan s.data.toList = acc ++ [⟨kd, (i : Int), at_, e⟩] ++ scanTo s.data.toList f' e
        rw [HQ.out, hee, List.append_assoc]
        rfl
      · rw [HM.out]
        have c := S3.out.c2
        rw [c]
        simp [intOf]
        omega
set_option maxRecDepth 100000 in
set_option maxHeartbeats 400000 in
theorem scan_bad (s : ByteArray) (w : World) (hs : 4096 < s.size) :
    Calls Tryz.prog 71 #[.string s] w fun e w' => e = .returned (.tuple #[.slice none 0 0, .int .i64 8]) ∧ w = w' := by
  go_enter Tryz.func71, Tryz.ntmps71
  go_wp2_with (fail)
  go_ret2
  exact ⟨rfl, rfl⟩
theorem scan_any (s : ByteArray) (w : World) (hs : s.size ≤ 4096) :
    Calls Tryz.prog 71 #[.string s] w fun e w' => ∃ A c, e = .returned (.tuple #[.slice A (scan s.data.toList).length c, .int .i64 0]) ∧ TokA w' A (scan s.data.toList) ∧ Below w.heap.size w w' := by
  refine (scan_good s w hs).mono fun e w' he => ?_
  obtain ⟨v, h1, h2, h3⟩ := he
  obtain ⟨A', c', hv, hr'⟩ := toks_own h2
  exact ⟨A', c', by rw [h1, hv], hr', h3⟩
end Go.Proofs.YtoopnddlcofhoaaGreatDoor.Lx
