/- What is proved: newGraph: the graph's rows hold, for each vertex, its marks and its equalities, without those that were said before. -/
import Derived.Test.YtmamajillkajoaaDoorCoMap
import Derived.Deep.Cut
import Derived.Deep.DeepCutAuto
set_option linter.unusedVariables false
namespace Go.Proofs.YtmamajillkajoaaDoor
open Go.RowKit Go.Maps Go.WideMaps

/-- a row of slices -/
def hdr (R : Nat → Value) (n : Nat) : Array Value := ((List.range n).map R).toArray
theorem hdr_get (R : Nat → Value) {n v : Nat} (h : v < n) : (hdr R n)[v]? = some (R v) := by
  simp [hdr, h]
theorem hdr_set (R : Nat → Value) {n v : Nat} (x : Value) : (hdr R n).setIfInBounds v x = hdr (fun i => if i = v then x else R i) n := by
  unfold hdr
  rw [List.setIfInBounds_toArray]
  congr 1
  apply List.ext_getElem
  · simp
  · intro i h1 h2
    simp only [List.getElem_set, List.getElem_map, List.getElem_range]
    by_cases e : v = i
    · subst e; simp
    · rw [if_neg e, if_neg (fun h => e h.symm)]
theorem al4 (w : World) (o0 o1 o2 o3 : Obj) : ((((w.alloc o0).alloc o1).alloc o2).alloc o3).heap[w.heap.size]? = some o0 ∧ ((((w.alloc o0).alloc o1).alloc o2).alloc o3).heap[w.heap.size + 1]? = some o1 ∧ ((((w.alloc o0).alloc o1).alloc o2).alloc o3).heap[w.heap.size + 1 + 1]? = some o2 ∧ ((((w.alloc o0).alloc o1).alloc o2).alloc o3).heap[w.heap.size + 1 + 1 + 1]? = some o3 ∧ ((((w.alloc o0).alloc o1).alloc o2).alloc o3).heap.size = w.heap.size + 4 ∧ Below w.heap.size w ((((w.alloc o0).alloc o1).alloc o2).alloc o3) := by
  have s1 : (w.alloc o0).heap.size = w.heap.size + 1 := by simp
  have s2 : ((w.alloc o0).alloc o1).heap.size = w.heap.size + 1 + 1 := by simp
  have s3 : (((w.alloc o0).alloc o1).alloc o2).heap.size = w.heap.size + 1 + 1 + 1 := by simp
  have n0 := heap_alloc_new w o0
  have n1 := heap_alloc_new (w.alloc o0) o1
  have n2 := heap_alloc_new ((w.alloc o0).alloc o1) o2
  have n3 := heap_alloc_new (((w.alloc o0).alloc o1).alloc o2) o3
  rw [s1] at n1
  rw [s2] at n2
  rw [s3] at n3
  exact ⟨(heap_alloc_old _ _ (by omega)).trans ((heap_alloc_old _ _ (by omega)).trans ((heap_alloc_old _ _ (by omega)).trans n0)), (heap_alloc_old _ _ (by omega)).trans ((heap_alloc_old _ _ (by omega)).trans n1), (heap_alloc_old _ _ (by omega)).trans n2, n3, by simp, ((((Below.refl _ _).alloc (Nat.le_refl _) _).alloc (by simp) _).alloc (by simp; omega) _).alloc (by simp; omega) _⟩
theorem hset_cells {w : World} {b i : Nat} {cs : Array Value} {t : TypeId} (hb : w.heap[b]? = some (.cells cs t (0, 0))) (v : Value) : (w.setCell ⟨b, i, none⟩ v).heap[b]? = some (.cells (cs.setIfInBounds i v) t (0, 0)) := hset hb v
theorem made_hdr (z : Value) (n : Nat) : madeCells #[z] n = hdr (fun _ => z) n := by
  apply Array.ext
  · simp [hdr, madeCells]
  · intro i h1 h2
    simp [hdr, madeCells, Nat.mod_one]
theorem infoSl : (Tryd.prog.info? 23).map (fun i => (i.zero, i.size, i.bytes)) = some (some (.slice none 0 0), 1, 24) := by kernel_rfl
theorem infoIn : (Tryd.prog.info? 3).map (fun i => (i.zero, i.size, i.bytes)) = some (some (.int .i64 0), 1, 8) := by kernel_rfl
theorem co_make_sl (n : Nat) (hn : n ≤ 1000000) (W : World) : (Instr.makeSlice 27 (.int .i64 (n : Int)) (.int .i64 (n : Int))).run Tryd.prog W = .ok (.slice (some ⟨W.heap.size, 0, none⟩) n n) (W.alloc (.cells (hdr (fun _ => .slice none 0 0) n) 23)) := by
  obtain ⟨i0, hi, hz0, hz1, hz2⟩ := info_parts infoSl
  have h := run_make (P := Tryd.prog) W 27 23 i0 _ Tryd.underlying27 hi hz0 .i64 .i64 (n : Int) (n : Int) (by omega) (Int.le_refl _) (by rw [hz2]; omega) (by omega)
  rw [hz1] at h
  simp only [Int.toNat_natCast, Nat.mul_one] at h
  rw [h, show (Value.slice none 0 0).cells = #[.slice none 0 0] from rfl, made_hdr]
theorem co_make_in (n : Nat) (hn : n ≤ 1000000) (W : World) : (Instr.makeSlice 23 (.int .i64 (n : Int)) (.int .i64 (n : Int))).run Tryd.prog W = .ok (.slice (some ⟨W.heap.size, 0, none⟩) n n) (W.alloc (.cells (hdr (fun _ => .int .i64 0) n) 3)) := by
  obtain ⟨i0, hi, hz0, hz1, hz2⟩ := info_parts infoIn
  have h := run_make (P := Tryd.prog) W 23 3 i0 _ Tryd.underlying23 hi hz0 .i64 .i64 (n : Int) (n : Int) (by omega) (Int.le_refl _) (by rw [hz2]; omega) (by omega)
  rw [hz1] at h
  simp only [Int.toNat_natCast, Nat.mul_one] at h
  rw [h, show (Value.int .i64 0).cells = #[.int .i64 0] from rfl, made_hdr]

/-- the graph's box -/
def GBox (W : World) (gb : Nat) (A : Option Addr) (len c mb eb n : Nat) (s : Int) (rb : Nat) (V : Value) : Prop :=
  W.heap[gb]? = some (.cells #[.slice A len c, .slice (some ⟨mb, 0, none⟩) n n, .slice (some ⟨eb, 0, none⟩) n n, .int .i64 s, .slice (some ⟨rb, 0, none⟩) n n, V] 65 (0, 0))
/-- the graph as it was made -/
structure G0 (w : World) (A : Option Addr) (len c n mb eb rb gb : Nat) (W : World) : Prop where
  box : GBox W gb A len c mb eb n 0 rb (.slice none 0 0)
  mh : W.heap[mb]? = some (.cells (hdr (fun _ => .slice none 0 0) n) 23 (0, 0))
  eh : W.heap[eb]? = some (.cells (hdr (fun _ => .slice none 0 0) n) 23 (0, 0))
  rh : W.heap[rb]? = some (.cells (hdr (fun _ => .int .i64 0) n) 3 (0, 0))
  size : W.heap.size = w.heap.size + 4
  lo : w.heap.size ≤ mb ∧ w.heap.size ≤ eb ∧ w.heap.size ≤ rb ∧ w.heap.size ≤ gb
  ne : mb ≠ eb ∧ mb ≠ rb ∧ mb ≠ gb ∧ eb ≠ rb ∧ eb ≠ gb ∧ rb ≠ gb
  below : Below w.heap.size w W

/-- the places of the graph's parts -/
structure Pl (N mb eb rb gb pb : Nat) : Prop where
  lo : N ≤ mb ∧ N ≤ eb ∧ N ≤ rb ∧ N ≤ gb ∧ N ≤ pb
  hi : mb < N + 5 ∧ eb < N + 5 ∧ rb < N + 5 ∧ gb < N + 5 ∧ pb < N + 5
  ne : mb ≠ eb ∧ mb ≠ rb ∧ mb ≠ gb ∧ eb ≠ rb ∧ eb ≠ gb ∧ rb ≠ gb
  np : pb ≠ mb ∧ pb ≠ eb ∧ pb ≠ rb ∧ pb ≠ gb
/-- what the rows hold behind k constraints -/
def rowsL (l : List Con) (n k i : Nat) : List Nat := if i < n then mrk l i k else eqs l (i - n) k
/-- the graph as it grows -/
structure NG (N : Nat) (A : Option Addr) (len c n mb eb rb gb pb : Nat) (l : List Con) (k : Nat) (W : World) : Prop where
  box : GBox W gb A len c mb eb n 0 rb (.slice none 0 0)
  rh : W.heap[rb]? = some (.cells (hdr (fun _ => .int .i64 0) n) 3 (0, 0))
  rows : ∃ R, W.heap[mb]? = some (.cells (hdr R n) 23 (0, 0)) ∧ W.heap[eb]? = some (.cells (hdr (fun v => R (n + v)) n) 23 (0, 0)) ∧ Rows2 W (N + 5) (2 * n) R (rowsL l n k)
  said : Said W pb l k
  size : N + 5 ≤ W.heap.size
theorem NG.stays {N : Nat} {A : Option Addr} {len c n mb eb rb gb pb : Nat} {l : List Con} {k : Nat} {W W' : World} (h : NG N A len c n mb eb rb gb pb l k W) (hp : Pl N mb eb rb gb pb) (hb : Below W.heap.size W W') : NG N A len c n mb eb rb gb pb l k W' := by
  have hz := h.size
  obtain ⟨R, h1, h2, h3⟩ := h.rows
  obtain ⟨⟨l1, l2, l3, l4, l5⟩, ⟨u1, u2, u3, u4, u5⟩, _, _⟩ := hp
  exact ⟨(hb.block gb (by omega)).trans h.box, (hb.block rb (by omega)).trans h.rh, ⟨R, (hb.block mb (by omega)).trans h1, (hb.block eb (by omega)).trans h2, h3.stays fun b cs hB hc => hb.block b (Array.getElem?_eq_some_iff.1 hc).1⟩,
    h.said.stays (hb.block pb (by omega)), Nat.le_trans hz hb.size⟩

theorem two_new (w : World) (o0 o1 : Obj) : Below w.heap.size w ((w.alloc o0).alloc o1) ∧ ((w.alloc o0).alloc o1).heap[w.heap.size]? = some o0 ∧ ((w.alloc o0).alloc o1).heap[w.heap.size + 1]? = some o1 ∧ ((w.alloc o0).alloc o1).heap.size = w.heap.size + 2 := by
  have s1 : (w.alloc o0).heap.size = w.heap.size + 1 := by simp
  have n0 := heap_alloc_new w o0
  have n1 := heap_alloc_new (w.alloc o0) o1
  rw [s1] at n1
  exact ⟨((Below.refl _ _).alloc (Nat.le_refl _) _).alloc (by simp) _, (heap_alloc_old _ _ (by omega)).trans n0, n1, by simp⟩
theorem mrk_dup {l : List Con} {k v : Nat} (h : k < l.length) (hd : dupB l k l[k] = true) : mrk l v (k + 1) = mrk l v k := by
  simp only [mrk, List.getElem?_eq_getElem h, hd, if_true, List.append_nil]
theorem eqs_dup {l : List Con} {k v : Nat} (h : k < l.length) (hd : dupB l k l[k] = true) : eqs l v (k + 1) = eqs l v k := by
  simp only [eqs, List.getElem?_eq_getElem h, hd, if_true, List.append_nil]
theorem rows_dup {l : List Con} {n k : Nat} (h : k < l.length) (hd : dupB l k l[k] = true) : rowsL l n (k + 1) = rowsL l n k := by
  funext i
  unfold rowsL
  rw [mrk_dup h hd, eqs_dup h hd]
def mst (l : List Con) (v k : Nat) : List Nat := match l[k]? with | some c => if dupB l k c then [] else if c.kind == 0 && c.a == (v : Int) then [k] else [] | none => []
def est (l : List Con) (v k : Nat) : List Nat := match l[k]? with | some c => if dupB l k c then [] else if c.kind == 0 then [] else (if c.a == (v : Int) then [k] else []) ++ (if c.b == (v : Int) then [k] else []) | none => []
theorem mst_len (l : List Con) (v k : Nat) : (mst l v k).length ≤ 2 := by
  unfold mst
  split
  · split
    · simp
    · split <;> simp
  · simp
theorem est_len (l : List Con) (v k : Nat) : (est l v k).length ≤ 2 := by
  unfold est
  split
  · split
    · simp
    · split
      · simp
      · rw [List.length_append]
        split <;> split <;> simp
  · simp
theorem mrk_succ (l : List Con) (v k : Nat) : mrk l v (k + 1) = mrk l v k ++ mst l v k := rfl
theorem eqs_succ (l : List Con) (v k : Nat) : eqs l v (k + 1) = eqs l v k ++ est l v k := rfl
theorem rows_len (l : List Con) (n k i : Nat) : (rowsL l n k i).length ≤ 2 * k := by
  unfold rowsL
  split
  · induction k with
    | zero => exact Nat.le_refl _
    | succ k ih =>
      rw [mrk_succ, List.length_append]
      have := mst_len l i k
      omega
  · induction k with
    | zero => exact Nat.le_refl _
    | succ k ih =>
      rw [eqs_succ, List.length_append]
      have := est_len l (i - n) k
      omega
theorem NG.dup {N : Nat} {A : Option Addr} {len c n mb eb rb gb pb : Nat} {l : List Con} {k : Nat} {W : World} (h : NG N A len c n mb eb rb gb pb l k W) (hk : k < l.length) (hd : dupB l k l[k] = true) : NG N A len c n mb eb rb gb pb l (k + 1) W :=
  ⟨h.box, h.rh, by rw [rows_dup hk hd]; exact h.rows, h.said.same hk hd, h.size⟩

/-- the graph's rows, whatever they hold -/
structure NH (N : Nat) (A : Option Addr) (len c n mb eb rb gb : Nat) (R : Nat → Value) (L : Nat → List Nat) (W : World) : Prop where
  box : GBox W gb A len c mb eb n 0 rb (.slice none 0 0)
  rh : W.heap[rb]? = some (.cells (hdr (fun _ => .int .i64 0) n) 3 (0, 0))
  mh : W.heap[mb]? = some (.cells (hdr R n) 23 (0, 0))
  eh : W.heap[eb]? = some (.cells (hdr (fun v => R (n + v)) n) 23 (0, 0))
  rows : Rows2 W (N + 5) (2 * n) R L
  size : N + 5 ≤ W.heap.size
theorem NH.stays {N : Nat} {A : Option Addr} {len c n mb eb rb gb pb : Nat} {R : Nat → Value} {L : Nat → List Nat} {W W' : World} (h : NH N A len c n mb eb rb gb R L W) (hp : Pl N mb eb rb gb pb) (hb : ∀ b, b < W.heap.size → b ≠ pb → W'.heap[b]? = W.heap[b]?) (hz : W.heap.size ≤ W'.heap.size) : NH N A len c n mb eb rb gb R L W' := by
  obtain ⟨⟨l1, l2, l3, l4, l5⟩, ⟨u1, u2, u3, u4, u5⟩, _, ⟨p1, p2, p3, p4⟩⟩ := hp
  have hs := h.size
  exact ⟨(hb gb (by omega) (Ne.symm p4)).trans h.box, (hb rb (by omega) (Ne.symm p3)).trans h.rh, (hb mb (by omega) (Ne.symm p1)).trans h.mh, (hb eb (by omega) (Ne.symm p2)).trans h.eh, h.rows.stays fun b cs hB hc => hb b (Array.getElem?_eq_some_iff.1 hc).1 (by omega), Nat.le_trans hs hz⟩
theorem NG.nh {N : Nat} {A : Option Addr} {len c n mb eb rb gb pb : Nat} {l : List Con} {k : Nat} {W : World} (h : NG N A len c n mb eb rb gb pb l k W) : ∃ R, NH N A len c n mb eb rb gb R (rowsL l n k) W := by
  obtain ⟨R, h1, h2, h3⟩ := h.rows
  exact ⟨R, h.box, h.rh, h1, h2, h3, h.size⟩
theorem NH.ng {N : Nat} {A : Option Addr} {len c n mb eb rb gb pb : Nat} {l : List Con} {k : Nat} {R : Nat → Value} {W : World} (h : NH N A len c n mb eb rb gb R (rowsL l n k) W) (hs : Said W pb l k) : NG N A len c n mb eb rb gb pb l k W :=
  ⟨h.box, h.rh, ⟨R, h.mh, h.eh, h.rows⟩, hs, h.size⟩
theorem hdr_congr {R R' : Nat → Value} {n : Nat} (h : ∀ v, v < n → R v = R' v) : hdr R n = hdr R' n := by
  unfold hdr
  congr 1
  apply List.map_congr_left
  intro v hv
  exact h v (List.mem_range.1 hv)
/-- row i has grown: v in its header -/
def upd {α : Type} (f : Nat → α) (k : Nat) (x : α) : Nat → α := fun i => if i = k then x else f i
theorem NH.step {N : Nat} {A : Option Addr} {len c n mb eb rb gb pb : Nat} {R : Nat → Value} {L : Nat → List Nat} {W w2 w4 : World} (h : NH N A len c n mb eb rb gb R L W) (hp : Pl N mb eb rb gb pb)
    {hb T i : Nat} (hi : i < n ∧ hb = mb ∧ T = i ∨ n ≤ i ∧ i < 2 * n ∧ hb = eb ∧ T = i - n) (v : Value) (x : List Nat) (hz2 : W.heap.size ≤ w2.heap.size) (h2 : ∀ b, b < W.heap.size → w2.heap[b]? = W.heap[b]?)
    (hown : IOwn w4 (N + 5) v x) (hgr : w2.grownBy w4 (R i).ownBlock) (hnew : ∀ b, v.ownBlock = some b → (R i).ownBlock = some b ∨ b = w2.heap.size) :
    NH N A len c n mb eb rb gb (upd R i v) (upd L i x) (w4.setCell ⟨hb, T, none⟩ v) := by
  obtain ⟨⟨l1, l2, l3, l4, l5⟩, ⟨u1, u2, u3, u4, u5⟩, ⟨n1, n2, n3, n4, n5, n6⟩, _⟩ := hp
  have hs := h.size
  have him : i < 2 * n := by omega
  have hr2 : Rows2 w2 (N + 5) (2 * n) R L := h.rows.stays fun b cs hB hc => h2 b (Array.getElem?_eq_some_iff.1 hc).1
  have hlo : ∀ b, (R i).ownBlock = some b → N + 5 ≤ b := fun b hb => (own_block' (h.rows.own i him) hb).1
  have hold : ∀ b, b < N + 5 → w4.heap[b]? = W.heap[b]? := fun b hb => (hgr.block b (by omega) (fun e => by have := hlo b e.symm; omega)).trans (h2 b (by omega))
  have hr4 := hr2.grow him hown hgr hnew
  have hhb : hb < N + 5 := by rcases hi with ⟨_, rfl, _⟩ | ⟨_, _, rfl, _⟩ <;> omega
  have hset : ∀ b, b ≠ hb → (w4.setCell ⟨hb, T, none⟩ v).heap[b]? = w4.heap[b]? := fun b e => Below.heap_setCell _ _ _ _ e
  have hhne : hb ≠ gb ∧ hb ≠ rb := by rcases hi with ⟨_, rfl, _⟩ | ⟨_, _, rfl, _⟩ <;> exact ⟨by assumption, by assumption⟩
  refine ⟨(hset gb (Ne.symm hhne.1)).trans ((hold gb u4).trans h.box), (hset rb (Ne.symm hhne.2)).trans ((hold rb u3).trans h.rh), ?_, ?_, hr4.stays fun b cs hB hc => hset b (by omega), by have := hgr.size; simp; omega⟩
  · rcases hi with ⟨hin, rfl, rfl⟩ | ⟨hin, hi2, rfl, rfl⟩
    · rw [hset_cells ((hold hb u1).trans h.mh) v, hdr_set]
      rfl
    · rw [hset mb n1, hold mb u1, h.mh]
      rw [hdr_congr (R := R) (R' := upd R i v) fun a ha => by unfold upd; rw [if_neg (by omega)]]
  · rcases hi with ⟨hin, rfl, rfl⟩ | ⟨hin, hi2, rfl, rfl⟩
    · rw [hset eb (Ne.symm n1), hold eb u2, h.eh]
      rw [hdr_congr (R := fun a => R (n + a)) (R' := fun a => upd R T v (n + a)) fun a ha => by unfold upd; rw [if_neg (by omega)]]
    · rw [hset_cells ((hold hb u2).trans h.eh) v, hdr_set]
      congr 2
      apply hdr_congr
      intro a ha
      unfold upd
      by_cases e : a = i - n
      · rw [if_pos e, if_pos (by omega)]
      · rw [if_neg e, if_neg (by omega)]

/-- a constraint that is possible -/
def posB (n : Nat) (x : Con) : Bool := (x.kind == 0 && (decide (0 ≤ x.a) && decide (x.a < n) && markB x.mark)) || (x.kind == 1 && (decide (0 ≤ x.a) && decide (x.a < n) && (decide (0 ≤ x.b) && decide (x.b < n))))
theorem pos_cases {n : Nat} {x : Con} (h : posB n x = true) : (0 ≤ x.a ∧ x.a < n) ∧ (x.kind = 0 ∧ markB x.mark = true ∨ x.kind = 1 ∧ 0 ≤ x.b ∧ x.b < n) := by
  unfold posB at h
  simp only [Bool.or_eq_true, Bool.and_eq_true, beq_iff_eq, decide_eq_true_eq] at h
  rcases h with ⟨h1, ⟨h2, h3⟩, h4⟩ | ⟨h1, ⟨h2, h3⟩, h4, h5⟩
  · exact ⟨⟨h2, h3⟩, .inl ⟨h1, h4⟩⟩
  · exact ⟨⟨h2, h3⟩, .inr ⟨h1, h4, h5⟩⟩

/-- the graph is returned -/
def NewRes (w : World) (A : Option Addr) (c : Nat) (l : List Con) (n : Nat) (e : Ending) (w' : World) : Prop :=
  ∃ mb eb rb gb pb R, e = .returned (.pointer (some ⟨gb, 0, none⟩)) ∧ Pl w.heap.size mb eb rb gb pb ∧ NH w.heap.size A l.length c n mb eb rb gb R (rowsL l n l.length) w' ∧ Below w.heap.size w w'
theorem rows_mark {l : List Con} {n k T : Nat} {x : Con} (hk : k < l.length) (hd : dupB l k l[k] = false) (hx : l[k] = x) (h0 : (x.kind == 0) = true) (ha : x.a = (T : Int)) (hT : T < n) :
    rowsL l n (k + 1) = upd (rowsL l n k) T (rowsL l n k T ++ [k]) := by
  funext i
  unfold upd rowsL
  by_cases hi : i < n
  · rw [if_pos hi, if_pos hi, if_pos hT, mrk_succ]
    unfold mst
    rw [List.getElem?_eq_getElem hk]
    simp only [hd]
    rw [hx, h0, ha]
    by_cases e : i = T
    · subst e; simp
    · have e2 : ((T : Int) == (i : Int)) = false := by simp; omega
      rw [e2, if_neg e]
      simp
  · rw [if_neg hi, if_neg hi, if_neg (by omega), eqs_succ]
    unfold est
    rw [List.getElem?_eq_getElem hk]
    simp only [hd]
    rw [hx, h0]
    simp
theorem rows_eq {l : List Con} {n k S T : Nat} {x : Con} (hk : k < l.length) (hd : dupB l k l[k] = false) (hx : l[k] = x) (h0 : (x.kind == 0) = false) (ha : x.a = (S : Int)) (hb : x.b = (T : Int)) :
    rowsL l n (k + 1) = upd (upd (rowsL l n k) (n + S) (rowsL l n k (n + S) ++ [k])) (n + T) (upd (rowsL l n k) (n + S) (rowsL l n k (n + S) ++ [k]) (n + T) ++ [k]) := by
  funext i
  unfold upd rowsL
  by_cases hi : i < n
  · rw [if_pos hi, if_neg (by omega), if_neg (by omega), if_pos hi, mrk_succ]
    unfold mst
    rw [List.getElem?_eq_getElem hk]
    simp only [hd]
    rw [hx, h0]
    simp
  · rw [if_neg hi, eqs_succ]
    unfold est
    rw [List.getElem?_eq_getElem hk]
    simp only [hd]
    rw [hx, h0, ha, hb]
    have m : ∀ a, (n + a < n) = False := fun a => by simp
    have m2 : ∀ a, n + a - n = a := fun a => by omega
    simp only [m, m2, if_false, hi]
    by_cases e1 : i = n + T
    · have e3 : i - n = T := by omega
      rw [if_pos e1, e3]
      by_cases e2 : T = S
      · subst e2; simp
      · have e4 : ((S : Int) == (T : Int)) = false := by simp; omega
        have e5 : ¬ (n + T = n + S) := by omega
        simp [e4, e2]
    · have e3 : ((T : Int) == ((i - n : Nat) : Int)) = false := by simp; omega
      rw [if_neg e1, e3]
      by_cases e2 : i = n + S
      · have e4 : i - n = S := by omega
        rw [if_pos e2, e4]
        simp
      · have e4 : ((S : Int) == ((i - n : Nat) : Int)) = false := by simp; omega
        rw [if_neg e2, e4]
        simp

set_option maxRecDepth 100000 in
set_option maxHeartbeats 8000000 in
theorem newGraph_any (n : Nat) (A : Option Addr) (c : Nat) (l : List Con) (w : World) (hn : n ≤ 1000000) (hl : l.length ≤ 1000000) (hr : CRow w.heap.size w A l) (hok : ∀ x ∈ l, ConOk x) (hps : ∀ x ∈ l, posB n x = true) :
    Calls Tryd.prog 17 #[.int .i64 (n : Int), .slice A l.length c] w (NewRes w A c l n) := by
  have hm1 := co_make_sl n hn
  have hm2 := co_make_in n hn
  have HR := Lib.hid hr
  have HOK := Lib.hid hok
  have HPS := Lib.hid hps
  clear hr hok hps
  go_enter Tryd.func17, Tryd.ntmps17
  go_wp2_with (fail)
  go_upto_region 1 with fail
  go_cut [5] (fun s5 wx => ∃ mb eb rb gb, s5 = .pointer (some ⟨gb, 0, none⟩) ∧ Hid (G0 w A l.length c n mb eb rb gb wx))
  case first =>
    go_region
    all_goals
      go_wp2_with (fail)
      go_meet
      first | exact ⟨w.heap.size, w.heap.size + 1, w.heap.size + 1 + 1, w.heap.size + 1 + 1 + 1, rfl, Lib.hid (by obtain ⟨h0, h1, h2, h3, hs, hb⟩ := al4 w _ _ _ _; exact ⟨h3, h0, h1, h2, hs, by omega, by omega, hb.drew⟩)⟩ | exact ⟨w.heap.size, w.heap.size + 1 + 1, w.heap.size + 1, w.heap.size + 1 + 1 + 1, rfl, Lib.hid (by obtain ⟨h0, h1, h2, h3, hs, hb⟩ := al4 w _ _ _ _; exact ⟨h3, h0, h2, h1, hs, by omega, by omega, hb.drew⟩)⟩ | exact ⟨w.heap.size + 1, w.heap.size, w.heap.size + 1 + 1, w.heap.size + 1 + 1 + 1, rfl, Lib.hid (by obtain ⟨h0, h1, h2, h3, hs, hb⟩ := al4 w _ _ _ _; exact ⟨h3, h1, h0, h2, hs, by omega, by omega, hb.drew⟩)⟩ | exact ⟨w.heap.size + 1, w.heap.size + 1 + 1, w.heap.size, w.heap.size + 1 + 1 + 1, rfl, Lib.hid (by obtain ⟨h0, h1, h2, h3, hs, hb⟩ := al4 w _ _ _ _; exact ⟨h3, h1, h2, h0, hs, by omega, by omega, hb.drew⟩)⟩ | exact ⟨w.heap.size + 1 + 1, w.heap.size, w.heap.size + 1, w.heap.size + 1 + 1 + 1, rfl, Lib.hid (by obtain ⟨h0, h1, h2, h3, hs, hb⟩ := al4 w _ _ _ _; exact ⟨h3, h2, h0, h1, hs, by omega, by omega, hb.drew⟩)⟩ | exact ⟨w.heap.size + 1 + 1, w.heap.size + 1, w.heap.size, w.heap.size + 1 + 1 + 1, rfl, Lib.hid (by obtain ⟨h0, h1, h2, h3, hs, hb⟩ := al4 w _ _ _ _; exact ⟨h3, h2, h1, h0, hs, by omega, by omega, hb.drew⟩)⟩
  case rest =>
    obtain ⟨mb, eb, rb, gb, rfl, hg⟩ := hcut
    generalize wc = wx at *
    have hsz := hg.out.size
    have HSZ := Lib.hid hsz
    obtain ⟨l1, l2, l3, l4⟩ := hg.out.lo
    have hu : mb < wx.heap.size ∧ eb < wx.heap.size ∧ rb < wx.heap.size ∧ gb < wx.heap.size := ⟨(Array.getElem?_eq_some_iff.1 hg.out.mh).1, (Array.getElem?_eq_some_iff.1 hg.out.eh).1, (Array.getElem?_eq_some_iff.1 hg.out.rh).1, (Array.getElem?_eq_some_iff.1 hg.out.box).1⟩
    obtain ⟨pb, hpb⟩ : ∃ pb, pb = w.heap.size + 4 := ⟨_, rfl⟩
    have HPL := Lib.hid (show Pl w.heap.size mb eb rb gb pb from ⟨⟨l1, l2, l3, l4, by omega⟩, by omega, hg.out.ne, by omega⟩)
    have HPB := Lib.hid hpb
    clear l1 l2 l3 l4 hu hsz hpb
    have hmm := @run_makeMap Tryd.prog
    go_wp2_with (fail)
    have hba := (Below.refl wx.heap.size wx).alloc (Nat.le_refl _) (.map #[] 0)
    have HN0 := Lib.hid (show NG w.heap.size A l.length c n mb eb rb gb pb l 0 (wx.alloc (.map #[] 0)) from ⟨(heap_alloc_old _ _ (Array.getElem?_eq_some_iff.1 hg.out.box).1).trans hg.out.box, (heap_alloc_old _ _ (Array.getElem?_eq_some_iff.1 hg.out.rh).1).trans hg.out.rh, ⟨fun _ => .slice none 0 0, (heap_alloc_old _ _ (Array.getElem?_eq_some_iff.1 hg.out.mh).1).trans hg.out.mh, (heap_alloc_old _ _ (Array.getElem?_eq_some_iff.1 hg.out.eh).1).trans hg.out.eh, by
      have e : rowsL l n 0 = fun _ => [] := by funext i; unfold rowsL; split <;> rfl
      rw [e]
      exact Rows2.none _ _ _⟩, by rw [HPB.out, ← HSZ.out]; exact Said.made wx l, by have := HSZ.out; simp; omega⟩)
    have HB0 := Lib.hid (hg.out.below.trans (hba.mono hg.out.below.size))
    have hpx : wx.heap.size = pb := by have := HSZ.out; have := HPB.out; omega
    rw [hpx]
    generalize (wx.alloc (.map #[] 0)) = w1 at *
    clear hba hpx HSZ hg HPB
    go_loopw [22] (fun i wr => ∃ k : Nat, k ≤ l.length ∧ i = .int .i64 (k : Int) ∧ Hid (NG w.heap.size A l.length c n mb eb rb gb pb l k wr) ∧ Hid (Below w.heap.size w wr)) (fun i _ => l.length - (intOf i).toNat)
    case atStart => exact ⟨0, Nat.zero_le _, rfl, HN0, HB0⟩
    case round =>
      obtain ⟨k, hk, rfl, hng, hbw⟩ := hrel
      by_cases hlt : k < l.length
      · obtain ⟨ab, off, rfl, hab, hcs⟩ := (HR.out.below hbw.out) (by omega)
        obtain ⟨c0, c1, c2, c3, c4, c5, c6, c7⟩ := hcs k hlt
        clear hcs
        obtain ⟨x, HX⟩ : ∃ x, Hid (l[k] = x) := ⟨_, Lib.hid rfl⟩
        have HOX := Lib.hid (show ConOk x by rw [← HX.out]; exact HOK.out _ (List.getElem_mem hlt))
        have hpx : posB n x = true := by rw [← HX.out]; exact HPS.out _ (List.getElem_mem hlt)
        obtain ⟨⟨a0, a1⟩, hkk⟩ := pos_cases hpx
        rw [HX.out] at c0 c1 c2 c3 c4 c5 c6 c7
        clear hpx
        rcases hkk with ⟨hk0, hmk⟩ | ⟨hk1, b0, b1⟩
        · have k1 : (x.kind == 1) = false := by rw [hk0]; rfl
          have k0 : (x.kind == 0) = true := by rw [hk0]; rfl
          have HFK := Lib.hid (show (x.kind, x.a, (0 : Int), x.mark) = factK x by unfold factK; rw [k1]; rfl)
          clear hk0 hmk
          go_upto_region 9 with fail
          obtain ⟨hb2, hc2, hf2, hs2⟩ := two_new wr (.cells #[.int .i64 x.kind, .int .i64 x.a, .int .i64 x.b, .int .i64 x.mark.kind, .int .i64 x.mark.len, .string x.mark.nm, .int .i64 x.lo, .int .i64 x.hi] 41) (.cells #[.int .i64 x.kind, .int .i64 x.a, .int .i64 0, .int .i64 x.mark.kind, .int .i64 x.mark.len, .string x.mark.nm] 68)
          generalize ((wr.alloc (.cells #[.int .i64 x.kind, .int .i64 x.a, .int .i64 x.b, .int .i64 x.mark.kind, .int .i64 x.mark.len, .string x.mark.nm, .int .i64 x.lo, .int .i64 x.hi] 41)).alloc (.cells #[.int .i64 x.kind, .int .i64 x.a, .int .i64 0, .int .i64 x.mark.kind, .int .i64 x.mark.len, .string x.mark.nm] 68)) = w2 at *
          have HNG2 := Lib.hid (hng.out.stays HPL.out hb2)
          have HBW2 := Lib.hid (hbw.out.trans (hb2.mono hbw.out.size))
          have HC2 := Lib.hid hc2
          have HF2 := Lib.hid hf2
          have hlk := HNG2.out.said.look HOK.out HOX.out (by omega) x.kind x.a 0 x.mark.kind x.mark.len x.mark.nm (by rw [← HFK.out]) (by rw [← HFK.out]) (by rw [← HFK.out]) (by rw [← HFK.out]) (by rw [← HFK.out]) (by rw [← HFK.out])
          have f0 := Lib.cell_of_heap hf2 0
          have f1 := Lib.cell_of_heap hf2 1
          have f2 := Lib.cell_of_heap hf2 2
          have f3 := Lib.cell_of_heap hf2 3
          have f4 := Lib.cell_of_heap hf2 4
          have f5 := Lib.cell_of_heap hf2 5
          have d0 := Lib.cell_of_heap hc2 0
          have HS2 := Lib.hid hs2
          have hz2 : w.heap.size + 5 ≤ w2.heap.size := HNG2.out.size
          clear hb2 hc2 hf2 hs2 c0 c1 c2 c3 c4 c5 c6 c7
          cases hd : dupB l k x with
          | true =>
            rw [hd] at hlk
            go_wp2_with (fail)
            exact ⟨⟨k + 1, by omega, by go_num, Lib.hid (HNG2.out.dup hlt (by rw [HX.out]; exact hd)), HBW2⟩, by simp [intOf]; omega⟩
          | false =>
            rw [hd] at hlk
            have HD := Lib.hid (show dupB l k l[k] = false by rw [HX.out]; exact hd)
            clear hd
            obtain ⟨m, hm, ho⟩ := HNG2.out.said
            have HO := Lib.hid ho
            have HKO := Lib.hid (show keyOf Tryd.prog 68 (.agg #[.int .i64 x.kind, .int .i64 x.a, .int .i64 0, .int .i64 x.mark.kind, .int .i64 x.mark.len, .string x.mark.nm]) = some (keyC x) by have h := keyC_keyOf HOX.out; rw [← HFK.out] at h; exact h)
            clear ho
            have hpz : pb < wr.heap.size := by have := HPL.out.hi; have := hng.out.size; omega
            have hcz : wr.heap.size < w2.heap.size := by have := HS2.out; omega
            go_upto_region 12 with (at_mapUpdate; refine wpList_mapUpdate_own _ rfl _ _ _ 66 rfl 68 4 factLaw Tryd.underlying66 (plainElem (H := Unit) Tryd.prog 4) pb m _ rfl HO.out (by unfold maxLen; omega) _ _ _ rfl rfl HKO.out (.lit (.bool true)) [] (plainElem_bool Tryd.underlying4 true) ?_; intro w3 hown3 hgrow3; have d3 := (hgrow3.cell_far ⟨wr.heap.size, 0, none⟩ hcz (by simp; omega)).trans d0)
            have hz3 := hgrow3.size
            have HSD3 := Lib.hid (show Said w3 pb l (k + 1) from Said.put hlt hm HD.out (by rw [HX.out]; exact hown3))
            have HB3 := Lib.hid (HBW2.out.grown hgrow3 HBW2.out.size (fun j hj => by injection hj with hj; have := HPL.out.lo; omega))
            obtain ⟨R, hnh⟩ := HNG2.out.nh
            obtain ⟨L, HL⟩ : ∃ L, Hid (rowsL l n k = L) := ⟨_, Lib.hid rfl⟩
            rw [HL.out] at hnh
            have HN3 := Lib.hid (hnh.stays HPL.out (fun b h1 h2 => hgrow3.block b h1 (fun e => h2 (by injection e))) hz3)
            obtain ⟨cb, hcb⟩ : ∃ cb, cb = wr.heap.size := ⟨_, rfl⟩
            have HC3 := Lib.hid (show w3.heap[cb]? = some (.cells #[.int .i64 x.kind, .int .i64 x.a, .int .i64 x.b, .int .i64 x.mark.kind, .int .i64 x.mark.len, .string x.mark.nm, .int .i64 x.lo, .int .i64 x.hi] 41 (0, 0)) by rw [hcb]; exact (hgrow3.block wr.heap.size hcz (by simp; omega)).trans HC2.out)
            rw [← hcb]
            have HLL := Lib.hid (show ∀ i, (L i).length ≤ 3000000 from fun i => by rw [← HL.out]; have := rows_len l n k i; omega)
            have hcN : w.heap.size + 5 ≤ cb := by rw [hcb]; exact hng.out.size
            obtain ⟨⟨l1, l2, l3, l4, l5⟩, ⟨u1, u2, u3, u4, u5⟩, ⟨n1, n2, n3, n4, n5, n6⟩, ⟨p1, p2, p3, p4⟩⟩ := HPL.out
            clear hgrow3 hown3 hnh d0 d3 f0 f1 f2 f3 f4 f5 hlk HNG2 HC2 HF2 HO HKO hcz hpz hz2 HS2 hcb
            have hT : x.a.toNat < n := by omega
            obtain ⟨i0, hi0, hz0, hz1, hz2⟩ := info_parts infoIn
            obtain ⟨v0, HV0⟩ : ∃ v0, Hid (R (x.a.toNat) = v0) := ⟨_, Lib.hid rfl⟩
            obtain ⟨xs, HXS⟩ : ∃ xs, Hid (L (x.a.toNat) = xs) := ⟨_, Lib.hid rfl⟩
            have HOW := Lib.hid (show IOwn w3 (w.heap.size + 5) v0 xs by rw [← HV0.out, ← HXS.out]; exact HN3.out.rows.own _ (by omega))
            have hxl : xs.length ≤ 3000000 := by rw [← HXS.out]; exact HLL.out _
            have hcap1 : xs.length + 1 ≤ maxLen := by unfold maxLen; omega
            have hcap2 : (xs.length + 1) * 8 ≤ 140737488355328 := by omega
            have HVL := Lib.hid (fun b (e : v0.ownBlock = some b) => (own_block' HOW.out e).1)
            have HVN := Lib.hid (show ∀ b, b < w.heap.size + 5 → some b ≠ v0.ownBlock from fun b h e => by have := HVL.out b e.symm; omega)
            have HVC := Lib.hid (show some cb ≠ v0.ownBlock from fun e => by obtain ⟨_, _, cs, h⟩ := own_block' HOW.out e.symm; rw [HC3.out] at h; simp only [Option.some.injEq, Obj.cells.injEq] at h; exact absurd h.2.1 (by decide))
            have HHB := Lib.hid HN3.out.mh
            have HCA := Lib.hid (show w3.cell? ⟨mb, x.a.toNat, none⟩ = some v0 by have h := Lib.cell_of_heap HHB.out (x.a.toNat); rw [hdr_get R hT] at h; rw [← HV0.out]; exact h)
            have HS0 := Lib.hid (show (w3.drew).heap[gb]? = some (.cells #[.slice (some ⟨ab, off, none⟩) l.length c, .slice (some ⟨mb, 0, none⟩) n n, .slice (some ⟨eb, 0, none⟩) n n, .int .i64 0, .slice (some ⟨rb, 0, none⟩) n n, .slice none 0 0] 65 (0, 0)) ∧ (w3.drew).heap[cb]? = some (.cells #[.int .i64 x.kind, .int .i64 x.a, .int .i64 x.b, .int .i64 x.mark.kind, .int .i64 x.mark.len, .string x.mark.nm, .int .i64 x.lo, .int .i64 x.hi] 41 (0, 0)) from ⟨HN3.out.box, HC3.out⟩)
            have hzW : w.heap.size + 5 ≤ w3.heap.size := HN3.out.size
            have hcw : cb < w3.heap.size := (Array.getElem?_eq_some_iff.1 HC3.out).1
            have HSA := Lib.hid (show ((w3.alloc (.cells #[.int .i64 (k : Int)] 3)).drew).heap[gb]? = some (.cells #[.slice (some ⟨ab, off, none⟩) l.length c, .slice (some ⟨mb, 0, none⟩) n n, .slice (some ⟨eb, 0, none⟩) n n, .int .i64 0, .slice (some ⟨rb, 0, none⟩) n n, .slice none 0 0] 65 (0, 0)) ∧ ((w3.alloc (.cells #[.int .i64 (k : Int)] 3)).drew).heap[cb]? = some (.cells #[.int .i64 x.kind, .int .i64 x.a, .int .i64 x.b, .int .i64 x.mark.kind, .int .i64 x.mark.len, .string x.mark.nm, .int .i64 x.lo, .int .i64 x.hi] 41 (0, 0)) from ⟨(show (w3.alloc (.cells #[.int .i64 (k : Int)] 3)).heap[gb]? = _ from (heap_alloc_old _ _ (by omega)).trans HN3.out.box), (show (w3.alloc (.cells #[.int .i64 (k : Int)] 3)).heap[cb]? = _ from (heap_alloc_old _ _ hcw).trans HC3.out)⟩)
            have HCB := Lib.hid (show (w3.alloc (.cells #[.int .i64 (k : Int)] 3)).cell? ⟨mb, x.a.toNat, none⟩ = some v0 from (World.cell?_of_block (a := ⟨mb, x.a.toNat, none⟩) (heap_alloc_old _ _ (show mb < w3.heap.size by omega))).trans HCA.out)
            have HOA := Lib.hid (HOW.out.alloc (.cells #[.int .i64 (k : Int)] 3))
            refine wp_region_noPanic ?_
            refine wp_region_held_drew (S := fun w' => w'.heap[gb]? = some (.cells #[.slice (some ⟨ab, off, none⟩) l.length c, .slice (some ⟨mb, 0, none⟩) n n, .slice (some ⟨eb, 0, none⟩) n n, .int .i64 0, .slice (some ⟨rb, 0, none⟩) n n, .slice none 0 0] 65 (0, 0)) ∧ w'.heap[cb]? = some (.cells #[.int .i64 x.kind, .int .i64 x.a, .int .i64 x.b, .int .i64 x.mark.kind, .int .i64 x.mark.len, .string x.mark.nm, .int .i64 x.lo, .int .i64 x.hi] 41 (0, 0))) (by kernel_rfl) HS0.out (fun _ => ?_)
            refine wpAnyH_take (i := 0) (oi := { dst := some 58, op := Op.move (Operand.tmp 5), type := 45, pos := "graph.go:38", after := #[], guard := none }) (v := .pointer (some ⟨gb, 0, none⟩)) rfl (by kernel_rfl) (by kernel_rfl) (by kernel_rfl) (fun _ _ _ h => h) (Or.inl ⟨by rfl, ?_⟩) HS0.out ?_
            · (intro w' hSw; go_simp)
            simp only [Act.put, List.setIfInBounds_toArray, List.set_cons_zero, List.set_cons_succ]
            refine wpAnyH_take (i := 1) (oi := { dst := some 59, op := Op.nilCheck (Operand.tmp 58), type := 0, pos := "graph.go:38", after := #[{ on := 0, ground := Ground.data }], guard := none }) (v := .pointer (some ⟨gb, 0, none⟩)) rfl (by kernel_rfl) (by kernel_rfl) (by kernel_rfl) (fun _ _ _ h => h) (Or.inl ⟨by rfl, ?_⟩) HS0.out ?_
            · (intro w' hSw; go_simp)
            simp only [Act.put, List.setIfInBounds_toArray, List.set_cons_zero, List.set_cons_succ]
            refine wpAnyH_take (i := 2) (oi := { dst := some 60, op := Op.fieldAddr 65 (Operand.tmp 59) 1, type := 0, pos := "graph.go:38", after := #[{ on := 1, ground := Ground.data }], guard := none }) (v := .pointer (some ⟨gb, 1, none⟩)) rfl (by kernel_rfl) (by kernel_rfl) (by kernel_rfl) (fun _ _ _ h => h) (Or.inl ⟨by rfl, ?_⟩) HS0.out ?_
            · (intro w' hSw; go_simp)
            simp only [Act.put, List.setIfInBounds_toArray, List.set_cons_zero, List.set_cons_succ]
            refine wpAnyH_take (i := 3) (oi := { dst := some 61, op := Op.load 27 (Operand.tmp 60), type := 27, pos := "graph.go:38", after := #[{ on := 2, ground := Ground.data }], guard := none }) (v := .slice (some ⟨mb, 0, none⟩) n n) rfl (by kernel_rfl) (by kernel_rfl) (by kernel_rfl) (fun _ _ _ h => h) (Or.inl ⟨by rfl, ?_⟩) HS0.out ?_
            · (intro w' hSw; have z := Lib.cell_of_heap hSw.1 1; go_simp)
            simp only [Act.put, List.setIfInBounds_toArray, List.set_cons_zero, List.set_cons_succ]
            refine wpAnyH_take (i := 4) (oi := { dst := some 62, op := Op.fieldAddr 41 (Operand.tmp 8) 1, type := 0, pos := "graph.go:38", after := #[], guard := none }) (v := .pointer (some ⟨cb, 1, none⟩)) rfl (by kernel_rfl) (by kernel_rfl) (by kernel_rfl) (fun _ _ _ h => h) (Or.inl ⟨by rfl, ?_⟩) HS0.out ?_
            · (intro w' hSw; go_simp)
            simp only [Act.put, List.setIfInBounds_toArray, List.set_cons_zero, List.set_cons_succ]
            refine wpAnyH_take (i := 5) (oi := { dst := some 63, op := Op.load 3 (Operand.tmp 62), type := 3, pos := "graph.go:38", after := #[{ on := 4, ground := Ground.data }], guard := none }) (v := .int .i64 x.a) rfl (by kernel_rfl) (by kernel_rfl) (by kernel_rfl) (fun _ _ _ h => h) (Or.inl ⟨by rfl, ?_⟩) HS0.out ?_
            · (intro w' hSw; have z := Lib.cell_of_heap hSw.2 1; go_simp)
            simp only [Act.put, List.setIfInBounds_toArray, List.set_cons_zero, List.set_cons_succ]
            refine wpAnyH_take (i := 6) (oi := { dst := some 64, op := Op.move (Operand.tmp 5), type := 45, pos := "graph.go:38", after := #[], guard := none }) (v := .pointer (some ⟨gb, 0, none⟩)) rfl (by kernel_rfl) (by kernel_rfl) (by kernel_rfl) (fun _ _ _ h => h) (Or.inl ⟨by rfl, ?_⟩) HS0.out ?_
            · (intro w' hSw; go_simp)
            simp only [Act.put, List.setIfInBounds_toArray, List.set_cons_zero, List.set_cons_succ]
            refine wpAnyH_take (i := 7) (oi := { dst := some 65, op := Op.nilCheck (Operand.tmp 64), type := 0, pos := "graph.go:38", after := #[{ on := 6, ground := Ground.data }], guard := none }) (v := .pointer (some ⟨gb, 0, none⟩)) rfl (by kernel_rfl) (by kernel_rfl) (by kernel_rfl) (fun _ _ _ h => h) (Or.inl ⟨by rfl, ?_⟩) HS0.out ?_
            · (intro w' hSw; go_simp)
            simp only [Act.put, List.setIfInBounds_toArray, List.set_cons_zero, List.set_cons_succ]
            refine wpAnyH_take (i := 8) (oi := { dst := some 66, op := Op.fieldAddr 65 (Operand.tmp 65) 1, type := 0, pos := "graph.go:38", after := #[{ on := 7, ground := Ground.data }], guard := none }) (v := .pointer (some ⟨gb, 1, none⟩)) rfl (by kernel_rfl) (by kernel_rfl) (by kernel_rfl) (fun _ _ _ h => h) (Or.inl ⟨by rfl, ?_⟩) HS0.out ?_
            · (intro w' hSw; go_simp)
            simp only [Act.put, List.setIfInBounds_toArray, List.set_cons_zero, List.set_cons_succ]
            refine wpAnyH_take (i := 9) (oi := { dst := some 67, op := Op.load 27 (Operand.tmp 66), type := 27, pos := "graph.go:38", after := #[{ on := 8, ground := Ground.data }], guard := none }) (v := .slice (some ⟨mb, 0, none⟩) n n) rfl (by kernel_rfl) (by kernel_rfl) (by kernel_rfl) (fun _ _ _ h => h) (Or.inl ⟨by rfl, ?_⟩) HS0.out ?_
            · (intro w' hSw; have z := Lib.cell_of_heap hSw.1 1; go_simp)
            simp only [Act.put, List.setIfInBounds_toArray, List.set_cons_zero, List.set_cons_succ]
            refine wpAnyH_take (i := 10) (oi := { dst := some 68, op := Op.fieldAddr 41 (Operand.tmp 8) 1, type := 0, pos := "graph.go:38", after := #[], guard := none }) (v := .pointer (some ⟨cb, 1, none⟩)) rfl (by kernel_rfl) (by kernel_rfl) (by kernel_rfl) (fun _ _ _ h => h) (Or.inl ⟨by rfl, ?_⟩) HS0.out ?_
            · (intro w' hSw; go_simp)
            simp only [Act.put, List.setIfInBounds_toArray, List.set_cons_zero, List.set_cons_succ]
            refine wpAnyH_take (i := 11) (oi := { dst := some 69, op := Op.load 3 (Operand.tmp 68), type := 3, pos := "graph.go:38", after := #[{ on := 10, ground := Ground.data }], guard := none }) (v := .int .i64 x.a) rfl (by kernel_rfl) (by kernel_rfl) (by kernel_rfl) (fun _ _ _ h => h) (Or.inl ⟨by rfl, ?_⟩) HS0.out ?_
            · (intro w' hSw; have z := Lib.cell_of_heap hSw.2 1; go_simp)
            simp only [Act.put, List.setIfInBounds_toArray, List.set_cons_zero, List.set_cons_succ]
            refine wpAnyH_take (i := 12) (oi := { dst := some 70, op := Op.indexAddr 27 (Operand.tmp 67) (Operand.tmp 69), type := 0, pos := "graph.go:38", after := #[{ on := 9, ground := Ground.data }, { on := 11, ground := Ground.data }], guard := none }) (v := .pointer (some ⟨mb, x.a.toNat, none⟩)) rfl (by kernel_rfl) (by kernel_rfl) (by kernel_rfl) (fun _ _ _ h => h) (Or.inl ⟨by rfl, ?_⟩) HS0.out ?_
            · (intro w' hSw; go_simp)
            simp only [Act.put, List.setIfInBounds_toArray, List.set_cons_zero, List.set_cons_succ]
            refine wpAnyH_take (i := 14) (oi := { dst := some 72, op := Op.move (Operand.tmp 7), type := 3, pos := "graph.go:38", after := #[], guard := none }) (v := .int .i64 (k : Int)) rfl (by kernel_rfl) (by kernel_rfl) (by kernel_rfl) (fun _ _ _ h => h) (Or.inl ⟨by rfl, ?_⟩) HS0.out ?_
            · (intro w' hSw; go_simp)
            simp only [Act.put, List.setIfInBounds_toArray, List.set_cons_zero, List.set_cons_succ]
            refine wpAnyH_ready (rs := [13, 15]) (by kernel_rfl) (by simp) (AllReadyH.cons (o := { dst := some 71, op := Op.load 23 (Operand.tmp 70), type := 23, pos := "graph.go:38", after := #[{ on := 12, ground := Ground.data }], guard := none }) rfl (fun K hK => ?_) (AllReadyH.cons (o := { dst := some 73, op := Op.buildSlice 23 1 #[(0, Operand.tmp 72)], type := 23, pos := "graph.go:38", after := #[{ on := 14, ground := Ground.data }], guard := none }) rfl (fun K hK => ?_) AllReadyH.nil))
            · have ca := HCA.out
              go_simp
              clear ca
              refine hK.out _ _ HS0.out (fun _ => ?_)
              clear hK K
              try simp only [Act.put, List.setIfInBounds_toArray, List.set_cons_zero, List.set_cons_succ]
              refine wpAnyH_ready (rs := [15]) (by kernel_rfl) (by simp) (AllReadyH.cons (o := { dst := some 73, op := Op.buildSlice 23 1 #[(0, Operand.tmp 72)], type := 23, pos := "graph.go:38", after := #[{ on := 14, ground := Ground.data }], guard := none }) rfl (fun K hK => ?_) AllReadyH.nil)
              go_simp
              refine hK.out _ _ HSA.out (fun _ => ?_)
              clear hK K
              try simp only [Act.put, List.setIfInBounds_toArray, List.set_cons_zero, List.set_cons_succ]
              refine wpAnyH_ready (rs := [16]) (by kernel_rfl) (by simp) (AllReadyH.cons (o := { dst := some 74, op := Op.call { callee := Callee.builtin Builtin.append, args := #[Operand.tmp 71, Operand.tmp 73], argTypes := #[23, 23] }, type := 23, pos := "graph.go:38", after := #[{ on := 13, ground := Ground.data }, { on := 15, ground := Ground.data }], guard := none }) rfl (fun K hK => ?_) AllReadyH.nil)
              refine step_append_lies _ (by rfl) _ _ 23 (by rfl) (w.heap.size + 5) 3 i0 _ 1 8 Tryd.underlying23 hi0 hz0 hz1 hz2 rfl (by decide) v0 xs.length (ints xs) (by rfl) HOA.out ⟨w3.heap.size, 0, none⟩ 1 1 [.int .i64 (k : Int)] (by rfl) (by rfl) (World.news_of_block (cs := #[.int .i64 (k : Int)]) (heap_alloc_new w3 _)) (by simp [Value.oneCell']) (by decide) hcap1 hcap2 (by simp; omega) (w3.heap.size + 1) (by simp) ?_
              intro g cap w4 hown hgr hsel hgl
              have hx4 : IOwn w4 (w.heap.size + 5) (.slice (some ⟨g, 0, none⟩) (xs.length + 1) cap) (xs ++ [k]) := by unfold IOwn; rw [List.length_append, ints_append]; exact hown
              have HST := Lib.hid (HN3.out.step (hb := mb) (T := x.a.toNat) (i := x.a.toNat) HPL.out (.inl ⟨hT, rfl, rfl⟩) (.slice (some ⟨g, 0, none⟩) (xs.length + 1) cap) (xs ++ [k]) (w2 := (w3.alloc (.cells #[.int .i64 (k : Int)] 3)).drew) (show w3.heap.size ≤ (w3.alloc (.cells #[.int .i64 (k : Int)] 3)).heap.size by simp) (fun b hb => show (w3.alloc (.cells #[.int .i64 (k : Int)] 3)).heap[b]? = _ from heap_alloc_old _ _ hb) hx4 (by rw [HV0.out]; exact hgr) (fun b e => by rw [HV0.out]; cases e; rcases hsel with h | h; exact .inl h; exact .inr (by rw [h]; simp)))
              have hsg : ∀ b, b < w3.heap.size → some b ≠ v0.ownBlock → w4.heap[b]? = w3.heap[b]? := fun b h1 h2 => (hgr.block b (by simp; omega) h2).trans (heap_alloc_old _ _ h1)
              have hS4 : (w4).heap[gb]? = some (.cells #[.slice (some ⟨ab, off, none⟩) l.length c, .slice (some ⟨mb, 0, none⟩) n n, .slice (some ⟨eb, 0, none⟩) n n, .int .i64 0, .slice (some ⟨rb, 0, none⟩) n n, .slice none 0 0] 65 (0, 0)) ∧ (w4).heap[cb]? = some (.cells #[.int .i64 x.kind, .int .i64 x.a, .int .i64 x.b, .int .i64 x.mark.kind, .int .i64 x.mark.len, .string x.mark.nm, .int .i64 x.lo, .int .i64 x.hi] 41 (0, 0)) := ⟨(hsg gb (by omega) (HVN.out gb (by omega))).trans HS0.out.1, (hsg cb hcw (HVC.out)).trans HS0.out.2⟩
              have hfz : w4.frozen? ⟨mb, x.a.toNat, none⟩ = false := by have h := (hsg mb (by omega) (HVN.out mb (by omega))).trans HHB.out; exact hfrz h _
              have hcz : ∃ u, w4.cell? ⟨mb, x.a.toNat, none⟩ = some u := ⟨_, (World.cell?_of_block (a := ⟨mb, x.a.toNat, none⟩) (hsg mb (by omega) (HVN.out mb (by omega)))).trans HCA.out⟩
              obtain ⟨u, hcz⟩ := hcz
              have HPB4 := Lib.hid (show w4.heap[pb]? = w3.heap[pb]? from hsg pb (by omega) (HVN.out pb (by omega)))
              have HB4 := Lib.hid (show Below w.heap.size w w4 from (HB3.out.alloc HB3.out.size (.cells #[.int .i64 (k : Int)] 3)).drew.grown hgr (by have := HB3.out.size; simp; omega) (fun b e => by have := HVL.out b e; omega))
              have HS4 := Lib.hid hS4
              have HZ4 := Lib.hid hgr.size
              clear hown hgr hsel hgl hx4 hS4 hsg
              refine hK.out _ _ HS4.out (fun _ => ?_)
              clear hK K
              try simp only [Act.put, List.setIfInBounds_toArray, List.set_cons_zero, List.set_cons_succ]
              refine wpAnyH_take (i := 17) (oi := { dst := some 75, op := Op.indexAddr 27 (Operand.tmp 61) (Operand.tmp 63), type := 0, pos := "graph.go:38", after := #[{ on := 3, ground := Ground.data }, { on := 5, ground := Ground.data }, { on := 0, ground := Ground.phase }, { on := 1, ground := Ground.phase }, { on := 2, ground := Ground.phase }, { on := 3, ground := Ground.phase }, { on := 4, ground := Ground.phase }, { on := 5, ground := Ground.phase }, { on := 6, ground := Ground.phase }, { on := 7, ground := Ground.phase }, { on := 8, ground := Ground.phase }, { on := 9, ground := Ground.phase }, { on := 10, ground := Ground.phase }, { on := 11, ground := Ground.phase }, { on := 12, ground := Ground.phase }, { on := 13, ground := Ground.phase }, { on := 14, ground := Ground.phase }, { on := 15, ground := Ground.phase }, { on := 16, ground := Ground.phase }], guard := none }) (v := .pointer (some ⟨mb, x.a.toNat, none⟩)) rfl (by kernel_rfl) (by kernel_rfl) (by kernel_rfl) (fun _ _ _ h => h) (Or.inl ⟨by rfl, ?_⟩) HS4.out ?_
              · (intro w' hSw; go_simp)
              simp only [Act.put, List.setIfInBounds_toArray, List.set_cons_zero, List.set_cons_succ]
              refine wpAnyH_ready (rs := [18]) (by kernel_rfl) (by simp) (AllReadyH.cons (o := { dst := none, op := Op.store 23 (Operand.tmp 75) (Operand.tmp 74), type := 0, pos := "graph.go:38", after := #[{ on := 17, ground := Ground.data }, { on := 16, ground := Ground.data }, { on := 16, ground := Ground.chain }, { on := 0, ground := Ground.phase }, { on := 1, ground := Ground.phase }, { on := 2, ground := Ground.phase }, { on := 3, ground := Ground.phase }, { on := 4, ground := Ground.phase }, { on := 5, ground := Ground.phase }, { on := 6, ground := Ground.phase }, { on := 7, ground := Ground.phase }, { on := 8, ground := Ground.phase }, { on := 9, ground := Ground.phase }, { on := 10, ground := Ground.phase }, { on := 11, ground := Ground.phase }, { on := 12, ground := Ground.phase }, { on := 13, ground := Ground.phase }, { on := 14, ground := Ground.phase }, { on := 15, ground := Ground.phase }, { on := 16, ground := Ground.phase }], guard := none }) rfl (fun K hK => ?_) AllReadyH.nil)
              go_simp
              refine hK.out _ _ ⟨(Below.heap_setCell _ _ _ _ (by simp; omega)).trans HS4.out.1, (Below.heap_setCell _ _ _ _ (by simp; omega)).trans HS4.out.2⟩ (fun _ => ?_)
              clear hK K
              try simp only [Act.put, List.setIfInBounds_toArray, List.set_cons_zero, List.set_cons_succ]
              refine wpAnyH_done (by kernel_rfl) ?_ _
              refine NoPanic.normal ?_
              have HC6 := Lib.hid (show (w4.setCell ⟨mb, x.a.toNat, none⟩ (.slice (some ⟨g, 0, none⟩) (xs.length + 1) cap)).heap[cb]? = some (.cells #[.int .i64 x.kind, .int .i64 x.a, .int .i64 x.b, .int .i64 x.mark.kind, .int .i64 x.mark.len, .string x.mark.nm, .int .i64 x.lo, .int .i64 x.hi] 41 (0, 0)) from (Below.heap_setCell _ _ _ _ (by simp; omega)).trans HS4.out.2)
              have HP6 := Lib.hid (show (w4.setCell ⟨mb, x.a.toNat, none⟩ (.slice (some ⟨g, 0, none⟩) (xs.length + 1) cap)).heap[pb]? = w3.heap[pb]? from (Below.heap_setCell _ _ _ _ (by simp; omega)).trans HPB4.out)
              have HB6 := Lib.hid (HB4.out.setCell (p := ⟨mb, x.a.toNat, none⟩) (by simp; omega) (.slice (some ⟨g, 0, none⟩) (xs.length + 1) cap))
              have HZ6 := Lib.hid (show w3.heap.size < (w4.setCell ⟨mb, x.a.toNat, none⟩ (.slice (some ⟨g, 0, none⟩) (xs.length + 1) cap)).heap.size by have := HZ4.out; simp at this ⊢; omega)
              generalize (w4.setCell ⟨mb, x.a.toNat, none⟩ (.slice (some ⟨g, 0, none⟩) (xs.length + 1) cap)) = w6 at *
              have HSAID := Lib.hid (HSD3.out.stays HP6.out)
              have HROW := Lib.hid (show upd L x.a.toNat (xs ++ [k]) = rowsL l n (k + 1) by rw [← HXS.out, ← HL.out]; exact (rows_mark hlt HD.out HX.out k0 (by omega) hT).symm)
              rw [HROW.out] at HST
              go_wp2_with (fail)
              exact ⟨⟨k + 1, by omega, by go_num, Lib.hid (HST.out.ng HSAID.out), HB6⟩, by simp [intOf]; omega⟩
            · go_simp
              refine hK.out _ _ HSA.out (fun _ => ?_)
              clear hK K
              try simp only [Act.put, List.setIfInBounds_toArray, List.set_cons_zero, List.set_cons_succ]
              refine wpAnyH_ready (rs := [13]) (by kernel_rfl) (by simp) (AllReadyH.cons (o := { dst := some 71, op := Op.load 23 (Operand.tmp 70), type := 23, pos := "graph.go:38", after := #[{ on := 12, ground := Ground.data }], guard := none }) rfl (fun K hK => ?_) AllReadyH.nil)
              have ca := HCB.out
              go_simp
              clear ca
              refine hK.out _ _ HSA.out (fun _ => ?_)
              clear hK K
              try simp only [Act.put, List.setIfInBounds_toArray, List.set_cons_zero, List.set_cons_succ]
              refine wpAnyH_ready (rs := [16]) (by kernel_rfl) (by simp) (AllReadyH.cons (o := { dst := some 74, op := Op.call { callee := Callee.builtin Builtin.append, args := #[Operand.tmp 71, Operand.tmp 73], argTypes := #[23, 23] }, type := 23, pos := "graph.go:38", after := #[{ on := 13, ground := Ground.data }, { on := 15, ground := Ground.data }], guard := none }) rfl (fun K hK => ?_) AllReadyH.nil)
              refine step_append_lies _ (by rfl) _ _ 23 (by rfl) (w.heap.size + 5) 3 i0 _ 1 8 Tryd.underlying23 hi0 hz0 hz1 hz2 rfl (by decide) v0 xs.length (ints xs) (by rfl) HOA.out ⟨w3.heap.size, 0, none⟩ 1 1 [.int .i64 (k : Int)] (by rfl) (by rfl) (World.news_of_block (cs := #[.int .i64 (k : Int)]) (heap_alloc_new w3 _)) (by simp [Value.oneCell']) (by decide) hcap1 hcap2 (by simp; omega) (w3.heap.size + 1) (by simp) ?_
              intro g cap w4 hown hgr hsel hgl
              have hx4 : IOwn w4 (w.heap.size + 5) (.slice (some ⟨g, 0, none⟩) (xs.length + 1) cap) (xs ++ [k]) := by unfold IOwn; rw [List.length_append, ints_append]; exact hown
              have HST := Lib.hid (HN3.out.step (hb := mb) (T := x.a.toNat) (i := x.a.toNat) HPL.out (.inl ⟨hT, rfl, rfl⟩) (.slice (some ⟨g, 0, none⟩) (xs.length + 1) cap) (xs ++ [k]) (w2 := (w3.alloc (.cells #[.int .i64 (k : Int)] 3)).drew) (show w3.heap.size ≤ (w3.alloc (.cells #[.int .i64 (k : Int)] 3)).heap.size by simp) (fun b hb => show (w3.alloc (.cells #[.int .i64 (k : Int)] 3)).heap[b]? = _ from heap_alloc_old _ _ hb) hx4 (by rw [HV0.out]; exact hgr) (fun b e => by rw [HV0.out]; cases e; rcases hsel with h | h; exact .inl h; exact .inr (by rw [h]; simp)))
              have hsg : ∀ b, b < w3.heap.size → some b ≠ v0.ownBlock → w4.heap[b]? = w3.heap[b]? := fun b h1 h2 => (hgr.block b (by simp; omega) h2).trans (heap_alloc_old _ _ h1)
              have hS4 : (w4).heap[gb]? = some (.cells #[.slice (some ⟨ab, off, none⟩) l.length c, .slice (some ⟨mb, 0, none⟩) n n, .slice (some ⟨eb, 0, none⟩) n n, .int .i64 0, .slice (some ⟨rb, 0, none⟩) n n, .slice none 0 0] 65 (0, 0)) ∧ (w4).heap[cb]? = some (.cells #[.int .i64 x.kind, .int .i64 x.a, .int .i64 x.b, .int .i64 x.mark.kind, .int .i64 x.mark.len, .string x.mark.nm, .int .i64 x.lo, .int .i64 x.hi] 41 (0, 0)) := ⟨(hsg gb (by omega) (HVN.out gb (by omega))).trans HS0.out.1, (hsg cb hcw (HVC.out)).trans HS0.out.2⟩
              have hfz : w4.frozen? ⟨mb, x.a.toNat, none⟩ = false := by have h := (hsg mb (by omega) (HVN.out mb (by omega))).trans HHB.out; exact hfrz h _
              have hcz : ∃ u, w4.cell? ⟨mb, x.a.toNat, none⟩ = some u := ⟨_, (World.cell?_of_block (a := ⟨mb, x.a.toNat, none⟩) (hsg mb (by omega) (HVN.out mb (by omega)))).trans HCA.out⟩
              obtain ⟨u, hcz⟩ := hcz
              have HPB4 := Lib.hid (show w4.heap[pb]? = w3.heap[pb]? from hsg pb (by omega) (HVN.out pb (by omega)))
              have HB4 := Lib.hid (show Below w.heap.size w w4 from (HB3.out.alloc HB3.out.size (.cells #[.int .i64 (k : Int)] 3)).drew.grown hgr (by have := HB3.out.size; simp; omega) (fun b e => by have := HVL.out b e; omega))
              have HS4 := Lib.hid hS4
              have HZ4 := Lib.hid hgr.size
              clear hown hgr hsel hgl hx4 hS4 hsg
              refine hK.out _ _ HS4.out (fun _ => ?_)
              clear hK K
              try simp only [Act.put, List.setIfInBounds_toArray, List.set_cons_zero, List.set_cons_succ]
              refine wpAnyH_take (i := 17) (oi := { dst := some 75, op := Op.indexAddr 27 (Operand.tmp 61) (Operand.tmp 63), type := 0, pos := "graph.go:38", after := #[{ on := 3, ground := Ground.data }, { on := 5, ground := Ground.data }, { on := 0, ground := Ground.phase }, { on := 1, ground := Ground.phase }, { on := 2, ground := Ground.phase }, { on := 3, ground := Ground.phase }, { on := 4, ground := Ground.phase }, { on := 5, ground := Ground.phase }, { on := 6, ground := Ground.phase }, { on := 7, ground := Ground.phase }, { on := 8, ground := Ground.phase }, { on := 9, ground := Ground.phase }, { on := 10, ground := Ground.phase }, { on := 11, ground := Ground.phase }, { on := 12, ground := Ground.phase }, { on := 13, ground := Ground.phase }, { on := 14, ground := Ground.phase }, { on := 15, ground := Ground.phase }, { on := 16, ground := Ground.phase }], guard := none }) (v := .pointer (some ⟨mb, x.a.toNat, none⟩)) rfl (by kernel_rfl) (by kernel_rfl) (by kernel_rfl) (fun _ _ _ h => h) (Or.inl ⟨by rfl, ?_⟩) HS4.out ?_
              · (intro w' hSw; go_simp)
              simp only [Act.put, List.setIfInBounds_toArray, List.set_cons_zero, List.set_cons_succ]
              refine wpAnyH_ready (rs := [18]) (by kernel_rfl) (by simp) (AllReadyH.cons (o := { dst := none, op := Op.store 23 (Operand.tmp 75) (Operand.tmp 74), type := 0, pos := "graph.go:38", after := #[{ on := 17, ground := Ground.data }, { on := 16, ground := Ground.data }, { on := 16, ground := Ground.chain }, { on := 0, ground := Ground.phase }, { on := 1, ground := Ground.phase }, { on := 2, ground := Ground.phase }, { on := 3, ground := Ground.phase }, { on := 4, ground := Ground.phase }, { on := 5, ground := Ground.phase }, { on := 6, ground := Ground.phase }, { on := 7, ground := Ground.phase }, { on := 8, ground := Ground.phase }, { on := 9, ground := Ground.phase }, { on := 10, ground := Ground.phase }, { on := 11, ground := Ground.phase }, { on := 12, ground := Ground.phase }, { on := 13, ground := Ground.phase }, { on := 14, ground := Ground.phase }, { on := 15, ground := Ground.phase }, { on := 16, ground := Ground.phase }], guard := none }) rfl (fun K hK => ?_) AllReadyH.nil)
              go_simp
              refine hK.out _ _ ⟨(Below.heap_setCell _ _ _ _ (by simp; omega)).trans HS4.out.1, (Below.heap_setCell _ _ _ _ (by simp; omega)).trans HS4.out.2⟩ (fun _ => ?_)
              clear hK K
              try simp only [Act.put, List.setIfInBounds_toArray, List.set_cons_zero, List.set_cons_succ]
              refine wpAnyH_done (by kernel_rfl) ?_ _
              refine NoPanic.normal ?_
              have HC6 := Lib.hid (show (w4.setCell ⟨mb, x.a.toNat, none⟩ (.slice (some ⟨g, 0, none⟩) (xs.length + 1) cap)).heap[cb]? = some (.cells #[.int .i64 x.kind, .int .i64 x.a, .int .i64 x.b, .int .i64 x.mark.kind, .int .i64 x.mark.len, .string x.mark.nm, .int .i64 x.lo, .int .i64 x.hi] 41 (0, 0)) from (Below.heap_setCell _ _ _ _ (by simp; omega)).trans HS4.out.2)
              have HP6 := Lib.hid (show (w4.setCell ⟨mb, x.a.toNat, none⟩ (.slice (some ⟨g, 0, none⟩) (xs.length + 1) cap)).heap[pb]? = w3.heap[pb]? from (Below.heap_setCell _ _ _ _ (by simp; omega)).trans HPB4.out)
              have HB6 := Lib.hid (HB4.out.setCell (p := ⟨mb, x.a.toNat, none⟩) (by simp; omega) (.slice (some ⟨g, 0, none⟩) (xs.length + 1) cap))
              have HZ6 := Lib.hid (show w3.heap.size < (w4.setCell ⟨mb, x.a.toNat, none⟩ (.slice (some ⟨g, 0, none⟩) (xs.length + 1) cap)).heap.size by have := HZ4.out; simp at this ⊢; omega)
              generalize (w4.setCell ⟨mb, x.a.toNat, none⟩ (.slice (some ⟨g, 0, none⟩) (xs.length + 1) cap)) = w6 at *
              have HSAID := Lib.hid (HSD3.out.stays HP6.out)
              have HROW := Lib.hid (show upd L x.a.toNat (xs ++ [k]) = rowsL l n (k + 1) by rw [← HXS.out, ← HL.out]; exact (rows_mark hlt HD.out HX.out k0 (by omega) hT).symm)
              rw [HROW.out] at HST
              go_wp2_with (fail)
              exact ⟨⟨k + 1, by omega, by go_num, Lib.hid (HST.out.ng HSAID.out), HB6⟩, by simp [intOf]; omega⟩
        · have k1 : (x.kind == 1) = true := by rw [hk1]; rfl
          have k0 : (x.kind == 0) = false := by rw [hk1]; rfl
          obtain ⟨mn, hmn⟩ : ∃ mn, (if x.b < x.a then x.b else x.a) = mn := ⟨_, rfl⟩
          obtain ⟨mx, hmx⟩ : ∃ mx, (if x.a < x.b then x.b else x.a) = mx := ⟨_, rfl⟩
          have HFK := Lib.hid (show (x.kind, mn, mx, (⟨0, 0, ⟨#[]⟩⟩ : TyV)) = factK x by
            have e1 : mn = min x.a x.b := by rw [← hmn, Int.min_def]; split <;> split <;> omega
            have e2 : mx = max x.a x.b := by rw [← hmx, Int.max_def]; split <;> split <;> omega
            unfold factK; rw [k1, hk1, e1, e2]; rfl)
          have HMN := Lib.hid hmn
          have HMX := Lib.hid hmx
          clear hk1 hmn hmx
          go_upto_region 9 with fail
          rw [HMN.out, HMX.out]
          obtain ⟨hb2, hc2, hf2, hs2⟩ := two_new wr (.cells #[.int .i64 x.kind, .int .i64 x.a, .int .i64 x.b, .int .i64 x.mark.kind, .int .i64 x.mark.len, .string x.mark.nm, .int .i64 x.lo, .int .i64 x.hi] 41) (.cells #[.int .i64 x.kind, .int .i64 mn, .int .i64 mx, .int .i64 0, .int .i64 0, .string ⟨#[]⟩] 68)
          generalize ((wr.alloc (.cells #[.int .i64 x.kind, .int .i64 x.a, .int .i64 x.b, .int .i64 x.mark.kind, .int .i64 x.mark.len, .string x.mark.nm, .int .i64 x.lo, .int .i64 x.hi] 41)).alloc (.cells #[.int .i64 x.kind, .int .i64 mn, .int .i64 mx, .int .i64 0, .int .i64 0, .string ⟨#[]⟩] 68)) = w2 at *
          have HNG2 := Lib.hid (hng.out.stays HPL.out hb2)
          have HBW2 := Lib.hid (hbw.out.trans (hb2.mono hbw.out.size))
          have HC2 := Lib.hid hc2
          have HF2 := Lib.hid hf2
          have hlk := HNG2.out.said.look HOK.out HOX.out (by omega) x.kind mn mx 0 0 ⟨#[]⟩ (by rw [← HFK.out]) (by rw [← HFK.out]) (by rw [← HFK.out]) (by rw [← HFK.out]) (by rw [← HFK.out]) (by rw [← HFK.out])
          have f0 := Lib.cell_of_heap hf2 0
          have f1 := Lib.cell_of_heap hf2 1
          have f2 := Lib.cell_of_heap hf2 2
          have f3 := Lib.cell_of_heap hf2 3
          have f4 := Lib.cell_of_heap hf2 4
          have f5 := Lib.cell_of_heap hf2 5
          have d0 := Lib.cell_of_heap hc2 0
          have HS2 := Lib.hid hs2
          have hz2 : w.heap.size + 5 ≤ w2.heap.size := HNG2.out.size
          clear hb2 hc2 hf2 hs2 c0 c1 c2 c3 c4 c5 c6 c7
          cases hd : dupB l k x with
          | true =>
            rw [hd] at hlk
            go_wp2_with (fail)
            exact ⟨⟨k + 1, by omega, by go_num, Lib.hid (HNG2.out.dup hlt (by rw [HX.out]; exact hd)), HBW2⟩, by simp [intOf]; omega⟩
          | false =>
            rw [hd] at hlk
            have HD := Lib.hid (show dupB l k l[k] = false by rw [HX.out]; exact hd)
            clear hd
            obtain ⟨m, hm, ho⟩ := HNG2.out.said
            have HO := Lib.hid ho
            have HKO := Lib.hid (show keyOf Tryd.prog 68 (.agg #[.int .i64 x.kind, .int .i64 mn, .int .i64 mx, .int .i64 0, .int .i64 0, .string ⟨#[]⟩]) = some (keyC x) by have h := keyC_keyOf HOX.out; rw [← HFK.out] at h; exact h)
            clear ho
            have hpz : pb < wr.heap.size := by have := HPL.out.hi; have := hng.out.size; omega
            have hcz : wr.heap.size < w2.heap.size := by have := HS2.out; omega
            go_upto_region 13 with (at_mapUpdate; refine wpList_mapUpdate_own _ rfl _ _ _ 66 rfl 68 4 factLaw Tryd.underlying66 (plainElem (H := Unit) Tryd.prog 4) pb m _ rfl HO.out (by unfold maxLen; omega) _ _ _ rfl rfl HKO.out (.lit (.bool true)) [] (plainElem_bool Tryd.underlying4 true) ?_; intro w3 hown3 hgrow3; have d3 := (hgrow3.cell_far ⟨wr.heap.size, 0, none⟩ hcz (by simp; omega)).trans d0)
            have hz3 := hgrow3.size
            have HSD3 := Lib.hid (show Said w3 pb l (k + 1) from Said.put hlt hm HD.out (by rw [HX.out]; exact hown3))
            have HB3 := Lib.hid (HBW2.out.grown hgrow3 HBW2.out.size (fun j hj => by injection hj with hj; have := HPL.out.lo; omega))
            obtain ⟨R, hnh⟩ := HNG2.out.nh
            obtain ⟨L, HL⟩ : ∃ L, Hid (rowsL l n k = L) := ⟨_, Lib.hid rfl⟩
            rw [HL.out] at hnh
            have HN3 := Lib.hid (hnh.stays HPL.out (fun b h1 h2 => hgrow3.block b h1 (fun e => h2 (by injection e))) hz3)
            obtain ⟨cb, hcb⟩ : ∃ cb, cb = wr.heap.size := ⟨_, rfl⟩
            have HC3 := Lib.hid (show w3.heap[cb]? = some (.cells #[.int .i64 x.kind, .int .i64 x.a, .int .i64 x.b, .int .i64 x.mark.kind, .int .i64 x.mark.len, .string x.mark.nm, .int .i64 x.lo, .int .i64 x.hi] 41 (0, 0)) by rw [hcb]; exact (hgrow3.block wr.heap.size hcz (by simp; omega)).trans HC2.out)
            rw [← hcb]
            have HLL := Lib.hid (show ∀ i, (L i).length ≤ 3000000 from fun i => by rw [← HL.out]; have := rows_len l n k i; omega)
            have hcN : w.heap.size + 5 ≤ cb := by rw [hcb]; exact hng.out.size
            obtain ⟨⟨l1, l2, l3, l4, l5⟩, ⟨u1, u2, u3, u4, u5⟩, ⟨n1, n2, n3, n4, n5, n6⟩, ⟨p1, p2, p3, p4⟩⟩ := HPL.out
            clear hgrow3 hown3 hnh d0 d3 f0 f1 f2 f3 f4 f5 hlk HNG2 HC2 HF2 HO HKO hcz hpz hz2 HS2 hcb
            have hT : x.a.toNat < n := by omega
            obtain ⟨i0, hi0, hz0, hz1, hz2⟩ := info_parts infoIn
            obtain ⟨v0, HV0⟩ : ∃ v0, Hid (R (n + x.a.toNat) = v0) := ⟨_, Lib.hid rfl⟩
            obtain ⟨xs, HXS⟩ : ∃ xs, Hid (L (n + x.a.toNat) = xs) := ⟨_, Lib.hid rfl⟩
            have HOW := Lib.hid (show IOwn w3 (w.heap.size + 5) v0 xs by rw [← HV0.out, ← HXS.out]; exact HN3.out.rows.own _ (by omega))
            have hxl : xs.length ≤ 3000000 := by rw [← HXS.out]; exact HLL.out _
            have hcap1 : xs.length + 1 ≤ maxLen := by unfold maxLen; omega
            have hcap2 : (xs.length + 1) * 8 ≤ 140737488355328 := by omega
            have HVL := Lib.hid (fun b (e : v0.ownBlock = some b) => (own_block' HOW.out e).1)
            have HVN := Lib.hid (show ∀ b, b < w.heap.size + 5 → some b ≠ v0.ownBlock from fun b h e => by have := HVL.out b e.symm; omega)
            have HVC := Lib.hid (show some cb ≠ v0.ownBlock from fun e => by obtain ⟨_, _, cs, h⟩ := own_block' HOW.out e.symm; rw [HC3.out] at h; simp only [Option.some.injEq, Obj.cells.injEq] at h; exact absurd h.2.1 (by decide))
            have HHB := Lib.hid HN3.out.eh
            have HCA := Lib.hid (show w3.cell? ⟨eb, x.a.toNat, none⟩ = some v0 by have h := Lib.cell_of_heap HHB.out (x.a.toNat); rw [hdr_get (fun v => R (n + v)) hT] at h; rw [← HV0.out]; exact h)
            have HS0 := Lib.hid (show (w3.drew).heap[gb]? = some (.cells #[.slice (some ⟨ab, off, none⟩) l.length c, .slice (some ⟨mb, 0, none⟩) n n, .slice (some ⟨eb, 0, none⟩) n n, .int .i64 0, .slice (some ⟨rb, 0, none⟩) n n, .slice none 0 0] 65 (0, 0)) ∧ (w3.drew).heap[cb]? = some (.cells #[.int .i64 x.kind, .int .i64 x.a, .int .i64 x.b, .int .i64 x.mark.kind, .int .i64 x.mark.len, .string x.mark.nm, .int .i64 x.lo, .int .i64 x.hi] 41 (0, 0)) from ⟨HN3.out.box, HC3.out⟩)
            have hzW : w.heap.size + 5 ≤ w3.heap.size := HN3.out.size
            have hcw : cb < w3.heap.size := (Array.getElem?_eq_some_iff.1 HC3.out).1
            have HSA := Lib.hid (show ((w3.alloc (.cells #[.int .i64 (k : Int)] 3)).drew).heap[gb]? = some (.cells #[.slice (some ⟨ab, off, none⟩) l.length c, .slice (some ⟨mb, 0, none⟩) n n, .slice (some ⟨eb, 0, none⟩) n n, .int .i64 0, .slice (some ⟨rb, 0, none⟩) n n, .slice none 0 0] 65 (0, 0)) ∧ ((w3.alloc (.cells #[.int .i64 (k : Int)] 3)).drew).heap[cb]? = some (.cells #[.int .i64 x.kind, .int .i64 x.a, .int .i64 x.b, .int .i64 x.mark.kind, .int .i64 x.mark.len, .string x.mark.nm, .int .i64 x.lo, .int .i64 x.hi] 41 (0, 0)) from ⟨(show (w3.alloc (.cells #[.int .i64 (k : Int)] 3)).heap[gb]? = _ from (heap_alloc_old _ _ (by omega)).trans HN3.out.box), (show (w3.alloc (.cells #[.int .i64 (k : Int)] 3)).heap[cb]? = _ from (heap_alloc_old _ _ hcw).trans HC3.out)⟩)
            have HCB := Lib.hid (show (w3.alloc (.cells #[.int .i64 (k : Int)] 3)).cell? ⟨eb, x.a.toNat, none⟩ = some v0 from (World.cell?_of_block (a := ⟨eb, x.a.toNat, none⟩) (heap_alloc_old _ _ (show eb < w3.heap.size by omega))).trans HCA.out)
            have HOA := Lib.hid (HOW.out.alloc (.cells #[.int .i64 (k : Int)] 3))
            refine wp_region_noPanic ?_
            refine wp_region_held_drew (S := fun w' => w'.heap[gb]? = some (.cells #[.slice (some ⟨ab, off, none⟩) l.length c, .slice (some ⟨mb, 0, none⟩) n n, .slice (some ⟨eb, 0, none⟩) n n, .int .i64 0, .slice (some ⟨rb, 0, none⟩) n n, .slice none 0 0] 65 (0, 0)) ∧ w'.heap[cb]? = some (.cells #[.int .i64 x.kind, .int .i64 x.a, .int .i64 x.b, .int .i64 x.mark.kind, .int .i64 x.mark.len, .string x.mark.nm, .int .i64 x.lo, .int .i64 x.hi] 41 (0, 0))) (by kernel_rfl) HS0.out (fun _ => ?_)
            refine wpAnyH_take (i := 0) (oi := { dst := some 76, op := Op.move (Operand.tmp 5), type := 45, pos := "graph.go:41", after := #[], guard := none }) (v := .pointer (some ⟨gb, 0, none⟩)) rfl (by kernel_rfl) (by kernel_rfl) (by kernel_rfl) (fun _ _ _ h => h) (Or.inl ⟨by rfl, ?_⟩) HS0.out ?_
            · (intro w' hSw; go_simp)
            simp only [Act.put, List.setIfInBounds_toArray, List.set_cons_zero, List.set_cons_succ]
            refine wpAnyH_take (i := 1) (oi := { dst := some 77, op := Op.nilCheck (Operand.tmp 76), type := 0, pos := "graph.go:41", after := #[{ on := 0, ground := Ground.data }], guard := none }) (v := .pointer (some ⟨gb, 0, none⟩)) rfl (by kernel_rfl) (by kernel_rfl) (by kernel_rfl) (fun _ _ _ h => h) (Or.inl ⟨by rfl, ?_⟩) HS0.out ?_
            · (intro w' hSw; go_simp)
            simp only [Act.put, List.setIfInBounds_toArray, List.set_cons_zero, List.set_cons_succ]
            refine wpAnyH_take (i := 2) (oi := { dst := some 78, op := Op.fieldAddr 65 (Operand.tmp 77) 2, type := 0, pos := "graph.go:41", after := #[{ on := 1, ground := Ground.data }], guard := none }) (v := .pointer (some ⟨gb, 2, none⟩)) rfl (by kernel_rfl) (by kernel_rfl) (by kernel_rfl) (fun _ _ _ h => h) (Or.inl ⟨by rfl, ?_⟩) HS0.out ?_
            · (intro w' hSw; go_simp)
            simp only [Act.put, List.setIfInBounds_toArray, List.set_cons_zero, List.set_cons_succ]
            refine wpAnyH_take (i := 3) (oi := { dst := some 79, op := Op.load 27 (Operand.tmp 78), type := 27, pos := "graph.go:41", after := #[{ on := 2, ground := Ground.data }], guard := none }) (v := .slice (some ⟨eb, 0, none⟩) n n) rfl (by kernel_rfl) (by kernel_rfl) (by kernel_rfl) (fun _ _ _ h => h) (Or.inl ⟨by rfl, ?_⟩) HS0.out ?_
            · (intro w' hSw; have z := Lib.cell_of_heap hSw.1 2; go_simp)
            simp only [Act.put, List.setIfInBounds_toArray, List.set_cons_zero, List.set_cons_succ]
            refine wpAnyH_take (i := 4) (oi := { dst := some 80, op := Op.fieldAddr 41 (Operand.tmp 8) 1, type := 0, pos := "graph.go:41", after := #[], guard := none }) (v := .pointer (some ⟨cb, 1, none⟩)) rfl (by kernel_rfl) (by kernel_rfl) (by kernel_rfl) (fun _ _ _ h => h) (Or.inl ⟨by rfl, ?_⟩) HS0.out ?_
            · (intro w' hSw; go_simp)
            simp only [Act.put, List.setIfInBounds_toArray, List.set_cons_zero, List.set_cons_succ]
            refine wpAnyH_take (i := 5) (oi := { dst := some 81, op := Op.load 3 (Operand.tmp 80), type := 3, pos := "graph.go:41", after := #[{ on := 4, ground := Ground.data }], guard := none }) (v := .int .i64 x.a) rfl (by kernel_rfl) (by kernel_rfl) (by kernel_rfl) (fun _ _ _ h => h) (Or.inl ⟨by rfl, ?_⟩) HS0.out ?_
            · (intro w' hSw; have z := Lib.cell_of_heap hSw.2 1; go_simp)
            simp only [Act.put, List.setIfInBounds_toArray, List.set_cons_zero, List.set_cons_succ]
            refine wpAnyH_take (i := 6) (oi := { dst := some 82, op := Op.move (Operand.tmp 5), type := 45, pos := "graph.go:41", after := #[], guard := none }) (v := .pointer (some ⟨gb, 0, none⟩)) rfl (by kernel_rfl) (by kernel_rfl) (by kernel_rfl) (fun _ _ _ h => h) (Or.inl ⟨by rfl, ?_⟩) HS0.out ?_
            · (intro w' hSw; go_simp)
            simp only [Act.put, List.setIfInBounds_toArray, List.set_cons_zero, List.set_cons_succ]
            refine wpAnyH_take (i := 7) (oi := { dst := some 83, op := Op.nilCheck (Operand.tmp 82), type := 0, pos := "graph.go:41", after := #[{ on := 6, ground := Ground.data }], guard := none }) (v := .pointer (some ⟨gb, 0, none⟩)) rfl (by kernel_rfl) (by kernel_rfl) (by kernel_rfl) (fun _ _ _ h => h) (Or.inl ⟨by rfl, ?_⟩) HS0.out ?_
            · (intro w' hSw; go_simp)
            simp only [Act.put, List.setIfInBounds_toArray, List.set_cons_zero, List.set_cons_succ]
            refine wpAnyH_take (i := 8) (oi := { dst := some 84, op := Op.fieldAddr 65 (Operand.tmp 83) 2, type := 0, pos := "graph.go:41", after := #[{ on := 7, ground := Ground.data }], guard := none }) (v := .pointer (some ⟨gb, 2, none⟩)) rfl (by kernel_rfl) (by kernel_rfl) (by kernel_rfl) (fun _ _ _ h => h) (Or.inl ⟨by rfl, ?_⟩) HS0.out ?_
            · (intro w' hSw; go_simp)
            simp only [Act.put, List.setIfInBounds_toArray, List.set_cons_zero, List.set_cons_succ]
            refine wpAnyH_take (i := 9) (oi := { dst := some 85, op := Op.load 27 (Operand.tmp 84), type := 27, pos := "graph.go:41", after := #[{ on := 8, ground := Ground.data }], guard := none }) (v := .slice (some ⟨eb, 0, none⟩) n n) rfl (by kernel_rfl) (by kernel_rfl) (by kernel_rfl) (fun _ _ _ h => h) (Or.inl ⟨by rfl, ?_⟩) HS0.out ?_
            · (intro w' hSw; have z := Lib.cell_of_heap hSw.1 2; go_simp)
            simp only [Act.put, List.setIfInBounds_toArray, List.set_cons_zero, List.set_cons_succ]
            refine wpAnyH_take (i := 10) (oi := { dst := some 86, op := Op.fieldAddr 41 (Operand.tmp 8) 1, type := 0, pos := "graph.go:41", after := #[], guard := none }) (v := .pointer (some ⟨cb, 1, none⟩)) rfl (by kernel_rfl) (by kernel_rfl) (by kernel_rfl) (fun _ _ _ h => h) (Or.inl ⟨by rfl, ?_⟩) HS0.out ?_
            · (intro w' hSw; go_simp)
            simp only [Act.put, List.setIfInBounds_toArray, List.set_cons_zero, List.set_cons_succ]
            refine wpAnyH_take (i := 11) (oi := { dst := some 87, op := Op.load 3 (Operand.tmp 86), type := 3, pos := "graph.go:41", after := #[{ on := 10, ground := Ground.data }], guard := none }) (v := .int .i64 x.a) rfl (by kernel_rfl) (by kernel_rfl) (by kernel_rfl) (fun _ _ _ h => h) (Or.inl ⟨by rfl, ?_⟩) HS0.out ?_
            · (intro w' hSw; have z := Lib.cell_of_heap hSw.2 1; go_simp)
            simp only [Act.put, List.setIfInBounds_toArray, List.set_cons_zero, List.set_cons_succ]
            refine wpAnyH_take (i := 12) (oi := { dst := some 88, op := Op.indexAddr 27 (Operand.tmp 85) (Operand.tmp 87), type := 0, pos := "graph.go:41", after := #[{ on := 9, ground := Ground.data }, { on := 11, ground := Ground.data }], guard := none }) (v := .pointer (some ⟨eb, x.a.toNat, none⟩)) rfl (by kernel_rfl) (by kernel_rfl) (by kernel_rfl) (fun _ _ _ h => h) (Or.inl ⟨by rfl, ?_⟩) HS0.out ?_
            · (intro w' hSw; go_simp)
            simp only [Act.put, List.setIfInBounds_toArray, List.set_cons_zero, List.set_cons_succ]
            refine wpAnyH_take (i := 14) (oi := { dst := some 90, op := Op.move (Operand.tmp 7), type := 3, pos := "graph.go:41", after := #[], guard := none }) (v := .int .i64 (k : Int)) rfl (by kernel_rfl) (by kernel_rfl) (by kernel_rfl) (fun _ _ _ h => h) (Or.inl ⟨by rfl, ?_⟩) HS0.out ?_
            · (intro w' hSw; go_simp)
            simp only [Act.put, List.setIfInBounds_toArray, List.set_cons_zero, List.set_cons_succ]
            refine wpAnyH_ready (rs := [13, 15]) (by kernel_rfl) (by simp) (AllReadyH.cons (o := { dst := some 89, op := Op.load 23 (Operand.tmp 88), type := 23, pos := "graph.go:41", after := #[{ on := 12, ground := Ground.data }], guard := none }) rfl (fun K hK => ?_) (AllReadyH.cons (o := { dst := some 91, op := Op.buildSlice 23 1 #[(0, Operand.tmp 90)], type := 23, pos := "graph.go:41", after := #[{ on := 14, ground := Ground.data }], guard := none }) rfl (fun K hK => ?_) AllReadyH.nil))
            · have ca := HCA.out
              go_simp
              clear ca
              refine hK.out _ _ HS0.out (fun _ => ?_)
              clear hK K
              try simp only [Act.put, List.setIfInBounds_toArray, List.set_cons_zero, List.set_cons_succ]
              refine wpAnyH_ready (rs := [15]) (by kernel_rfl) (by simp) (AllReadyH.cons (o := { dst := some 91, op := Op.buildSlice 23 1 #[(0, Operand.tmp 90)], type := 23, pos := "graph.go:41", after := #[{ on := 14, ground := Ground.data }], guard := none }) rfl (fun K hK => ?_) AllReadyH.nil)
              go_simp
              refine hK.out _ _ HSA.out (fun _ => ?_)
              clear hK K
              try simp only [Act.put, List.setIfInBounds_toArray, List.set_cons_zero, List.set_cons_succ]
              refine wpAnyH_ready (rs := [16]) (by kernel_rfl) (by simp) (AllReadyH.cons (o := { dst := some 92, op := Op.call { callee := Callee.builtin Builtin.append, args := #[Operand.tmp 89, Operand.tmp 91], argTypes := #[23, 23] }, type := 23, pos := "graph.go:41", after := #[{ on := 13, ground := Ground.data }, { on := 15, ground := Ground.data }], guard := none }) rfl (fun K hK => ?_) AllReadyH.nil)
              refine step_append_lies _ (by rfl) _ _ 23 (by rfl) (w.heap.size + 5) 3 i0 _ 1 8 Tryd.underlying23 hi0 hz0 hz1 hz2 rfl (by decide) v0 xs.length (ints xs) (by rfl) HOA.out ⟨w3.heap.size, 0, none⟩ 1 1 [.int .i64 (k : Int)] (by rfl) (by rfl) (World.news_of_block (cs := #[.int .i64 (k : Int)]) (heap_alloc_new w3 _)) (by simp [Value.oneCell']) (by decide) hcap1 hcap2 (by simp; omega) (w3.heap.size + 1) (by simp) ?_
              intro g cap w4 hown hgr hsel hgl
              have hx4 : IOwn w4 (w.heap.size + 5) (.slice (some ⟨g, 0, none⟩) (xs.length + 1) cap) (xs ++ [k]) := by unfold IOwn; rw [List.length_append, ints_append]; exact hown
              have HST := Lib.hid (HN3.out.step (hb := eb) (T := x.a.toNat) (i := n + x.a.toNat) HPL.out (.inr ⟨by omega, by omega, rfl, by omega⟩) (.slice (some ⟨g, 0, none⟩) (xs.length + 1) cap) (xs ++ [k]) (w2 := (w3.alloc (.cells #[.int .i64 (k : Int)] 3)).drew) (show w3.heap.size ≤ (w3.alloc (.cells #[.int .i64 (k : Int)] 3)).heap.size by simp) (fun b hb => show (w3.alloc (.cells #[.int .i64 (k : Int)] 3)).heap[b]? = _ from heap_alloc_old _ _ hb) hx4 (by rw [HV0.out]; exact hgr) (fun b e => by rw [HV0.out]; cases e; rcases hsel with h | h; exact .inl h; exact .inr (by rw [h]; simp)))
              have hsg : ∀ b, b < w3.heap.size → some b ≠ v0.ownBlock → w4.heap[b]? = w3.heap[b]? := fun b h1 h2 => (hgr.block b (by simp; omega) h2).trans (heap_alloc_old _ _ h1)
              have hS4 : (w4).heap[gb]? = some (.cells #[.slice (some ⟨ab, off, none⟩) l.length c, .slice (some ⟨mb, 0, none⟩) n n, .slice (some ⟨eb, 0, none⟩) n n, .int .i64 0, .slice (some ⟨rb, 0, none⟩) n n, .slice none 0 0] 65 (0, 0)) ∧ (w4).heap[cb]? = some (.cells #[.int .i64 x.kind, .int .i64 x.a, .int .i64 x.b, .int .i64 x.mark.kind, .int .i64 x.mark.len, .string x.mark.nm, .int .i64 x.lo, .int .i64 x.hi] 41 (0, 0)) := ⟨(hsg gb (by omega) (HVN.out gb (by omega))).trans HS0.out.1, (hsg cb hcw (HVC.out)).trans HS0.out.2⟩
              have hfz : w4.frozen? ⟨eb, x.a.toNat, none⟩ = false := by have h := (hsg eb (by omega) (HVN.out eb (by omega))).trans HHB.out; exact hfrz h _
              have hcz : ∃ u, w4.cell? ⟨eb, x.a.toNat, none⟩ = some u := ⟨_, (World.cell?_of_block (a := ⟨eb, x.a.toNat, none⟩) (hsg eb (by omega) (HVN.out eb (by omega)))).trans HCA.out⟩
              obtain ⟨u, hcz⟩ := hcz
              have HPB4 := Lib.hid (show w4.heap[pb]? = w3.heap[pb]? from hsg pb (by omega) (HVN.out pb (by omega)))
              have HB4 := Lib.hid (show Below w.heap.size w w4 from (HB3.out.alloc HB3.out.size (.cells #[.int .i64 (k : Int)] 3)).drew.grown hgr (by have := HB3.out.size; simp; omega) (fun b e => by have := HVL.out b e; omega))
              have HS4 := Lib.hid hS4
              have HZ4 := Lib.hid hgr.size
              clear hown hgr hsel hgl hx4 hS4 hsg
              refine hK.out _ _ HS4.out (fun _ => ?_)
              clear hK K
              try simp only [Act.put, List.setIfInBounds_toArray, List.set_cons_zero, List.set_cons_succ]
              refine wpAnyH_take (i := 17) (oi := { dst := some 93, op := Op.indexAddr 27 (Operand.tmp 79) (Operand.tmp 81), type := 0, pos := "graph.go:41", after := #[{ on := 3, ground := Ground.data }, { on := 5, ground := Ground.data }, { on := 0, ground := Ground.phase }, { on := 1, ground := Ground.phase }, { on := 2, ground := Ground.phase }, { on := 3, ground := Ground.phase }, { on := 4, ground := Ground.phase }, { on := 5, ground := Ground.phase }, { on := 6, ground := Ground.phase }, { on := 7, ground := Ground.phase }, { on := 8, ground := Ground.phase }, { on := 9, ground := Ground.phase }, { on := 10, ground := Ground.phase }, { on := 11, ground := Ground.phase }, { on := 12, ground := Ground.phase }, { on := 13, ground := Ground.phase }, { on := 14, ground := Ground.phase }, { on := 15, ground := Ground.phase }, { on := 16, ground := Ground.phase }], guard := none }) (v := .pointer (some ⟨eb, x.a.toNat, none⟩)) rfl (by kernel_rfl) (by kernel_rfl) (by kernel_rfl) (fun _ _ _ h => h) (Or.inl ⟨by rfl, ?_⟩) HS4.out ?_
              · (intro w' hSw; go_simp)
              simp only [Act.put, List.setIfInBounds_toArray, List.set_cons_zero, List.set_cons_succ]
              refine wpAnyH_ready (rs := [18]) (by kernel_rfl) (by simp) (AllReadyH.cons (o := { dst := none, op := Op.store 23 (Operand.tmp 93) (Operand.tmp 92), type := 0, pos := "graph.go:41", after := #[{ on := 17, ground := Ground.data }, { on := 16, ground := Ground.data }, { on := 16, ground := Ground.chain }, { on := 0, ground := Ground.phase }, { on := 1, ground := Ground.phase }, { on := 2, ground := Ground.phase }, { on := 3, ground := Ground.phase }, { on := 4, ground := Ground.phase }, { on := 5, ground := Ground.phase }, { on := 6, ground := Ground.phase }, { on := 7, ground := Ground.phase }, { on := 8, ground := Ground.phase }, { on := 9, ground := Ground.phase }, { on := 10, ground := Ground.phase }, { on := 11, ground := Ground.phase }, { on := 12, ground := Ground.phase }, { on := 13, ground := Ground.phase }, { on := 14, ground := Ground.phase }, { on := 15, ground := Ground.phase }, { on := 16, ground := Ground.phase }], guard := none }) rfl (fun K hK => ?_) AllReadyH.nil)
              go_simp
              refine hK.out _ _ ⟨(Below.heap_setCell _ _ _ _ (by simp; omega)).trans HS4.out.1, (Below.heap_setCell _ _ _ _ (by simp; omega)).trans HS4.out.2⟩ (fun _ => ?_)
              clear hK K
              try simp only [Act.put, List.setIfInBounds_toArray, List.set_cons_zero, List.set_cons_succ]
              refine wpAnyH_done (by kernel_rfl) ?_ _
              refine NoPanic.normal ?_
              have HC6 := Lib.hid (show (w4.setCell ⟨eb, x.a.toNat, none⟩ (.slice (some ⟨g, 0, none⟩) (xs.length + 1) cap)).heap[cb]? = some (.cells #[.int .i64 x.kind, .int .i64 x.a, .int .i64 x.b, .int .i64 x.mark.kind, .int .i64 x.mark.len, .string x.mark.nm, .int .i64 x.lo, .int .i64 x.hi] 41 (0, 0)) from (Below.heap_setCell _ _ _ _ (by simp; omega)).trans HS4.out.2)
              have HP6 := Lib.hid (show (w4.setCell ⟨eb, x.a.toNat, none⟩ (.slice (some ⟨g, 0, none⟩) (xs.length + 1) cap)).heap[pb]? = w3.heap[pb]? from (Below.heap_setCell _ _ _ _ (by simp; omega)).trans HPB4.out)
              have HB6 := Lib.hid (HB4.out.setCell (p := ⟨eb, x.a.toNat, none⟩) (by simp; omega) (.slice (some ⟨g, 0, none⟩) (xs.length + 1) cap))
              have HZ6 := Lib.hid (show w3.heap.size < (w4.setCell ⟨eb, x.a.toNat, none⟩ (.slice (some ⟨g, 0, none⟩) (xs.length + 1) cap)).heap.size by have := HZ4.out; simp at this ⊢; omega)
              generalize (w4.setCell ⟨eb, x.a.toNat, none⟩ (.slice (some ⟨g, 0, none⟩) (xs.length + 1) cap)) = w6 at *
              have HSAID := Lib.hid (HSD3.out.stays HP6.out)
              have HROW := Lib.hid (show upd L (n + x.a.toNat) (xs ++ [k]) = upd (rowsL l n k) (n + x.a.toNat) (rowsL l n k (n + x.a.toNat) ++ [k]) by rw [← HXS.out, ← HL.out])
              rw [HROW.out] at HST
              obtain ⟨R2, HR2⟩ : ∃ R2, Hid (upd R (n + x.a.toNat) (.slice (some ⟨g, 0, none⟩) (xs.length + 1) cap) = R2) := ⟨_, Lib.hid rfl⟩
              obtain ⟨L2, HL2⟩ : ∃ L2, Hid (upd (rowsL l n k) (n + x.a.toNat) (rowsL l n k (n + x.a.toNat) ++ [k]) = L2) := ⟨_, Lib.hid rfl⟩
              rw [HR2.out, HL2.out] at HST
              have HLL2 := Lib.hid (show ∀ i, (L2 i).length ≤ 3000000 from fun i => by rw [← HL2.out]; unfold upd; have h1 := rows_len l n k i; have h2 := rows_len l n k (n + x.a.toNat); split <;> simp <;> omega)
              clear HROW HR2 HV0 HXS HOW HVL HVN HVC HHB HCA HS0 HSA HCB HOA HS4 HZ4 HB4 HPB4 hxl hcap1 hcap2 hcw hfz hcz hT
              have hT : x.b.toNat < n := by omega
              go_upto_region 14 with fail
              obtain ⟨i0, hi0, hz0, hz1, hz2⟩ := info_parts infoIn
              obtain ⟨v0, HV0⟩ : ∃ v0, Hid (R2 (n + x.b.toNat) = v0) := ⟨_, Lib.hid rfl⟩
              obtain ⟨xs, HXS⟩ : ∃ xs, Hid (L2 (n + x.b.toNat) = xs) := ⟨_, Lib.hid rfl⟩
              have HOW := Lib.hid (show IOwn w6 (w.heap.size + 5) v0 xs by rw [← HV0.out, ← HXS.out]; exact HST.out.rows.own _ (by omega))
              have hxl : xs.length ≤ 3000000 := by rw [← HXS.out]; exact HLL2.out _
              have hcap1 : xs.length + 1 ≤ maxLen := by unfold maxLen; omega
              have hcap2 : (xs.length + 1) * 8 ≤ 140737488355328 := by omega
              have HVL := Lib.hid (fun b (e : v0.ownBlock = some b) => (own_block' HOW.out e).1)
              have HVN := Lib.hid (show ∀ b, b < w.heap.size + 5 → some b ≠ v0.ownBlock from fun b h e => by have := HVL.out b e.symm; omega)
              have HVC := Lib.hid (show some cb ≠ v0.ownBlock from fun e => by obtain ⟨_, _, cs, h⟩ := own_block' HOW.out e.symm; rw [HC6.out] at h; simp only [Option.some.injEq, Obj.cells.injEq] at h; exact absurd h.2.1 (by decide))
              have HHB := Lib.hid HST.out.eh
              have HCA := Lib.hid (show w6.cell? ⟨eb, x.b.toNat, none⟩ = some v0 by have h := Lib.cell_of_heap HHB.out (x.b.toNat); rw [hdr_get (fun v => R2 (n + v)) hT] at h; rw [← HV0.out]; exact h)
              have HS0 := Lib.hid (show (w6.drew).heap[gb]? = some (.cells #[.slice (some ⟨ab, off, none⟩) l.length c, .slice (some ⟨mb, 0, none⟩) n n, .slice (some ⟨eb, 0, none⟩) n n, .int .i64 0, .slice (some ⟨rb, 0, none⟩) n n, .slice none 0 0] 65 (0, 0)) ∧ (w6.drew).heap[cb]? = some (.cells #[.int .i64 x.kind, .int .i64 x.a, .int .i64 x.b, .int .i64 x.mark.kind, .int .i64 x.mark.len, .string x.mark.nm, .int .i64 x.lo, .int .i64 x.hi] 41 (0, 0)) from ⟨HST.out.box, HC6.out⟩)
              have hzW : w.heap.size + 5 ≤ w6.heap.size := HST.out.size
              have hcw : cb < w6.heap.size := (Array.getElem?_eq_some_iff.1 HC6.out).1
              have HSA := Lib.hid (show ((w6.alloc (.cells #[.int .i64 (k : Int)] 3)).drew).heap[gb]? = some (.cells #[.slice (some ⟨ab, off, none⟩) l.length c, .slice (some ⟨mb, 0, none⟩) n n, .slice (some ⟨eb, 0, none⟩) n n, .int .i64 0, .slice (some ⟨rb, 0, none⟩) n n, .slice none 0 0] 65 (0, 0)) ∧ ((w6.alloc (.cells #[.int .i64 (k : Int)] 3)).drew).heap[cb]? = some (.cells #[.int .i64 x.kind, .int .i64 x.a, .int .i64 x.b, .int .i64 x.mark.kind, .int .i64 x.mark.len, .string x.mark.nm, .int .i64 x.lo, .int .i64 x.hi] 41 (0, 0)) from ⟨(show (w6.alloc (.cells #[.int .i64 (k : Int)] 3)).heap[gb]? = _ from (heap_alloc_old _ _ (by omega)).trans HST.out.box), (show (w6.alloc (.cells #[.int .i64 (k : Int)] 3)).heap[cb]? = _ from (heap_alloc_old _ _ hcw).trans HC6.out)⟩)
              have HCB := Lib.hid (show (w6.alloc (.cells #[.int .i64 (k : Int)] 3)).cell? ⟨eb, x.b.toNat, none⟩ = some v0 from (World.cell?_of_block (a := ⟨eb, x.b.toNat, none⟩) (heap_alloc_old _ _ (show eb < w6.heap.size by omega))).trans HCA.out)
              have HOA := Lib.hid (HOW.out.alloc (.cells #[.int .i64 (k : Int)] 3))
              refine wp_region_noPanic ?_
              refine wp_region_held_drew (S := fun w' => w'.heap[gb]? = some (.cells #[.slice (some ⟨ab, off, none⟩) l.length c, .slice (some ⟨mb, 0, none⟩) n n, .slice (some ⟨eb, 0, none⟩) n n, .int .i64 0, .slice (some ⟨rb, 0, none⟩) n n, .slice none 0 0] 65 (0, 0)) ∧ w'.heap[cb]? = some (.cells #[.int .i64 x.kind, .int .i64 x.a, .int .i64 x.b, .int .i64 x.mark.kind, .int .i64 x.mark.len, .string x.mark.nm, .int .i64 x.lo, .int .i64 x.hi] 41 (0, 0))) (by kernel_rfl) HS0.out (fun _ => ?_)
              refine wpAnyH_take (i := 0) (oi := { dst := some 94, op := Op.move (Operand.tmp 5), type := 45, pos := "graph.go:42", after := #[], guard := none }) (v := .pointer (some ⟨gb, 0, none⟩)) rfl (by kernel_rfl) (by kernel_rfl) (by kernel_rfl) (fun _ _ _ h => h) (Or.inl ⟨by rfl, ?_⟩) HS0.out ?_
              · (intro w' hSw; go_simp)
              simp only [Act.put, List.setIfInBounds_toArray, List.set_cons_zero, List.set_cons_succ]
              refine wpAnyH_take (i := 1) (oi := { dst := some 95, op := Op.nilCheck (Operand.tmp 94), type := 0, pos := "graph.go:42", after := #[{ on := 0, ground := Ground.data }], guard := none }) (v := .pointer (some ⟨gb, 0, none⟩)) rfl (by kernel_rfl) (by kernel_rfl) (by kernel_rfl) (fun _ _ _ h => h) (Or.inl ⟨by rfl, ?_⟩) HS0.out ?_
              · (intro w' hSw; go_simp)
              simp only [Act.put, List.setIfInBounds_toArray, List.set_cons_zero, List.set_cons_succ]
              refine wpAnyH_take (i := 2) (oi := { dst := some 96, op := Op.fieldAddr 65 (Operand.tmp 95) 2, type := 0, pos := "graph.go:42", after := #[{ on := 1, ground := Ground.data }], guard := none }) (v := .pointer (some ⟨gb, 2, none⟩)) rfl (by kernel_rfl) (by kernel_rfl) (by kernel_rfl) (fun _ _ _ h => h) (Or.inl ⟨by rfl, ?_⟩) HS0.out ?_
              · (intro w' hSw; go_simp)
              simp only [Act.put, List.setIfInBounds_toArray, List.set_cons_zero, List.set_cons_succ]
              refine wpAnyH_take (i := 3) (oi := { dst := some 97, op := Op.load 27 (Operand.tmp 96), type := 27, pos := "graph.go:42", after := #[{ on := 2, ground := Ground.data }], guard := none }) (v := .slice (some ⟨eb, 0, none⟩) n n) rfl (by kernel_rfl) (by kernel_rfl) (by kernel_rfl) (fun _ _ _ h => h) (Or.inl ⟨by rfl, ?_⟩) HS0.out ?_
              · (intro w' hSw; have z := Lib.cell_of_heap hSw.1 2; go_simp)
              simp only [Act.put, List.setIfInBounds_toArray, List.set_cons_zero, List.set_cons_succ]
              refine wpAnyH_take (i := 4) (oi := { dst := some 98, op := Op.fieldAddr 41 (Operand.tmp 8) 2, type := 0, pos := "graph.go:42", after := #[], guard := none }) (v := .pointer (some ⟨cb, 2, none⟩)) rfl (by kernel_rfl) (by kernel_rfl) (by kernel_rfl) (fun _ _ _ h => h) (Or.inl ⟨by rfl, ?_⟩) HS0.out ?_
              · (intro w' hSw; go_simp)
              simp only [Act.put, List.setIfInBounds_toArray, List.set_cons_zero, List.set_cons_succ]
              refine wpAnyH_take (i := 5) (oi := { dst := some 99, op := Op.load 3 (Operand.tmp 98), type := 3, pos := "graph.go:42", after := #[{ on := 4, ground := Ground.data }], guard := none }) (v := .int .i64 x.b) rfl (by kernel_rfl) (by kernel_rfl) (by kernel_rfl) (fun _ _ _ h => h) (Or.inl ⟨by rfl, ?_⟩) HS0.out ?_
              · (intro w' hSw; have z := Lib.cell_of_heap hSw.2 2; go_simp)
              simp only [Act.put, List.setIfInBounds_toArray, List.set_cons_zero, List.set_cons_succ]
              refine wpAnyH_take (i := 6) (oi := { dst := some 100, op := Op.move (Operand.tmp 5), type := 45, pos := "graph.go:42", after := #[], guard := none }) (v := .pointer (some ⟨gb, 0, none⟩)) rfl (by kernel_rfl) (by kernel_rfl) (by kernel_rfl) (fun _ _ _ h => h) (Or.inl ⟨by rfl, ?_⟩) HS0.out ?_
              · (intro w' hSw; go_simp)
              simp only [Act.put, List.setIfInBounds_toArray, List.set_cons_zero, List.set_cons_succ]
              refine wpAnyH_take (i := 7) (oi := { dst := some 101, op := Op.nilCheck (Operand.tmp 100), type := 0, pos := "graph.go:42", after := #[{ on := 6, ground := Ground.data }], guard := none }) (v := .pointer (some ⟨gb, 0, none⟩)) rfl (by kernel_rfl) (by kernel_rfl) (by kernel_rfl) (fun _ _ _ h => h) (Or.inl ⟨by rfl, ?_⟩) HS0.out ?_
              · (intro w' hSw; go_simp)
              simp only [Act.put, List.setIfInBounds_toArray, List.set_cons_zero, List.set_cons_succ]
              refine wpAnyH_take (i := 8) (oi := { dst := some 102, op := Op.fieldAddr 65 (Operand.tmp 101) 2, type := 0, pos := "graph.go:42", after := #[{ on := 7, ground := Ground.data }], guard := none }) (v := .pointer (some ⟨gb, 2, none⟩)) rfl (by kernel_rfl) (by kernel_rfl) (by kernel_rfl) (fun _ _ _ h => h) (Or.inl ⟨by rfl, ?_⟩) HS0.out ?_
              · (intro w' hSw; go_simp)
              simp only [Act.put, List.setIfInBounds_toArray, List.set_cons_zero, List.set_cons_succ]
              refine wpAnyH_take (i := 9) (oi := { dst := some 103, op := Op.load 27 (Operand.tmp 102), type := 27, pos := "graph.go:42", after := #[{ on := 8, ground := Ground.data }], guard := none }) (v := .slice (some ⟨eb, 0, none⟩) n n) rfl (by kernel_rfl) (by kernel_rfl) (by kernel_rfl) (fun _ _ _ h => h) (Or.inl ⟨by rfl, ?_⟩) HS0.out ?_
              · (intro w' hSw; have z := Lib.cell_of_heap hSw.1 2; go_simp)
              simp only [Act.put, List.setIfInBounds_toArray, List.set_cons_zero, List.set_cons_succ]
              refine wpAnyH_take (i := 10) (oi := { dst := some 104, op := Op.fieldAddr 41 (Operand.tmp 8) 2, type := 0, pos := "graph.go:42", after := #[], guard := none }) (v := .pointer (some ⟨cb, 2, none⟩)) rfl (by kernel_rfl) (by kernel_rfl) (by kernel_rfl) (fun _ _ _ h => h) (Or.inl ⟨by rfl, ?_⟩) HS0.out ?_
              · (intro w' hSw; go_simp)
              simp only [Act.put, List.setIfInBounds_toArray, List.set_cons_zero, List.set_cons_succ]
              refine wpAnyH_take (i := 11) (oi := { dst := some 105, op := Op.load 3 (Operand.tmp 104), type := 3, pos := "graph.go:42", after := #[{ on := 10, ground := Ground.data }], guard := none }) (v := .int .i64 x.b) rfl (by kernel_rfl) (by kernel_rfl) (by kernel_rfl) (fun _ _ _ h => h) (Or.inl ⟨by rfl, ?_⟩) HS0.out ?_
              · (intro w' hSw; have z := Lib.cell_of_heap hSw.2 2; go_simp)
              simp only [Act.put, List.setIfInBounds_toArray, List.set_cons_zero, List.set_cons_succ]
              refine wpAnyH_take (i := 12) (oi := { dst := some 106, op := Op.indexAddr 27 (Operand.tmp 103) (Operand.tmp 105), type := 0, pos := "graph.go:42", after := #[{ on := 9, ground := Ground.data }, { on := 11, ground := Ground.data }], guard := none }) (v := .pointer (some ⟨eb, x.b.toNat, none⟩)) rfl (by kernel_rfl) (by kernel_rfl) (by kernel_rfl) (fun _ _ _ h => h) (Or.inl ⟨by rfl, ?_⟩) HS0.out ?_
              · (intro w' hSw; go_simp)
              simp only [Act.put, List.setIfInBounds_toArray, List.set_cons_zero, List.set_cons_succ]
              refine wpAnyH_take (i := 14) (oi := { dst := some 108, op := Op.move (Operand.tmp 7), type := 3, pos := "graph.go:42", after := #[], guard := none }) (v := .int .i64 (k : Int)) rfl (by kernel_rfl) (by kernel_rfl) (by kernel_rfl) (fun _ _ _ h => h) (Or.inl ⟨by rfl, ?_⟩) HS0.out ?_
              · (intro w' hSw; go_simp)
              simp only [Act.put, List.setIfInBounds_toArray, List.set_cons_zero, List.set_cons_succ]
              refine wpAnyH_ready (rs := [13, 15]) (by kernel_rfl) (by simp) (AllReadyH.cons (o := { dst := some 107, op := Op.load 23 (Operand.tmp 106), type := 23, pos := "graph.go:42", after := #[{ on := 12, ground := Ground.data }], guard := none }) rfl (fun K hK => ?_) (AllReadyH.cons (o := { dst := some 109, op := Op.buildSlice 23 1 #[(0, Operand.tmp 108)], type := 23, pos := "graph.go:42", after := #[{ on := 14, ground := Ground.data }], guard := none }) rfl (fun K hK => ?_) AllReadyH.nil))
              · have ca := HCA.out
                go_simp
                clear ca
                refine hK.out _ _ HS0.out (fun _ => ?_)
                clear hK K
                try simp only [Act.put, List.setIfInBounds_toArray, List.set_cons_zero, List.set_cons_succ]
                refine wpAnyH_ready (rs := [15]) (by kernel_rfl) (by simp) (AllReadyH.cons (o := { dst := some 109, op := Op.buildSlice 23 1 #[(0, Operand.tmp 108)], type := 23, pos := "graph.go:42", after := #[{ on := 14, ground := Ground.data }], guard := none }) rfl (fun K hK => ?_) AllReadyH.nil)
                go_simp
                refine hK.out _ _ HSA.out (fun _ => ?_)
                clear hK K
                try simp only [Act.put, List.setIfInBounds_toArray, List.set_cons_zero, List.set_cons_succ]
                refine wpAnyH_ready (rs := [16]) (by kernel_rfl) (by simp) (AllReadyH.cons (o := { dst := some 110, op := Op.call { callee := Callee.builtin Builtin.append, args := #[Operand.tmp 107, Operand.tmp 109], argTypes := #[23, 23] }, type := 23, pos := "graph.go:42", after := #[{ on := 13, ground := Ground.data }, { on := 15, ground := Ground.data }], guard := none }) rfl (fun K hK => ?_) AllReadyH.nil)
                refine step_append_lies _ (by rfl) _ _ 23 (by rfl) (w.heap.size + 5) 3 i0 _ 1 8 Tryd.underlying23 hi0 hz0 hz1 hz2 rfl (by decide) v0 xs.length (ints xs) (by rfl) HOA.out ⟨w6.heap.size, 0, none⟩ 1 1 [.int .i64 (k : Int)] (by rfl) (by rfl) (World.news_of_block (cs := #[.int .i64 (k : Int)]) (heap_alloc_new w6 _)) (by simp [Value.oneCell']) (by decide) hcap1 hcap2 (by simp; omega) (w6.heap.size + 1) (by simp) ?_
                intro g cap w4 hown hgr hsel hgl
                have hx4 : IOwn w4 (w.heap.size + 5) (.slice (some ⟨g, 0, none⟩) (xs.length + 1) cap) (xs ++ [k]) := by unfold IOwn; rw [List.length_append, ints_append]; exact hown
                have HST := Lib.hid (HST.out.step (hb := eb) (T := x.b.toNat) (i := n + x.b.toNat) HPL.out (.inr ⟨by omega, by omega, rfl, by omega⟩) (.slice (some ⟨g, 0, none⟩) (xs.length + 1) cap) (xs ++ [k]) (w2 := (w6.alloc (.cells #[.int .i64 (k : Int)] 3)).drew) (show w6.heap.size ≤ (w6.alloc (.cells #[.int .i64 (k : Int)] 3)).heap.size by simp) (fun b hb => show (w6.alloc (.cells #[.int .i64 (k : Int)] 3)).heap[b]? = _ from heap_alloc_old _ _ hb) hx4 (by rw [HV0.out]; exact hgr) (fun b e => by rw [HV0.out]; cases e; rcases hsel with h | h; exact .inl h; exact .inr (by rw [h]; simp)))
                have hsg : ∀ b, b < w6.heap.size → some b ≠ v0.ownBlock → w4.heap[b]? = w6.heap[b]? := fun b h1 h2 => (hgr.block b (by simp; omega) h2).trans (heap_alloc_old _ _ h1)
                have hS4 : (w4).heap[gb]? = some (.cells #[.slice (some ⟨ab, off, none⟩) l.length c, .slice (some ⟨mb, 0, none⟩) n n, .slice (some ⟨eb, 0, none⟩) n n, .int .i64 0, .slice (some ⟨rb, 0, none⟩) n n, .slice none 0 0] 65 (0, 0)) ∧ (w4).heap[cb]? = some (.cells #[.int .i64 x.kind, .int .i64 x.a, .int .i64 x.b, .int .i64 x.mark.kind, .int .i64 x.mark.len, .string x.mark.nm, .int .i64 x.lo, .int .i64 x.hi] 41 (0, 0)) := ⟨(hsg gb (by omega) (HVN.out gb (by omega))).trans HS0.out.1, (hsg cb hcw (HVC.out)).trans HS0.out.2⟩
                have hfz : w4.frozen? ⟨eb, x.b.toNat, none⟩ = false := by have h := (hsg eb (by omega) (HVN.out eb (by omega))).trans HHB.out; exact hfrz h _
                have hcz : ∃ u, w4.cell? ⟨eb, x.b.toNat, none⟩ = some u := ⟨_, (World.cell?_of_block (a := ⟨eb, x.b.toNat, none⟩) (hsg eb (by omega) (HVN.out eb (by omega)))).trans HCA.out⟩
                obtain ⟨u, hcz⟩ := hcz
                have HPB4 := Lib.hid (show w4.heap[pb]? = w6.heap[pb]? from hsg pb (by omega) (HVN.out pb (by omega)))
                have HB4 := Lib.hid (show Below w.heap.size w w4 from (HB6.out.alloc HB6.out.size (.cells #[.int .i64 (k : Int)] 3)).drew.grown hgr (by have := HB6.out.size; simp; omega) (fun b e => by have := HVL.out b e; omega))
                have HS4 := Lib.hid hS4
                have HZ4 := Lib.hid hgr.size
                clear hown hgr hsel hgl hx4 hS4 hsg
                refine hK.out _ _ HS4.out (fun _ => ?_)
                clear hK K
                try simp only [Act.put, List.setIfInBounds_toArray, List.set_cons_zero, List.set_cons_succ]
                refine wpAnyH_take (i := 17) (oi := { dst := some 111, op := Op.indexAddr 27 (Operand.tmp 97) (Operand.tmp 99), type := 0, pos := "graph.go:42", after := #[{ on := 3, ground := Ground.data }, { on := 5, ground := Ground.data }, { on := 0, ground := Ground.phase }, { on := 1, ground := Ground.phase }, { on := 2, ground := Ground.phase }, { on := 3, ground := Ground.phase }, { on := 4, ground := Ground.phase }, { on := 5, ground := Ground.phase }, { on := 6, ground := Ground.phase }, { on := 7, ground := Ground.phase }, { on := 8, ground := Ground.phase }, { on := 9, ground := Ground.phase }, { on := 10, ground := Ground.phase }, { on := 11, ground := Ground.phase }, { on := 12, ground := Ground.phase }, { on := 13, ground := Ground.phase }, { on := 14, ground := Ground.phase }, { on := 15, ground := Ground.phase }, { on := 16, ground := Ground.phase }], guard := none }) (v := .pointer (some ⟨eb, x.b.toNat, none⟩)) rfl (by kernel_rfl) (by kernel_rfl) (by kernel_rfl) (fun _ _ _ h => h) (Or.inl ⟨by rfl, ?_⟩) HS4.out ?_
                · (intro w' hSw; go_simp)
                simp only [Act.put, List.setIfInBounds_toArray, List.set_cons_zero, List.set_cons_succ]
                refine wpAnyH_ready (rs := [18]) (by kernel_rfl) (by simp) (AllReadyH.cons (o := { dst := none, op := Op.store 23 (Operand.tmp 111) (Operand.tmp 110), type := 0, pos := "graph.go:42", after := #[{ on := 17, ground := Ground.data }, { on := 16, ground := Ground.data }, { on := 16, ground := Ground.chain }, { on := 0, ground := Ground.phase }, { on := 1, ground := Ground.phase }, { on := 2, ground := Ground.phase }, { on := 3, ground := Ground.phase }, { on := 4, ground := Ground.phase }, { on := 5, ground := Ground.phase }, { on := 6, ground := Ground.phase }, { on := 7, ground := Ground.phase }, { on := 8, ground := Ground.phase }, { on := 9, ground := Ground.phase }, { on := 10, ground := Ground.phase }, { on := 11, ground := Ground.phase }, { on := 12, ground := Ground.phase }, { on := 13, ground := Ground.phase }, { on := 14, ground := Ground.phase }, { on := 15, ground := Ground.phase }, { on := 16, ground := Ground.phase }], guard := none }) rfl (fun K hK => ?_) AllReadyH.nil)
                go_simp
                refine hK.out _ _ ⟨(Below.heap_setCell _ _ _ _ (by simp; omega)).trans HS4.out.1, (Below.heap_setCell _ _ _ _ (by simp; omega)).trans HS4.out.2⟩ (fun _ => ?_)
                clear hK K
                try simp only [Act.put, List.setIfInBounds_toArray, List.set_cons_zero, List.set_cons_succ]
                refine wpAnyH_done (by kernel_rfl) ?_ _
                refine NoPanic.normal ?_
                have HC6 := Lib.hid (show (w4.setCell ⟨eb, x.b.toNat, none⟩ (.slice (some ⟨g, 0, none⟩) (xs.length + 1) cap)).heap[cb]? = some (.cells #[.int .i64 x.kind, .int .i64 x.a, .int .i64 x.b, .int .i64 x.mark.kind, .int .i64 x.mark.len, .string x.mark.nm, .int .i64 x.lo, .int .i64 x.hi] 41 (0, 0)) from (Below.heap_setCell _ _ _ _ (by simp; omega)).trans HS4.out.2)
                have HP6 := Lib.hid (show (w4.setCell ⟨eb, x.b.toNat, none⟩ (.slice (some ⟨g, 0, none⟩) (xs.length + 1) cap)).heap[pb]? = w6.heap[pb]? from (Below.heap_setCell _ _ _ _ (by simp; omega)).trans HPB4.out)
                have HB6 := Lib.hid (HB4.out.setCell (p := ⟨eb, x.b.toNat, none⟩) (by simp; omega) (.slice (some ⟨g, 0, none⟩) (xs.length + 1) cap))
                have HZ6 := Lib.hid (show w6.heap.size < (w4.setCell ⟨eb, x.b.toNat, none⟩ (.slice (some ⟨g, 0, none⟩) (xs.length + 1) cap)).heap.size by have := HZ4.out; simp at this ⊢; omega)
                generalize (w4.setCell ⟨eb, x.b.toNat, none⟩ (.slice (some ⟨g, 0, none⟩) (xs.length + 1) cap)) = w7 at *
                have HSAID2 := Lib.hid (HSAID.out.stays HP6.out)
                have HROW := Lib.hid (show upd L2 (n + x.b.toNat) (xs ++ [k]) = rowsL l n (k + 1) by rw [← HXS.out, ← HL2.out]; exact (rows_eq hlt HD.out HX.out k0 (by omega) (by omega)).symm)
                rw [HROW.out] at HST
                go_wp2_with (fail)
                exact ⟨⟨k + 1, by omega, by go_num, Lib.hid (HST.out.ng HSAID2.out), HB6⟩, by simp [intOf]; omega⟩
              · go_simp
                refine hK.out _ _ HSA.out (fun _ => ?_)
                clear hK K
                try simp only [Act.put, List.setIfInBounds_toArray, List.set_cons_zero, List.set_cons_succ]
                refine wpAnyH_ready (rs := [13]) (by kernel_rfl) (by simp) (AllReadyH.cons (o := { dst := some 107, op := Op.load 23 (Operand.tmp 106), type := 23, pos := "graph.go:42", after := #[{ on := 12, ground := Ground.data }], guard := none }) rfl (fun K hK => ?_) AllReadyH.nil)
                have ca := HCB.out
                go_simp
                clear ca
                refine hK.out _ _ HSA.out (fun _ => ?_)
                clear hK K
                try simp only [Act.put, List.setIfInBounds_toArray, List.set_cons_zero, List.set_cons_succ]
                refine wpAnyH_ready (rs := [16]) (by kernel_rfl) (by simp) (AllReadyH.cons (o := { dst := some 110, op := Op.call { callee := Callee.builtin Builtin.append, args := #[Operand.tmp 107, Operand.tmp 109], argTypes := #[23, 23] }, type := 23, pos := "graph.go:42", after := #[{ on := 13, ground := Ground.data }, { on := 15, ground := Ground.data }], guard := none }) rfl (fun K hK => ?_) AllReadyH.nil)
                refine step_append_lies _ (by rfl) _ _ 23 (by rfl) (w.heap.size + 5) 3 i0 _ 1 8 Tryd.underlying23 hi0 hz0 hz1 hz2 rfl (by decide) v0 xs.length (ints xs) (by rfl) HOA.out ⟨w6.heap.size, 0, none⟩ 1 1 [.int .i64 (k : Int)] (by rfl) (by rfl) (World.news_of_block (cs := #[.int .i64 (k : Int)]) (heap_alloc_new w6 _)) (by simp [Value.oneCell']) (by decide) hcap1 hcap2 (by simp; omega) (w6.heap.size + 1) (by simp) ?_
                intro g cap w4 hown hgr hsel hgl
                have hx4 : IOwn w4 (w.heap.size + 5) (.slice (some ⟨g, 0, none⟩) (xs.length + 1) cap) (xs ++ [k]) := by unfold IOwn; rw [List.length_append, ints_append]; exact hown
                have HST := Lib.hid (HST.out.step (hb := eb) (T := x.b.toNat) (i := n + x.b.toNat) HPL.out (.inr ⟨by omega, by omega, rfl, by omega⟩) (.slice (some ⟨g, 0, none⟩) (xs.length + 1) cap) (xs ++ [k]) (w2 := (w6.alloc (.cells #[.int .i64 (k : Int)] 3)).drew) (show w6.heap.size ≤ (w6.alloc (.cells #[.int .i64 (k : Int)] 3)).heap.size by simp) (fun b hb => show (w6.alloc (.cells #[.int .i64 (k : Int)] 3)).heap[b]? = _ from heap_alloc_old _ _ hb) hx4 (by rw [HV0.out]; exact hgr) (fun b e => by rw [HV0.out]; cases e; rcases hsel with h | h; exact .inl h; exact .inr (by rw [h]; simp)))
                have hsg : ∀ b, b < w6.heap.size → some b ≠ v0.ownBlock → w4.heap[b]? = w6.heap[b]? := fun b h1 h2 => (hgr.block b (by simp; omega) h2).trans (heap_alloc_old _ _ h1)
                have hS4 : (w4).heap[gb]? = some (.cells #[.slice (some ⟨ab, off, none⟩) l.length c, .slice (some ⟨mb, 0, none⟩) n n, .slice (some ⟨eb, 0, none⟩) n n, .int .i64 0, .slice (some ⟨rb, 0, none⟩) n n, .slice none 0 0] 65 (0, 0)) ∧ (w4).heap[cb]? = some (.cells #[.int .i64 x.kind, .int .i64 x.a, .int .i64 x.b, .int .i64 x.mark.kind, .int .i64 x.mark.len, .string x.mark.nm, .int .i64 x.lo, .int .i64 x.hi] 41 (0, 0)) := ⟨(hsg gb (by omega) (HVN.out gb (by omega))).trans HS0.out.1, (hsg cb hcw (HVC.out)).trans HS0.out.2⟩
                have hfz : w4.frozen? ⟨eb, x.b.toNat, none⟩ = false := by have h := (hsg eb (by omega) (HVN.out eb (by omega))).trans HHB.out; exact hfrz h _
                have hcz : ∃ u, w4.cell? ⟨eb, x.b.toNat, none⟩ = some u := ⟨_, (World.cell?_of_block (a := ⟨eb, x.b.toNat, none⟩) (hsg eb (by omega) (HVN.out eb (by omega)))).trans HCA.out⟩
                obtain ⟨u, hcz⟩ := hcz
                have HPB4 := Lib.hid (show w4.heap[pb]? = w6.heap[pb]? from hsg pb (by omega) (HVN.out pb (by omega)))
                have HB4 := Lib.hid (show Below w.heap.size w w4 from (HB6.out.alloc HB6.out.size (.cells #[.int .i64 (k : Int)] 3)).drew.grown hgr (by have := HB6.out.size; simp; omega) (fun b e => by have := HVL.out b e; omega))
                have HS4 := Lib.hid hS4
                have HZ4 := Lib.hid hgr.size
                clear hown hgr hsel hgl hx4 hS4 hsg
                refine hK.out _ _ HS4.out (fun _ => ?_)
                clear hK K
                try simp only [Act.put, List.setIfInBounds_toArray, List.set_cons_zero, List.set_cons_succ]
                refine wpAnyH_take (i := 17) (oi := { dst := some 111, op := Op.indexAddr 27 (Operand.tmp 97) (Operand.tmp 99), type := 0, pos := "graph.go:42", after := #[{ on := 3, ground := Ground.data }, { on := 5, ground := Ground.data }, { on := 0, ground := Ground.phase }, { on := 1, ground := Ground.phase }, { on := 2, ground := Ground.phase }, { on := 3, ground := Ground.phase }, { on := 4, ground := Ground.phase }, { on := 5, ground := Ground.phase }, { on := 6, ground := Ground.phase }, { on := 7, ground := Ground.phase }, { on := 8, ground := Ground.phase }, { on := 9, ground := Ground.phase }, { on := 10, ground := Ground.phase }, { on := 11, ground := Ground.phase }, { on := 12, ground := Ground.phase }, { on := 13, ground := Ground.phase }, { on := 14, ground := Ground.phase }, { on := 15, ground := Ground.phase }, { on := 16, ground := Ground.phase }], guard := none }) (v := .pointer (some ⟨eb, x.b.toNat, none⟩)) rfl (by kernel_rfl) (by kernel_rfl) (by kernel_rfl) (fun _ _ _ h => h) (Or.inl ⟨by rfl, ?_⟩) HS4.out ?_
                · (intro w' hSw; go_simp)
                simp only [Act.put, List.setIfInBounds_toArray, List.set_cons_zero, List.set_cons_succ]
                refine wpAnyH_ready (rs := [18]) (by kernel_rfl) (by simp) (AllReadyH.cons (o := { dst := none, op := Op.store 23 (Operand.tmp 111) (Operand.tmp 110), type := 0, pos := "graph.go:42", after := #[{ on := 17, ground := Ground.data }, { on := 16, ground := Ground.data }, { on := 16, ground := Ground.chain }, { on := 0, ground := Ground.phase }, { on := 1, ground := Ground.phase }, { on := 2, ground := Ground.phase }, { on := 3, ground := Ground.phase }, { on := 4, ground := Ground.phase }, { on := 5, ground := Ground.phase }, { on := 6, ground := Ground.phase }, { on := 7, ground := Ground.phase }, { on := 8, ground := Ground.phase }, { on := 9, ground := Ground.phase }, { on := 10, ground := Ground.phase }, { on := 11, ground := Ground.phase }, { on := 12, ground := Ground.phase }, { on := 13, ground := Ground.phase }, { on := 14, ground := Ground.phase }, { on := 15, ground := Ground.phase }, { on := 16, ground := Ground.phase }], guard := none }) rfl (fun K hK => ?_) AllReadyH.nil)
                go_simp
                refine hK.out _ _ ⟨(Below.heap_setCell _ _ _ _ (by simp; omega)).trans HS4.out.1, (Below.heap_setCell _ _ _ _ (by simp; omega)).trans HS4.out.2⟩ (fun _ => ?_)
                clear hK K
                try simp only [Act.put, List.setIfInBounds_toArray, List.set_cons_zero, List.set_cons_succ]
                refine wpAnyH_done (by kernel_rfl) ?_ _
                refine NoPanic.normal ?_
                have HC6 := Lib.hid (show (w4.setCell ⟨eb, x.b.toNat, none⟩ (.slice (some ⟨g, 0, none⟩) (xs.length + 1) cap)).heap[cb]? = some (.cells #[.int .i64 x.kind, .int .i64 x.a, .int .i64 x.b, .int .i64 x.mark.kind, .int .i64 x.mark.len, .string x.mark.nm, .int .i64 x.lo, .int .i64 x.hi] 41 (0, 0)) from (Below.heap_setCell _ _ _ _ (by simp; omega)).trans HS4.out.2)
                have HP6 := Lib.hid (show (w4.setCell ⟨eb, x.b.toNat, none⟩ (.slice (some ⟨g, 0, none⟩) (xs.length + 1) cap)).heap[pb]? = w6.heap[pb]? from (Below.heap_setCell _ _ _ _ (by simp; omega)).trans HPB4.out)
                have HB6 := Lib.hid (HB4.out.setCell (p := ⟨eb, x.b.toNat, none⟩) (by simp; omega) (.slice (some ⟨g, 0, none⟩) (xs.length + 1) cap))
                have HZ6 := Lib.hid (show w6.heap.size < (w4.setCell ⟨eb, x.b.toNat, none⟩ (.slice (some ⟨g, 0, none⟩) (xs.length + 1) cap)).heap.size by have := HZ4.out; simp at this ⊢; omega)
                generalize (w4.setCell ⟨eb, x.b.toNat, none⟩ (.slice (some ⟨g, 0, none⟩) (xs.length + 1) cap)) = w7 at *
                have HSAID2 := Lib.hid (HSAID.out.stays HP6.out)
                have HROW := Lib.hid (show upd L2 (n + x.b.toNat) (xs ++ [k]) = rowsL l n (k + 1) by rw [← HXS.out, ← HL2.out]; exact (rows_eq hlt HD.out HX.out k0 (by omega) (by omega)).symm)
                rw [HROW.out] at HST
                go_wp2_with (fail)
                exact ⟨⟨k + 1, by omega, by go_num, Lib.hid (HST.out.ng HSAID2.out), HB6⟩, by simp [intOf]; omega⟩
            · go_simp
              refine hK.out _ _ HSA.out (fun _ => ?_)
              clear hK K
              try simp only [Act.put, List.setIfInBounds_toArray, List.set_cons_zero, List.set_cons_succ]
              refine wpAnyH_ready (rs := [13]) (by kernel_rfl) (by simp) (AllReadyH.cons (o := { dst := some 89, op := Op.load 23 (Operand.tmp 88), type := 23, pos := "graph.go:41", after := #[{ on := 12, ground := Ground.data }], guard := none }) rfl (fun K hK => ?_) AllReadyH.nil)
              have ca := HCB.out
              go_simp
              clear ca
              refine hK.out _ _ HSA.out (fun _ => ?_)
              clear hK K
              try simp only [Act.put, List.setIfInBounds_toArray, List.set_cons_zero, List.set_cons_succ]
              refine wpAnyH_ready (rs := [16]) (by kernel_rfl) (by simp) (AllReadyH.cons (o := { dst := some 92, op := Op.call { callee := Callee.builtin Builtin.append, args := #[Operand.tmp 89, Operand.tmp 91], argTypes := #[23, 23] }, type := 23, pos := "graph.go:41", after := #[{ on := 13, ground := Ground.data }, { on := 15, ground := Ground.data }], guard := none }) rfl (fun K hK => ?_) AllReadyH.nil)
              refine step_append_lies _ (by rfl) _ _ 23 (by rfl) (w.heap.size + 5) 3 i0 _ 1 8 Tryd.underlying23 hi0 hz0 hz1 hz2 rfl (by decide) v0 xs.length (ints xs) (by rfl) HOA.out ⟨w3.heap.size, 0, none⟩ 1 1 [.int .i64 (k : Int)] (by rfl) (by rfl) (World.news_of_block (cs := #[.int .i64 (k : Int)]) (heap_alloc_new w3 _)) (by simp [Value.oneCell']) (by decide) hcap1 hcap2 (by simp; omega) (w3.heap.size + 1) (by simp) ?_
              intro g cap w4 hown hgr hsel hgl
              have hx4 : IOwn w4 (w.heap.size + 5) (.slice (some ⟨g, 0, none⟩) (xs.length + 1) cap) (xs ++ [k]) := by unfold IOwn; rw [List.length_append, ints_append]; exact hown
              have HST := Lib.hid (HN3.out.step (hb := eb) (T := x.a.toNat) (i := n + x.a.toNat) HPL.out (.inr ⟨by omega, by omega, rfl, by omega⟩) (.slice (some ⟨g, 0, none⟩) (xs.length + 1) cap) (xs ++ [k]) (w2 := (w3.alloc (.cells #[.int .i64 (k : Int)] 3)).drew) (show w3.heap.size ≤ (w3.alloc (.cells #[.int .i64 (k : Int)] 3)).heap.size by simp) (fun b hb => show (w3.alloc (.cells #[.int .i64 (k : Int)] 3)).heap[b]? = _ from heap_alloc_old _ _ hb) hx4 (by rw [HV0.out]; exact hgr) (fun b e => by rw [HV0.out]; cases e; rcases hsel with h | h; exact .inl h; exact .inr (by rw [h]; simp)))
              have hsg : ∀ b, b < w3.heap.size → some b ≠ v0.ownBlock → w4.heap[b]? = w3.heap[b]? := fun b h1 h2 => (hgr.block b (by simp; omega) h2).trans (heap_alloc_old _ _ h1)
              have hS4 : (w4).heap[gb]? = some (.cells #[.slice (some ⟨ab, off, none⟩) l.length c, .slice (some ⟨mb, 0, none⟩) n n, .slice (some ⟨eb, 0, none⟩) n n, .int .i64 0, .slice (some ⟨rb, 0, none⟩) n n, .slice none 0 0] 65 (0, 0)) ∧ (w4).heap[cb]? = some (.cells #[.int .i64 x.kind, .int .i64 x.a, .int .i64 x.b, .int .i64 x.mark.kind, .int .i64 x.mark.len, .string x.mark.nm, .int .i64 x.lo, .int .i64 x.hi] 41 (0, 0)) := ⟨(hsg gb (by omega) (HVN.out gb (by omega))).trans HS0.out.1, (hsg cb hcw (HVC.out)).trans HS0.out.2⟩
              have hfz : w4.frozen? ⟨eb, x.a.toNat, none⟩ = false := by have h := (hsg eb (by omega) (HVN.out eb (by omega))).trans HHB.out; exact hfrz h _
              have hcz : ∃ u, w4.cell? ⟨eb, x.a.toNat, none⟩ = some u := ⟨_, (World.cell?_of_block (a := ⟨eb, x.a.toNat, none⟩) (hsg eb (by omega) (HVN.out eb (by omega)))).trans HCA.out⟩
              obtain ⟨u, hcz⟩ := hcz
              have HPB4 := Lib.hid (show w4.heap[pb]? = w3.heap[pb]? from hsg pb (by omega) (HVN.out pb (by omega)))
              have HB4 := Lib.hid (show Below w.heap.size w w4 from (HB3.out.alloc HB3.out.size (.cells #[.int .i64 (k : Int)] 3)).drew.grown hgr (by have := HB3.out.size; simp; omega) (fun b e => by have := HVL.out b e; omega))
              have HS4 := Lib.hid hS4
              have HZ4 := Lib.hid hgr.size
              clear hown hgr hsel hgl hx4 hS4 hsg
              refine hK.out _ _ HS4.out (fun _ => ?_)
              clear hK K
              try simp only [Act.put, List.setIfInBounds_toArray, List.set_cons_zero, List.set_cons_succ]
              refine wpAnyH_take (i := 17) (oi := { dst := some 93, op := Op.indexAddr 27 (Operand.tmp 79) (Operand.tmp 81), type := 0, pos := "graph.go:41", after := #[{ on := 3, ground := Ground.data }, { on := 5, ground := Ground.data }, { on := 0, ground := Ground.phase }, { on := 1, ground := Ground.phase }, { on := 2, ground := Ground.phase }, { on := 3, ground := Ground.phase }, { on := 4, ground := Ground.phase }, { on := 5, ground := Ground.phase }, { on := 6, ground := Ground.phase }, { on := 7, ground := Ground.phase }, { on := 8, ground := Ground.phase }, { on := 9, ground := Ground.phase }, { on := 10, ground := Ground.phase }, { on := 11, ground := Ground.phase }, { on := 12, ground := Ground.phase }, { on := 13, ground := Ground.phase }, { on := 14, ground := Ground.phase }, { on := 15, ground := Ground.phase }, { on := 16, ground := Ground.phase }], guard := none }) (v := .pointer (some ⟨eb, x.a.toNat, none⟩)) rfl (by kernel_rfl) (by kernel_rfl) (by kernel_rfl) (fun _ _ _ h => h) (Or.inl ⟨by rfl, ?_⟩) HS4.out ?_
              · (intro w' hSw; go_simp)
              simp only [Act.put, List.setIfInBounds_toArray, List.set_cons_zero, List.set_cons_succ]
              refine wpAnyH_ready (rs := [18]) (by kernel_rfl) (by simp) (AllReadyH.cons (o := { dst := none, op := Op.store 23 (Operand.tmp 93) (Operand.tmp 92), type := 0, pos := "graph.go:41", after := #[{ on := 17, ground := Ground.data }, { on := 16, ground := Ground.data }, { on := 16, ground := Ground.chain }, { on := 0, ground := Ground.phase }, { on := 1, ground := Ground.phase }, { on := 2, ground := Ground.phase }, { on := 3, ground := Ground.phase }, { on := 4, ground := Ground.phase }, { on := 5, ground := Ground.phase }, { on := 6, ground := Ground.phase }, { on := 7, ground := Ground.phase }, { on := 8, ground := Ground.phase }, { on := 9, ground := Ground.phase }, { on := 10, ground := Ground.phase }, { on := 11, ground := Ground.phase }, { on := 12, ground := Ground.phase }, { on := 13, ground := Ground.phase }, { on := 14, ground := Ground.phase }, { on := 15, ground := Ground.phase }, { on := 16, ground := Ground.phase }], guard := none }) rfl (fun K hK => ?_) AllReadyH.nil)
              go_simp
              refine hK.out _ _ ⟨(Below.heap_setCell _ _ _ _ (by simp; omega)).trans HS4.out.1, (Below.heap_setCell _ _ _ _ (by simp; omega)).trans HS4.out.2⟩ (fun _ => ?_)
              clear hK K
              try simp only [Act.put, List.setIfInBounds_toArray, List.set_cons_zero, List.set_cons_succ]
              refine wpAnyH_done (by kernel_rfl) ?_ _
              refine NoPanic.normal ?_
              have HC6 := Lib.hid (show (w4.setCell ⟨eb, x.a.toNat, none⟩ (.slice (some ⟨g, 0, none⟩) (xs.length + 1) cap)).heap[cb]? = some (.cells #[.int .i64 x.kind, .int .i64 x.a, .int .i64 x.b, .int .i64 x.mark.kind, .int .i64 x.mark.len, .string x.mark.nm, .int .i64 x.lo, .int .i64 x.hi] 41 (0, 0)) from (Below.heap_setCell _ _ _ _ (by simp; omega)).trans HS4.out.2)
              have HP6 := Lib.hid (show (w4.setCell ⟨eb, x.a.toNat, none⟩ (.slice (some ⟨g, 0, none⟩) (xs.length + 1) cap)).heap[pb]? = w3.heap[pb]? from (Below.heap_setCell _ _ _ _ (by simp; omega)).trans HPB4.out)
              have HB6 := Lib.hid (HB4.out.setCell (p := ⟨eb, x.a.toNat, none⟩) (by simp; omega) (.slice (some ⟨g, 0, none⟩) (xs.length + 1) cap))
              have HZ6 := Lib.hid (show w3.heap.size < (w4.setCell ⟨eb, x.a.toNat, none⟩ (.slice (some ⟨g, 0, none⟩) (xs.length + 1) cap)).heap.size by have := HZ4.out; simp at this ⊢; omega)
              generalize (w4.setCell ⟨eb, x.a.toNat, none⟩ (.slice (some ⟨g, 0, none⟩) (xs.length + 1) cap)) = w6 at *
              have HSAID := Lib.hid (HSD3.out.stays HP6.out)
              have HROW := Lib.hid (show upd L (n + x.a.toNat) (xs ++ [k]) = upd (rowsL l n k) (n + x.a.toNat) (rowsL l n k (n + x.a.toNat) ++ [k]) by rw [← HXS.out, ← HL.out])
              rw [HROW.out] at HST
              obtain ⟨R2, HR2⟩ : ∃ R2, Hid (upd R (n + x.a.toNat) (.slice (some ⟨g, 0, none⟩) (xs.length + 1) cap) = R2) := ⟨_, Lib.hid rfl⟩
              obtain ⟨L2, HL2⟩ : ∃ L2, Hid (upd (rowsL l n k) (n + x.a.toNat) (rowsL l n k (n + x.a.toNat) ++ [k]) = L2) := ⟨_, Lib.hid rfl⟩
              rw [HR2.out, HL2.out] at HST
              have HLL2 := Lib.hid (show ∀ i, (L2 i).length ≤ 3000000 from fun i => by rw [← HL2.out]; unfold upd; have h1 := rows_len l n k i; have h2 := rows_len l n k (n + x.a.toNat); split <;> simp <;> omega)
              clear HROW HR2 HV0 HXS HOW HVL HVN HVC HHB HCA HS0 HSA HCB HOA HS4 HZ4 HB4 HPB4 hxl hcap1 hcap2 hcw hfz hcz hT
              have hT : x.b.toNat < n := by omega
              go_upto_region 14 with fail
              obtain ⟨i0, hi0, hz0, hz1, hz2⟩ := info_parts infoIn
              obtain ⟨v0, HV0⟩ : ∃ v0, Hid (R2 (n + x.b.toNat) = v0) := ⟨_, Lib.hid rfl⟩
              obtain ⟨xs, HXS⟩ : ∃ xs, Hid (L2 (n + x.b.toNat) = xs) := ⟨_, Lib.hid rfl⟩
              have HOW := Lib.hid (show IOwn w6 (w.heap.size + 5) v0 xs by rw [← HV0.out, ← HXS.out]; exact HST.out.rows.own _ (by omega))
              have hxl : xs.length ≤ 3000000 := by rw [← HXS.out]; exact HLL2.out _
              have hcap1 : xs.length + 1 ≤ maxLen := by unfold maxLen; omega
              have hcap2 : (xs.length + 1) * 8 ≤ 140737488355328 := by omega
              have HVL := Lib.hid (fun b (e : v0.ownBlock = some b) => (own_block' HOW.out e).1)
              have HVN := Lib.hid (show ∀ b, b < w.heap.size + 5 → some b ≠ v0.ownBlock from fun b h e => by have := HVL.out b e.symm; omega)
              have HVC := Lib.hid (show some cb ≠ v0.ownBlock from fun e => by obtain ⟨_, _, cs, h⟩ := own_block' HOW.out e.symm; rw [HC6.out] at h; simp only [Option.some.injEq, Obj.cells.injEq] at h; exact absurd h.2.1 (by decide))
              have HHB := Lib.hid HST.out.eh
              have HCA := Lib.hid (show w6.cell? ⟨eb, x.b.toNat, none⟩ = some v0 by have h := Lib.cell_of_heap HHB.out (x.b.toNat); rw [hdr_get (fun v => R2 (n + v)) hT] at h; rw [← HV0.out]; exact h)
              have HS0 := Lib.hid (show (w6.drew).heap[gb]? = some (.cells #[.slice (some ⟨ab, off, none⟩) l.length c, .slice (some ⟨mb, 0, none⟩) n n, .slice (some ⟨eb, 0, none⟩) n n, .int .i64 0, .slice (some ⟨rb, 0, none⟩) n n, .slice none 0 0] 65 (0, 0)) ∧ (w6.drew).heap[cb]? = some (.cells #[.int .i64 x.kind, .int .i64 x.a, .int .i64 x.b, .int .i64 x.mark.kind, .int .i64 x.mark.len, .string x.mark.nm, .int .i64 x.lo, .int .i64 x.hi] 41 (0, 0)) from ⟨HST.out.box, HC6.out⟩)
              have hzW : w.heap.size + 5 ≤ w6.heap.size := HST.out.size
              have hcw : cb < w6.heap.size := (Array.getElem?_eq_some_iff.1 HC6.out).1
              have HSA := Lib.hid (show ((w6.alloc (.cells #[.int .i64 (k : Int)] 3)).drew).heap[gb]? = some (.cells #[.slice (some ⟨ab, off, none⟩) l.length c, .slice (some ⟨mb, 0, none⟩) n n, .slice (some ⟨eb, 0, none⟩) n n, .int .i64 0, .slice (some ⟨rb, 0, none⟩) n n, .slice none 0 0] 65 (0, 0)) ∧ ((w6.alloc (.cells #[.int .i64 (k : Int)] 3)).drew).heap[cb]? = some (.cells #[.int .i64 x.kind, .int .i64 x.a, .int .i64 x.b, .int .i64 x.mark.kind, .int .i64 x.mark.len, .string x.mark.nm, .int .i64 x.lo, .int .i64 x.hi] 41 (0, 0)) from ⟨(show (w6.alloc (.cells #[.int .i64 (k : Int)] 3)).heap[gb]? = _ from (heap_alloc_old _ _ (by omega)).trans HST.out.box), (show (w6.alloc (.cells #[.int .i64 (k : Int)] 3)).heap[cb]? = _ from (heap_alloc_old _ _ hcw).trans HC6.out)⟩)
              have HCB := Lib.hid (show (w6.alloc (.cells #[.int .i64 (k : Int)] 3)).cell? ⟨eb, x.b.toNat, none⟩ = some v0 from (World.cell?_of_block (a := ⟨eb, x.b.toNat, none⟩) (heap_alloc_old _ _ (show eb < w6.heap.size by omega))).trans HCA.out)
              have HOA := Lib.hid (HOW.out.alloc (.cells #[.int .i64 (k : Int)] 3))
              refine wp_region_noPanic ?_
              refine wp_region_held_drew (S := fun w' => w'.heap[gb]? = some (.cells #[.slice (some ⟨ab, off, none⟩) l.length c, .slice (some ⟨mb, 0, none⟩) n n, .slice (some ⟨eb, 0, none⟩) n n, .int .i64 0, .slice (some ⟨rb, 0, none⟩) n n, .slice none 0 0] 65 (0, 0)) ∧ w'.heap[cb]? = some (.cells #[.int .i64 x.kind, .int .i64 x.a, .int .i64 x.b, .int .i64 x.mark.kind, .int .i64 x.mark.len, .string x.mark.nm, .int .i64 x.lo, .int .i64 x.hi] 41 (0, 0))) (by kernel_rfl) HS0.out (fun _ => ?_)
              refine wpAnyH_take (i := 0) (oi := { dst := some 94, op := Op.move (Operand.tmp 5), type := 45, pos := "graph.go:42", after := #[], guard := none }) (v := .pointer (some ⟨gb, 0, none⟩)) rfl (by kernel_rfl) (by kernel_rfl) (by kernel_rfl) (fun _ _ _ h => h) (Or.inl ⟨by rfl, ?_⟩) HS0.out ?_
              · (intro w' hSw; go_simp)
              simp only [Act.put, List.setIfInBounds_toArray, List.set_cons_zero, List.set_cons_succ]
              refine wpAnyH_take (i := 1) (oi := { dst := some 95, op := Op.nilCheck (Operand.tmp 94), type := 0, pos := "graph.go:42", after := #[{ on := 0, ground := Ground.data }], guard := none }) (v := .pointer (some ⟨gb, 0, none⟩)) rfl (by kernel_rfl) (by kernel_rfl) (by kernel_rfl) (fun _ _ _ h => h) (Or.inl ⟨by rfl, ?_⟩) HS0.out ?_
              · (intro w' hSw; go_simp)
              simp only [Act.put, List.setIfInBounds_toArray, List.set_cons_zero, List.set_cons_succ]
              refine wpAnyH_take (i := 2) (oi := { dst := some 96, op := Op.fieldAddr 65 (Operand.tmp 95) 2, type := 0, pos := "graph.go:42", after := #[{ on := 1, ground := Ground.data }], guard := none }) (v := .pointer (some ⟨gb, 2, none⟩)) rfl (by kernel_rfl) (by kernel_rfl) (by kernel_rfl) (fun _ _ _ h => h) (Or.inl ⟨by rfl, ?_⟩) HS0.out ?_
              · (intro w' hSw; go_simp)
              simp only [Act.put, List.setIfInBounds_toArray, List.set_cons_zero, List.set_cons_succ]
              refine wpAnyH_take (i := 3) (oi := { dst := some 97, op := Op.load 27 (Operand.tmp 96), type := 27, pos := "graph.go:42", after := #[{ on := 2, ground := Ground.data }], guard := none }) (v := .slice (some ⟨eb, 0, none⟩) n n) rfl (by kernel_rfl) (by kernel_rfl) (by kernel_rfl) (fun _ _ _ h => h) (Or.inl ⟨by rfl, ?_⟩) HS0.out ?_
              · (intro w' hSw; have z := Lib.cell_of_heap hSw.1 2; go_simp)
              simp only [Act.put, List.setIfInBounds_toArray, List.set_cons_zero, List.set_cons_succ]
              refine wpAnyH_take (i := 4) (oi := { dst := some 98, op := Op.fieldAddr 41 (Operand.tmp 8) 2, type := 0, pos := "graph.go:42", after := #[], guard := none }) (v := .pointer (some ⟨cb, 2, none⟩)) rfl (by kernel_rfl) (by kernel_rfl) (by kernel_rfl) (fun _ _ _ h => h) (Or.inl ⟨by rfl, ?_⟩) HS0.out ?_
              · (intro w' hSw; go_simp)
              simp only [Act.put, List.setIfInBounds_toArray, List.set_cons_zero, List.set_cons_succ]
              refine wpAnyH_take (i := 5) (oi := { dst := some 99, op := Op.load 3 (Operand.tmp 98), type := 3, pos := "graph.go:42", after := #[{ on := 4, ground := Ground.data }], guard := none }) (v := .int .i64 x.b) rfl (by kernel_rfl) (by kernel_rfl) (by kernel_rfl) (fun _ _ _ h => h) (Or.inl ⟨by rfl, ?_⟩) HS0.out ?_
              · (intro w' hSw; have z := Lib.cell_of_heap hSw.2 2; go_simp)
              simp only [Act.put, List.setIfInBounds_toArray, List.set_cons_zero, List.set_cons_succ]
              refine wpAnyH_take (i := 6) (oi := { dst := some 100, op := Op.move (Operand.tmp 5), type := 45, pos := "graph.go:42", after := #[], guard := none }) (v := .pointer (some ⟨gb, 0, none⟩)) rfl (by kernel_rfl) (by kernel_rfl) (by kernel_rfl) (fun _ _ _ h => h) (Or.inl ⟨by rfl, ?_⟩) HS0.out ?_
              · (intro w' hSw; go_simp)
              simp only [Act.put, List.setIfInBounds_toArray, List.set_cons_zero, List.set_cons_succ]
              refine wpAnyH_take (i := 7) (oi := { dst := some 101, op := Op.nilCheck (Operand.tmp 100), type := 0, pos := "graph.go:42", after := #[{ on := 6, ground := Ground.data }], guard := none }) (v := .pointer (some ⟨gb, 0, none⟩)) rfl (by kernel_rfl) (by kernel_rfl) (by kernel_rfl) (fun _ _ _ h => h) (Or.inl ⟨by rfl, ?_⟩) HS0.out ?_
              · (intro w' hSw; go_simp)
              simp only [Act.put, List.setIfInBounds_toArray, List.set_cons_zero, List.set_cons_succ]
              refine wpAnyH_take (i := 8) (oi := { dst := some 102, op := Op.fieldAddr 65 (Operand.tmp 101) 2, type := 0, pos := "graph.go:42", after := #[{ on := 7, ground := Ground.data }], guard := none }) (v := .pointer (some ⟨gb, 2, none⟩)) rfl (by kernel_rfl) (by kernel_rfl) (by kernel_rfl) (fun _ _ _ h => h) (Or.inl ⟨by rfl, ?_⟩) HS0.out ?_
              · (intro w' hSw; go_simp)
              simp only [Act.put, List.setIfInBounds_toArray, List.set_cons_zero, List.set_cons_succ]
              refine wpAnyH_take (i := 9) (oi := { dst := some 103, op := Op.load 27 (Operand.tmp 102), type := 27, pos := "graph.go:42", after := #[{ on := 8, ground := Ground.data }], guard := none }) (v := .slice (some ⟨eb, 0, none⟩) n n) rfl (by kernel_rfl) (by kernel_rfl) (by kernel_rfl) (fun _ _ _ h => h) (Or.inl ⟨by rfl, ?_⟩) HS0.out ?_
              · (intro w' hSw; have z := Lib.cell_of_heap hSw.1 2; go_simp)
              simp only [Act.put, List.setIfInBounds_toArray, List.set_cons_zero, List.set_cons_succ]
              refine wpAnyH_take (i := 10) (oi := { dst := some 104, op := Op.fieldAddr 41 (Operand.tmp 8) 2, type := 0, pos := "graph.go:42", after := #[], guard := none }) (v := .pointer (some ⟨cb, 2, none⟩)) rfl (by kernel_rfl) (by kernel_rfl) (by kernel_rfl) (fun _ _ _ h => h) (Or.inl ⟨by rfl, ?_⟩) HS0.out ?_
              · (intro w' hSw; go_simp)
              simp only [Act.put, List.setIfInBounds_toArray, List.set_cons_zero, List.set_cons_succ]
              refine wpAnyH_take (i := 11) (oi := { dst := some 105, op := Op.load 3 (Operand.tmp 104), type := 3, pos := "graph.go:42", after := #[{ on := 10, ground := Ground.data }], guard := none }) (v := .int .i64 x.b) rfl (by kernel_rfl) (by kernel_rfl) (by kernel_rfl) (fun _ _ _ h => h) (Or.inl ⟨by rfl, ?_⟩) HS0.out ?_
              · (intro w' hSw; have z := Lib.cell_of_heap hSw.2 2; go_simp)
              simp only [Act.put, List.setIfInBounds_toArray, List.set_cons_zero, List.set_cons_succ]
              refine wpAnyH_take (i := 12) (oi := { dst := some 106, op := Op.indexAddr 27 (Operand.tmp 103) (Operand.tmp 105), type := 0, pos := "graph.go:42", after := #[{ on := 9, ground := Ground.data }, { on := 11, ground := Ground.data }], guard := none }) (v := .pointer (some ⟨eb, x.b.toNat, none⟩)) rfl (by kernel_rfl) (by kernel_rfl) (by kernel_rfl) (fun _ _ _ h => h) (Or.inl ⟨by rfl, ?_⟩) HS0.out ?_
              · (intro w' hSw; go_simp)
              simp only [Act.put, List.setIfInBounds_toArray, List.set_cons_zero, List.set_cons_succ]
              refine wpAnyH_take (i := 14) (oi := { dst := some 108, op := Op.move (Operand.tmp 7), type := 3, pos := "graph.go:42", after := #[], guard := none }) (v := .int .i64 (k : Int)) rfl (by kernel_rfl) (by kernel_rfl) (by kernel_rfl) (fun _ _ _ h => h) (Or.inl ⟨by rfl, ?_⟩) HS0.out ?_
              · (intro w' hSw; go_simp)
              simp only [Act.put, List.setIfInBounds_toArray, List.set_cons_zero, List.set_cons_succ]
              refine wpAnyH_ready (rs := [13, 15]) (by kernel_rfl) (by simp) (AllReadyH.cons (o := { dst := some 107, op := Op.load 23 (Operand.tmp 106), type := 23, pos := "graph.go:42", after := #[{ on := 12, ground := Ground.data }], guard := none }) rfl (fun K hK => ?_) (AllReadyH.cons (o := { dst := some 109, op := Op.buildSlice 23 1 #[(0, Operand.tmp 108)], type := 23, pos := "graph.go:42", after := #[{ on := 14, ground := Ground.data }], guard := none }) rfl (fun K hK => ?_) AllReadyH.nil))
              · have ca := HCA.out
                go_simp
                clear ca
                refine hK.out _ _ HS0.out (fun _ => ?_)
                clear hK K
                try simp only [Act.put, List.setIfInBounds_toArray, List.set_cons_zero, List.set_cons_succ]
                refine wpAnyH_ready (rs := [15]) (by kernel_rfl) (by simp) (AllReadyH.cons (o := { dst := some 109, op := Op.buildSlice 23 1 #[(0, Operand.tmp 108)], type := 23, pos := "graph.go:42", after := #[{ on := 14, ground := Ground.data }], guard := none }) rfl (fun K hK => ?_) AllReadyH.nil)
                go_simp
                refine hK.out _ _ HSA.out (fun _ => ?_)
                clear hK K
                try simp only [Act.put, List.setIfInBounds_toArray, List.set_cons_zero, List.set_cons_succ]
                refine wpAnyH_ready (rs := [16]) (by kernel_rfl) (by simp) (AllReadyH.cons (o := { dst := some 110, op := Op.call { callee := Callee.builtin Builtin.append, args := #[Operand.tmp 107, Operand.tmp 109], argTypes := #[23, 23] }, type := 23, pos := "graph.go:42", after := #[{ on := 13, ground := Ground.data }, { on := 15, ground := Ground.data }], guard := none }) rfl (fun K hK => ?_) AllReadyH.nil)
                refine step_append_lies _ (by rfl) _ _ 23 (by rfl) (w.heap.size + 5) 3 i0 _ 1 8 Tryd.underlying23 hi0 hz0 hz1 hz2 rfl (by decide) v0 xs.length (ints xs) (by rfl) HOA.out ⟨w6.heap.size, 0, none⟩ 1 1 [.int .i64 (k : Int)] (by rfl) (by rfl) (World.news_of_block (cs := #[.int .i64 (k : Int)]) (heap_alloc_new w6 _)) (by simp [Value.oneCell']) (by decide) hcap1 hcap2 (by simp; omega) (w6.heap.size + 1) (by simp) ?_
                intro g cap w4 hown hgr hsel hgl
                have hx4 : IOwn w4 (w.heap.size + 5) (.slice (some ⟨g, 0, none⟩) (xs.length + 1) cap) (xs ++ [k]) := by unfold IOwn; rw [List.length_append, ints_append]; exact hown
                have HST := Lib.hid (HST.out.step (hb := eb) (T := x.b.toNat) (i := n + x.b.toNat) HPL.out (.inr ⟨by omega, by omega, rfl, by omega⟩) (.slice (some ⟨g, 0, none⟩) (xs.length + 1) cap) (xs ++ [k]) (w2 := (w6.alloc (.cells #[.int .i64 (k : Int)] 3)).drew) (show w6.heap.size ≤ (w6.alloc (.cells #[.int .i64 (k : Int)] 3)).heap.size by simp) (fun b hb => show (w6.alloc (.cells #[.int .i64 (k : Int)] 3)).heap[b]? = _ from heap_alloc_old _ _ hb) hx4 (by rw [HV0.out]; exact hgr) (fun b e => by rw [HV0.out]; cases e; rcases hsel with h | h; exact .inl h; exact .inr (by rw [h]; simp)))
                have hsg : ∀ b, b < w6.heap.size → some b ≠ v0.ownBlock → w4.heap[b]? = w6.heap[b]? := fun b h1 h2 => (hgr.block b (by simp; omega) h2).trans (heap_alloc_old _ _ h1)
                have hS4 : (w4).heap[gb]? = some (.cells #[.slice (some ⟨ab, off, none⟩) l.length c, .slice (some ⟨mb, 0, none⟩) n n, .slice (some ⟨eb, 0, none⟩) n n, .int .i64 0, .slice (some ⟨rb, 0, none⟩) n n, .slice none 0 0] 65 (0, 0)) ∧ (w4).heap[cb]? = some (.cells #[.int .i64 x.kind, .int .i64 x.a, .int .i64 x.b, .int .i64 x.mark.kind, .int .i64 x.mark.len, .string x.mark.nm, .int .i64 x.lo, .int .i64 x.hi] 41 (0, 0)) := ⟨(hsg gb (by omega) (HVN.out gb (by omega))).trans HS0.out.1, (hsg cb hcw (HVC.out)).trans HS0.out.2⟩
                have hfz : w4.frozen? ⟨eb, x.b.toNat, none⟩ = false := by have h := (hsg eb (by omega) (HVN.out eb (by omega))).trans HHB.out; exact hfrz h _
                have hcz : ∃ u, w4.cell? ⟨eb, x.b.toNat, none⟩ = some u := ⟨_, (World.cell?_of_block (a := ⟨eb, x.b.toNat, none⟩) (hsg eb (by omega) (HVN.out eb (by omega)))).trans HCA.out⟩
                obtain ⟨u, hcz⟩ := hcz
                have HPB4 := Lib.hid (show w4.heap[pb]? = w6.heap[pb]? from hsg pb (by omega) (HVN.out pb (by omega)))
                have HB4 := Lib.hid (show Below w.heap.size w w4 from (HB6.out.alloc HB6.out.size (.cells #[.int .i64 (k : Int)] 3)).drew.grown hgr (by have := HB6.out.size; simp; omega) (fun b e => by have := HVL.out b e; omega))
                have HS4 := Lib.hid hS4
                have HZ4 := Lib.hid hgr.size
                clear hown hgr hsel hgl hx4 hS4 hsg
                refine hK.out _ _ HS4.out (fun _ => ?_)
                clear hK K
                try simp only [Act.put, List.setIfInBounds_toArray, List.set_cons_zero, List.set_cons_succ]
                refine wpAnyH_take (i := 17) (oi := { dst := some 111, op := Op.indexAddr 27 (Operand.tmp 97) (Operand.tmp 99), type := 0, pos := "graph.go:42", after := #[{ on := 3, ground := Ground.data }, { on := 5, ground := Ground.data }, { on := 0, ground := Ground.phase }, { on := 1, ground := Ground.phase }, { on := 2, ground := Ground.phase }, { on := 3, ground := Ground.phase }, { on := 4, ground := Ground.phase }, { on := 5, ground := Ground.phase }, { on := 6, ground := Ground.phase }, { on := 7, ground := Ground.phase }, { on := 8, ground := Ground.phase }, { on := 9, ground := Ground.phase }, { on := 10, ground := Ground.phase }, { on := 11, ground := Ground.phase }, { on := 12, ground := Ground.phase }, { on := 13, ground := Ground.phase }, { on := 14, ground := Ground.phase }, { on := 15, ground := Ground.phase }, { on := 16, ground := Ground.phase }], guard := none }) (v := .pointer (some ⟨eb, x.b.toNat, none⟩)) rfl (by kernel_rfl) (by kernel_rfl) (by kernel_rfl) (fun _ _ _ h => h) (Or.inl ⟨by rfl, ?_⟩) HS4.out ?_
                · (intro w' hSw; go_simp)
                simp only [Act.put, List.setIfInBounds_toArray, List.set_cons_zero, List.set_cons_succ]
                refine wpAnyH_ready (rs := [18]) (by kernel_rfl) (by simp) (AllReadyH.cons (o := { dst := none, op := Op.store 23 (Operand.tmp 111) (Operand.tmp 110), type := 0, pos := "graph.go:42", after := #[{ on := 17, ground := Ground.data }, { on := 16, ground := Ground.data }, { on := 16, ground := Ground.chain }, { on := 0, ground := Ground.phase }, { on := 1, ground := Ground.phase }, { on := 2, ground := Ground.phase }, { on := 3, ground := Ground.phase }, { on := 4, ground := Ground.phase }, { on := 5, ground := Ground.phase }, { on := 6, ground := Ground.phase }, { on := 7, ground := Ground.phase }, { on := 8, ground := Ground.phase }, { on := 9, ground := Ground.phase }, { on := 10, ground := Ground.phase }, { on := 11, ground := Ground.phase }, { on := 12, ground := Ground.phase }, { on := 13, ground := Ground.phase }, { on := 14, ground := Ground.phase }, { on := 15, ground := Ground.phase }, { on := 16, ground := Ground.phase }], guard := none }) rfl (fun K hK => ?_) AllReadyH.nil)
                go_simp
                refine hK.out _ _ ⟨(Below.heap_setCell _ _ _ _ (by simp; omega)).trans HS4.out.1, (Below.heap_setCell _ _ _ _ (by simp; omega)).trans HS4.out.2⟩ (fun _ => ?_)
                clear hK K
                try simp only [Act.put, List.setIfInBounds_toArray, List.set_cons_zero, List.set_cons_succ]
                refine wpAnyH_done (by kernel_rfl) ?_ _
                refine NoPanic.normal ?_
                have HC6 := Lib.hid (show (w4.setCell ⟨eb, x.b.toNat, none⟩ (.slice (some ⟨g, 0, none⟩) (xs.length + 1) cap)).heap[cb]? = some (.cells #[.int .i64 x.kind, .int .i64 x.a, .int .i64 x.b, .int .i64 x.mark.kind, .int .i64 x.mark.len, .string x.mark.nm, .int .i64 x.lo, .int .i64 x.hi] 41 (0, 0)) from (Below.heap_setCell _ _ _ _ (by simp; omega)).trans HS4.out.2)
                have HP6 := Lib.hid (show (w4.setCell ⟨eb, x.b.toNat, none⟩ (.slice (some ⟨g, 0, none⟩) (xs.length + 1) cap)).heap[pb]? = w6.heap[pb]? from (Below.heap_setCell _ _ _ _ (by simp; omega)).trans HPB4.out)
                have HB6 := Lib.hid (HB4.out.setCell (p := ⟨eb, x.b.toNat, none⟩) (by simp; omega) (.slice (some ⟨g, 0, none⟩) (xs.length + 1) cap))
                have HZ6 := Lib.hid (show w6.heap.size < (w4.setCell ⟨eb, x.b.toNat, none⟩ (.slice (some ⟨g, 0, none⟩) (xs.length + 1) cap)).heap.size by have := HZ4.out; simp at this ⊢; omega)
                generalize (w4.setCell ⟨eb, x.b.toNat, none⟩ (.slice (some ⟨g, 0, none⟩) (xs.length + 1) cap)) = w7 at *
                have HSAID2 := Lib.hid (HSAID.out.stays HP6.out)
                have HROW := Lib.hid (show upd L2 (n + x.b.toNat) (xs ++ [k]) = rowsL l n (k + 1) by rw [← HXS.out, ← HL2.out]; exact (rows_eq hlt HD.out HX.out k0 (by omega) (by omega)).symm)
                rw [HROW.out] at HST
                go_wp2_with (fail)
                exact ⟨⟨k + 1, by omega, by go_num, Lib.hid (HST.out.ng HSAID2.out), HB6⟩, by simp [intOf]; omega⟩
              · go_simp
                refine hK.out _ _ HSA.out (fun _ => ?_)
                clear hK K
                try simp only [Act.put, List.setIfInBounds_toArray, List.set_cons_zero, List.set_cons_succ]
                refine wpAnyH_ready (rs := [13]) (by kernel_rfl) (by simp) (AllReadyH.cons (o := { dst := some 107, op := Op.load 23 (Operand.tmp 106), type := 23, pos := "graph.go:42", after := #[{ on := 12, ground := Ground.data }], guard := none }) rfl (fun K hK => ?_) AllReadyH.nil)
                have ca := HCB.out
                go_simp
                clear ca
                refine hK.out _ _ HSA.out (fun _ => ?_)
                clear hK K
                try simp only [Act.put, List.setIfInBounds_toArray, List.set_cons_zero, List.set_cons_succ]
                refine wpAnyH_ready (rs := [16]) (by kernel_rfl) (by simp) (AllReadyH.cons (o := { dst := some 110, op := Op.call { callee := Callee.builtin Builtin.append, args := #[Operand.tmp 107, Operand.tmp 109], argTypes := #[23, 23] }, type := 23, pos := "graph.go:42", after := #[{ on := 13, ground := Ground.data }, { on := 15, ground := Ground.data }], guard := none }) rfl (fun K hK => ?_) AllReadyH.nil)
                refine step_append_lies _ (by rfl) _ _ 23 (by rfl) (w.heap.size + 5) 3 i0 _ 1 8 Tryd.underlying23 hi0 hz0 hz1 hz2 rfl (by decide) v0 xs.length (ints xs) (by rfl) HOA.out ⟨w6.heap.size, 0, none⟩ 1 1 [.int .i64 (k : Int)] (by rfl) (by rfl) (World.news_of_block (cs := #[.int .i64 (k : Int)]) (heap_alloc_new w6 _)) (by simp [Value.oneCell']) (by decide) hcap1 hcap2 (by simp; omega) (w6.heap.size + 1) (by simp) ?_
                intro g cap w4 hown hgr hsel hgl
                have hx4 : IOwn w4 (w.heap.size + 5) (.slice (some ⟨g, 0, none⟩) (xs.length + 1) cap) (xs ++ [k]) := by unfold IOwn; rw [List.length_append, ints_append]; exact hown
                have HST := Lib.hid (HST.out.step (hb := eb) (T := x.b.toNat) (i := n + x.b.toNat) HPL.out (.inr ⟨by omega, by omega, rfl, by omega⟩) (.slice (some ⟨g, 0, none⟩) (xs.length + 1) cap) (xs ++ [k]) (w2 := (w6.alloc (.cells #[.int .i64 (k : Int)] 3)).drew) (show w6.heap.size ≤ (w6.alloc (.cells #[.int .i64 (k : Int)] 3)).heap.size by simp) (fun b hb => show (w6.alloc (.cells #[.int .i64 (k : Int)] 3)).heap[b]? = _ from heap_alloc_old _ _ hb) hx4 (by rw [HV0.out]; exact hgr) (fun b e => by rw [HV0.out]; cases e; rcases hsel with h | h; exact .inl h; exact .inr (by rw [h]; simp)))
                have hsg : ∀ b, b < w6.heap.size → some b ≠ v0.ownBlock → w4.heap[b]? = w6.heap[b]? := fun b h1 h2 => (hgr.block b (by simp; omega) h2).trans (heap_alloc_old _ _ h1)
                have hS4 : (w4).heap[gb]? = some (.cells #[.slice (some ⟨ab, off, none⟩) l.length c, .slice (some ⟨mb, 0, none⟩) n n, .slice (some ⟨eb, 0, none⟩) n n, .int .i64 0, .slice (some ⟨rb, 0, none⟩) n n, .slice none 0 0] 65 (0, 0)) ∧ (w4).heap[cb]? = some (.cells #[.int .i64 x.kind, .int .i64 x.a, .int .i64 x.b, .int .i64 x.mark.kind, .int .i64 x.mark.len, .string x.mark.nm, .int .i64 x.lo, .int .i64 x.hi] 41 (0, 0)) := ⟨(hsg gb (by omega) (HVN.out gb (by omega))).trans HS0.out.1, (hsg cb hcw (HVC.out)).trans HS0.out.2⟩
                have hfz : w4.frozen? ⟨eb, x.b.toNat, none⟩ = false := by have h := (hsg eb (by omega) (HVN.out eb (by omega))).trans HHB.out; exact hfrz h _
                have hcz : ∃ u, w4.cell? ⟨eb, x.b.toNat, none⟩ = some u := ⟨_, (World.cell?_of_block (a := ⟨eb, x.b.toNat, none⟩) (hsg eb (by omega) (HVN.out eb (by omega)))).trans HCA.out⟩
                obtain ⟨u, hcz⟩ := hcz
                have HPB4 := Lib.hid (show w4.heap[pb]? = w6.heap[pb]? from hsg pb (by omega) (HVN.out pb (by omega)))
                have HB4 := Lib.hid (show Below w.heap.size w w4 from (HB6.out.alloc HB6.out.size (.cells #[.int .i64 (k : Int)] 3)).drew.grown hgr (by have := HB6.out.size; simp; omega) (fun b e => by have := HVL.out b e; omega))
                have HS4 := Lib.hid hS4
                have HZ4 := Lib.hid hgr.size
                clear hown hgr hsel hgl hx4 hS4 hsg
                refine hK.out _ _ HS4.out (fun _ => ?_)
                clear hK K
                try simp only [Act.put, List.setIfInBounds_toArray, List.set_cons_zero, List.set_cons_succ]
                refine wpAnyH_take (i := 17) (oi := { dst := some 111, op := Op.indexAddr 27 (Operand.tmp 97) (Operand.tmp 99), type := 0, pos := "graph.go:42", after := #[{ on := 3, ground := Ground.data }, { on := 5, ground := Ground.data }, { on := 0, ground := Ground.phase }, { on := 1, ground := Ground.phase }, { on := 2, ground := Ground.phase }, { on := 3, ground := Ground.phase }, { on := 4, ground := Ground.phase }, { on := 5, ground := Ground.phase }, { on := 6, ground := Ground.phase }, { on := 7, ground := Ground.phase }, { on := 8, ground := Ground.phase }, { on := 9, ground := Ground.phase }, { on := 10, ground := Ground.phase }, { on := 11, ground := Ground.phase }, { on := 12, ground := Ground.phase }, { on := 13, ground := Ground.phase }, { on := 14, ground := Ground.phase }, { on := 15, ground := Ground.phase }, { on := 16, ground := Ground.phase }], guard := none }) (v := .pointer (some ⟨eb, x.b.toNat, none⟩)) rfl (by kernel_rfl) (by kernel_rfl) (by kernel_rfl) (fun _ _ _ h => h) (Or.inl ⟨by rfl, ?_⟩) HS4.out ?_
                · (intro w' hSw; go_simp)
                simp only [Act.put, List.setIfInBounds_toArray, List.set_cons_zero, List.set_cons_succ]
                refine wpAnyH_ready (rs := [18]) (by kernel_rfl) (by simp) (AllReadyH.cons (o := { dst := none, op := Op.store 23 (Operand.tmp 111) (Operand.tmp 110), type := 0, pos := "graph.go:42", after := #[{ on := 17, ground := Ground.data }, { on := 16, ground := Ground.data }, { on := 16, ground := Ground.chain }, { on := 0, ground := Ground.phase }, { on := 1, ground := Ground.phase }, { on := 2, ground := Ground.phase }, { on := 3, ground := Ground.phase }, { on := 4, ground := Ground.phase }, { on := 5, ground := Ground.phase }, { on := 6, ground := Ground.phase }, { on := 7, ground := Ground.phase }, { on := 8, ground := Ground.phase }, { on := 9, ground := Ground.phase }, { on := 10, ground := Ground.phase }, { on := 11, ground := Ground.phase }, { on := 12, ground := Ground.phase }, { on := 13, ground := Ground.phase }, { on := 14, ground := Ground.phase }, { on := 15, ground := Ground.phase }, { on := 16, ground := Ground.phase }], guard := none }) rfl (fun K hK => ?_) AllReadyH.nil)
                go_simp
                refine hK.out _ _ ⟨(Below.heap_setCell _ _ _ _ (by simp; omega)).trans HS4.out.1, (Below.heap_setCell _ _ _ _ (by simp; omega)).trans HS4.out.2⟩ (fun _ => ?_)
                clear hK K
                try simp only [Act.put, List.setIfInBounds_toArray, List.set_cons_zero, List.set_cons_succ]
                refine wpAnyH_done (by kernel_rfl) ?_ _
                refine NoPanic.normal ?_
                have HC6 := Lib.hid (show (w4.setCell ⟨eb, x.b.toNat, none⟩ (.slice (some ⟨g, 0, none⟩) (xs.length + 1) cap)).heap[cb]? = some (.cells #[.int .i64 x.kind, .int .i64 x.a, .int .i64 x.b, .int .i64 x.mark.kind, .int .i64 x.mark.len, .string x.mark.nm, .int .i64 x.lo, .int .i64 x.hi] 41 (0, 0)) from (Below.heap_setCell _ _ _ _ (by simp; omega)).trans HS4.out.2)
                have HP6 := Lib.hid (show (w4.setCell ⟨eb, x.b.toNat, none⟩ (.slice (some ⟨g, 0, none⟩) (xs.length + 1) cap)).heap[pb]? = w6.heap[pb]? from (Below.heap_setCell _ _ _ _ (by simp; omega)).trans HPB4.out)
                have HB6 := Lib.hid (HB4.out.setCell (p := ⟨eb, x.b.toNat, none⟩) (by simp; omega) (.slice (some ⟨g, 0, none⟩) (xs.length + 1) cap))
                have HZ6 := Lib.hid (show w6.heap.size < (w4.setCell ⟨eb, x.b.toNat, none⟩ (.slice (some ⟨g, 0, none⟩) (xs.length + 1) cap)).heap.size by have := HZ4.out; simp at this ⊢; omega)
                generalize (w4.setCell ⟨eb, x.b.toNat, none⟩ (.slice (some ⟨g, 0, none⟩) (xs.length + 1) cap)) = w7 at *
                have HSAID2 := Lib.hid (HSAID.out.stays HP6.out)
                have HROW := Lib.hid (show upd L2 (n + x.b.toNat) (xs ++ [k]) = rowsL l n (k + 1) by rw [← HXS.out, ← HL2.out]; exact (rows_eq hlt HD.out HX.out k0 (by omega) (by omega)).symm)
                rw [HROW.out] at HST
                go_wp2_with (fail)
                exact ⟨⟨k + 1, by omega, by go_num, Lib.hid (HST.out.ng HSAID2.out), HB6⟩, by simp [intOf]; omega⟩
      · obtain rfl : k = l.length := by omega
        obtain ⟨R, hnh⟩ := hng.out.nh
        have HNH := Lib.hid hnh
        clear hnh hng
        go_wp2_with (fail)
        go_ret
        exact ⟨mb, eb, rb, gb, pb, R, rfl, HPL.out, HNH.out, hbw.out⟩
end Go.Proofs.YtmamajillkajoaaDoor
