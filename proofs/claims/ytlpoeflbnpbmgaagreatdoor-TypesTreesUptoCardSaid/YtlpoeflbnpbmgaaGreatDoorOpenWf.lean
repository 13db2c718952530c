/- What is proved: a node that the law's argument holds is a tree in memory, and its numbers are the machine's. -/
import Derived.Test.YtlpoeflbnpbmgaaGreatDoorOpenNode
set_option linter.unusedVariables false
namespace Go.Proofs.YtlpoeflbnpbmgaaGreatDoor
open Go.RowKit Go.Joins Go.ChangeShapes Go.WideShapes Go.Deep

/-- the numbers of a node are the machine's -/
def Wf3 (x : NT) : Prop := (Lit.int .i64 x.kind).wf = true ∧ (Lit.int .i64 x.lo).wf = true ∧ (Lit.int .i64 x.hi).wf = true
theorem wf3_list : ∀ (l : List NT), (∀ k ∈ l, ∀ x ∈ NT.nds k, Wf3 x) → ∀ x ∈ NT.ndss l, Wf3 x
  | [], _, x, hx => by simp [NT.ndss] at hx
  | k :: l, h, x, hx => by
    simp only [NT.ndss, List.mem_append] at hx
    rcases hx with hx | hx
    · exact h k (by simp) x hx
    · exact wf3_list l (fun k hk => h k (by simp [hk])) x hx
theorem wf3_node {k : Int} {t : ByteArray} {lo hi : Int} {A : Option Addr} {c : Nat} {l : List NT} (h : ∀ k ∈ l, ∀ x ∈ NT.nds k, Wf3 x) (h0 : (Lit.int .i64 k).wf = true ∧ (Lit.int .i64 lo).wf = true ∧ (Lit.int .i64 hi).wf = true) : ∀ x ∈ NT.nds (.mk k t lo hi A c l), Wf3 x := fun x hx => by
  rw [NT.nds_eq] at hx
  rcases List.mem_cons.1 hx with rfl | hx
  · exact h0
  · exact wf3_list l h x hx

/-- a list of nodes in memory, under a bound of its bulk -/
theorem open_kids_wf {H : Type} {enc : TypeId × Value → H} {W : World} : ∀ (b : Nat) (fuel : Nat) (v : Value) (x : DataW H × List MemPlace), Rows.uptoBulk x.1 ≤ b → DataW.trod enc Tryz.prog W 0 (fun _ => true) true fuel 22 [v] = some x →
    ∃ (A : Option Addr) (c : Nat) (l : List NT), v = .slice A l.length c ∧ Row W.heap.size W A l ∧ (∀ k ∈ l, InT W.heap.size W k) ∧ (∀ k ∈ l, ∀ x ∈ NT.nds k, Wf3 x) ∧ NT.cnts l + 1 ≤ Rows.uptoBulk x.1 ∧ l.length ≤ c := by
  intro b
  induction b with
  | zero => intro fuel v x hx; have := bulk_one x.1; omega
  | succ b ih =>
    intro fuel v x hb h
    obtain ⟨fs, hfs, hsz, t0, t1, t2, t3, t4, hone⟩ := nodeFields
    rcases slice_fields Tryz.underlying22 hfs hone (by rw [nodeCells, hsz]) h with ⟨hcs, hx⟩ | ⟨a, len, cap, m, D, Pl, hcs, hl, hm, hmm, hx, hi⟩
    · simp only [List.cons.injEq, and_true] at hcs
      subst hcs
      exact ⟨none, 0, [], rfl, fun h0 => absurd h0 (by simp), by simp, by simp, by have := bulk_one x.1; simp [NT.cnts]; omega, Nat.le_refl _⟩
    · simp only [List.cons.injEq, and_true] at hcs
      subst hcs
      have hle : len ≤ m := by rw [hmm]; simp; exact hl
      have hbs := bulk_slice ((List.range len).map D) ((List.range (m - len)).map fun j => D (len + j))
      rw [← hx] at hbs
      have hcell : ∀ i, i < len → ∃ n : NT, W.cell? (a.add (i * 5)) = some (.int .i64 n.kind) ∧ W.cell? (a.add (i * 5 + 1)) = some (.string n.text) ∧ W.cell? (a.add (i * 5 + 2)) = some (.int .i64 n.lo) ∧ W.cell? (a.add (i * 5 + 3)) = some (.int .i64 n.hi) ∧ W.cell? (a.add (i * 5 + 4)) = some (.slice n.A n.kids.length n.c) ∧ InT W.heap.size W n ∧ (∀ x ∈ NT.nds n, Wf3 x) ∧ NT.cnt n ≤ Rows.uptoBulk (D i) := by
        intro i hil
        obtain ⟨ys, n, hD, hys, hj⟩ := hi i (by omega)
        rw [hsz] at hj hys
        obtain ⟨f0, e0, q0⟩ := Option.map_eq_some_iff.1 t0
        obtain ⟨f1, e1, q1⟩ := Option.map_eq_some_iff.1 t1
        obtain ⟨f2, e2, q2⟩ := Option.map_eq_some_iff.1 t2
        obtain ⟨f3, e3, q3⟩ := Option.map_eq_some_iff.1 t3
        obtain ⟨f4, e4, q4⟩ := Option.map_eq_some_iff.1 t4
        obtain ⟨v0, y0, c0, z0, g0⟩ := hj 0 f0 e0
        obtain ⟨v1, y1, c1, z1, g1⟩ := hj 1 f1 e1
        obtain ⟨v2, y2, c2, z2, g2⟩ := hj 2 f2 e2
        obtain ⟨v3, y3, c3, z3, g3⟩ := hj 3 f3 e3
        obtain ⟨v4, y4, c4, z4, g4⟩ := hj 4 f4 e4
        rw [q0] at g0
        rw [q1] at g1
        rw [q2] at g2
        rw [q3] at g3
        rw [q4] at g4
        obtain ⟨n0, k0, _, u0⟩ := DataW.trod_int Tryz.underlying3 g0
        obtain ⟨n1, k1, _, _⟩ := DataW.trod_string Tryz.underlying9 g1
        obtain ⟨n2, k2, _, u2⟩ := DataW.trod_int Tryz.underlying3 g2
        obtain ⟨n3, k3, _, u3⟩ := DataW.trod_int Tryz.underlying3 g3
        simp only [List.cons.injEq, and_true] at k0 k1 k2 k3
        subst k0
        subst k1
        subst k2
        subst k3
        match ys, hys with
        | [w0, w1, w2, w3, w4], _ =>
          simp only [List.getElem?_cons_succ, List.getElem?_cons_zero, Option.some.injEq] at z4
          subst z4
          have ha := bulk_agg5 w0.1 w1.1 w2.1 w3.1 w4.1
          have hD' : D i = .agg [w0.1, w1.1, w2.1, w3.1, w4.1] := by rw [hD]; rfl
          rw [← hD'] at ha
          have hp := bulk_part (show D i ∈ (List.range len).map D from List.mem_map.2 ⟨i, List.mem_range.2 hil, rfl⟩)
          obtain ⟨A, c, l, rfl, hrow, hin, hwf, hcn, hcap⟩ := ih n v4 w4 (by omega) g4
          exact ⟨.mk n0 n1 n2 n3 A c l, by simpa [NT.kind] using c0, c1, c2, c3, c4, (inT_iff _).2 ⟨hrow, hcap, hin⟩, wf3_node hwf ⟨u0, u2, u3⟩, by rw [NT.cnt_eq]; simp only [NT.kids]; omega⟩
      let F : Nat → NT := fun i => if h : i < len then Classical.choose (hcell i h) else .mk 0 ⟨#[]⟩ 0 0 none 0 []
      have hF : ∀ i, i < len → W.cell? (a.add (i * 5)) = some (.int .i64 (F i).kind) ∧ W.cell? (a.add (i * 5 + 1)) = some (.string (F i).text) ∧ W.cell? (a.add (i * 5 + 2)) = some (.int .i64 (F i).lo) ∧ W.cell? (a.add (i * 5 + 3)) = some (.int .i64 (F i).hi) ∧ W.cell? (a.add (i * 5 + 4)) = some (.slice (F i).A (F i).kids.length (F i).c) ∧ InT W.heap.size W (F i) ∧ (∀ x ∈ NT.nds (F i), Wf3 x) ∧ NT.cnt (F i) ≤ Rows.uptoBulk (D i) := by
        intro i hil
        have h := Classical.choose_spec (hcell i hil)
        have e : F i = Classical.choose (hcell i hil) := dif_pos hil
        rw [e]
        exact h
      have hln : ((List.range len).map F).length = len := by simp
      have hcn := cnts_bulk F D (List.range len) (fun i hi => (hF i (List.mem_range.1 hi)).2.2.2.2.2.2.2)
      refine ⟨some a, cap, (List.range len).map F, by rw [hln], fun h0 => ?_, fun k hk => ?_, fun k hk => ?_, by omega, by rw [hln]; exact hl⟩
      · rw [hln] at h0
        obtain ⟨bk, off, spot⟩ := a
        have hspot : spot = none := by simpa [Addr.add] using World.cell?_spot (hF 0 h0).1
        subst hspot
        have hbk : bk < W.heap.size := World.block_lt_of_cell? W _ (by simpa [Addr.add] using (hF 0 h0).1)
        refine ⟨bk, off, rfl, hbk, fun i hil => ?_⟩
        have hil' : i < len := by rw [hln] at hil; exact hil
        obtain ⟨h1, h2, h3, h4, h5, _, _, _⟩ := hF i hil'
        rw [Go.WideShapes.add_plain] at h1 h2 h3 h4 h5
        simp only [List.getElem_map, List.getElem_range]
        exact ⟨h1, h2, h3, h4, h5⟩
      · obtain ⟨i, hi, rfl⟩ := List.mem_map.1 hk
        exact (hF i (List.mem_range.1 hi)).2.2.2.2.2.1
      · obtain ⟨i, hi, rfl⟩ := List.mem_map.1 hk
        exact (hF i (List.mem_range.1 hi)).2.2.2.2.2.2.1

set_option maxRecDepth 100000 in
theorem open_nodes_wf {H : Type} {enc : TypeId × Value → H} {W : World} {base : Nat} {v : Value} {d : DataW H} {p : List MemPlace}
    (hv : Value.okWide Tryz.prog W .any base 22 v) (h : DataW.Trod enc Tryz.prog W 0 (fun _ => true) true 22 v d p) :
    ∃ (A : Option Addr) (c : Nat) (l : List NT), v = .slice A l.length c ∧ Row W.heap.size W A l ∧ (∀ k ∈ l, InT W.heap.size W k) ∧ (∀ k ∈ l, ∀ x ∈ NT.nds k, Wf3 x) ∧ NT.cnts l + 1 ≤ Rows.uptoBulk d ∧ l.length ≤ c := by
  obtain ⟨a, len, cap, rfl⟩ := okWide_slice Tryz.underlying22 hv
  obtain ⟨fuel, hf⟩ := h
  exact open_kids_wf _ fuel _ (d, p) (Nat.le_refl _) hf

set_option maxRecDepth 100000 in
theorem open_node_wf {H : Type} {enc : TypeId × Value → H} {W : World} {base : Nat} {v : Value} {d : DataW H} {p : List MemPlace}
    (hv : Value.okWide Tryz.prog W .any base 24 v) (h : DataW.Trod enc Tryz.prog W 0 (fun _ => true) true 24 v d p) :
    ∃ n : NT, v = .agg #[.int .i64 n.kind, .string n.text, .int .i64 n.lo, .int .i64 n.hi, .slice n.A n.kids.length n.c] ∧ InT W.heap.size W n ∧ NT.cnt n ≤ Rows.uptoBulk d ∧ (∀ x ∈ NT.nds n, Wf3 x) := by
  obtain ⟨fs, hfs, hsz, t0, t1, t2, t3, t4, hone⟩ := nodeFields
  obtain ⟨cs, rfl, hcsz⟩ := okWide_struct hfs hv
  obtain ⟨l⟩ := cs
  obtain ⟨fuel, hf⟩ := h
  obtain ⟨xs, n, _, hx, _, hlen, hg⟩ := DataW.trod_struct hfs hf
  rw [hsz] at hlen
  obtain ⟨f0, e0, q0⟩ := Option.map_eq_some_iff.1 t0
  obtain ⟨f1, e1, q1⟩ := Option.map_eq_some_iff.1 t1
  obtain ⟨f2, e2, q2⟩ := Option.map_eq_some_iff.1 t2
  obtain ⟨f3, e3, q3⟩ := Option.map_eq_some_iff.1 t3
  obtain ⟨f4, e4, q4⟩ := Option.map_eq_some_iff.1 t4
  obtain ⟨o0, k0⟩ := hone_of hone 0 f0 e0
  obtain ⟨o1, k1⟩ := hone_of hone 1 f1 e1
  obtain ⟨o2, k2⟩ := hone_of hone 2 f2 e2
  obtain ⟨o3, k3⟩ := hone_of hone 3 f3 e3
  obtain ⟨o4, k4⟩ := hone_of hone 4 f4 e4
  have g0 := hg 0 f0 e0
  have g1 := hg 1 f1 e1
  have g2 := hg 2 f2 e2
  have g3 := hg 3 f3 e3
  have g4 := hg 4 f4 e4
  rw [o0, k0, q0] at g0
  rw [o1, k1, q1] at g1
  rw [o2, k2, q2] at g2
  rw [o3, k3, q3] at g3
  rw [o4, k4, q4] at g4
  match l, hcsz.trans nodeCells, xs, hlen with
  | [c0, c1, c2, c3, c4], _, [y0, y1, y2, y3, y4], _ =>
    simp only [Prod.mk.injEq] at hx
    simp [Value.cells] at g0 g1 g2 g3 g4
    obtain ⟨n0, m0, _, u0⟩ := DataW.trod_int Tryz.underlying3 g0
    obtain ⟨n1, m1, _, _⟩ := DataW.trod_string Tryz.underlying9 g1
    obtain ⟨n2, m2, _, u2⟩ := DataW.trod_int Tryz.underlying3 g2
    obtain ⟨n3, m3, _, u3⟩ := DataW.trod_int Tryz.underlying3 g3
    simp only [List.cons.injEq, and_true] at m0 m1 m2 m3
    subst m0
    subst m1
    subst m2
    subst m3
    obtain ⟨A, c, l, rfl, hrow, hin, hwf, hcn, hcap⟩ := open_kids_wf _ n c4 y4 (Nat.le_refl _) g4
    have ha := bulk_agg5 y0.1 y1.1 y2.1 y3.1 y4.1
    have hd : d = .agg [y0.1, y1.1, y2.1, y3.1, y4.1] := by rw [hx.1]; rfl
    rw [← hd] at ha
    exact ⟨.mk n0 n1 n2 n3 A c l, rfl, (inT_iff _).2 ⟨hrow, hcap, hin⟩, by rw [NT.cnt_eq]; simp only [NT.kids]; omega, wf3_node hwf ⟨u0, u2, u3⟩⟩
end Go.Proofs.YtlpoeflbnpbmgaaGreatDoor
