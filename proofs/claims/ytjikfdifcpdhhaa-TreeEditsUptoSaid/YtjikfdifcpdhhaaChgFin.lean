/- What is proved: pieces of what change of the reference returns: the memory behind its last store. -/
import Derived.Test.YtjikfdifcpdhhaaChgBase
set_option linter.unusedVariables false
namespace Go.Proofs.Ytjikfdifcpdhhaa
open Go.RowKit

theorem chg_mem {B0 : Nat} {w w2 w3 : World} {g off j : Nat} {m0 m : NT} (hB0 : B0 ≤ w.heap.size) (hb2 : Below w.heap.size w w2) (hb3 : Below w2.heap.size w2 w3) (hbox : NBox w2 w.heap.size m0) (hzero : NBox w2 (w.heap.size + 1) zeroN)
    (hg1 : w.heap.size + 2 ≤ g) (hg2 : g < w2.heap.size) (hA : m0.A = some ⟨g, off, none⟩) (hcap : m0.kids.length ≤ m0.c) (hcs : ∀ (i : Nat) (hi : i < m0.kids.length), Cells5 w2 g (off + i * 5) m0.kids[i])
    (hav : ∀ y ∈ m0.kids, InS (fun b => (w.heap.size + 2 ≤ b ∧ b < w2.heap.size) ∧ b ≠ g) w2 y) (hmi : InS (fun b => (b < B0 ∨ w2.heap.size ≤ b) ∧ b < w3.heap.size) w3 m) (hj : j < m0.kids.length) :
    NBox (putO w3 g (off + j * 5) m) w.heap.size m0 ∧ NBox (putO w3 g (off + j * 5) m) (w.heap.size + 1) zeroN ∧
    NBox (putv (putO w3 g (off + j * 5) m) (w.heap.size + 1) (.int .i64 m0.kind) (.string m0.text) (.int .i64 m0.lo) (.int .i64 m0.hi) (.slice m0.A m0.kids.length m0.c)) (w.heap.size + 1) (.mk m0.kind m0.text m0.lo m0.hi m0.A m0.c m0.kids) ∧
    InS (fun b => (b < B0 ∨ w.heap.size ≤ b) ∧ b < (putv (putO w3 g (off + j * 5) m) (w.heap.size + 1) (.int .i64 m0.kind) (.string m0.text) (.int .i64 m0.lo) (.int .i64 m0.hi) (.slice m0.A m0.kids.length m0.c)).heap.size) (putv (putO w3 g (off + j * 5) m) (w.heap.size + 1) (.int .i64 m0.kind) (.string m0.text) (.int .i64 m0.lo) (.int .i64 m0.hi) (.slice m0.A m0.kids.length m0.c)) (.mk m0.kind m0.text m0.lo m0.hi m0.A m0.c (m0.kids.set j m)) ∧
    Below w.heap.size w (putv (putO w3 g (off + j * 5) m) (w.heap.size + 1) (.int .i64 m0.kind) (.string m0.text) (.int .i64 m0.lo) (.int .i64 m0.hi) (.slice m0.A m0.kids.length m0.c)) := by
  have hs2 := hb2.size
  have hs3 := hb3.size
  have hso : (putO w3 g (off + j * 5) m).heap.size = w3.heap.size := putO_size _ _ _ _
  have h1 : NBox (putO w3 g (off + j * 5) m) w.heap.size m0 := (putO_block w3 m (by omega)).trans ((hb3.block _ (by omega)).trans hbox)
  have h2 : NBox (putO w3 g (off + j * 5) m) (w.heap.size + 1) zeroN := (putO_block w3 m (by omega)).trans ((hb3.block _ (by omega)).trans hzero)
  have h3 := NBox.putv h2 m0.kind m0.text m0.lo m0.hi m0.A m0.c m0.kids
  have hpk := put_kids (S := fun b => ((b < B0 ∨ w.heap.size ≤ b) ∧ b < w3.heap.size) ∧ b ≠ g ∧ b ≠ w.heap.size + 1) (w3 := w3) (g := g) (off := off) (k := j) (l := m0.kids) (m := m) (fun i hi => (hcs i hi).below hb3 hg2) hj
    (fun x hx => InS.mono (fun b hb => ⟨⟨.inr (by have := hb.1.1; omega), by have := hb.1.2; omega⟩, hb.2, by have := hb.1.1; omega⟩) x (InS.keep (fun b hb => hb3.block b hb.1.2) x (hav x hx)))
    (InS.mono (fun b hb => ⟨⟨hb.1.imp id (fun h => by omega), hb.2⟩, by rcases hb.1 with h | h <;> omega, by rcases hb.1 with h | h <;> omega⟩) m hmi) (fun h => h.2.1 rfl)
  have hks : ∀ b, b ≠ w.heap.size + 1 → (putv (putO w3 g (off + j * 5) m) (w.heap.size + 1) (.int .i64 m0.kind) (.string m0.text) (.int .i64 m0.lo) (.int .i64 m0.hi) (.slice m0.A m0.kids.length m0.c)).heap[b]? = (putO w3 g (off + j * 5) m).heap[b]? := fun b hb => by
    have e : ∀ (X : World) (k o : Nat) (v : Value), b ≠ k → (X.setCell ⟨k, o, none⟩ v).heap[b]? = X.heap[b]? := fun X k o v hk => Below.heap_setCell X ⟨k, o, none⟩ v b (by show b ≠ k; omega)
    unfold putv
    rw [e _ _ _ _ hb, e _ _ _ _ hb, e _ _ _ _ hb, e _ _ _ _ hb, e _ _ _ _ hb]
  have hsz : (putv (putO w3 g (off + j * 5) m) (w.heap.size + 1) (.int .i64 m0.kind) (.string m0.text) (.int .i64 m0.lo) (.int .i64 m0.hi) (.slice m0.A m0.kids.length m0.c)).heap.size = w3.heap.size := by simp [World.setCell]
  refine ⟨h1, h2, h3, (inS_iff _).2 ⟨fun h0 => ⟨g, off, hA, ⟨.inr (by omega), by rw [hsz]; omega⟩, fun i hi => ?_⟩, by show (m0.kids.set j m).length ≤ m0.c; rw [List.length_set]; exact hcap, fun k hk => ?_⟩, putv_below (putO_below (hb2.trans (hb3.mono hs2)) (by omega) _ m) (by omega) _ _ _ _ _⟩
  · obtain ⟨c0, c1, c2, c3, c4⟩ := hpk.1 i hi
    have hk := hks g (by omega)
    exact ⟨(World.cell?_of_block (a := ⟨g, off + i * 5, none⟩) hk).trans c0, (World.cell?_of_block (a := ⟨g, off + i * 5 + 1, none⟩) hk).trans c1, (World.cell?_of_block (a := ⟨g, off + i * 5 + 2, none⟩) hk).trans c2, (World.cell?_of_block (a := ⟨g, off + i * 5 + 3, none⟩) hk).trans c3, (World.cell?_of_block (a := ⟨g, off + i * 5 + 4, none⟩) hk).trans c4⟩
  · exact InS.mono (fun b hb => ⟨hb.1.1, by rw [hsz]; exact hb.1.2⟩) k (InS.keep (fun b hb => hks b hb.2.2) k (hpk.2 k hk))
theorem chg_strip {F T j : Nat} {L : List NT} {p : List Int} {m0 m n x x' y : NT} (hst : NT.strip m0 = NT.strip n) (hj : j < n.kids.length) (hx : NT.strip x' = NT.strip x) (hy : NT.strip y = NT.strip n.kids[j])
    (hm : NT.strip m = NT.strip (NT.setK none 0 (x'.kids.take F ++ L ++ x'.kids.drop T) p y)) :
    NT.strip (.mk m0.kind m0.text m0.lo m0.hi m0.A m0.c (m0.kids.set j m)) = NT.strip (NT.setK none 0 (x.kids.take F ++ L ++ x.kids.drop T) ((j : Int) :: p) n) := by
  rw [NT.setK_yes (by omega) (by simpa using hj)]
  have e := (NT.strip_iff m0 n).1 hst
  have ex := ((NT.strip_iff x' x).1 hx).2.2.2.2
  refine (NT.strip_iff _ _).2 ⟨e.1, e.2.1, e.2.2.1, e.2.2.2.1, ?_⟩
  show (m0.kids.set j m).map NT.strip = (n.kids.set (j : Int).toNat (NT.setK none 0 (x.kids.take F ++ L ++ x.kids.drop T) p n.kids[(j : Int).toNat])).map NT.strip
  simp only [Int.toNat_natCast, List.map_set, e.2.2.2.2]
  rw [hm, NT.strip_setK none none 0 0 (l' := x'.kids.take F ++ L ++ x'.kids.drop T) (l'' := x.kids.take F ++ L ++ x.kids.drop T) (by rw [List.map_append, List.map_append, List.map_append, List.map_append, List.map_take, List.map_drop, ex, List.map_take, List.map_drop]) p y n.kids[j] hy]
end Go.Proofs.Ytjikfdifcpdhhaa
