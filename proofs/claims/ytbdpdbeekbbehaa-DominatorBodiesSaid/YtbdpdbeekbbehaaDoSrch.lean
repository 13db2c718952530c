/- What is proved: search gives the points to which paths lead, each behind those that are found first on paths from it. -/
import Derived.Test.YtbdpdbeekbbehaaDoSearch
set_option linter.unusedVariables false
namespace Go.Proofs.Ytbdpdbeekbbehaa
open Go.RowKit Go.Shelf

theorem al5 (w : World) (o0 o1 o2 o3 o4 : Obj) {W : World} (h : W = ((((w.alloc o0).alloc o1).alloc o2).alloc o3).alloc o4) : W.heap[w.heap.size]? = some o0 ∧ W.heap[w.heap.size + 1]? = some o1 ∧ W.heap[w.heap.size + 2]? = some o2 ∧ W.heap[w.heap.size + 3]? = some o3 ∧ W.heap[w.heap.size + 4]? = some o4 ∧ W.heap.size = w.heap.size + 5 ∧ Below w.heap.size w W := by
  subst h
  have s1 : (w.alloc o0).heap.size = w.heap.size + 1 := by simp
  have s2 : ((w.alloc o0).alloc o1).heap.size = w.heap.size + 2 := by simp
  have s3 : (((w.alloc o0).alloc o1).alloc o2).heap.size = w.heap.size + 3 := by simp
  have s4 : ((((w.alloc o0).alloc o1).alloc o2).alloc o3).heap.size = w.heap.size + 4 := by simp
  have n0 := heap_alloc_new w o0
  have n1 := heap_alloc_new (w.alloc o0) o1
  have n2 := heap_alloc_new ((w.alloc o0).alloc o1) o2
  have n3 := heap_alloc_new (((w.alloc o0).alloc o1).alloc o2) o3
  have n4 := heap_alloc_new ((((w.alloc o0).alloc o1).alloc o2).alloc o3) o4
  rw [s1] at n1
  rw [s2] at n2
  rw [s3] at n3
  rw [s4] at n4
  refine ⟨?_, ?_, ?_, ?_, n4, by simp, (((((Below.refl _ _).alloc (Nat.le_refl _) _).alloc (by simp) _).alloc (by simp; omega) _).alloc (by simp; omega) _).alloc (by simp; omega) _⟩
  · exact (heap_alloc_old _ _ (by omega)).trans ((heap_alloc_old _ _ (by omega)).trans ((heap_alloc_old _ _ (by omega)).trans ((heap_alloc_old _ _ (by omega)).trans n0)))
  · exact (heap_alloc_old _ _ (by omega)).trans ((heap_alloc_old _ _ (by omega)).trans ((heap_alloc_old _ _ (by omega)).trans n1))
  · exact (heap_alloc_old _ _ (by omega)).trans ((heap_alloc_old _ _ (by omega)).trans n2)
  · exact (heap_alloc_old _ _ (by omega)).trans n3
/-- what a search gives -/
def SrRes (E : Nat → List Nat) (n : Nat) (fr : List Nat) (w : World) (e : Ending) (W' : World) : Prop :=
  ∃ X cX L sn', e = .returned (.slice X L.length cX) ∧ ZOwn W' w.heap.size (.slice X L.length cX) (zl L) ∧ Vis E n (fun _ => false) fr L sn' ∧ Below w.heap.size w W'
set_option maxRecDepth 100000 in
set_option maxHeartbeats 2000000 in
theorem search_any {E : Nat → List Nat} {n g : Nat} {caps : Array Value} (w : World) (hG : Gr E n) (hX : NxOk E n g caps w) (eK : ∀ args w, (callFunc g args).run Try.prog w = .ok (.enter g args) w) (A : Option Addr) (c : Nat) (fr : List Nat) (hl : NRow w.heap.size w A fr) (hli : ∀ x ∈ fr, x < n) (hll : fr.length ≤ 1000000) :
    Calls Try.prog 53 #[.int .i64 (n : Int), .slice A fr.length c, .func (.func g) #[] caps] w (SrRes E n fr w) := by
  have HV := Lib.hid (fun N W hs => visit_any (N := N) hG hX eK (uns n fun _ => false) (fun _ => false) [] W A c fr (Nat.le_refl _) List.nodup_nil (by simp) hs hl hli hll)
  have hmk := do_make_bl n hG.le
  clear hG hX hl hli hll
  go_enter Try.func53, Try.ntmps53
  go_wp2_with (fail)
  have hi : ∀ W, W = _ → Srt n g caps w w.heap.size (fun _ => false) [] W := fun W hW => by
    obtain ⟨h0, h1, h2, h3, h4, h5, h6⟩ := al5 w (.cells #[.func (.func g) #[] caps] 55) (.cells #[.slice none 0 0] 29) (.cells (hdr (fun _ => .bool false) n) 4) (.cells #[.slice (some ⟨w.heap.size + 2, 0, none⟩) n n] 62) (.cells #[visV w.heap.size] 68) hW
    exact ⟨h0, ⟨_, h2, by simp [hdr], fun v hv => by simp [hdr, hv]⟩, h3, h4, ⟨none, 0, h1, World.ownsRow_nil _ _ _ _⟩, h6, rfl, by omega⟩
  refine (HV.out w.heap.size _ (hi _ rfl)).mono ?_
  rintro e W1 ⟨rfl, L, sn', hv, hs⟩
  rw [List.nil_append] at hs
  obtain ⟨X, c', hb, ho⟩ := hs.fd
  have b0 := hb.cell
  have HH := Lib.hid (show SrRes E n fr w (.returned (.slice X L.length c')) W1 from ⟨X, c', L, sn', rfl, own_down ho (by omega), hv, hs.below⟩)
  clear hi hv hs hb ho
  go_wp2_with (fail)
  go_ret
  exact HH.out
end Go.Proofs.Ytbdpdbeekbbehaa
