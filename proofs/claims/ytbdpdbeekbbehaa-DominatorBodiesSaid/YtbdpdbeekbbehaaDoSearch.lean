/- What is proved: the search in depth over edges that a function gives. -/
import Derived.Test.YtbdpdbeekbbehaaDoBase
import Derived.Test.YtbdpdbeekbbehaaDoVis
set_option linter.unusedVariables false
namespace Go.Proofs.Ytbdpdbeekbbehaa
open Go.RowKit Go.Shelf

/-- a function that gives the edges of a point, and changes nothing -/
def NxOk (E : Nat → List Nat) (n g : Nat) (caps : Array Value) (w0 : World) : Prop :=
  ∀ (W : World) (p : Nat), Below w0.heap.size w0 W → p < n → Calls Try.prog g (#[.int .i64 (p : Int)] ++ caps) W fun e W' => ∃ A c, e = .returned (.slice A (E p).length c) ∧ NRow w0.heap.size w0 A (E p) ∧ (E p).length ≤ c ∧ ∃ q, W' = W.drewN q
/-- what the search says of the graph -/
structure Gr (E : Nat → List Nat) (n : Nat) : Prop where
  le : n ≤ 1000000
  lt : ∀ p, p < n → ∀ x ∈ E p, x < n
  few : ∀ p, p < n → (E p).length ≤ 1000000
abbrev visV (N : Nat) : Value := .func (.func 71) #[] #[.pointer (some ⟨N + 3, 0, none⟩), .pointer (some ⟨N + 4, 0, none⟩), .pointer (some ⟨N, 0, none⟩), .pointer (some ⟨N + 1, 0, none⟩)]
/-- a search under way -/
structure Srt (n g : Nat) (caps : Array Value) (w0 : World) (N : Nat) (sn : Nat → Bool) (F : List Nat) (W : World) : Prop where
  nb : Bx W N 55 (.func (.func g) #[] caps)
  sa : BArr W (N + 2) n sn
  sb : Bx W (N + 3) 62 (.slice (some ⟨N + 2, 0, none⟩) n n)
  vb : Bx W (N + 4) 68 (visV N)
  fd : ∃ X c, Bx W (N + 1) 29 (.slice X F.length c) ∧ ZOwn W (N + 5) (.slice X F.length c) (zl F)
  below : Below w0.heap.size w0 W
  hN : N = w0.heap.size
  size : N + 5 ≤ W.heap.size
theorem Srt.drew {n g : Nat} {caps : Array Value} {w0 : World} {N : Nat} {sn : Nat → Bool} {F : List Nat} {W : World} (h : Srt n g caps w0 N sn F W) (q : Nat) : Srt n g caps w0 N sn F (W.drewN q) := ⟨h.nb, h.sa, h.sb, h.vb, h.fd, below_drewN h.below q, h.hN, h.size⟩
theorem Srt.drew1 {n g : Nat} {caps : Array Value} {w0 : World} {N : Nat} {sn : Nat → Bool} {F : List Nat} {W : World} (h : Srt n g caps w0 N sn F W) : Srt n g caps w0 N sn F W.drew := ⟨h.nb, h.sa, h.sb, h.vb, h.fd, h.below.drew, h.hN, h.size⟩
theorem own_succ {w : World} {B n : Nat} {v : Value} {xs : List Value} (h : w.ownsRow B 3 1 v (n + 1) xs) : ∃ g c, v = .slice (some ⟨g, 0, none⟩) (n + 1) c := by
  obtain ⟨g, c, e, _⟩ := World.ownsRow.form h (by omega)
  exact ⟨g, c, e⟩
theorem Srt.mark {n g : Nat} {caps : Array Value} {w0 : World} {N : Nat} {sn : Nat → Bool} {F : List Nat} {W : World} (h : Srt n g caps w0 N sn F W) {x : Nat} (hx : x < n) : Srt n g caps w0 N (setS sn x) F (W.setCell ⟨N + 2, x, none⟩ (.bool true)) := by
  refine ⟨h.nb.other (by simp) _, h.sa.set hx, h.sb.other (by simp) _, h.vb.other (by simp) _, ?_, h.below.setCell (by have := h.hN; simp; omega) _, h.hN, by simpa [World.setCell] using h.size⟩
  obtain ⟨X, c, h1, h2⟩ := h.fd
  exact ⟨X, c, h1.other (by simp) _, own_stays h2 fun b e => hfar (by have := (own_block' h2 e).1; simp; omega) _⟩
/-- a point is found -/
theorem Srt.push {n g : Nat} {caps : Array Value} {w0 : World} {N : Nat} {sn : Nat → Bool} {F : List Nat} {W W' : World} {X : Option Addr} {c : Nat} {v' : Value} {p : Nat} (h : Srt n g caps w0 N sn F W) (hb : Bx W (N + 1) 29 (.slice X F.length c)) (ho : ZOwn W (N + 5) (.slice X F.length c) (zl F))
    (hgr : (W.alloc (.cells #[.int .i64 (p : Int)] 3)).grownBy W' (Value.slice X F.length c).ownBlock) (hown : W'.ownsRow (N + 5) 3 1 v' (F.length + 1) (zcells (zl F) ++ [.int .i64 (p : Int)])) :
    Bx W' (N + 1) 29 (.slice X F.length c) ∧ Srt n g caps w0 N sn (F ++ [p]) (W'.setCell ⟨N + 1, 0, none⟩ v') := by
  have hs := h.size
  have hz : (W.alloc (.cells #[.int .i64 (p : Int)] 3)).heap.size = W.heap.size + 1 := by simp
  have far : ∀ b, b < N + 5 → W'.heap[b]? = W.heap[b]? := fun b hlt => by
    refine (hgr.block b (by omega) (fun e => ?_)).trans (heap_alloc_old _ _ (by omega))
    have := (own_block' ho e.symm).1
    omega
  have hN := h.hN
  have hb1 : Bx W' (N + 1) 29 (.slice X F.length c) := (far _ (by omega)).trans hb
  have hb' : Below w0.heap.size w0 W' := (h.below.alloc (by omega) _).grown hgr (by omega) (fun b e => by have := (own_block' ho e).1; omega)
  have e1 : ZOwn W' (N + 5) v' (zl (F ++ [p])) := by
    unfold ZOwn
    rw [zl_append, zcells_append, List.length_append, zl_len]
    exact hown
  obtain ⟨X', c', hv, _, _⟩ := e1.form
  rw [zl_len] at hv
  subst hv
  refine ⟨hb1, ⟨(show Bx W' N _ _ from (far _ (by omega)).trans h.nb).other (by simp) _, (h.sa.eq (far _ (by omega))).other (by simp) _, (show Bx W' (N + 3) _ _ from (far _ (by omega)).trans h.sb).other (by simp) _, (show Bx W' (N + 4) _ _ from (far _ (by omega)).trans h.vb).other (by simp) _, ?_, hb'.setCell (by simp; omega) _, hN, ?_⟩⟩
  · exact ⟨X', c', hb1.set _, own_stays e1 fun b e => hfar (by have := (own_block' e1 e).1; simp; omega) _⟩
  · have := hgr.size
    simp [World.setCell]
    omega
theorem visit_enter : ∀ args w, (callFunc 71 args).run Try.prog w = .ok (.enter 71 args) w := enters_of Try.func71 (by kernel_rfl) rfl

/-- what a visit gives -/
def VisRes (E : Nat → List Nat) (n g : Nat) (caps : Array Value) (w0 : World) (N : Nat) (sn : Nat → Bool) (F l : List Nat) (W' : World) : Prop := ∃ L sn', Vis E n sn l L sn' ∧ Srt n g caps w0 N sn' (F ++ L) W'

set_option maxRecDepth 100000 in
set_option maxHeartbeats 2000000 in
theorem visit_any {E : Nat → List Nat} {n g : Nat} {caps : Array Value} {w0 : World} {N : Nat} (hG : Gr E n) (hX : NxOk E n g caps w0) (eK : ∀ args w, (callFunc g args).run Try.prog w = .ok (.enter g args) w) :
    ∀ (m : Nat) (sn : Nat → Bool) (F : List Nat) (W : World) (A : Option Addr) (c : Nat) (l : List Nat), uns n sn ≤ m → F.Nodup → (∀ x ∈ F, x < n ∧ sn x = true) → Srt n g caps w0 N sn F W → NRow w0.heap.size w0 A l → (∀ x ∈ l, x < n) → l.length ≤ 1000000 →
      Calls Try.prog 71 #[.slice A l.length c, .pointer (some ⟨N + 3, 0, none⟩), .pointer (some ⟨N + 4, 0, none⟩), .pointer (some ⟨N, 0, none⟩), .pointer (some ⟨N + 1, 0, none⟩)] W fun e W' => e = .returned (.tuple #[]) ∧ VisRes E n g caps w0 N sn F l W' := by
  intro m
  have HGr := Lib.hid hG
  have HNX := Lib.hid hX
  clear hG hX
  induction m using Nat.strongRecOn with
  | ind m ih =>
    intro sn F W A c l hm hF hFs hs hl hli hll
    have HIH := Lib.hid ih
    have HS := Lib.hid hs
    have HL := Lib.hid hl
    have HLI := Lib.hid hli
    have HM := Lib.hid hm
    have HF := Lib.hid hF
    have HFS := Lib.hid hFs
    have HGN := Lib.hid HGr.out.le
    clear ih hs hl hli hm hF hFs
    go_enter Try.func71, Try.ntmps71
    go_wp2_with (fail)
    go_loopw [10] (fun i wr => ∃ (k : Nat) (L : List Nat) (sn' : Nat → Bool), k ≤ l.length ∧ i = .int .i64 (k : Int) ∧ Hid (Vis E n sn (l.take k) L sn') ∧ Hid (Srt n g caps w0 N sn' (F ++ L) wr)) (fun i _ => l.length - (intOf i).toNat)
    case atStart => exact ⟨0, [], sn, Nat.zero_le _, rfl, Lib.hid (Vis.nil E n sn), Lib.hid (by rw [List.append_nil]; exact HS.out)⟩
    case round =>
      obtain ⟨k, L, sn', hk, rfl, hv, hsr⟩ := hrel
      by_cases hlt : k < l.length
      · obtain ⟨b, off, rfl, hb, hc⟩ := (HL.out.below hsr.out.below) (by omega)
        have r0 := hc k hlt
        have hxn := HLI.out _ (List.getElem_mem hlt)
        have HTK := Lib.hid (List.take_succ_eq_append_getElem hlt)
        obtain ⟨x, HX⟩ : ∃ x, Hid (l[k] = x) := ⟨_, Lib.hid rfl⟩
        rw [HX.out] at r0 hxn HTK
        have c1 := hsr.out.sb.cell
        have c2 := hsr.out.sa.cell hxn
        clear hc hb
        cases hsx : sn' x with
        | true =>
          rw [hsx] at c2
          have HV := Lib.hid (hv.out.skip hsx)
          rw [← HTK.out] at HV
          clear hsx
          go_wp2_with (fail)
          exact ⟨⟨k + 1, L, sn', by omega, by go_num, HV, hsr⟩, by simp [intOf]; omega⟩
        | false =>
          rw [hsx] at c2
          have HSX := Lib.hid hsx
          have z2 := hsr.out.sa.frz x
          clear hsx
          go_upto_region 5 with fail
          have HS1 := Lib.hid (hsr.out.mark hxn)
          generalize (wr.setCell ⟨N + 2, x, none⟩ (.bool true)) = w1 at *
          clear c1 c2 z2 r0
          have v0 := HS1.out.vb.cell
          have n0 := HS1.out.nb.cell
          have HB1 := Lib.hid HS1.out.below
          have HNC := Lib.hid (fun W (hb : Below w0.heap.size w0 W) => HNX.out W x hb hxn)
          have HND := Lib.hid (show (F ++ L).Nodup from List.nodup_append.2 ⟨HF.out, hv.out.nd, fun a ha b hb => by
            rintro rfl
            have h1 := (HFS.out a ha).2
            rw [(hv.out.new a hb).1] at h1
            cases h1⟩)
          have HFS2 := Lib.hid (show ∀ y ∈ F ++ L, y < n ∧ setS sn' x y = true from fun y hy => by
            unfold setS
            rcases List.mem_append.1 hy with hy | hy
            · refine ⟨(HFS.out y hy).1, ?_⟩
              split
              · rfl
              · rw [hv.out.seen, (HFS.out y hy).2]; rfl
            · refine ⟨(hv.out.new y hy).2.1, ?_⟩
              split
              · rfl
              · rw [hv.out.seen]; simp [hy])
          have HLT := Lib.hid (show uns n (setS sn' x) < m by have h1 := uns_set hxn HSX.out; have h2 := hv.out.uns; have h3 := HM.out; omega)
          have HLX := Lib.hid (HGr.out.lt x hxn)
          have HFX := Lib.hid (HGr.out.few x hxn)
          go_region_law (first | (go_simp; go_at_call 71; refine (HIH.out (uns n (setS sn' x)) HLT.out (setS sn' x) (F ++ L) w2 A2 c2 (E x) (Nat.le_refl _) HND.out HFS2.out HS2.out HR2.out HLX.out HFX.out).mono ?_; rintro e w3 ⟨rfl, L2, sn2, hv2, hs3⟩; have HV2 := Lib.hid hv2; have HS3 := Lib.hid hs3; clear hv2 hs3) | (go_simp; refine (HNC.out w1.drew HB1.out.drew).mono ?_; rintro e w2 ⟨A2, c2, rfl, hr2, hc2, q, hq⟩; have HS2 := Lib.hid (show Srt n g caps w0 N (setS sn' x) (F ++ L) w2 by rw [hq]; exact HS1.out.drew1.drew q); have HR2 := Lib.hid hr2; have v2 := HS2.out.vb.cell; clear hq hr2))
          all_goals
            have HVV := Lib.hid (hv.out.more HSX.out hxn HV2.out)
            rw [← HTK.out] at HVV
            have HLN := Lib.hid (show ((F ++ L) ++ L2).length ≤ n from nodup_len (List.nodup_append.2 ⟨HND.out, HV2.out.nd, fun a ha b hb => by
              rintro rfl
              have h1 := (HFS2.out a ha).2
              rw [(HV2.out.new a hb).1] at h1
              cases h1⟩) (fun y hy => by
              rcases List.mem_append.1 hy with hy | hy
              · exact (HFS2.out y hy).1
              · exact (HV2.out.new y hy).2.1))
            obtain ⟨F3, HF3⟩ : ∃ F3, Hid ((F ++ L) ++ L2 = F3) := ⟨_, Lib.hid rfl⟩
            rw [HF3.out] at HS3 HLN
            obtain ⟨X3, c3, hb3, ho3⟩ := HS3.out.fd
            have HB3 := Lib.hid hb3
            have HO3 := Lib.hid ho3
            have f0 := hb3.cell
            have hlen := HLN.out
            have hgn := HGN.out
            have hz3 := HS3.out.size
            have HOW : Hid (w3.ownsRow (N + 5) 3 1 (.slice X3 F3.length c3) F3.length (zcells (zl F3))) := Lib.hid (by have h := ho3; unfold ZOwn at h; rw [zl_len] at h; exact h)
            obtain ⟨i0, hi0, hz0, hz1, hz2⟩ := info_parts infoInt
            have hk1 : k + 1 ≤ l.length := by omega
            have HME := Lib.hid (show l.length - (k + 1) < l.length - k by omega)
            clear hv hsr hb3 ho3 v0 n0 v2 hc2 hk HS2 HS1 HX hlt
            go_wp2_with (at_builtin; refine wpList_append_own _ rfl _ _ 29 rfl (N + 5) 3 i0 _ 1 8 Try.underlying29 hi0 hz0 hz1 hz2 rfl (by decide) (.slice X3 F3.length c3) F3.length (zcells (zl F3)) rfl (HOW.out.alloc _) ⟨w3.heap.size, 0, none⟩ 1 1 [.int .i64 (x : Int)] rfl rfl (cell_one_new _ _ _) (by simp [Value.oneCell']) (by unfold maxLen; omega) (by omega) (by simp; omega) ?_; intro v' w4 hown hgr _; obtain ⟨hb4, hs4⟩ := HS3.out.push HB3.out HO3.out hgr hown; obtain ⟨g4, c4, rfl⟩ := own_succ hown; have HS4 := Lib.hid hs4; have b4 := hb4.cell; have b5 := hb4.frz; clear hown hgr hb4 hs4)
            refine ⟨⟨k + 1, L ++ (L2 ++ [x]), sn2, hk1, by go_num, HVV, Lib.hid (by rw [show F ++ (L ++ (L2 ++ [x])) = F3 ++ [x] by rw [← HF3.out]; simp]; exact HS4.out)⟩, by have := HME.out; simp [intOf]; omega⟩
      · obtain rfl : k = l.length := by omega
        rw [List.take_length] at hv
        go_wp2_with (fail)
        go_end0
        exact ⟨rfl, L, sn', hv.out, hsr.out⟩
end Go.Proofs.Ytbdpdbeekbbehaa
