/- What is proved: TreeRestores answers true. -/
import Derived.Test.YtlaiahiphghggaaRepPlain
import Derived.Test.YtlaiahiphghggaaRefEqual
import Derived.Test.YtlaiahiphghggaaTreeAwake
import Derived.Test.YtlaiahiphghggaaRefNodes
import Derived.Test.YtlaiahiphghggaaRefCount
import Derived.Test.YtlaiahiphghggaaTreeCount
import Derived.OpenShut
import Derived.IntWalk
import Derived.Deep.RegionHeld3
set_option linter.unusedVariables false
namespace Go.Proofs.Ytlaiahiphghggaa
open Go.RowKit Go.Shelf

theorem run_slice_mid (A : Option Addr) (len c F T : Nat) (hFT : F ≤ T) (h : T ≤ c) (W : World) : (Instr.slice 22 (.slice A len c) (some (.int .i64 (F : Int))) (some (.int .i64 (T : Int))) none).run Try.prog W = .ok (.slice (restA A c F) (T - F) (c - F)) W := by
  obtain ⟨i0, hi0, hz0, hz1, hz2⟩ := info_parts infoNode
  simp [Instr.slice, run_underlying Try.underlying22, Instr.sliceBounds, Instr.sliceBound, asIntOf, h, hFT, sizeOf, typeInfo, hi0, hz1, restA]

/-- the tree in its variable -/
structure Nb (w : World) (n : NT) (W : World) : Prop where
  below : Below w.heap.size w W
  box : NBox W w.heap.size n
theorem Nb.later {w : World} {n : NT} {W W' : World} (h : Nb w n W) (hb : Below W.heap.size W W') : Nb w n W' := ⟨h.below.trans (hb.mono h.below.size), h.box.next hb⟩
/-- the tree, the changed one and the node in their variables -/
structure Rs (w : World) (n m g : NT) (Bm Bg : Nat) (W : World) : Prop where
  below : Below w.heap.size w W
  box : NBox W w.heap.size n
  boxM : NBox W Bm m
  boxG : NBox W Bg g
  inM : InT W.heap.size W m
  inG : InT W.heap.size W g
theorem Rs.later {w : World} {n m g : NT} {Bm Bg : Nat} {W W' : World} (h : Rs w n m g Bm Bg W) (hb : Below W.heap.size W W') : Rs w n m g Bm Bg W' :=
  ⟨h.below.trans (hb.mono h.below.size), h.box.next hb, h.boxM.next hb, h.boxG.next hb, InT.later h.inM hb, InT.later h.inG hb⟩
/-- with the tree that was made back -/
structure Rz (w : World) (n m k : NT) (Bm Bk : Nat) (W : World) : Prop where
  below : Below w.heap.size w W
  box : NBox W w.heap.size n
  boxM : NBox W Bm m
  boxK : NBox W Bk k
  inM : InT W.heap.size W m
  inK : InT W.heap.size W k
theorem Rz.later {w : World} {n m k : NT} {Bm Bk : Nat} {W W' : World} (h : Rz w n m k Bm Bk W) (hb : Below W.heap.size W W') : Rz w n m k Bm Bk W' :=
  ⟨h.below.trans (hb.mono h.below.size), h.box.next hb, h.boxM.next hb, h.boxK.next hb, InT.later h.inM hb, InT.later h.inK hb⟩
theorem Rz.cells {w : World} {n m k : NT} {Bm Bk : Nat} {w' : World} (h : Rz w n m k Bm Bk w') : w'.cell? ⟨Bk, 0, none⟩ = some (.int .i64 k.kind) ∧ w'.cell? ⟨Bk, 1, none⟩ = some (.string k.text) ∧ w'.cell? ⟨Bk, 2, none⟩ = some (.int .i64 k.lo) ∧ w'.cell? ⟨Bk, 3, none⟩ = some (.int .i64 k.hi) ∧ w'.cell? ⟨Bk, 4, none⟩ = some (.slice k.A k.kids.length k.c) ∧ w'.cell? ⟨w.heap.size, 0, none⟩ = some (.int .i64 n.kind) ∧ w'.cell? ⟨w.heap.size, 1, none⟩ = some (.string n.text) ∧ w'.cell? ⟨w.heap.size, 2, none⟩ = some (.int .i64 n.lo) ∧ w'.cell? ⟨w.heap.size, 3, none⟩ = some (.int .i64 n.hi) ∧ w'.cell? ⟨w.heap.size, 4, none⟩ = some (.slice n.A n.kids.length n.c) ∧ w'.cell? ⟨Bm, 0, none⟩ = some (.int .i64 m.kind) ∧ w'.cell? ⟨Bm, 1, none⟩ = some (.string m.text) ∧ w'.cell? ⟨Bm, 2, none⟩ = some (.int .i64 m.lo) ∧ w'.cell? ⟨Bm, 3, none⟩ = some (.int .i64 m.hi) ∧ w'.cell? ⟨Bm, 4, none⟩ = some (.slice m.A m.kids.length m.c) :=
  ⟨h.boxK.cells.1, h.boxK.cells.2.1, h.boxK.cells.2.2.1, h.boxK.cells.2.2.2.1, h.boxK.cells.2.2.2.2, h.box.cells.1, h.box.cells.2.1, h.box.cells.2.2.1, h.box.cells.2.2.2.1, h.box.cells.2.2.2.2, h.boxM.cells⟩
theorem Rs.cells {w : World} {n m g : NT} {Bm Bg : Nat} {w' : World} (h : Rs w n m g Bm Bg w') : w'.cell? ⟨Bm, 0, none⟩ = some (.int .i64 m.kind) ∧ w'.cell? ⟨Bm, 1, none⟩ = some (.string m.text) ∧ w'.cell? ⟨Bm, 2, none⟩ = some (.int .i64 m.lo) ∧ w'.cell? ⟨Bm, 3, none⟩ = some (.int .i64 m.hi) ∧ w'.cell? ⟨Bm, 4, none⟩ = some (.slice m.A m.kids.length m.c) ∧ w'.cell? ⟨Bg, 4, none⟩ = some (.slice g.A g.kids.length g.c) :=
  ⟨h.boxM.cells.1, h.boxM.cells.2.1, h.boxM.cells.2.2.1, h.boxM.cells.2.2.2.1, h.boxM.cells.2.2.2.2, h.boxG.cells.2.2.2.2⟩

set_option maxHeartbeats 16000000 in
set_option maxRecDepth 100000 in
theorem treeRestores_any (n : NT) (A : Option Addr) (c : Nat) (p : List Int) (f t : Int) (AL : Option Addr) (cL : Nat) (L : List NT) (w : World) (hin : InT w.heap.size w n) (hc : NT.cnt n ≤ 1048576) (hp : IRow w.heap.size w A p) (hpl : p.length ≤ 1000000000) (hfw : (Lit.int .i64 f).wf = true) (htw : (Lit.int .i64 t).wf = true) (hrl : Row w.heap.size w AL L) (hil : ∀ k ∈ L, InT w.heap.size w k) (hcl : NT.cnts L ≤ 1048576) :
    Calls Try.prog 7 #[.agg #[.int .i64 n.kind, .string n.text, .int .i64 n.lo, .int .i64 n.hi, .slice n.A n.kids.length n.c], .slice A p.length c, .int .i64 f, .int .i64 t, .slice AL L.length cL] w fun e w' => e = .returned (.bool true) ∧ Below w.heap.size w w' := by
  have HI := Lib.hid hin
  have HP := Lib.hid hp
  have HRL := Lib.hid hrl
  have HIL := Lib.hid hil
  have hLL := NT.cnts_len L
  clear hin hp hrl hil hfw htw
  go_enter Try.func7, Try.ntmps7
  go_wp2_with (fail)
  have hb0 := (Below.refl w.heap.size w).alloc (Nat.le_refl _) (.cells #[.int .i64 n.kind, .string n.text, .int .i64 n.lo, .int .i64 n.hi, .slice n.A n.kids.length n.c] 24)
  have hn0 := NBox.new w n
  generalize (w.alloc (.cells #[.int .i64 n.kind, .string n.text, .int .i64 n.lo, .int .i64 n.hi, .slice n.A n.kids.length n.c] 24)) = w1 at *
  refine (r_small_any n 100 w1 (InT.later HI.out hb0) (by omega)).mono ?_
  rintro e w2 ⟨rfl, hb2⟩
  have HN2 := Lib.hid (show Nb w n w2 from ⟨hb0.trans (hb2.mono hb0.size), hn0.next hb2⟩)
  clear hb0 hn0 hb2
  obtain ⟨c0, c1, c2, c3, c4⟩ := HN2.out.box.cells
  cases hs : smallB n 100 with
  | false =>
    clear hs
    go_wp2_with (fail)
    refine (awake_any w2).mono ?_
    rintro e wa ⟨rfl, hba⟩
    have HBA := Lib.hid (HN2.out.below.trans (hba.mono HN2.out.below.size))
    clear hba
    go_wp2_with (fail)
    go_ret
    exact ⟨rfl, HBA.out⟩
  | true =>
    clear hs
    by_cases hlen : 20 < p.length
    · go_wp2_with (fail)
      refine (awake_any w2).mono ?_
      rintro e wa ⟨rfl, hba⟩
      have HBA := Lib.hid (HN2.out.below.trans (hba.mono HN2.out.below.size))
      clear hba
      go_wp2_with (fail)
      go_ret
      exact ⟨rfl, HBA.out⟩
    · by_cases hll : 10 < L.length
      · go_wp2_with (fail)
        refine (awake_any w2).mono ?_
        rintro e wa ⟨rfl, hba⟩
        have HBA := Lib.hid (HN2.out.below.trans (hba.mono HN2.out.below.size))
        clear hba
        go_wp2_with (fail)
        go_ret
        exact ⟨rfl, HBA.out⟩
      · go_wp2_with (fail)
        clear c0 c1 c2 c3 c4
        go_loopw [11, 38] (fun x i wr => ∃ k : Nat, k ≤ L.length ∧ i = .int .i64 (k : Int) ∧ x = .int .i64 (NT.cnts (L.take k) : Int) ∧ Hid (Nb w n wr)) (fun _ i _ => L.length - (intOf i).toNat)
        case atStart => exact ⟨0, Nat.zero_le _, rfl, by simp [NT.cnts], HN2⟩
        case round =>
          obtain ⟨k, hk, rfl, rfl, hnb⟩ := hrel
          obtain ⟨c0, c1, c2, c3, c4⟩ := hnb.out.box.cells
          by_cases hlt : k < L.length
          · obtain ⟨b, off, rfl, hb, hcs⟩ := (HRL.out.below hnb.out.below) (by omega)
            obtain ⟨d0, d1, d2, d3, d4⟩ := hcs k hlt
            clear hcs
            have HKX := Lib.hid (InT.later (HIL.out _ (List.getElem_mem hlt)) hnb.out.below)
            have hcg := NT.cnts_get hlt
            have HG := Lib.hid hcg
            have hle2 := NT.cnts_take_le L (k + 1)
            have hk2 : NT.cnts (L.take k) + NT.cnt L[k] ≤ 1048576 := by omega
            clear hcg hle2
            generalize L[k] = x at *
            go_wp2_with (fail)
            have hba := (Below.refl wr.heap.size wr).alloc (Nat.le_refl _) (.cells #[.int .i64 x.kind, .string x.text, .int .i64 x.lo, .int .i64 x.hi, .slice x.A x.kids.length x.c] 24)
            have HX1 := Lib.hid (NBox.new wr x)
            have HN1 := Lib.hid (hnb.out.later hba)
            have HK1 := Lib.hid (InT.later HKX.out hba)
            clear hba c0 c1 c2 c3 c4 d0 d1 d2 d3 d4
            generalize (wr.alloc (.cells #[.int .i64 x.kind, .string x.text, .int .i64 x.lo, .int .i64 x.hi, .slice x.A x.kids.length x.c] 24)) = w3 at *
            refine (r_small_any x 30 w3 HK1.out (by omega)).mono ?_
            rintro e w4 ⟨rfl, hb4⟩
            have HN4 := Lib.hid (HN1.out.later hb4)
            have HX4 := Lib.hid (HX1.out.next hb4)
            have HK4 := Lib.hid (InT.later HK1.out hb4)
            clear hb4
            obtain ⟨e0, e1, e2, e3, e4⟩ := HX4.out.cells
            cases hsx : smallB x 30 with
            | false =>
              clear hsx
              go_wp2_with (fail)
              refine (awake_any w4).mono ?_
              rintro e wa ⟨rfl, hba⟩
              have HBA := Lib.hid (HN4.out.below.trans (hba.mono HN4.out.below.size))
              clear hba
              go_wp2_with (fail)
              go_ret
              exact ⟨rfl, HBA.out⟩
            | true =>
              clear hsx
              go_wp2_with (fail)
              refine (r_count_any x w4 HK4.out (by omega)).mono ?_
              rintro e w5 ⟨rfl, hb5⟩
              have HN5 := Lib.hid (HN4.out.later hb5)
              clear hb5
              go_wp2_with (fail)
              exact ⟨⟨k + 1, by omega, by go_num, by rw [HG.out]; go_num, HN5⟩, by simp [intOf]; omega⟩
          · have e : L.take k = L := List.take_of_length_le (by omega)
            rw [e]
            clear e
            go_wp2_with (fail)
            refine (replace_any n A c p f t AL cL L wr (InT.later HI.out hnb.out.below) (HP.out.later hnb.out.below) ((HRL.out.below hnb.out.below).mono hnb.out.below.size) (fun k hk => InT.later (HIL.out k hk) hnb.out.below) (by omega) hpl).mono ?_
            rintro e w2' ⟨m, r, rfl, hrep, him, hb2⟩
            have HNR := Lib.hid (hnb.out.later hb2)
            have HRP := Lib.hid hrep
            have HIM := Lib.hid (fresh_inT him)
            clear hrep him hb2 c0 c1 c2 c3 c4
            obtain ⟨c0, c1, c2, c3, c4⟩ := HNR.out.box.cells
            obtain ⟨d0, d1, d2, d3, d4⟩ := (nbox_alloc HNR.out.box (.cells #[.int .i64 m.kind, .string m.text, .int .i64 m.lo, .int .i64 m.hi, .slice m.A m.kids.length m.c] 24)).cells
            have HN3 := Lib.hid (HNR.out.later ((Below.refl w2'.heap.size w2').alloc (Nat.le_refl _) (.cells #[.int .i64 m.kind, .string m.text, .int .i64 m.lo, .int .i64 m.hi, .slice m.A m.kids.length m.c] 24)))
            by_cases hr0 : r = 0
            · subst hr0
              obtain ⟨x, hx, hf0, hft, htx, hl, hm⟩ := rep_zero HRP.out
              obtain ⟨F, rfl⟩ : ∃ F : Nat, f = (F : Int) := ⟨f.toNat, by omega⟩
              obtain ⟨T, rfl⟩ : ∃ T : Nat, t = (T : Int) := ⟨t.toNat, by omega⟩
              have hFT : F ≤ T := by omega
              have hTx : T ≤ x.kids.length := by omega
              have HX := Lib.hid hx
              have HL := Lib.hid hl
              have HM := Lib.hid (show NT.strip m = NT.strip (NT.setK none 0 (x.kids.take F ++ L ++ x.kids.drop T) p n) from hm)
              have HXI := Lib.hid (getZ_in p n x hx HI.out)
              have hxc := HXI.out.2
              have hxk := NT.kids_len x
              clear hx hf0 hft htx hl hm
              go_wp2_with (fail)
              have HM3 := Lib.hid (NBox.new w2' m)
              have HI3 := Lib.hid (InT.later HIM.out ((Below.refl w2'.heap.size w2').alloc (Nat.le_refl _) (.cells #[.int .i64 m.kind, .string m.text, .int .i64 m.lo, .int .i64 m.hi, .slice m.A m.kids.length m.c] 24)))
              clear c0 c1 c2 c3 c4 d0 d1 d2 d3 d4
              generalize hBm : w2'.heap.size = Bm at *
              clear hBm
              generalize (w2'.alloc (.cells #[.int .i64 m.kind, .string m.text, .int .i64 m.lo, .int .i64 m.hi, .slice m.A m.kids.length m.c] 24)) = w3 at *
              refine (get_any n A c p w3 (InT.later HI.out HN3.out.below) (HP.out.later HN3.out.below) (by omega) hpl).mono ?_
              rintro e w4 ⟨g, rfl, hg, hb4⟩
              rw [HX.out] at hg
              rw [HX.out]
              simp only [Option.isSome_some]
              have HGX := Lib.hid (show NT.strip g = NT.strip x from (res_same hg).1)
              have hba := (Below.refl w4.heap.size w4).alloc (Nat.le_refl _) (.cells #[.int .i64 g.kind, .string g.text, .int .i64 g.lo, .int .i64 g.hi, .slice g.A g.kids.length g.c] 24)
              have HR5 := Lib.hid (show Rs w n m g Bm w4.heap.size (w4.alloc (.cells #[.int .i64 g.kind, .string g.text, .int .i64 g.lo, .int .i64 g.hi, .slice g.A g.kids.length g.c] 24)) from ⟨(HN3.out.later hb4).below.trans (hba.mono (HN3.out.later hb4).below.size), nbox_alloc (HN3.out.later hb4).box _, nbox_alloc (HM3.out.next hb4) _, NBox.new w4 g, InT.later (InT.later HI3.out hb4) hba, InT.later (res_same hg).2 hba⟩)
              have hgl := NT.strip_kids_len HGX.out
              have hgc := HR5.out.inG.cap
              have HGK := Lib.hid ((NT.strip_iff g x).1 HGX.out).2.2.2.2
              clear hg hb4 hba HM3 HI3
              have hTg : T ≤ g.kids.length := by omega
              have d1' : decide ((F : Int) < 0) = false := by simp
              have d2' : decide ((T : Int) < (F : Int)) = false := by simp; omega
              have d3' : decide ((g.kids.length : Int) < (T : Int)) = false := by simp; omega
              have hgb : g.kids.length ≤ 1048576 := by omega
              have HGL := Lib.hid hgl
              have HGC := Lib.hid hgc
              clear hgl hgc
              have HS := fun W : World => run_slice_mid g.A g.kids.length g.c F T hFT (by have := HGC.out; omega) W
              obtain ⟨c0, c1, c2, c3, c4⟩ := HR5.out.boxG.cells
              have HKR := Lib.hid (show ∀ W : World, Rs w n m g Bm w4.heap.size W → Row W.heap.size W (restA g.A g.c F) ((g.kids.take T).drop F) from fun W hW => row_drop (row_take hW.inG.row T) F (by rw [List.length_take]; have := HGC.out; omega))
              have HKL := Lib.hid (show ((g.kids.take T).drop F).length = T - F by rw [List.length_drop, List.length_take]; omega)
              have HKI := Lib.hid (show ∀ W : World, Rs w n m g Bm w4.heap.size W → ∀ k ∈ (g.kids.take T).drop F, InT W.heap.size W k from fun W hW k hk => hW.inG.kid (List.mem_of_mem_take (List.mem_of_mem_drop hk)))
              have HKS := Lib.hid (show ((g.kids.take T).drop F).map NT.strip = ((x.kids.take T).drop F).map NT.strip by rw [List.map_drop, List.map_take, HGK.out, List.map_drop, List.map_take])
              go_wp2_with (fail)
              generalize hBg : w4.heap.size = Bg at *
              clear hBg
              generalize (w4.alloc (.cells #[.int .i64 g.kind, .string g.text, .int .i64 g.lo, .int .i64 g.hi, .slice g.A g.kids.length g.c] 24)) = w5 at *
              generalize (g.kids.take T).drop F = K at *
              generalize restA g.A g.c F = AK at *
              have HKC := Lib.hid (show NT.cnts K ≤ 1048576 by
                have h1 := NT.cnts_of_strip HKS.out
                have h2 := congrArg NT.cnts (cut3 x.kids hFT)
                rw [NT.cnts_append, NT.cnts_append] at h2
                have h3 := NT.cnt_eq x
                omega)
              have hkc := HKC.out
              clear c0 c1 c2 c3 c4 d1' d2' d3'
              go_loopw [11, 93] (fun y i wr => ∃ k : Nat, k ≤ T - F ∧ i = .int .i64 (k : Int) ∧ y = .int .i64 ((NT.cnts L : Int) - (NT.cnts (K.take k) : Int)) ∧ Hid (Rs w n m g Bm Bg wr)) (fun _ i _ => (T - F) - (intOf i).toNat)
              case atStart => exact ⟨0, Nat.zero_le _, rfl, by simp [NT.cnts], HR5⟩
              case round =>
                obtain ⟨k, hk, rfl, rfl, hrs⟩ := hrel
                by_cases hlt : k < T - F
                · have hkl : k < K.length := by rw [HKL.out]; exact hlt
                  obtain ⟨b, off, rfl, hb, hcs⟩ := (HKR.out wr hrs.out) (by omega)
                  obtain ⟨d0, d1, d2, d3, d4⟩ := hcs k hkl
                  clear hcs
                  have HKX := Lib.hid (HKI.out wr hrs.out _ (List.getElem_mem hkl))
                  have hcg := NT.cnts_get hkl
                  have HG := Lib.hid hcg
                  have hle2 := NT.cnts_take_le K (k + 1)
                  have hk2 : NT.cnts (K.take k) + NT.cnt K[k] ≤ 1048576 := by omega
                  clear hcg hle2
                  generalize K[k] = y at *
                  go_wp2_with (fail)
                  have hba := (Below.refl wr.heap.size wr).alloc (Nat.le_refl _) (.cells #[.int .i64 y.kind, .string y.text, .int .i64 y.lo, .int .i64 y.hi, .slice y.A y.kids.length y.c] 24)
                  have HR1 := Lib.hid (hrs.out.later hba)
                  have HK1 := Lib.hid (InT.later HKX.out hba)
                  clear hba d0 d1 d2 d3 d4
                  generalize (wr.alloc (.cells #[.int .i64 y.kind, .string y.text, .int .i64 y.lo, .int .i64 y.hi, .slice y.A y.kids.length y.c] 24)) = w6 at *
                  refine (r_count_any y w6 HK1.out (by omega)).mono ?_
                  rintro e w7 ⟨rfl, hb7⟩
                  have HR7 := Lib.hid (HR1.out.later hb7)
                  clear hb7
                  go_wp2_with (fail)
                  go_simp
                  exact ⟨⟨_, _, _, ⟨k + 1, by omega, by go_num, by rw [HG.out]; go_num⟩, rfl, rfl, rfl⟩, by simp [intOf]; omega⟩
                · have e : K.take k = K := List.take_of_length_le (by rw [HKL.out]; omega)
                  rw [e]
                  clear e
                  have hwr : IntKind.i64.wrap ((F : Int) + (L.length : Int)) = (F : Int) + (L.length : Int) := IntWalk.i64_in _ (by omega)
                  obtain ⟨c0, c1, c2, c3, c4⟩ := hrs.out.boxM.cells
                  have g4 := hrs.out.boxG.cells.2.2.2.2
                  have hda : Below wr.heap.size wr (wr.alloc (.cells #[.int .i64 0, .string ⟨#[]⟩, .int .i64 0, .int .i64 0, .slice none 0 0] 24)).drew := ((Below.refl wr.heap.size wr).alloc (Nat.le_refl _) _).drew
                  have HDA := Lib.hid hda
                  have HDR := Lib.hid ((Below.refl wr.heap.size wr).drew)
                  have hmc : NT.cnt m + NT.cnts K ≤ 1000000000 := by
                    have h1 := cnt_rep HX.out hFT HM.out
                    omega
                  have HP1 := Lib.hid (replace_any m A c p (F : Int) ((F : Int) + (L.length : Int)) AK (g.c - F) K wr.drew (hrs.out.later HDR.out).inM (HP.out.later (hrs.out.later HDR.out).below) (HKR.out _ (hrs.out.later HDR.out)) (HKI.out _ (hrs.out.later HDR.out)) hmc hpl)
                  have HP2 := Lib.hid (replace_any m A c p (F : Int) ((F : Int) + (L.length : Int)) AK (g.c - F) K (wr.alloc (.cells #[.int .i64 0, .string ⟨#[]⟩, .int .i64 0, .int .i64 0, .slice none 0 0] 24)).drew (hrs.out.later hda).inM (HP.out.later (hrs.out.later hda).below) (HKR.out _ (hrs.out.later hda)) (HKI.out _ (hrs.out.later hda)) hmc hpl)
                  rw [HKL.out] at HP1 HP2
                  have HBK := Lib.hid (show ∀ (k2 : NT) (r2 : Int), RepRes m p (F : Int) ((F : Int) + (L.length : Int)) K k2 r2 → r2 = 0 ∧ NT.strip k2 = NT.strip n from fun k2 r2 h => rep_back2 HX.out hFT hTx HL.out HM.out HKS.out h)
                  have HSA := Lib.hid (hrs.out.later hda).cells
                  have HBX := Lib.hid (show NBox (wr.alloc (.cells #[.int .i64 0, .string ⟨#[]⟩, .int .i64 0, .int .i64 0, .slice none 0 0] 24)).drew wr.heap.size zeroN from zero_box wr)
                  have hzA : (wr.alloc (.cells #[.int .i64 0, .string ⟨#[]⟩, .int .i64 0, .int .i64 0, .slice none 0 0] 24)).drew.heap.size = wr.heap.size + 1 := by simp
                  have HZA := Lib.hid hzA
                  clear hda hzA
                  go_wp2_with (fail)
                  go_region_held3 (fun w' => w'.cell? ⟨Bm, 0, none⟩ = some (.int .i64 m.kind) ∧ w'.cell? ⟨Bm, 1, none⟩ = some (.string m.text) ∧ w'.cell? ⟨Bm, 2, none⟩ = some (.int .i64 m.lo) ∧ w'.cell? ⟨Bm, 3, none⟩ = some (.int .i64 m.hi) ∧ w'.cell? ⟨Bm, 4, none⟩ = some (.slice m.A m.kids.length m.c) ∧ w'.cell? ⟨Bg, 4, none⟩ = some (.slice g.A g.kids.length g.c)) (first | with_reducible exact HSR.out | with_reducible exact HSQ.out | with_reducible exact HSA.out | with_reducible exact HSV.out | with_reducible exact HSW.out | go_keep) ((first | (go_at_call 34; refine HP2.out.mono ?_; rintro e w6 ⟨k2, r2, rfl, hrep2, him2, hb6⟩; obtain ⟨rfl, hs2⟩ := HBK.out _ _ hrep2; have HS2 := Lib.hid hs2; have HI2 := Lib.hid him2; have HB6 := Lib.hid (HDA.out.trans (hb6.mono HDA.out.size)); have HBX6 := Lib.hid (HBX.out.next hb6); have HSR := Lib.hid (hrs.out.later HB6.out).cells; have HSV := Lib.hid (hrs.out.later (put5_below HB6.out (Nat.le_refl _) k2)).cells; obtain ⟨z0, z1, z2, z3, z4⟩ := zero_cells HBX6.out; have y0 := HBX6.out.frozen 0; have y1 := HBX6.out.frozen 1; have y2 := HBX6.out.frozen 2; have y3 := HBX6.out.frozen 3; have y4 := HBX6.out.frozen 4; clear hrep2 him2 hb6 hs2) | (go_at_call 34; refine HP1.out.mono ?_; rintro e w6 ⟨k2, r2, rfl, hrep2, him2, hb6⟩; obtain ⟨rfl, hs2⟩ := HBK.out _ _ hrep2; have HS2 := Lib.hid hs2; have HI2 := Lib.hid (fresh_inT him2); have HB6 := Lib.hid (HDR.out.trans (hb6.mono HDR.out.size)); have HSQ := Lib.hid (hrs.out.later HB6.out).cells; have HSW := Lib.hid (hrs.out.later (HB6.out.alloc HB6.out.size (.cells #[.int .i64 k2.kind, .string k2.text, .int .i64 k2.lo, .int .i64 k2.hi, .slice k2.A k2.kids.length k2.c] 24))).cells; clear hrep2 him2 hb6 hs2)))
                  all_goals
                    first
                      | (have HZR := Lib.hid (show Rz w n m k2 Bm wr.heap.size (put5 w6 wr.heap.size k2) from ⟨(hrs.out.later (put5_below HB6.out (Nat.le_refl _) k2)).below, (hrs.out.later (put5_below HB6.out (Nat.le_refl _) k2)).box, (hrs.out.later (put5_below HB6.out (Nat.le_refl _) k2)).boxM, HBX6.out.put k2, (hrs.out.later (put5_below HB6.out (Nat.le_refl _) k2)).inM, inS_inT k2 (InS.mono (fun b hb => by have := hb.2; simpa [World.setCell] using this) k2 (InS.keep (fun b hb => put5_far w6 k2 (by have h1 := hb.1; have h2 := HZA.out; omega)) k2 HI2.out))⟩); dsimp only [put5] at HZR; go_simp; clear z0 z1 z2 z3 z4 y0 y1 y2 y3 y4; generalize (((((w6.setCell ⟨wr.heap.size, 0, none⟩ (.int .i64 k2.kind)).setCell ⟨wr.heap.size, 1, none⟩ (.string k2.text)).setCell ⟨wr.heap.size, 2, none⟩ (.int .i64 k2.lo)).setCell ⟨wr.heap.size, 3, none⟩ (.int .i64 k2.hi)).setCell ⟨wr.heap.size, 4, none⟩ (.slice k2.A k2.kids.length k2.c)) = w8 at *; generalize wr.heap.size = Bk at HZR ⊢)
                      | (have HZR := Lib.hid (show Rz w n m k2 Bm w6.heap.size (w6.alloc (.cells #[.int .i64 k2.kind, .string k2.text, .int .i64 k2.lo, .int .i64 k2.hi, .slice k2.A k2.kids.length k2.c] 24)) from ⟨(hrs.out.later (HB6.out.alloc HB6.out.size _)).below, (hrs.out.later (HB6.out.alloc HB6.out.size _)).box, (hrs.out.later (HB6.out.alloc HB6.out.size _)).boxM, NBox.new w6 k2, (hrs.out.later (HB6.out.alloc HB6.out.size _)).inM, InT.later HI2.out ((Below.refl w6.heap.size w6).alloc (Nat.le_refl _) _)⟩); go_simp; generalize (w6.alloc (.cells #[.int .i64 k2.kind, .string k2.text, .int .i64 k2.lo, .int .i64 k2.hi, .slice k2.A k2.kids.length k2.c] 24)) = w8 at *; generalize w6.heap.size = Bk at HZR ⊢)
                  all_goals
                    have h1 := cnt_rep HX.out hFT HM.out
                    have h2 := NT.cnts_of_strip HKS.out
                    have q1 : ((NT.cnt m : Int) == (NT.cnt n : Int) + ((NT.cnts L : Int) - (NT.cnts K : Int))) = true := by
                      rw [beq_iff_eq]
                      omega
                    have hws : IntKind.i64.wrap ((NT.cnt n : Int) + ((NT.cnts L : Int) - (NT.cnts K : Int))) = (NT.cnt n : Int) + ((NT.cnts L : Int) - (NT.cnts K : Int)) := IntWalk.i64_in _ (by omega)
                    have hck : NT.cnt k2 ≤ 1000000000 := by have h3 := NT.cnt_of_strip HS2.out; omega
                    have hcm : NT.cnt m ≤ 1000000000 := by omega
                    have hcn : NT.cnt n ≤ 1000000000 := by omega
                    clear h1 h2 c0 c1 c2 c3 c4 g4
                    obtain ⟨s0, s1, s2, s3, s4, s5, s6, s7, s8, s9, s10, s11, s12, s13, s14⟩ := HZR.out.cells
                    go_wp2_with (fail)
                    have HD := Lib.hid (HZR.out.later (Below.refl w8.heap.size w8).drew)
                    go_region_held3 (fun w' => w'.cell? ⟨Bk, 0, none⟩ = some (.int .i64 k2.kind) ∧ w'.cell? ⟨Bk, 1, none⟩ = some (.string k2.text) ∧ w'.cell? ⟨Bk, 2, none⟩ = some (.int .i64 k2.lo) ∧ w'.cell? ⟨Bk, 3, none⟩ = some (.int .i64 k2.hi) ∧ w'.cell? ⟨Bk, 4, none⟩ = some (.slice k2.A k2.kids.length k2.c) ∧ w'.cell? ⟨w.heap.size, 0, none⟩ = some (.int .i64 n.kind) ∧ w'.cell? ⟨w.heap.size, 1, none⟩ = some (.string n.text) ∧ w'.cell? ⟨w.heap.size, 2, none⟩ = some (.int .i64 n.lo) ∧ w'.cell? ⟨w.heap.size, 3, none⟩ = some (.int .i64 n.hi) ∧ w'.cell? ⟨w.heap.size, 4, none⟩ = some (.slice n.A n.kids.length n.c) ∧ w'.cell? ⟨Bm, 0, none⟩ = some (.int .i64 m.kind) ∧ w'.cell? ⟨Bm, 1, none⟩ = some (.string m.text) ∧ w'.cell? ⟨Bm, 2, none⟩ = some (.int .i64 m.lo) ∧ w'.cell? ⟨Bm, 3, none⟩ = some (.int .i64 m.hi) ∧ w'.cell? ⟨Bm, 4, none⟩ = some (.slice m.A m.kids.length m.c)) (first | with_reducible exact HT4.out | with_reducible exact HT3.out | with_reducible exact HT2.out | with_reducible exact HT1.out | go_keep) ((first | (go_at_call 11; refine (awake_any _).mono ?_; rintro e wd ⟨rfl, hb⟩; have HA4 := Lib.hid (HA3.out.later hb); have HT4 := Lib.hid HA4.out.cells; clear hb) | (go_at_call 28; refine (count_any n _ (InT.later HI.out HA2.out.below) hcn).mono ?_; rintro e wc ⟨rfl, hb⟩; have HA3 := Lib.hid (HA2.out.later hb); have HT3 := Lib.hid HA3.out.cells; clear hb) | (go_at_call 28; refine (count_any m _ HA1.out.inM hcm).mono ?_; rintro e wb ⟨rfl, hb⟩; have HA2 := Lib.hid (HA1.out.later hb); have HT2 := Lib.hid HA2.out.cells; clear hb) | (go_at_call 32; refine (r_equal_any k2 n _ HS2.out HD.out.inK (InT.later HI.out HD.out.below) hck).mono ?_; rintro e wa ⟨rfl, hb⟩; have HA1 := Lib.hid (HD.out.later hb); have HT1 := Lib.hid HA1.out.cells; clear hb)))
                    go_wp2_with (fail)
                    go_ret
                    exact ⟨rfl, HA4.out.below⟩
            · have hr1 : (r != 0) = true := by simpa using hr0
              clear hr0
              go_wp2_with (fail)
              refine (awake_any _).mono ?_
              rintro e wa ⟨rfl, hba⟩
              have HBA := Lib.hid (HN3.out.below.trans (hba.mono HN3.out.below.size))
              clear hba
              go_wp2_with (fail)
              go_ret
              exact ⟨rfl, HBA.out⟩
end Go.Proofs.Ytlaiahiphghggaa
