/- What is proved: the reference's Solve gives what the plain program gives. -/
import Derived.Test.YtmamajillkajoaaDoorCoRBase
import Derived.Deep.Cut
import Derived.Deep.DeepCutAuto
set_option linter.unusedVariables false
namespace Go.Proofs.YtmamajillkajoaaDoor
open Go.RowKit Go.Shelf

/-- what the reference's Solve answers where all is possible -/
def RvRes (w : World) (n : Nat) (l : List Con) (e : Ending) (w' : World) : Prop :=
  ∃ tb Y d, e = .returned (.tuple #[.slice (some ⟨tb, 0, none⟩) n n, .slice Y (slvC l n).length d, .int .i64 0]) ∧ TArr w' tb n (tyL l (clss l n n)) ∧ LRow w' Y (slvC l n) ∧ Below w.heap.size w w'
/-- the vertices that are done -/
def dnF (l : List Con) (n k : Nat) : Nat → Bool := fun u => (clss l n k).any (fun c => c.contains u)
/-- the distances to a mark's vertex, or nothing yet -/
def ToOk (w : World) (l : List Con) (n u : Nat) (T : Option Addr) (m : Nat) : Prop := m = 0 ∨ (m = n ∧ ∃ b g, T = some ⟨b, 0, none⟩ ∧ IArr w b n g ∧ DOk l n u g)
theorem ToOk.later {w w' : World} {l : List Con} {n u : Nat} {T : Option Addr} {m : Nat} (h : ToOk w l n u T m) (hb : Below w.heap.size w w') : ToOk w' l n u T m :=
  h.imp id (fun ⟨h1, b, g, h2, h3, h4⟩ => ⟨h1, b, g, h2, h3.below hb, h4⟩)

set_option maxRecDepth 100000 in
set_option maxHeartbeats 40000000 in
theorem rsolve_ok (n : Nat) (hn : n ≤ 4096) (A : Option Addr) (c : Nat) (l : List Con) (w : World) (hl : l.length ≤ 1000000) (hr : CRow w.heap.size w A l) (hall : l.all (posB n) = true) :
    Calls Tryd.prog 7 #[.int .i64 (n : Int), .slice A l.length c] w (RvRes w n l) := by
  have hp := List.all_eq_true.1 hall
  have hV : errV n l = 0 := by
    unfold errV
    rw [if_neg (by omega), Int.toNat_natCast, hall, if_pos rfl]
  have hval := co_valid_any n A c l w hr hl
  rw [hV] at hval
  have HVAL := Lib.hid hval
  have HP := Lib.hid hp
  have HR := Lib.hid hr
  have HDI := Lib.hid (fun (u : Nat) (hu : u < n) (W : World) (hb : Below w.heap.size w W) => dist_any n u A c l W (by omega) hu hp hl (hr.later hb))
  have hmt := co_make_ty n (by omega)
  have hmb := co_make_bl n (by omega)
  clear hr hp hall hV hval
  go_enter Tryd.func7, Tryd.ntmps7
  go_wp2_with (fail)
  refine HVAL.out.mono ?_
  rintro e w1 ⟨rfl, hb1⟩
  have HB1 := Lib.hid hb1
  clear hb1 HVAL
  go_wp2_with (fail)
  clear hmt hmb
  have hba := (Below.refl w1.heap.size w1).alloc (Nat.le_refl _) (.cells (madeCells #[.int .i64 0, .int .i64 0, .string ⟨#[]⟩] (n * 3)) 39)
  have HT0 := TArr.new w1 n
  generalize hW2 : (w1.alloc (.cells (madeCells #[.int .i64 0, .int .i64 0, .string ⟨#[]⟩] (n * 3)) 39)) = w2 at *
  have hz2 : w2.heap.size = w1.heap.size + 1 := by rw [← hW2]; simp
  have HC0 : ChOwn (w2.alloc (.cells #[] 23)) w2.heap.size (.slice (some ⟨w2.heap.size, 0, none⟩) 0 0) [] := ⟨[], rfl, World.ownsRow_lit w2 #[] 0 (Nat.le_refl _) (by decide) (by simp), by simp, fun i h => by simp at h⟩
  have hbb := hba.alloc hba.size (.cells #[] 23)
  have HT1 := HT0.below ((Below.refl w2.heap.size w2).alloc (Nat.le_refl _) (.cells #[] 23))
  generalize hW3 : (w2.alloc (.cells #[] 23)) = w3 at *
  have hz3 : w3.heap.size = w1.heap.size + 1 + 1 := by rw [← hW3]; simp [hz2]
  have HD0 := BArr.new w3 n
  have hbc := hbb.alloc hbb.size (.cells (hdr (fun _ => .bool false) n) 4)
  have hb34 := (Below.refl w3.heap.size w3).alloc (Nat.le_refl _) (.cells (hdr (fun _ => .bool false) n) 4)
  have HT2 := Lib.hid (HT1.below hb34)
  have HC2 := Lib.hid (HC0.later hb34)
  generalize (w3.alloc (.cells (hdr (fun _ => .bool false) n) 4)) = w4 at *
  rw [hz3] at HD0
  rw [hz2] at HC2
  have HD2 := Lib.hid HD0
  have HB4 := Lib.hid (HB1.out.trans (hbc.mono HB1.out.size))
  have HLO := Lib.hid (show w.heap.size ≤ w1.heap.size from HB1.out.size)
  clear HT0 HC0 HT1 HD0 hba hbb hbc hb34 hW2 hW3 hz2 hz3
  generalize w1.heap.size = tb at *
  obtain ⟨yb, HYB⟩ : ∃ yb, Hid (tb + 1 = yb) := ⟨_, Lib.hid rfl⟩
  obtain ⟨db, HDB⟩ : ∃ db, Hid (tb + 1 + 1 = db) := ⟨_, Lib.hid rfl⟩
  rw [HDB.out] at HD2 ⊢
  rw [HYB.out] at HC2 ⊢
  have htd : tb ≠ db := by have := HDB.out; omega
  go_loopw [9, 11] (fun v i wr => ∃ (k : Nat) (Y : Option Addr) (d : Nat), k ≤ n ∧ i = .int .i64 (k : Int) ∧ v = .slice Y (chF l n (clss l n k)).length d ∧ Hid (ChOwn wr yb v (chF l n (clss l n k))) ∧ Hid (TArr wr tb n (tyL l (clss l n k))) ∧ Hid (BArr wr db n (dnF l n k)) ∧ Hid (Below w.heap.size w wr)) (fun _ i _ => n - (intOf i).toNat)
  case atStart => exact ⟨0, _, _, Nat.zero_le _, rfl, rfl, HC2, HT2, HD2, HB4⟩
  case round =>
    obtain ⟨k, Y, d, hk, rfl, rfl, hch, hta, hda, hbw⟩ := hrel
    generalize hwo : wr = wv at *
    clear hwo
    by_cases hlt : k < n
    · have hcl := chF_len l n (clss l n k)
      have hcl2 := clss_len l n k
      have cd := hda.out.cell hlt
      cases hdk : dnF l n k k with
      | true =>
        rw [hdk] at cd
        have HSAME := Lib.hid (show clss l n (k + 1) = clss l n k by rw [clss_succ, if_pos (by exact hdk)])
        clear hdk
        go_wp2_with (fail)
        exact ⟨⟨k + 1, Y, d, by omega, by go_num, by rw [HSAME.out], by rw [HSAME.out]; exact hch, by rw [HSAME.out]; exact hta, by unfold dnF; rw [HSAME.out]; exact hda, hbw⟩, by simp [intOf]; omega⟩
      | false =>
        rw [hdk] at cd
        have HNEXT := Lib.hid (show clss l n (k + 1) = clss l n k ++ [cls l n k] by rw [clss_succ, if_neg (by rw [show ((clss l n k).any fun c => c.contains k) = false from hdk]; decide)])
        have HDK := Lib.hid (HDI.out k hlt wv hbw.out)
        clear hdk
        generalize hL : chF l n (clss l n k) = L at *
        have HL := Lib.hid hL
        have hLl : L.length ≤ 4096 := by omega
        clear hcl hcl2 hL
        go_wp2_with (fail)
        refine HDK.out.mono ?_
        rintro e w5 ⟨cb, f, rfl, hia, hdo, hb5⟩
        have HIA5 := Lib.hid hia
        have HDO := Lib.hid hdo
        have HCH5 := Lib.hid (hch.out.later hb5)
        have HTA5 := Lib.hid (hta.out.below hb5)
        have HDA5 := Lib.hid (hda.out.below hb5)
        have HBW5 := Lib.hid (hbw.out.trans (hb5.mono hbw.out.size))
        clear hia hdo hb5 hch hta hda cd HDK
        go_wp2_with (fail)
        have hn6 := heap_alloc_new (w5.alloc (.cells #[] 3)) (.cells #[.int .i64 0, .int .i64 0, .string ⟨#[]⟩] 39)
        rw [World.size_alloc] at hn6
        have hbx := ((Below.refl w5.heap.size w5).alloc (Nat.le_refl _) (.cells #[] 3)).alloc (by simp) (.cells #[.int .i64 0, .int .i64 0, .string ⟨#[]⟩] 39)
        generalize ((w5.alloc (.cells #[] 3)).alloc (.cells #[.int .i64 0, .int .i64 0, .string ⟨#[]⟩] 39)) = w6 at *
        have HX6 := Lib.hid (show Tb w6 (w5.heap.size + 1) noT from hn6)
        have HB56 := Lib.hid hbx
        obtain ⟨xb, HXB⟩ : ∃ xb, Hid (w5.heap.size + 1 = xb) := ⟨_, Lib.hid rfl⟩
        rw [HXB.out] at HX6 ⊢
        have HXL := Lib.hid (show w5.heap.size ≤ xb by have := HXB.out; omega)
        clear hn6 hbx
        go_loopw [13, 15] (fun bv i wr => ∃ (kk : Nat) (X : Option Addr) (cx : Nat) (best : List Nat), i = .int .i64 (kk : Int) ∧ bv = .slice X best.length cx ∧ kk ≤ l.length ∧ Hid (best.length ≤ cx) ∧ Hid (BestI l n k kk 0 best) ∧ Hid (IS wr X best) ∧ Hid (Tb wr xb (lastT l f kk)) ∧ Hid (Below w5.heap.size w5 wr)) (fun _ i _ => l.length - (intOf i).toNat)
        case atStart => exact ⟨0, _, _, [], rfl, rfl, Nat.zero_le _, Lib.hid (Nat.zero_le _), Lib.hid (BestI.start l n k), Lib.hid (IS.nil _ _), HX6, HB56⟩
        case round =>
          obtain ⟨kk, X, cx, best, rfl, rfl, hkk, hcx, hbi, his, htb, hb5⟩ := hrel
          generalize hwo : wr = wk at *
          clear hwo
          have HWK := Lib.hid (HBW5.out.trans (hb5.out.mono HBW5.out.size))
          have HIAK := Lib.hid (HIA5.out.below hb5.out)
          by_cases hlk : kk < l.length
          · obtain ⟨ab, off, rfl, hab, hcs⟩ := HR.out (by omega)
            obtain ⟨r0, r1, _, r3, r4, r5, _, _⟩ := (hcs kk hlk).below HWK.out hab
            have HCS := Lib.hid hcs
            clear hcs
            obtain ⟨x, HX⟩ : ∃ x, Hid (l[kk]? = some x) := ⟨_, Lib.hid (List.getElem?_eq_getElem hlk)⟩
            have hxe : l[kk] = x := by have := HX.out; rw [List.getElem?_eq_getElem hlk] at this; exact Option.some.inj this
            have hpc := pos_cases (HP.out x (List.mem_of_getElem? HX.out))
            rw [hxe] at r0 r1 r3 r4 r5
            clear hxe
            have HLT1 := Lib.hid (show lastT l f (kk + 1) = if x.kind == 0 && (decide (0 ≤ f x.a.toNat) && ((x.mark.kind != 5) && (x.mark.kind != 6))) then x.mark else lastT l f kk by rw [lastT, HX.out])
            obtain ⟨u, hu⟩ : ∃ u : Nat, x.a = (u : Int) := ⟨x.a.toNat, by omega⟩
            have hun : u < n := by omega
            have HU := Lib.hid (show x.a.toNat = u by omega)
            rw [hu] at r1
            rw [HU.out] at HLT1
            rcases hpc.2 with ⟨k0, hmk⟩ | ⟨k1, _⟩
            · rw [k0] at r0
              have HK0 := Lib.hid k0
              have cf := HIAK.out.cell hun
              obtain ⟨y, HY⟩ : ∃ y, Hid (f u = y) := ⟨_, Lib.hid rfl⟩
              rw [HY.out] at cf HLT1
              rw [k0] at HLT1
              clear hpc k0 hmk hu
              by_cases hy : y < 0
              · have HS := Lib.hid (hbi.out.skipK (fun i es ci ck h => by
                  have h1 := h.connK HP.out
                  have h2 := h.gk
                  rw [HX.out] at h2
                  obtain rfl : x = ck := by simpa using h2
                  rw [HU.out] at h1
                  have := (HDO.out.conn hun).2 h1
                  rw [HY.out] at this
                  omega))
                have HLT2 := Lib.hid (show lastT l f (kk + 1) = lastT l f kk by rw [HLT1.out]; simp; omega)
                clear HLT1
                go_wp2_with (fail)
                exact ⟨⟨kk + 1, X, cx, best, by go_num, rfl, by omega, hcx, HS, his, by rw [HLT2.out]; exact htb, hb5⟩, by simp [intOf]; omega⟩
              · have hy0 : 0 ≤ y := by omega
                obtain ⟨b0, HB0⟩ : ∃ b0 : Bool, Hid ((x.mark.kind != 5 && x.mark.kind != 6) = b0) := ⟨_, Lib.hid rfl⟩
                have HLT2 := Lib.hid (show lastT l f (kk + 1) = if b0 then x.mark else lastT l f kk by
                  rw [HLT1.out, ← HB0.out]
                  simp [hy0])
                clear HLT1
                go_upto_region 18 with (fail)
                go_cut [84] (fun s84 wx => s84 = .bool b0 ∧ Hid (wx = wk))
                case first =>
                  by_cases e5 : x.mark.kind = 5
                  · have hb0 : b0 = false := by rw [← HB0.out, e5]; rfl
                    subst hb0
                    rw [e5] at r3
                    clear e5 HB0
                    go_wp2_with (fail)
                    go_meet
                    exact ⟨rfl, Lib.hid rfl⟩
                  · by_cases e6 : x.mark.kind = 6
                    · have hb0 : b0 = false := by rw [← HB0.out, e6]; rfl
                      subst hb0
                      rw [e6] at r3
                      clear e5 e6 HB0
                      go_wp2_with (fail)
                      go_meet
                      exact ⟨rfl, Lib.hid rfl⟩
                    · have hb0 : b0 = true := by rw [← HB0.out]; simp [e5, e6]
                      subst hb0
                      have n5 : (x.mark.kind != 5) = true := by simpa using e5
                      have n6 : (x.mark.kind != 6) = true := by simpa using e6
                      clear e5 e6 HB0
                      go_wp2_with (fail)
                      go_meet
                      exact ⟨rfl, Lib.hid rfl⟩
                case rest =>
                obtain ⟨rfl, hwx⟩ := hcut
                obtain rfl := hwx.out
                go_upto_if 84 with (fail)
                go_cut [14] (fun s14 wx => s14 = .pointer (some ⟨xb, 0, none⟩) ∧ Hid (Tb wx xb (lastT l f (kk + 1))) ∧ Hid (IS wx X best) ∧ Hid (Below w5.heap.size w5 wx))
                case first =>
                  cases b0 with
                  | false =>
                    have HLT3 := Lib.hid (show lastT l f (kk + 1) = lastT l f kk by rw [HLT2.out]; rfl)
                    clear HLT2 HB0
                    go_wp2_with (fail)
                    go_meet
                    exact ⟨rfl, by rw [HLT3.out]; exact htb, his, hb5⟩
                  | true =>
                    have HLT3 := Lib.hid (show lastT l f (kk + 1) = x.mark by rw [HLT2.out]; rfl)
                    obtain ⟨t0, t1, t2⟩ := htb.out.cells
                    have z0 := hfrz htb.out 0
                    have z1 := hfrz htb.out 1
                    have z2 := hfrz htb.out 2
                    have HN1 := Lib.hid (htb.out.set x.mark)
                    have HN2 := Lib.hid (his.out.fz (Fz.setT (v := 0) htb.out.tarr x.mark))
                    have HN3 := Lib.hid (((hb5.out.setCell (p := ⟨xb, 0, none⟩) HXL.out (.int .i64 x.mark.kind)).setCell (p := ⟨xb, 1, none⟩) HXL.out (.int .i64 x.mark.len)).setCell (p := ⟨xb, 2, none⟩) HXL.out (.string x.mark.nm))
                    clear HLT2 HB0
                    go_wp2_with (fail)
                    go_meet
                    exact ⟨rfl, by rw [HLT3.out]; exact HN1, HN2, HN3⟩
                case rest =>
                obtain ⟨rfl, HTBC, HISC, HB5C⟩ := hcut
                generalize hwo : wc = wq at *
                clear hwo
                clear his htb hb5 HWK HIAK r0 r1 r3 r4 r5 cf
                go_wp2_with (fail)
                have hbl := (Below.refl wq.heap.size wq).alloc (Nat.le_refl _) (.cells #[] 3)
                have HTB7 := Lib.hid (HTBC.out.later hbl)
                have HIS7 := Lib.hid (HISC.out.later hbl)
                have HB57 := Lib.hid (HB5C.out.trans (hbl.mono HB5C.out.size))
                generalize (wq.alloc (.cells #[] 3)) = w7 at *
                clear hbl HTBC HISC HB5C
                go_loopw [13, 16, 17] (fun bv tv i wr => ∃ (ii : Nat) (X2 : Option Addr) (c2 : Nat) (best2 : List Nat) (T16 : Option Addr) (m16 : Nat), i = .int .i64 (ii : Int) ∧ bv = .slice X2 best2.length c2 ∧ tv = .slice T16 m16 m16 ∧ ii ≤ kk ∧ Hid (best2.length ≤ c2) ∧ Hid (ToOk wr l n u T16 m16) ∧ Hid (BestI l n k kk ii best2) ∧ Hid (IS wr X2 best2) ∧ Hid (Below w7.heap.size w7 wr)) (fun _ _ i _ => kk - (intOf i).toNat)
                case atStart => exact ⟨0, X, cx, best, _, 0, rfl, rfl, rfl, Nat.zero_le _, hcx, Lib.hid (.inl rfl), hbi, HIS7, Lib.hid (Below.refl _ _)⟩
                case round =>
                  obtain ⟨ii, X2, c2, best2, T16, m16, rfl, rfl, rfl, hii, hc2, hto, hb2, hi2, hb7⟩ := hrel
                  generalize hwo : wr = wi at *
                  clear hwo
                  have HB5I := Lib.hid (HB57.out.trans (hb7.out.mono HB57.out.size))
                  have HWI := Lib.hid (HBW5.out.trans (HB5I.out.mono HBW5.out.size))
                  by_cases hik : ii < kk
                  · have HIAI := Lib.hid (HIA5.out.below HB5I.out)
                    obtain ⟨s0, s1, _, s3, s4, s5, _, _⟩ := (HCS.out ii (by omega)).below HWI.out hab
                    obtain ⟨_, r1, _, r3, r4, r5, _, _⟩ := (HCS.out kk hlk).below HWI.out hab
                    have hil : ii < l.length := by omega
                    obtain ⟨xi, HXI⟩ : ∃ xi, Hid (l[ii]? = some xi) := ⟨_, Lib.hid (List.getElem?_eq_getElem hil)⟩
                    have hxe : l[ii] = xi := by have := HXI.out; rw [List.getElem?_eq_getElem hil] at this; exact Option.some.inj this
                    have hxe2 : l[kk] = x := by have := HX.out; rw [List.getElem?_eq_getElem hlk] at this; exact Option.some.inj this
                    rw [hxe] at s0 s1 s3 s4 s5
                    rw [hxe2] at r1 r3 r4 r5
                    clear hxe hxe2
                    have hpi := pos_cases (HP.out xi (List.mem_of_getElem? HXI.out))
                    obtain ⟨ui, hui⟩ : ∃ ui : Nat, xi.a = (ui : Int) := ⟨xi.a.toNat, by omega⟩
                    have huin : ui < n := by omega
                    have HUI := Lib.hid hui
                    have hua : x.a = (u : Int) := by have := HU.out; have := (pos_cases (HP.out x (List.mem_of_getElem? HX.out))).1; omega
                    have HUA := Lib.hid hua
                    rw [hui] at s1
                    rw [hua] at r1
                    have HTX := Lib.hid (show ∀ es ci ck, TC l k ii kk es ci ck → ci = xi ∧ ck = x from fun es ci ck h => by
                      have h1 := h.gi
                      have h2 := h.gk
                      rw [HXI.out] at h1
                      rw [HX.out] at h2
                      exact ⟨by simpa using h1.symm, by simpa using h2.symm⟩)
                    rcases hpi.2 with ⟨k0, _⟩ | ⟨k1, _⟩
                    · rw [k0] at s0
                      have HKI := Lib.hid k0
                      have cf := HIAI.out.cell huin
                      obtain ⟨yi, HYI⟩ : ∃ yi, Hid (f ui = yi) := ⟨_, Lib.hid rfl⟩
                      rw [HYI.out] at cf
                      clear hpi k0 hui hua
                      by_cases hyi : yi < 0
                      · have HS := Lib.hid (hb2.out.skipI (fun es ci ck h => by
                          obtain ⟨rfl, rfl⟩ := HTX.out es ci ck h
                          have h1 := h.conn
                          rw [HUI.out, Int.toNat_natCast] at h1
                          have := (HDO.out.conn huin).2 h1
                          rw [HYI.out] at this
                          omega))
                        clear HTX
                        go_wp2_with (fail)
                        go_quiet (fail)
                        go_wp2_with (fail)
                        exact ⟨⟨ii + 1, X2, c2, best2, T16, m16, by go_num, rfl, rfl, by omega, hc2, Lib.hid (hto.out.later (drewN_below wi nq)), HS, Lib.hid (hi2.out.later (drewN_below wi nq)), Lib.hid (hb7.out.trans ((drewN_below wi nq).mono hb7.out.size))⟩, by simp [intOf]; omega⟩
                      · have hyi0 : 0 ≤ yi := by omega
                        obtain ⟨ex, HEXV⟩ : ∃ ex, Hid (exclB xi.mark x.mark = ex) := ⟨_, Lib.hid rfl⟩
                        have HEX := Lib.hid (fun W => r_excl_f xi.mark x.mark ex HEXV.out W)
                        have hcbz : cb < wi.heap.size := HIAI.out.lt
                        have habz : ab < wi.heap.size := by have := HWI.out.size; omega
                        have hcbf : (0 : Int) ≤ (ui : Int) := by omega
                        have HP0 := Lib.hid (show ∀ w', Below wi.heap.size wi w' → (w'.cell? ⟨ab, off + ii * 8, none⟩ = some (.int .i64 0) ∧ w'.cell? ⟨ab, off + ii * 8 + 1, none⟩ = some (.int .i64 (ui : Int)) ∧ w'.cell? ⟨cb, ui, none⟩ = some (.int .i64 yi) ∧ w'.cell? ⟨ab, off + ii * 8 + 3, none⟩ = some (.int .i64 xi.mark.kind) ∧ w'.cell? ⟨ab, off + ii * 8 + 4, none⟩ = some (.int .i64 xi.mark.len) ∧ w'.cell? ⟨ab, off + ii * 8 + 5, none⟩ = some (.string xi.mark.nm) ∧ w'.cell? ⟨ab, off + kk * 8 + 3, none⟩ = some (.int .i64 x.mark.kind) ∧ w'.cell? ⟨ab, off + kk * 8 + 4, none⟩ = some (.int .i64 x.mark.len) ∧ w'.cell? ⟨ab, off + kk * 8 + 5, none⟩ = some (.string x.mark.nm)) from fun w' hb => ⟨(hb.cell (p := ⟨ab, off + ii * 8, none⟩) habz).trans s0, (hb.cell (p := ⟨ab, off + ii * 8 + 1, none⟩) habz).trans s1, (hb.cell (p := ⟨cb, ui, none⟩) hcbz).trans cf, (hb.cell (p := ⟨ab, off + ii * 8 + 3, none⟩) habz).trans s3, (hb.cell (p := ⟨ab, off + ii * 8 + 4, none⟩) habz).trans s4, (hb.cell (p := ⟨ab, off + ii * 8 + 5, none⟩) habz).trans s5, (hb.cell (p := ⟨ab, off + kk * 8 + 3, none⟩) habz).trans r3, (hb.cell (p := ⟨ab, off + kk * 8 + 4, none⟩) habz).trans r4, (hb.cell (p := ⟨ab, off + kk * 8 + 5, none⟩) habz).trans r5⟩)
                        clear s0 s1 s3 s4 s5 r1 r3 r4 r5 cf
                        cases ex with
                        | false =>
                          as_aux_lemma =>
                            have HS := Lib.hid (hb2.out.skipI (fun es ci ck h => by
                              obtain ⟨rfl, rfl⟩ := HTX.out es ci ck h
                              have h1 := h.excl
                              rw [HEXV.out] at h1
                              cases h1))
                            clear HTX
                            go_wp2_with (fail)
                            refine wp_region_noPanic ?_
                            refine wp_region_held (S := fun w' => Below wi.heap.size wi w') (by kernel_rfl) ?_
                            refine wpAnyH_take (i := 0) (oi := { dst := some 96, op := Op.move (Operand.tmp 1), type := 22, pos := "ref.go:331", after := #[], guard := none }) (v := .slice (some ⟨ab, off, none⟩) l.length c) rfl (by kernel_rfl) (by kernel_rfl) (by kernel_rfl) (fun _ _ _ h => h) (Or.inl ⟨by rfl, ?_⟩) (Below.refl _ _).drew ?_
                            · (intro w' hSw; go_simp)
                            simp only [Act.put, List.setIfInBounds_toArray, List.set_cons_zero, List.set_cons_succ]
                            refine wpAnyH_take (i := 1) (oi := { dst := some 97, op := Op.move (Operand.tmp 17), type := 3, pos := "ref.go:331", after := #[], guard := none }) (v := .int .i64 (ii : Int)) rfl (by kernel_rfl) (by kernel_rfl) (by kernel_rfl) (fun _ _ _ h => h) (Or.inl ⟨by rfl, ?_⟩) (Below.refl _ _).drew ?_
                            · (intro w' hSw; go_simp)
                            simp only [Act.put, List.setIfInBounds_toArray, List.set_cons_zero, List.set_cons_succ]
                            refine wpAnyH_take (i := 2) (oi := { dst := some 98, op := Op.indexAddr 22 (Operand.tmp 96) (Operand.tmp 97), type := 0, pos := "ref.go:331", after := #[{ on := 0, ground := Ground.data }, { on := 1, ground := Ground.data }], guard := none }) (v := .pointer (some ⟨ab, off + ii * 8, none⟩)) rfl (by kernel_rfl) (by kernel_rfl) (by kernel_rfl) (fun _ _ _ h => h) (Or.inl ⟨by rfl, ?_⟩) (Below.refl _ _).drew ?_
                            · (intro w' hSw; go_simp)
                            simp only [Act.put, List.setIfInBounds_toArray, List.set_cons_zero, List.set_cons_succ]
                            refine wpAnyH_take (i := 3) (oi := { dst := some 99, op := Op.fieldAddr 41 (Operand.tmp 98) 0, type := 0, pos := "ref.go:331", after := #[{ on := 2, ground := Ground.data }], guard := none }) (v := .pointer (some ⟨ab, off + ii * 8, none⟩)) rfl (by kernel_rfl) (by kernel_rfl) (by kernel_rfl) (fun _ _ _ h => h) (Or.inl ⟨by rfl, ?_⟩) (Below.refl _ _).drew ?_
                            · (intro w' hSw; go_simp)
                            simp only [Act.put, List.setIfInBounds_toArray, List.set_cons_zero, List.set_cons_succ]
                            refine wpAnyH_take (i := 4) (oi := { dst := some 100, op := Op.load 3 (Operand.tmp 99), type := 3, pos := "ref.go:331", after := #[{ on := 3, ground := Ground.data }], guard := none }) (v := .int .i64 0) rfl (by kernel_rfl) (by kernel_rfl) (by kernel_rfl) (fun _ _ _ h => h) (Or.inl ⟨by rfl, ?_⟩) (Below.refl _ _).drew ?_
                            · (intro w' hSw; obtain ⟨p0, p1, p3, p4, p5, p6, p7, p8, p9⟩ := HP0.out w' hSw; go_simp)
                            simp only [Act.put, List.setIfInBounds_toArray, List.set_cons_zero, List.set_cons_succ]
                            refine wpAnyH_take (i := 5) (oi := { dst := some 101, op := Op.binOp BinOp.neq 3 (Operand.tmp 100) (Operand.const (Value.int IntKind.i64 0)) 3, type := 4, pos := "ref.go:331", after := #[{ on := 4, ground := Ground.data }], guard := none }) (v := .bool false) rfl (by kernel_rfl) (by kernel_rfl) (by kernel_rfl) (fun _ _ _ h => h) (Or.inl ⟨by rfl, ?_⟩) (Below.refl _ _).drew ?_
                            · (intro w' hSw; go_simp)
                            simp only [Act.put, List.setIfInBounds_toArray, List.set_cons_zero, List.set_cons_succ]
                            refine wpAnyH_take (i := 6) (oi := { dst := some 102, op := Op.move (Operand.tmp 101), type := 4, pos := "ref.go:331", after := #[{ on := 5, ground := Ground.data }], guard := none }) (v := .bool false) rfl (by kernel_rfl) (by kernel_rfl) (by kernel_rfl) (fun _ _ _ h => h) (Or.inl ⟨by rfl, ?_⟩) (Below.refl _ _).drew ?_
                            · (intro w' hSw; go_simp)
                            simp only [Act.put, List.setIfInBounds_toArray, List.set_cons_zero, List.set_cons_succ]
                            refine wpAnyH_take (i := 7) (oi := { dst := some 103, op := Op.move (Operand.tmp 12), type := 23, pos := "ref.go:331", after := #[{ on := 6, ground := Ground.guard }], guard := some (6, false) }) (v := .slice (some ⟨cb, 0, none⟩) n n) rfl (by kernel_rfl) (by kernel_rfl) (by kernel_rfl) (fun _ _ _ h => h) (Or.inl ⟨by rfl, ?_⟩) (Below.refl _ _).drew ?_
                            · (intro w' hSw; go_simp)
                            simp only [Act.put, List.setIfInBounds_toArray, List.set_cons_zero, List.set_cons_succ]
                            refine wpAnyH_take (i := 8) (oi := { dst := some 104, op := Op.move (Operand.tmp 1), type := 22, pos := "ref.go:331", after := #[{ on := 6, ground := Ground.guard }], guard := some (6, false) }) (v := .slice (some ⟨ab, off, none⟩) l.length c) rfl (by kernel_rfl) (by kernel_rfl) (by kernel_rfl) (fun _ _ _ h => h) (Or.inl ⟨by rfl, ?_⟩) (Below.refl _ _).drew ?_
                            · (intro w' hSw; go_simp)
                            simp only [Act.put, List.setIfInBounds_toArray, List.set_cons_zero, List.set_cons_succ]
                            refine wpAnyH_take (i := 9) (oi := { dst := some 105, op := Op.move (Operand.tmp 17), type := 3, pos := "ref.go:331", after := #[{ on := 6, ground := Ground.guard }], guard := some (6, false) }) (v := .int .i64 (ii : Int)) rfl (by kernel_rfl) (by kernel_rfl) (by kernel_rfl) (fun _ _ _ h => h) (Or.inl ⟨by rfl, ?_⟩) (Below.refl _ _).drew ?_
                            · (intro w' hSw; go_simp)
                            simp only [Act.put, List.setIfInBounds_toArray, List.set_cons_zero, List.set_cons_succ]
                            refine wpAnyH_take (i := 10) (oi := { dst := some 106, op := Op.indexAddr 22 (Operand.tmp 104) (Operand.tmp 105), type := 0, pos := "ref.go:331", after := #[{ on := 8, ground := Ground.data }, { on := 9, ground := Ground.data }, { on := 6, ground := Ground.guard }], guard := some (6, false) }) (v := .pointer (some ⟨ab, off + ii * 8, none⟩)) rfl (by kernel_rfl) (by kernel_rfl) (by kernel_rfl) (fun _ _ _ h => h) (Or.inl ⟨by rfl, ?_⟩) (Below.refl _ _).drew ?_
                            · (intro w' hSw; go_simp)
                            simp only [Act.put, List.setIfInBounds_toArray, List.set_cons_zero, List.set_cons_succ]
                            refine wpAnyH_take (i := 11) (oi := { dst := some 107, op := Op.fieldAddr 41 (Operand.tmp 106) 1, type := 0, pos := "ref.go:331", after := #[{ on := 10, ground := Ground.data }, { on := 6, ground := Ground.guard }], guard := some (6, false) }) (v := .pointer (some ⟨ab, off + ii * 8 + 1, none⟩)) rfl (by kernel_rfl) (by kernel_rfl) (by kernel_rfl) (fun _ _ _ h => h) (Or.inl ⟨by rfl, ?_⟩) (Below.refl _ _).drew ?_
                            · (intro w' hSw; go_simp)
                            simp only [Act.put, List.setIfInBounds_toArray, List.set_cons_zero, List.set_cons_succ]
                            refine wpAnyH_take (i := 12) (oi := { dst := some 108, op := Op.load 3 (Operand.tmp 107), type := 3, pos := "ref.go:331", after := #[{ on := 11, ground := Ground.data }, { on := 6, ground := Ground.guard }], guard := some (6, false) }) (v := .int .i64 (ui : Int)) rfl (by kernel_rfl) (by kernel_rfl) (by kernel_rfl) (fun _ _ _ h => h) (Or.inl ⟨by rfl, ?_⟩) (Below.refl _ _).drew ?_
                            · (intro w' hSw; obtain ⟨p0, p1, p3, p4, p5, p6, p7, p8, p9⟩ := HP0.out w' hSw; go_simp)
                            simp only [Act.put, List.setIfInBounds_toArray, List.set_cons_zero, List.set_cons_succ]
                            refine wpAnyH_take (i := 13) (oi := { dst := some 109, op := Op.indexAddr 23 (Operand.tmp 103) (Operand.tmp 108), type := 0, pos := "ref.go:331", after := #[{ on := 7, ground := Ground.data }, { on := 12, ground := Ground.data }, { on := 6, ground := Ground.guard }], guard := some (6, false) }) (v := .pointer (some ⟨cb, ui, none⟩)) rfl (by kernel_rfl) (by kernel_rfl) (by kernel_rfl) (fun _ _ _ h => h) (Or.inl ⟨by rfl, ?_⟩) (Below.refl _ _).drew ?_
                            · (intro w' hSw; go_simp)
                            simp only [Act.put, List.setIfInBounds_toArray, List.set_cons_zero, List.set_cons_succ]
                            refine wpAnyH_take (i := 14) (oi := { dst := some 110, op := Op.load 3 (Operand.tmp 109), type := 3, pos := "ref.go:331", after := #[{ on := 13, ground := Ground.data }, { on := 6, ground := Ground.guard }], guard := some (6, false) }) (v := .int .i64 yi) rfl (by kernel_rfl) (by kernel_rfl) (by kernel_rfl) (fun _ _ _ h => h) (Or.inl ⟨by rfl, ?_⟩) (Below.refl _ _).drew ?_
                            · (intro w' hSw; obtain ⟨p0, p1, p3, p4, p5, p6, p7, p8, p9⟩ := HP0.out w' hSw; go_simp)
                            simp only [Act.put, List.setIfInBounds_toArray, List.set_cons_zero, List.set_cons_succ]
                            refine wpAnyH_take (i := 15) (oi := { dst := some 111, op := Op.binOp BinOp.lss 3 (Operand.tmp 110) (Operand.const (Value.int IntKind.i64 0)) 3, type := 4, pos := "ref.go:331", after := #[{ on := 14, ground := Ground.data }, { on := 6, ground := Ground.guard }], guard := some (6, false) }) (v := .bool false) rfl (by kernel_rfl) (by kernel_rfl) (by kernel_rfl) (fun _ _ _ h => h) (Or.inl ⟨by rfl, ?_⟩) (Below.refl _ _).drew ?_
                            · (intro w' hSw; go_simp)
                            simp only [Act.put, List.setIfInBounds_toArray, List.set_cons_zero, List.set_cons_succ]
                            refine wpAnyH_take (i := 16) (oi := { dst := some 112, op := Op.pick (Operand.tmp 102) (Operand.const (Value.bool true)) (Operand.tmp 111), type := 4, pos := "ref.go:331", after := #[{ on := 6, ground := Ground.data }, { on := 15, ground := Ground.data }], guard := none }) (v := .bool false) rfl (by kernel_rfl) (by kernel_rfl) (by kernel_rfl) (fun _ _ _ h => h) (Or.inl ⟨by rfl, ?_⟩) (Below.refl _ _).drew ?_
                            · (intro w' hSw; go_simp)
                            simp only [Act.put, List.setIfInBounds_toArray, List.set_cons_zero, List.set_cons_succ]
                            refine wpAnyH_take (i := 17) (oi := { dst := some 113, op := Op.move (Operand.tmp 112), type := 4, pos := "ref.go:331", after := #[{ on := 16, ground := Ground.data }, { on := 6, ground := Ground.chain }], guard := none }) (v := .bool false) rfl (by kernel_rfl) (by kernel_rfl) (by kernel_rfl) (fun _ _ _ h => h) (Or.inl ⟨by rfl, ?_⟩) (Below.refl _ _).drew ?_
                            · (intro w' hSw; go_simp)
                            simp only [Act.put, List.setIfInBounds_toArray, List.set_cons_zero, List.set_cons_succ]
                            refine wpAnyH_take (i := 18) (oi := { dst := some 114, op := Op.move (Operand.tmp 1), type := 22, pos := "ref.go:331", after := #[{ on := 17, ground := Ground.guard }], guard := some (17, false) }) (v := .slice (some ⟨ab, off, none⟩) l.length c) rfl (by kernel_rfl) (by kernel_rfl) (by kernel_rfl) (fun _ _ _ h => h) (Or.inl ⟨by rfl, ?_⟩) (Below.refl _ _).drew ?_
                            · (intro w' hSw; go_simp)
                            simp only [Act.put, List.setIfInBounds_toArray, List.set_cons_zero, List.set_cons_succ]
                            refine wpAnyH_take (i := 19) (oi := { dst := some 115, op := Op.move (Operand.tmp 17), type := 3, pos := "ref.go:331", after := #[{ on := 17, ground := Ground.guard }], guard := some (17, false) }) (v := .int .i64 (ii : Int)) rfl (by kernel_rfl) (by kernel_rfl) (by kernel_rfl) (fun _ _ _ h => h) (Or.inl ⟨by rfl, ?_⟩) (Below.refl _ _).drew ?_
                            · (intro w' hSw; go_simp)
                            simp only [Act.put, List.setIfInBounds_toArray, List.set_cons_zero, List.set_cons_succ]
                            refine wpAnyH_take (i := 20) (oi := { dst := some 116, op := Op.indexAddr 22 (Operand.tmp 114) (Operand.tmp 115), type := 0, pos := "ref.go:331", after := #[{ on := 18, ground := Ground.data }, { on := 19, ground := Ground.data }, { on := 17, ground := Ground.guard }], guard := some (17, false) }) (v := .pointer (some ⟨ab, off + ii * 8, none⟩)) rfl (by kernel_rfl) (by kernel_rfl) (by kernel_rfl) (fun _ _ _ h => h) (Or.inl ⟨by rfl, ?_⟩) (Below.refl _ _).drew ?_
                            · (intro w' hSw; go_simp)
                            simp only [Act.put, List.setIfInBounds_toArray, List.set_cons_zero, List.set_cons_succ]
                            refine wpAnyH_take (i := 21) (oi := { dst := some 117, op := Op.fieldAddr 41 (Operand.tmp 116) 3, type := 0, pos := "ref.go:331", after := #[{ on := 20, ground := Ground.data }, { on := 17, ground := Ground.guard }], guard := some (17, false) }) (v := .pointer (some ⟨ab, off + ii * 8 + 3, none⟩)) rfl (by kernel_rfl) (by kernel_rfl) (by kernel_rfl) (fun _ _ _ h => h) (Or.inl ⟨by rfl, ?_⟩) (Below.refl _ _).drew ?_
                            · (intro w' hSw; go_simp)
                            simp only [Act.put, List.setIfInBounds_toArray, List.set_cons_zero, List.set_cons_succ]
                            refine wpAnyH_take (i := 22) (oi := { dst := some 118, op := Op.load 39 (Operand.tmp 117), type := 39, pos := "ref.go:331", after := #[{ on := 21, ground := Ground.data }, { on := 17, ground := Ground.guard }], guard := some (17, false) }) (v := .agg #[.int .i64 xi.mark.kind, .int .i64 xi.mark.len, .string xi.mark.nm]) rfl (by kernel_rfl) (by kernel_rfl) (by kernel_rfl) (fun _ _ _ h => h) (Or.inl ⟨by rfl, ?_⟩) (Below.refl _ _).drew ?_
                            · (intro w' hSw; obtain ⟨p0, p1, p3, p4, p5, p6, p7, p8, p9⟩ := HP0.out w' hSw; go_simp)
                            simp only [Act.put, List.setIfInBounds_toArray, List.set_cons_zero, List.set_cons_succ]
                            refine wpAnyH_take (i := 23) (oi := { dst := some 119, op := Op.move (Operand.tmp 1), type := 22, pos := "ref.go:331", after := #[{ on := 17, ground := Ground.guard }], guard := some (17, false) }) (v := .slice (some ⟨ab, off, none⟩) l.length c) rfl (by kernel_rfl) (by kernel_rfl) (by kernel_rfl) (fun _ _ _ h => h) (Or.inl ⟨by rfl, ?_⟩) (Below.refl _ _).drew ?_
                            · (intro w' hSw; go_simp)
                            simp only [Act.put, List.setIfInBounds_toArray, List.set_cons_zero, List.set_cons_succ]
                            refine wpAnyH_take (i := 24) (oi := { dst := some 120, op := Op.move (Operand.tmp 15), type := 3, pos := "ref.go:331", after := #[{ on := 17, ground := Ground.guard }], guard := some (17, false) }) (v := .int .i64 (kk : Int)) rfl (by kernel_rfl) (by kernel_rfl) (by kernel_rfl) (fun _ _ _ h => h) (Or.inl ⟨by rfl, ?_⟩) (Below.refl _ _).drew ?_
                            · (intro w' hSw; go_simp)
                            simp only [Act.put, List.setIfInBounds_toArray, List.set_cons_zero, List.set_cons_succ]
                            refine wpAnyH_take (i := 25) (oi := { dst := some 121, op := Op.indexAddr 22 (Operand.tmp 119) (Operand.tmp 120), type := 0, pos := "ref.go:331", after := #[{ on := 23, ground := Ground.data }, { on := 24, ground := Ground.data }, { on := 17, ground := Ground.guard }], guard := some (17, false) }) (v := .pointer (some ⟨ab, off + kk * 8, none⟩)) rfl (by kernel_rfl) (by kernel_rfl) (by kernel_rfl) (fun _ _ _ h => h) (Or.inl ⟨by rfl, ?_⟩) (Below.refl _ _).drew ?_
                            · (intro w' hSw; go_simp)
                            simp only [Act.put, List.setIfInBounds_toArray, List.set_cons_zero, List.set_cons_succ]
                            refine wpAnyH_take (i := 26) (oi := { dst := some 122, op := Op.fieldAddr 41 (Operand.tmp 121) 3, type := 0, pos := "ref.go:331", after := #[{ on := 25, ground := Ground.data }, { on := 17, ground := Ground.guard }], guard := some (17, false) }) (v := .pointer (some ⟨ab, off + kk * 8 + 3, none⟩)) rfl (by kernel_rfl) (by kernel_rfl) (by kernel_rfl) (fun _ _ _ h => h) (Or.inl ⟨by rfl, ?_⟩) (Below.refl _ _).drew ?_
                            · (intro w' hSw; go_simp)
                            simp only [Act.put, List.setIfInBounds_toArray, List.set_cons_zero, List.set_cons_succ]
                            refine wpAnyH_take (i := 27) (oi := { dst := some 123, op := Op.load 39 (Operand.tmp 122), type := 39, pos := "ref.go:331", after := #[{ on := 26, ground := Ground.data }, { on := 17, ground := Ground.guard }], guard := some (17, false) }) (v := .agg #[.int .i64 x.mark.kind, .int .i64 x.mark.len, .string x.mark.nm]) rfl (by kernel_rfl) (by kernel_rfl) (by kernel_rfl) (fun _ _ _ h => h) (Or.inl ⟨by rfl, ?_⟩) (Below.refl _ _).drew ?_
                            · (intro w' hSw; obtain ⟨p0, p1, p3, p4, p5, p6, p7, p8, p9⟩ := HP0.out w' hSw; go_simp)
                            simp only [Act.put, List.setIfInBounds_toArray, List.set_cons_zero, List.set_cons_succ]
                            refine wpAnyH_ready (rs := [28]) (by kernel_rfl) (by simp) (AllReadyH.cons (o := { dst := some 124, op := Op.call { callee := Callee.value (Operand.func 23), args := #[Operand.tmp 118, Operand.tmp 123], argTypes := #[39, 39] }, type := 4, pos := "ref.go:331", after := #[{ on := 22, ground := Ground.data }, { on := 27, ground := Ground.data }, { on := 17, ground := Ground.chain }, { on := 17, ground := Ground.guard }], guard := some (17, false) }) rfl (fun K hK => ?_) AllReadyH.nil)
                            go_simp
                            refine (HEX.out _).mono ?_
                            rintro e w9 ⟨rfl, hb9⟩
                            have HB9 := Lib.hid ((Below.refl wi.heap.size wi).drew.trans hb9)
                            clear hb9
                            go_wp2_with (fail)
                            refine hK.out _ _ HB9.out (fun _ => ?_)
                            clear hK K
                            try simp only [Act.put, List.setIfInBounds_toArray, List.set_cons_zero, List.set_cons_succ]
                            refine wpAnyH_take (i := 29) (oi := { dst := some 125, op := Op.unOp UnOp.not 4 (Operand.tmp 124), type := 4, pos := "ref.go:331", after := #[{ on := 28, ground := Ground.data }, { on := 17, ground := Ground.guard }], guard := some (17, false) }) (v := .bool true) rfl (by kernel_rfl) (by kernel_rfl) (by kernel_rfl) (fun _ _ _ h => h) (Or.inl ⟨by rfl, ?_⟩) HB9.out ?_
                            · (intro w' hSw; go_simp)
                            simp only [Act.put, List.setIfInBounds_toArray, List.set_cons_zero, List.set_cons_succ]
                            refine wpAnyH_take (i := 30) (oi := { dst := some 126, op := Op.pick (Operand.tmp 113) (Operand.const (Value.bool true)) (Operand.tmp 125), type := 4, pos := "ref.go:331", after := #[{ on := 17, ground := Ground.data }, { on := 29, ground := Ground.data }], guard := none }) (v := .bool true) rfl (by kernel_rfl) (by kernel_rfl) (by kernel_rfl) (fun _ _ _ h => h) (Or.inl ⟨by rfl, ?_⟩) HB9.out ?_
                            · (intro w' hSw; go_simp)
                            simp only [Act.put, List.setIfInBounds_toArray, List.set_cons_zero, List.set_cons_succ]
                            refine wpAnyH_done (by kernel_rfl) ?_ _
                            refine NoPanic.normal ?_
                            go_wp2_with (fail)
                            exact ⟨⟨ii + 1, X2, c2, best2, T16, m16, by go_num, rfl, rfl, by omega, hc2, Lib.hid (hto.out.later HB9.out), HS, Lib.hid (hi2.out.later HB9.out), Lib.hid (hb7.out.trans (HB9.out.mono hb7.out.size))⟩, by simp [intOf]; omega⟩
                        | true =>
                          as_aux_lemma =>
                            go_wp2_with (fail)
                            refine wp_region_noPanic ?_
                            refine wp_region_held (S := fun w' => Below wi.heap.size wi w') (by kernel_rfl) ?_
                            refine wpAnyH_take (i := 0) (oi := { dst := some 96, op := Op.move (Operand.tmp 1), type := 22, pos := "ref.go:331", after := #[], guard := none }) (v := .slice (some ⟨ab, off, none⟩) l.length c) rfl (by kernel_rfl) (by kernel_rfl) (by kernel_rfl) (fun _ _ _ h => h) (Or.inl ⟨by rfl, ?_⟩) (Below.refl _ _).drew ?_
                            · (intro w' hSw; go_simp)
                            simp only [Act.put, List.setIfInBounds_toArray, List.set_cons_zero, List.set_cons_succ]
                            refine wpAnyH_take (i := 1) (oi := { dst := some 97, op := Op.move (Operand.tmp 17), type := 3, pos := "ref.go:331", after := #[], guard := none }) (v := .int .i64 (ii : Int)) rfl (by kernel_rfl) (by kernel_rfl) (by kernel_rfl) (fun _ _ _ h => h) (Or.inl ⟨by rfl, ?_⟩) (Below.refl _ _).drew ?_
                            · (intro w' hSw; go_simp)
                            simp only [Act.put, List.setIfInBounds_toArray, List.set_cons_zero, List.set_cons_succ]
                            refine wpAnyH_take (i := 2) (oi := { dst := some 98, op := Op.indexAddr 22 (Operand.tmp 96) (Operand.tmp 97), type := 0, pos := "ref.go:331", after := #[{ on := 0, ground := Ground.data }, { on := 1, ground := Ground.data }], guard := none }) (v := .pointer (some ⟨ab, off + ii * 8, none⟩)) rfl (by kernel_rfl) (by kernel_rfl) (by kernel_rfl) (fun _ _ _ h => h) (Or.inl ⟨by rfl, ?_⟩) (Below.refl _ _).drew ?_
                            · (intro w' hSw; go_simp)
                            simp only [Act.put, List.setIfInBounds_toArray, List.set_cons_zero, List.set_cons_succ]
                            refine wpAnyH_take (i := 3) (oi := { dst := some 99, op := Op.fieldAddr 41 (Operand.tmp 98) 0, type := 0, pos := "ref.go:331", after := #[{ on := 2, ground := Ground.data }], guard := none }) (v := .pointer (some ⟨ab, off + ii * 8, none⟩)) rfl (by kernel_rfl) (by kernel_rfl) (by kernel_rfl) (fun _ _ _ h => h) (Or.inl ⟨by rfl, ?_⟩) (Below.refl _ _).drew ?_
                            · (intro w' hSw; go_simp)
                            simp only [Act.put, List.setIfInBounds_toArray, List.set_cons_zero, List.set_cons_succ]
                            refine wpAnyH_take (i := 4) (oi := { dst := some 100, op := Op.load 3 (Operand.tmp 99), type := 3, pos := "ref.go:331", after := #[{ on := 3, ground := Ground.data }], guard := none }) (v := .int .i64 0) rfl (by kernel_rfl) (by kernel_rfl) (by kernel_rfl) (fun _ _ _ h => h) (Or.inl ⟨by rfl, ?_⟩) (Below.refl _ _).drew ?_
                            · (intro w' hSw; obtain ⟨p0, p1, p3, p4, p5, p6, p7, p8, p9⟩ := HP0.out w' hSw; go_simp)
                            simp only [Act.put, List.setIfInBounds_toArray, List.set_cons_zero, List.set_cons_succ]
                            refine wpAnyH_take (i := 5) (oi := { dst := some 101, op := Op.binOp BinOp.neq 3 (Operand.tmp 100) (Operand.const (Value.int IntKind.i64 0)) 3, type := 4, pos := "ref.go:331", after := #[{ on := 4, ground := Ground.data }], guard := none }) (v := .bool false) rfl (by kernel_rfl) (by kernel_rfl) (by kernel_rfl) (fun _ _ _ h => h) (Or.inl ⟨by rfl, ?_⟩) (Below.refl _ _).drew ?_
                            · (intro w' hSw; go_simp)
                            simp only [Act.put, List.setIfInBounds_toArray, List.set_cons_zero, List.set_cons_succ]
                            refine wpAnyH_take (i := 6) (oi := { dst := some 102, op := Op.move (Operand.tmp 101), type := 4, pos := "ref.go:331", after := #[{ on := 5, ground := Ground.data }], guard := none }) (v := .bool false) rfl (by kernel_rfl) (by kernel_rfl) (by kernel_rfl) (fun _ _ _ h => h) (Or.inl ⟨by rfl, ?_⟩) (Below.refl _ _).drew ?_
                            · (intro w' hSw; go_simp)
                            simp only [Act.put, List.setIfInBounds_toArray, List.set_cons_zero, List.set_cons_succ]
                            refine wpAnyH_take (i := 7) (oi := { dst := some 103, op := Op.move (Operand.tmp 12), type := 23, pos := "ref.go:331", after := #[{ on := 6, ground := Ground.guard }], guard := some (6, false) }) (v := .slice (some ⟨cb, 0, none⟩) n n) rfl (by kernel_rfl) (by kernel_rfl) (by kernel_rfl) (fun _ _ _ h => h) (Or.inl ⟨by rfl, ?_⟩) (Below.refl _ _).drew ?_
                            · (intro w' hSw; go_simp)
                            simp only [Act.put, List.setIfInBounds_toArray, List.set_cons_zero, List.set_cons_succ]
                            refine wpAnyH_take (i := 8) (oi := { dst := some 104, op := Op.move (Operand.tmp 1), type := 22, pos := "ref.go:331", after := #[{ on := 6, ground := Ground.guard }], guard := some (6, false) }) (v := .slice (some ⟨ab, off, none⟩) l.length c) rfl (by kernel_rfl) (by kernel_rfl) (by kernel_rfl) (fun _ _ _ h => h) (Or.inl ⟨by rfl, ?_⟩) (Below.refl _ _).drew ?_
                            · (intro w' hSw; go_simp)
                            simp only [Act.put, List.setIfInBounds_toArray, List.set_cons_zero, List.set_cons_succ]
                            refine wpAnyH_take (i := 9) (oi := { dst := some 105, op := Op.move (Operand.tmp 17), type := 3, pos := "ref.go:331", after := #[{ on := 6, ground := Ground.guard }], guard := some (6, false) }) (v := .int .i64 (ii : Int)) rfl (by kernel_rfl) (by kernel_rfl) (by kernel_rfl) (fun _ _ _ h => h) (Or.inl ⟨by rfl, ?_⟩) (Below.refl _ _).drew ?_
                            · (intro w' hSw; go_simp)
                            simp only [Act.put, List.setIfInBounds_toArray, List.set_cons_zero, List.set_cons_succ]
                            refine wpAnyH_take (i := 10) (oi := { dst := some 106, op := Op.indexAddr 22 (Operand.tmp 104) (Operand.tmp 105), type := 0, pos := "ref.go:331", after := #[{ on := 8, ground := Ground.data }, { on := 9, ground := Ground.data }, { on := 6, ground := Ground.guard }], guard := some (6, false) }) (v := .pointer (some ⟨ab, off + ii * 8, none⟩)) rfl (by kernel_rfl) (by kernel_rfl) (by kernel_rfl) (fun _ _ _ h => h) (Or.inl ⟨by rfl, ?_⟩) (Below.refl _ _).drew ?_
                            · (intro w' hSw; go_simp)
                            simp only [Act.put, List.setIfInBounds_toArray, List.set_cons_zero, List.set_cons_succ]
                            refine wpAnyH_take (i := 11) (oi := { dst := some 107, op := Op.fieldAddr 41 (Operand.tmp 106) 1, type := 0, pos := "ref.go:331", after := #[{ on := 10, ground := Ground.data }, { on := 6, ground := Ground.guard }], guard := some (6, false) }) (v := .pointer (some ⟨ab, off + ii * 8 + 1, none⟩)) rfl (by kernel_rfl) (by kernel_rfl) (by kernel_rfl) (fun _ _ _ h => h) (Or.inl ⟨by rfl, ?_⟩) (Below.refl _ _).drew ?_
                            · (intro w' hSw; go_simp)
                            simp only [Act.put, List.setIfInBounds_toArray, List.set_cons_zero, List.set_cons_succ]
                            refine wpAnyH_take (i := 12) (oi := { dst := some 108, op := Op.load 3 (Operand.tmp 107), type := 3, pos := "ref.go:331", after := #[{ on := 11, ground := Ground.data }, { on := 6, ground := Ground.guard }], guard := some (6, false) }) (v := .int .i64 (ui : Int)) rfl (by kernel_rfl) (by kernel_rfl) (by kernel_rfl) (fun _ _ _ h => h) (Or.inl ⟨by rfl, ?_⟩) (Below.refl _ _).drew ?_
                            · (intro w' hSw; obtain ⟨p0, p1, p3, p4, p5, p6, p7, p8, p9⟩ := HP0.out w' hSw; go_simp)
                            simp only [Act.put, List.setIfInBounds_toArray, List.set_cons_zero, List.set_cons_succ]
                            refine wpAnyH_take (i := 13) (oi := { dst := some 109, op := Op.indexAddr 23 (Operand.tmp 103) (Operand.tmp 108), type := 0, pos := "ref.go:331", after := #[{ on := 7, ground := Ground.data }, { on := 12, ground := Ground.data }, { on := 6, ground := Ground.guard }], guard := some (6, false) }) (v := .pointer (some ⟨cb, ui, none⟩)) rfl (by kernel_rfl) (by kernel_rfl) (by kernel_rfl) (fun _ _ _ h => h) (Or.inl ⟨by rfl, ?_⟩) (Below.refl _ _).drew ?_
                            · (intro w' hSw; go_simp)
                            simp only [Act.put, List.setIfInBounds_toArray, List.set_cons_zero, List.set_cons_succ]
                            refine wpAnyH_take (i := 14) (oi := { dst := some 110, op := Op.load 3 (Operand.tmp 109), type := 3, pos := "ref.go:331", after := #[{ on := 13, ground := Ground.data }, { on := 6, ground := Ground.guard }], guard := some (6, false) }) (v := .int .i64 yi) rfl (by kernel_rfl) (by kernel_rfl) (by kernel_rfl) (fun _ _ _ h => h) (Or.inl ⟨by rfl, ?_⟩) (Below.refl _ _).drew ?_
                            · (intro w' hSw; obtain ⟨p0, p1, p3, p4, p5, p6, p7, p8, p9⟩ := HP0.out w' hSw; go_simp)
                            simp only [Act.put, List.setIfInBounds_toArray, List.set_cons_zero, List.set_cons_succ]
                            refine wpAnyH_take (i := 15) (oi := { dst := some 111, op := Op.binOp BinOp.lss 3 (Operand.tmp 110) (Operand.const (Value.int IntKind.i64 0)) 3, type := 4, pos := "ref.go:331", after := #[{ on := 14, ground := Ground.data }, { on := 6, ground := Ground.guard }], guard := some (6, false) }) (v := .bool false) rfl (by kernel_rfl) (by kernel_rfl) (by kernel_rfl) (fun _ _ _ h => h) (Or.inl ⟨by rfl, ?_⟩) (Below.refl _ _).drew ?_
                            · (intro w' hSw; go_simp)
                            simp only [Act.put, List.setIfInBounds_toArray, List.set_cons_zero, List.set_cons_succ]
                            refine wpAnyH_take (i := 16) (oi := { dst := some 112, op := Op.pick (Operand.tmp 102) (Operand.const (Value.bool true)) (Operand.tmp 111), type := 4, pos := "ref.go:331", after := #[{ on := 6, ground := Ground.data }, { on := 15, ground := Ground.data }], guard := none }) (v := .bool false) rfl (by kernel_rfl) (by kernel_rfl) (by kernel_rfl) (fun _ _ _ h => h) (Or.inl ⟨by rfl, ?_⟩) (Below.refl _ _).drew ?_
                            · (intro w' hSw; go_simp)
                            simp only [Act.put, List.setIfInBounds_toArray, List.set_cons_zero, List.set_cons_succ]
                            refine wpAnyH_take (i := 17) (oi := { dst := some 113, op := Op.move (Operand.tmp 112), type := 4, pos := "ref.go:331", after := #[{ on := 16, ground := Ground.data }, { on := 6, ground := Ground.chain }], guard := none }) (v := .bool false) rfl (by kernel_rfl) (by kernel_rfl) (by kernel_rfl) (fun _ _ _ h => h) (Or.inl ⟨by rfl, ?_⟩) (Below.refl _ _).drew ?_
                            · (intro w' hSw; go_simp)
                            simp only [Act.put, List.setIfInBounds_toArray, List.set_cons_zero, List.set_cons_succ]
                            refine wpAnyH_take (i := 18) (oi := { dst := some 114, op := Op.move (Operand.tmp 1), type := 22, pos := "ref.go:331", after := #[{ on := 17, ground := Ground.guard }], guard := some (17, false) }) (v := .slice (some ⟨ab, off, none⟩) l.length c) rfl (by kernel_rfl) (by kernel_rfl) (by kernel_rfl) (fun _ _ _ h => h) (Or.inl ⟨by rfl, ?_⟩) (Below.refl _ _).drew ?_
                            · (intro w' hSw; go_simp)
                            simp only [Act.put, List.setIfInBounds_toArray, List.set_cons_zero, List.set_cons_succ]
                            refine wpAnyH_take (i := 19) (oi := { dst := some 115, op := Op.move (Operand.tmp 17), type := 3, pos := "ref.go:331", after := #[{ on := 17, ground := Ground.guard }], guard := some (17, false) }) (v := .int .i64 (ii : Int)) rfl (by kernel_rfl) (by kernel_rfl) (by kernel_rfl) (fun _ _ _ h => h) (Or.inl ⟨by rfl, ?_⟩) (Below.refl _ _).drew ?_
                            · (intro w' hSw; go_simp)
                            simp only [Act.put, List.setIfInBounds_toArray, List.set_cons_zero, List.set_cons_succ]
                            refine wpAnyH_take (i := 20) (oi := { dst := some 116, op := Op.indexAddr 22 (Operand.tmp 114) (Operand.tmp 115), type := 0, pos := "ref.go:331", after := #[{ on := 18, ground := Ground.data }, { on := 19, ground := Ground.data }, { on := 17, ground := Ground.guard }], guard := some (17, false) }) (v := .pointer (some ⟨ab, off + ii * 8, none⟩)) rfl (by kernel_rfl) (by kernel_rfl) (by kernel_rfl) (fun _ _ _ h => h) (Or.inl ⟨by rfl, ?_⟩) (Below.refl _ _).drew ?_
                            · (intro w' hSw; go_simp)
                            simp only [Act.put, List.setIfInBounds_toArray, List.set_cons_zero, List.set_cons_succ]
                            refine wpAnyH_take (i := 21) (oi := { dst := some 117, op := Op.fieldAddr 41 (Operand.tmp 116) 3, type := 0, pos := "ref.go:331", after := #[{ on := 20, ground := Ground.data }, { on := 17, ground := Ground.guard }], guard := some (17, false) }) (v := .pointer (some ⟨ab, off + ii * 8 + 3, none⟩)) rfl (by kernel_rfl) (by kernel_rfl) (by kernel_rfl) (fun _ _ _ h => h) (Or.inl ⟨by rfl, ?_⟩) (Below.refl _ _).drew ?_
                            · (intro w' hSw; go_simp)
                            simp only [Act.put, List.setIfInBounds_toArray, List.set_cons_zero, List.set_cons_succ]
                            refine wpAnyH_take (i := 22) (oi := { dst := some 118, op := Op.load 39 (Operand.tmp 117), type := 39, pos := "ref.go:331", after := #[{ on := 21, ground := Ground.data }, { on := 17, ground := Ground.guard }], guard := some (17, false) }) (v := .agg #[.int .i64 xi.mark.kind, .int .i64 xi.mark.len, .string xi.mark.nm]) rfl (by kernel_rfl) (by kernel_rfl) (by kernel_rfl) (fun _ _ _ h => h) (Or.inl ⟨by rfl, ?_⟩) (Below.refl _ _).drew ?_
                            · (intro w' hSw; obtain ⟨p0, p1, p3, p4, p5, p6, p7, p8, p9⟩ := HP0.out w' hSw; go_simp)
                            simp only [Act.put, List.setIfInBounds_toArray, List.set_cons_zero, List.set_cons_succ]
                            refine wpAnyH_take (i := 23) (oi := { dst := some 119, op := Op.move (Operand.tmp 1), type := 22, pos := "ref.go:331", after := #[{ on := 17, ground := Ground.guard }], guard := some (17, false) }) (v := .slice (some ⟨ab, off, none⟩) l.length c) rfl (by kernel_rfl) (by kernel_rfl) (by kernel_rfl) (fun _ _ _ h => h) (Or.inl ⟨by rfl, ?_⟩) (Below.refl _ _).drew ?_
                            · (intro w' hSw; go_simp)
                            simp only [Act.put, List.setIfInBounds_toArray, List.set_cons_zero, List.set_cons_succ]
                            refine wpAnyH_take (i := 24) (oi := { dst := some 120, op := Op.move (Operand.tmp 15), type := 3, pos := "ref.go:331", after := #[{ on := 17, ground := Ground.guard }], guard := some (17, false) }) (v := .int .i64 (kk : Int)) rfl (by kernel_rfl) (by kernel_rfl) (by kernel_rfl) (fun _ _ _ h => h) (Or.inl ⟨by rfl, ?_⟩) (Below.refl _ _).drew ?_
                            · (intro w' hSw; go_simp)
                            simp only [Act.put, List.setIfInBounds_toArray, List.set_cons_zero, List.set_cons_succ]
                            refine wpAnyH_take (i := 25) (oi := { dst := some 121, op := Op.indexAddr 22 (Operand.tmp 119) (Operand.tmp 120), type := 0, pos := "ref.go:331", after := #[{ on := 23, ground := Ground.data }, { on := 24, ground := Ground.data }, { on := 17, ground := Ground.guard }], guard := some (17, false) }) (v := .pointer (some ⟨ab, off + kk * 8, none⟩)) rfl (by kernel_rfl) (by kernel_rfl) (by kernel_rfl) (fun _ _ _ h => h) (Or.inl ⟨by rfl, ?_⟩) (Below.refl _ _).drew ?_
                            · (intro w' hSw; go_simp)
                            simp only [Act.put, List.setIfInBounds_toArray, List.set_cons_zero, List.set_cons_succ]
                            refine wpAnyH_take (i := 26) (oi := { dst := some 122, op := Op.fieldAddr 41 (Operand.tmp 121) 3, type := 0, pos := "ref.go:331", after := #[{ on := 25, ground := Ground.data }, { on := 17, ground := Ground.guard }], guard := some (17, false) }) (v := .pointer (some ⟨ab, off + kk * 8 + 3, none⟩)) rfl (by kernel_rfl) (by kernel_rfl) (by kernel_rfl) (fun _ _ _ h => h) (Or.inl ⟨by rfl, ?_⟩) (Below.refl _ _).drew ?_
                            · (intro w' hSw; go_simp)
                            simp only [Act.put, List.setIfInBounds_toArray, List.set_cons_zero, List.set_cons_succ]
                            refine wpAnyH_take (i := 27) (oi := { dst := some 123, op := Op.load 39 (Operand.tmp 122), type := 39, pos := "ref.go:331", after := #[{ on := 26, ground := Ground.data }, { on := 17, ground := Ground.guard }], guard := some (17, false) }) (v := .agg #[.int .i64 x.mark.kind, .int .i64 x.mark.len, .string x.mark.nm]) rfl (by kernel_rfl) (by kernel_rfl) (by kernel_rfl) (fun _ _ _ h => h) (Or.inl ⟨by rfl, ?_⟩) (Below.refl _ _).drew ?_
                            · (intro w' hSw; obtain ⟨p0, p1, p3, p4, p5, p6, p7, p8, p9⟩ := HP0.out w' hSw; go_simp)
                            simp only [Act.put, List.setIfInBounds_toArray, List.set_cons_zero, List.set_cons_succ]
                            refine wpAnyH_ready (rs := [28]) (by kernel_rfl) (by simp) (AllReadyH.cons (o := { dst := some 124, op := Op.call { callee := Callee.value (Operand.func 23), args := #[Operand.tmp 118, Operand.tmp 123], argTypes := #[39, 39] }, type := 4, pos := "ref.go:331", after := #[{ on := 22, ground := Ground.data }, { on := 27, ground := Ground.data }, { on := 17, ground := Ground.chain }, { on := 17, ground := Ground.guard }], guard := some (17, false) }) rfl (fun K hK => ?_) AllReadyH.nil)
                            go_simp
                            refine (HEX.out _).mono ?_
                            rintro e w9 ⟨rfl, hb9⟩
                            have HB9 := Lib.hid ((Below.refl wi.heap.size wi).drew.trans hb9)
                            clear hb9
                            go_wp2_with (fail)
                            refine hK.out _ _ HB9.out (fun _ => ?_)
                            clear hK K
                            try simp only [Act.put, List.setIfInBounds_toArray, List.set_cons_zero, List.set_cons_succ]
                            refine wpAnyH_take (i := 29) (oi := { dst := some 125, op := Op.unOp UnOp.not 4 (Operand.tmp 124), type := 4, pos := "ref.go:331", after := #[{ on := 28, ground := Ground.data }, { on := 17, ground := Ground.guard }], guard := some (17, false) }) (v := .bool false) rfl (by kernel_rfl) (by kernel_rfl) (by kernel_rfl) (fun _ _ _ h => h) (Or.inl ⟨by rfl, ?_⟩) HB9.out ?_
                            · (intro w' hSw; go_simp)
                            simp only [Act.put, List.setIfInBounds_toArray, List.set_cons_zero, List.set_cons_succ]
                            refine wpAnyH_take (i := 30) (oi := { dst := some 126, op := Op.pick (Operand.tmp 113) (Operand.const (Value.bool true)) (Operand.tmp 125), type := 4, pos := "ref.go:331", after := #[{ on := 17, ground := Ground.data }, { on := 29, ground := Ground.data }], guard := none }) (v := .bool false) rfl (by kernel_rfl) (by kernel_rfl) (by kernel_rfl) (fun _ _ _ h => h) (Or.inl ⟨by rfl, ?_⟩) HB9.out ?_
                            · (intro w' hSw; go_simp)
                            simp only [Act.put, List.setIfInBounds_toArray, List.set_cons_zero, List.set_cons_succ]
                            refine wpAnyH_done (by kernel_rfl) ?_ _
                            refine NoPanic.normal ?_
                            go_upto_if 129 with (fail)
                            go_cut [16] (fun s16 wx => ∃ (b16 : Nat) (g : Nat → Int), s16 = .slice (some ⟨b16, 0, none⟩) n n ∧ Hid (IArr wx b16 n g) ∧ Hid (DOk l n u g) ∧ Hid (Below w9.heap.size w9 wx))
                            case first =>
                              have HW9 := Lib.hid (HWI.out.trans (HB9.out.mono HWI.out.size))
                              rcases hto.out with h0 | ⟨h1, b16, g, h2, h3, h4⟩
                              · subst h0
                                have r1 := ((HCS.out kk hlk).below HW9.out hab).2.1
                                have hxe2 : l[kk] = x := by have := HX.out; rw [List.getElem?_eq_getElem hlk] at this; exact Option.some.inj this
                                rw [hxe2, HUA.out] at r1
                                have HCD := Lib.hid (HDI.out u hun w9 HW9.out)
                                clear hxe2 hto
                                go_wp2_with (fail)
                                refine HCD.out.mono ?_
                                rintro e wd ⟨b16, g, rfl, hia, hdg, hbd⟩
                                have H1 := Lib.hid hia
                                have H2 := Lib.hid hdg
                                have H3 := Lib.hid hbd
                                clear hia hdg hbd r1
                                go_wp2_with (fail)
                                go_meet
                                exact ⟨b16, g, rfl, H1, H2, H3⟩
                              · have h1' : n = m16 := h1.symm
                                clear h1
                                subst h1'
                                subst h2
                                have hn0 : ((n : Int) == 0) = false := by simp; omega
                                have H1 := Lib.hid (h3.below HB9.out)
                                have H2 := Lib.hid h4
                                clear h3 h4 hto
                                go_wp2_with (fail)
                                go_meet
                                exact ⟨b16, g, rfl, H1, H2, Lib.hid (Below.refl _ _)⟩
                            case rest =>
                            obtain ⟨b16, g, rfl, hia, hdg, hbx⟩ := hcut
                            generalize hwo : wc = wx at *
                            clear hwo hto
                            have HB9X := Lib.hid (HB9.out.trans (hbx.out.mono HB9.out.size))
                            have HWX := Lib.hid (HWI.out.trans (HB9X.out.mono HWI.out.size))
                            obtain ⟨_, p1, _, _, _, _, _, _, _⟩ := HP0.out wx HB9X.out
                            have cg := hia.out.cell huin
                            have HCI := Lib.hid ((HDO.out.conn huin).1 (by rw [HYI.out]; exact hyi0))
                            have HCK := Lib.hid ((HDO.out.conn hun).1 (by rw [HY.out]; exact hy0))
                            have hg0 : 0 ≤ g ui := (hdg.out.conn huin).2 (HCK.out.symm.trans HCI.out)
                            have hgn : g ui ≤ 4096 := by
                              rcases hdg.out ui huin with ⟨e, _⟩ | ⟨j, hj, e, _⟩ <;> omega
                            obtain ⟨dd, HDD⟩ : ∃ dd, Hid (g ui = dd) := ⟨_, Lib.hid rfl⟩
                            have HG0 := Lib.hid hg0
                            rw [HDD.out] at cg hg0 hgn
                            have hbl2 := hb2.out.len
                            obtain ⟨b1, HB1V⟩ : ∃ b1 : Bool, Hid ((decide (0 < best2.length) && decide ((best2.length : Int) < dd + 2)) = b1) := ⟨_, Lib.hid rfl⟩
                            go_upto_region 27 with (fail)
                            go_cut [154] (fun s154 wy => s154 = .bool b1 ∧ Hid (wy = wx))
                            case first =>
                              by_cases e0 : 0 < best2.length
                              · have e0' : decide (0 < (best2.length : Int)) = true := by simpa using e0
                                by_cases e1 : (best2.length : Int) < dd + 2
                                · have hbv : b1 = true := by rw [← HB1V.out]; simp [e0, e1]
                                  subst hbv
                                  clear HB1V
                                  go_wp2_with (fail)
                                  go_meet
                                  exact ⟨rfl, Lib.hid rfl⟩
                                · have hbv : b1 = false := by rw [← HB1V.out]; simp [e1]
                                  subst hbv
                                  clear HB1V
                                  go_wp2_with (fail)
                                  go_meet
                                  exact ⟨rfl, Lib.hid rfl⟩
                              · have hbv : b1 = false := by rw [← HB1V.out]; simp [e0]
                                have e0' : decide (0 < (best2.length : Int)) = false := by simpa using e0
                                have e0'' : ¬ 0 < (best2.length : Int) := by omega
                                subst hbv
                                clear HB1V
                                go_wp2_with (fail)
                                go_meet
                                exact ⟨rfl, Lib.hid rfl⟩
                            case rest =>
                            obtain ⟨rfl, hwx⟩ := hcut
                            rw [hwx.out]
                            clear hwx
                            have HTO := Lib.hid (show ToOk wx l n u (some ⟨b16, 0, none⟩) n from .inr ⟨rfl, b16, g, rfl, hia.out, hdg.out⟩)
                            have HI2X := Lib.hid (hi2.out.later HB9X.out)
                            have HB7X := Lib.hid (hb7.out.trans (HB9X.out.mono hb7.out.size))
                            cases b1 with
                            | true =>
                              have HS := Lib.hid (hb2.out.later (fun e => by have := HB1V.out; rw [e] at this; simp at this) (fun es ci ck h => by
                                obtain ⟨rfl, rfl⟩ := HTX.out es ci ck h
                                have hld := h.leads
                                rw [HUI.out, HUA.out] at hld
                                have h3 := (dist_walk HP.out hdg.out huin hld).2
                                have h4 := HB1V.out
                                simp at h4
                                rw [HDD.out] at h3
                                exact .inl (by simp; omega)))
                              clear HB1V HTX p1 cg
                              go_wp2_with (fail)
                              exact ⟨⟨ii + 1, X2, c2, best2, some ⟨b16, 0, none⟩, n, by go_num, rfl, rfl, by omega, hc2, HTO, HS, HI2X, HB7X⟩, by simp [intOf]; omega⟩
                            | false =>
                              as_aux_lemma =>
                                clear HB1V
                                have hbl0 := (Below.refl wx.heap.size wx).alloc (Nat.le_refl _) (.cells #[.int .i64 (ii : Int)] 3)
                                obtain ⟨_, pl, _, _, _, _, _, _, _⟩ := HP0.out _ (HB9X.out.trans (hbl0.mono HB9X.out.size))
                                clear hbl0
                                go_wp2_with (fail)
                                clear pl
                                have hbl := (Below.refl wx.heap.size wx).alloc (Nat.le_refl _) (.cells #[.int .i64 (ii : Int)] 3)
                                have hol : IOwn (wx.alloc (.cells #[.int .i64 (ii : Int)] 3)) wx.heap.size (.slice (some ⟨wx.heap.size, 0, none⟩) 1 1) [ii] := World.ownsRow_lit wx #[.int .i64 (ii : Int)] 1 (Nat.le_refl _) (by decide) (by simp)
                                have HIAL := Lib.hid (hia.out.below hbl)
                                have HTOL := Lib.hid (HTO.out.later hbl)
                                have HBL := Lib.hid hbl
                                generalize (wx.alloc (.cells #[.int .i64 (ii : Int)] 3)) = wl at *
                                obtain ⟨lb, HLB⟩ : ∃ lb, Hid (wx.heap.size = lb) := ⟨_, Lib.hid rfl⟩
                                rw [HLB.out] at hol ⊢
                                have HOL := Lib.hid hol
                                have HWL := Lib.hid (HWX.out.trans (HBL.out.mono HWX.out.size))
                                clear hbl hol p1 cg
                                refine (way_any n ui u (some ⟨ab, off, none⟩) c l b16 g wl (by omega) huin HG0.out HP.out hl (HR.out.later HWL.out) hdg.out HIAL.out).mono ?_
                                rintro e wm ⟨X3, c3, W, rfl, hown3, hWn, hWok, hbm⟩
                                have HTOM := Lib.hid (HTOL.out.later hbm)
                                have HXM := Lib.hid (HBL.out.trans (hbm.mono HBL.out.size))
                                obtain ⟨X4, cap4, wn, hrun4, own4, gr4⟩ := i_append wm lb 1 _ [ii] (HOL.out.later hbm) rfl X3 c3 W.length W rfl ((IS.of_own hown3 rfl).irow) (by omega) (by have := HXM.out.size; have := HLB.out; omega)
                                have HXN := Lib.hid (HXM.out.grown gr4 HXM.out.size (fun b e => by have := HLB.out; have : lb = b := Option.some.inj e; omega))
                                have HMN := Lib.hid gr4
                                have HR4 := Lib.hid hrun4
                                have HWO := Lib.hid hWok
                                have HO4 := Lib.hid own4
                                clear hrun4 hown3 hWok hbm own4 gr4
                                go_upto_region 29 with (at_builtin; refine co_append_by rfl _ _ 23 23 rfl _ _ rfl rfl _ _ HR4.out ?_)
                                clear HR4
                                have hal := (Below.refl wn.heap.size wn).alloc (Nat.le_refl _) (.cells #[.int .i64 (kk : Int)] 3)
                                have hrow5 : IRow (wn.alloc (.cells #[.int .i64 (kk : Int)] 3)).heap.size (wn.alloc (.cells #[.int .i64 (kk : Int)] 3)) (some ⟨wn.heap.size, 0, none⟩) [kk] := fun _ => ⟨wn.heap.size, 0, rfl, by simp, fun i hi => by
                                  obtain rfl : i = 0 := by simpa using hi
                                  exact Lib.cell_of_heap (heap_alloc_new wn _) 0⟩
                                obtain ⟨X5, cap5, wo, hrun5, own5, gr5⟩ := i_append (wn.alloc (.cells #[.int .i64 (kk : Int)] 3)) lb (1 + W.length) _ ([ii] ++ W) (HO4.out.later hal) (by simp; omega) (some ⟨wn.heap.size, 0, none⟩) 1 1 [kk] rfl hrow5 (by omega) (by have := HXN.out.size; have := HLB.out; simp; omega)
                                have HXA := Lib.hid (HXN.out.trans (hal.mono HXN.out.size))
                                have HXO := Lib.hid (HXA.out.grown gr5 HXA.out.size (fun b e => by
                                  have h1 := (World.ownsRow.lt HO4.out b e).1
                                  have := HLB.out
                                  omega))
                                have HR5 := Lib.hid hrun5
                                have hce : ([ii] ++ W) ++ [kk] = ii :: (W ++ [kk]) := by simp
                                rw [hce] at own5
                                have HCL := Lib.hid (show (ii :: (W ++ [kk])).length = 1 + W.length + 1 by simp; omega)
                                have HO5 := Lib.hid own5
                                have HIS5 := Lib.hid (IS.of_own own5 HCL.out)
                                have HCAP := Lib.hid (IOwn.cap own5)
                                have HWOO := Lib.hid (HWX.out.trans (HXO.out.mono HWX.out.size))
                                clear hrun5 own5 gr5 hal hrow5 hce
                                go_upto_region 30 with (at_builtin; refine co_append_by rfl _ _ 23 23 rfl _ _ rfl rfl _ _ HR5.out ?_)
                                clear HR5
                                obtain ⟨v, HV⟩ : ∃ v, Hid (befB (ii :: (W ++ [kk])) best2 = v) := ⟨_, Lib.hid rfl⟩
                                have hbef := before_any X5 X2 cap5 c2 (ii :: (W ++ [kk])) best2 wo HIS5.out.irow ((HI2X.out.later HXO.out).irow) (by rw [HCL.out]; omega) (by omega) v HV.out
                                rw [HCL.out] at hbef
                                have HBEF := Lib.hid hbef
                                clear hbef
                                go_wp2_with (fail)
                                refine HBEF.out.mono ?_
                                rintro e wp ⟨rfl, hbp⟩
                                have HXP := Lib.hid (HXO.out.trans (hbp.mono HXO.out.size))
                                have HTOP := Lib.hid (HTO.out.later HXP.out)
                                have HB7P := Lib.hid (HB7X.out.trans (HXP.out.mono HB7X.out.size))
                                have HTCW := Lib.hid (show TC l k ii kk W xi x from ⟨HXI.out, HX.out, HKI.out, HK0.out, by rw [HUI.out, Int.toNat_natCast]; exact HCI.out, by rw [HUI.out, HUA.out]; exact HWO.out.1, HEXV.out⟩)
                                have HMIN := Lib.hid (show ∀ es, wlk l xi.a es = some x.a → leL W es from fun es h => HWO.out.2 es (by rw [HUI.out, HUA.out] at h; exact h))
                                have HIS6 := Lib.hid (HIS5.out.later hbp)
                                clear hbp HBEF
                                cases v with
                                | true =>
                                  have HS := Lib.hid (hb2.out.take hik HTCW.out hWn HMIN.out (bef_true HV.out))
                                  go_wp2_with (fail)
                                  exact ⟨⟨ii + 1, X5, cap5, ii :: (W ++ [kk]), some ⟨b16, 0, none⟩, n, by go_num, by rw [HCL.out], rfl, by omega, Lib.hid (by rw [HCL.out]; exact HCAP.out), HTOP, HS, HIS6, HB7P⟩, by simp [intOf]; omega⟩
                                | false =>
                                  have HS := Lib.hid (hb2.out.later (bef_false HV.out).1 (fun es ci ck h => by
                                    obtain ⟨rfl, rfl⟩ := HTX.out es ci ck h
                                    exact (bef_false HV.out).2.trans (((HMIN.out es h.leads).snoc (Nat.le_refl _)).cons (Nat.le_refl _))))
                                  go_wp2_with (fail)
                                  exact ⟨⟨ii + 1, X2, c2, best2, some ⟨b16, 0, none⟩, n, by go_num, rfl, rfl, by omega, hc2, HTOP, HS, Lib.hid (HI2X.out.later HXP.out), HB7P⟩, by simp [intOf]; omega⟩
                    · rw [k1] at s0
                      have HS := Lib.hid (hb2.out.skipI (fun es ci ck h => by
                        obtain ⟨rfl, rfl⟩ := HTX.out es ci ck h
                        have := h.ki
                        omega))
                      clear hpi k1 hui hua HTX
                      go_wp2_with (fail)
                      go_quiet (fail)
                      go_wp2_with (fail)
                      exact ⟨⟨ii + 1, X2, c2, best2, T16, m16, by go_num, rfl, rfl, by omega, hc2, Lib.hid (hto.out.later (drewN_below wi nq)), HS, Lib.hid (hi2.out.later (drewN_below wi nq)), Lib.hid (hb7.out.trans ((drewN_below wi nq).mono hb7.out.size))⟩, by simp [intOf]; omega⟩
                  · obtain rfl : ii = kk := by omega
                    have HS := Lib.hid hb2.out.endK
                    have HTBI := Lib.hid (HTB7.out.later hb7.out)
                    go_wp2_with (fail)
                    exact ⟨⟨ii + 1, X2, c2, best2, by go_num, rfl, by omega, hc2, HS, hi2, HTBI, HB5I⟩, by simp [intOf]; omega⟩
            · have k1' := k1
              rw [k1] at r0 HLT1
              have HS := Lib.hid (hbi.out.skipK (fun i es ci ck h => by
                have h2 := h.gk
                rw [HX.out] at h2
                obtain rfl : x = ck := by simpa using h2
                have := h.kk
                omega))
              have HLT2 := Lib.hid (show lastT l f (kk + 1) = lastT l f kk by rw [HLT1.out]; simp)
              clear hpc k1 k1' hu HLT1
              go_wp2_with (fail)
              exact ⟨⟨kk + 1, X, cx, best, by go_num, rfl, by omega, hcx, HS, his, by rw [HLT2.out]; exact htb, hb5⟩, by simp [intOf]; omega⟩
          · as_aux_lemma =>
              obtain rfl : kk = l.length := by omega
              have hfin := best_fin HP.out hlt hbi.out
              have HCHK := Lib.hid (HCH5.out.later hb5.out)
              have HTAK := Lib.hid (HTA5.out.below hb5.out)
              have HDAK := Lib.hid (HDA5.out.below hb5.out)
              have hkz := hb5.out.size
              have hbst := hbi.out.len
              have hxt : xb ≠ tb := by
                have h1 := HXB.out
                obtain ⟨cs, h2, _⟩ := HTA5.out
                have h3 := (Array.getElem?_eq_some_iff.1 h2).1
                omega
              have hxd : xb ≠ db := by
                have h1 := HXB.out
                have h3 := HDA5.out.lt
                omega
              have HXW := Lib.hid (show w.heap.size ≤ xb by have := HXL.out; have := HBW5.out.size; omega)
              have HCHN := Lib.hid (show chF l n (clss l n (k + 1)) = if (typ l (cls l n k)).2 then L else L ++ [chain l n (cls l n k)] by rw [HNEXT.out, chF_snoc, HL.out])
              go_upto_if 176 with (fail)
              go_cut [9] (fun s9 wx => ∃ (Y2 : Option Addr) (d2 : Nat), s9 = .slice Y2 (chF l n (clss l n (k + 1))).length d2 ∧ Hid (ChOwn wx yb s9 (chF l n (clss l n (k + 1)))) ∧ Hid (Tb wx xb (typ l (cls l n k)).1) ∧ Hid (TArr wx tb n (tyL l (clss l n k))) ∧ Hid (BArr wx db n (dnF l n k)) ∧ Hid (IArr wx cb n f) ∧ Hid (Below w.heap.size w wx))
              case first =>
                rcases hfin with ⟨hbe, ht2⟩ | ⟨hbe, hty, hchn⟩
                · subst hbe
                  have HC2 := Lib.hid (show chF l n (clss l n (k + 1)) = L by rw [HCHN.out, ht2, if_pos rfl])
                  have HT2 := Lib.hid (typ_last HP.out hlt HDO.out ht2)
                  clear ht2
                  go_wp2_with (fail)
                  go_meet
                  exact ⟨Y, d, by rw [HC2.out], by rw [HC2.out]; exact HCHK, by rw [HT2.out]; exact htb, HTAK, HDAK, HIAK, HWK⟩
                · have h0 : 0 < best.length := List.length_pos_iff.2 hbe
                  have HC2 := Lib.hid (show chF l n (clss l n (k + 1)) = L ++ [best] by rw [HCHN.out, hty, hchn]; rfl)
                  have HT2 := Lib.hid (show (typ l (cls l n k)).1 = noT by rw [hty])
                  have h0' : decide (0 < (best.length : Int)) = true := by simpa using h0
                  obtain ⟨i0, hi0, hz0, hz1, hz2⟩ := info_parts infoSl
                  obtain ⟨vals, v1, v2, v3, v4⟩ := HCHK.out
                  have HV1 := Lib.hid v1
                  have HV3 := Lib.hid v3
                  have HV4 := Lib.hid v4
                  have hbl := (Below.refl wk.heap.size wk).alloc (Nat.le_refl _) (.cells #[.slice X best.length cx] 23)
                  have HV2 := Lib.hid (v2.alloc (.cells #[.slice X best.length cx] 23))
                  have HTB2 := Lib.hid (htb.out.later hbl)
                  have HBL := Lib.hid hbl
                  have hybk : yb ≤ wk.heap.size := by
                    have h1 := HYB.out
                    have h2 := HDB.out
                    have h3 := HDA5.out.lt
                    omega
                  have HLTV := Lib.hid (fun b e => (World.ownsRow.lt HV2.out b e).1)
                  have hwy := HLO.out
                  have hyb1 := HYB.out
                  have HWY := Lib.hid (show w.heap.size ≤ yb by omega)
                  clear v1 v2 v3 v4 hbl hbe hty hchn hwy hyb1
                  go_wp2_with (at_builtin; refine wpList_append_lies _ rfl _ _ 27 rfl yb 23 i0 _ 1 24 Tryd.underlying27 hi0 hz0 hz1 hz2 rfl (by decide) _ _ _ rfl HV2.out ⟨wk.heap.size, 0, none⟩ 1 1 [.slice X best.length cx] rfl rfl (World.news_of_block (cs := #[.slice X best.length cx]) (heap_alloc_new wk _)) (by simp [Value.oneCell']) (by decide) ?c3 ?c4 ?c5 (wk.heap.size + 1) (by simp) ?_)
                  case c3 => unfold maxLen; omega
                  case c4 => omega
                  case c5 => first | omega | (simp; omega)
                  intro gq cap w8 hown8 hgr hsel hgl
                  have HKEEP := Lib.hid (show ∀ (b : Nat) (cs : Array Value) (t : TypeId), (wk.alloc (.cells #[.slice X best.length cx] 23)).heap[b]? = some (.cells cs t (0, 0)) → t ≠ 23 → w8.heap[b]? = some (.cells cs t (0, 0)) from fun b cs t e ht => (hgr.block b (Array.getElem?_eq_some_iff.1 e).1 (fun he => by
                    obtain ⟨q1, q2, cs', q3⟩ := own_block' HV2.out he.symm
                    rw [e] at q3
                    simp only [Option.some.injEq, Obj.cells.injEq] at q3
                    exact ht q3.2.1)).trans e)
                  have HTB8 := Lib.hid (show Tb w8 xb (lastT l f l.length) from HKEEP.out _ _ _ HTB2.out (by decide))
                  have HB8 := Lib.hid ((HWK.out.trans (HBL.out.mono HWK.out.size)).grown hgr (by have := HWK.out.size; simp; omega) (fun b e => Nat.le_trans HWY.out (HLTV.out b e)))
                  have HCH8 := Lib.hid (show ChOwn w8 yb (.slice (some ⟨gq, 0, none⟩) (L.length + 1) cap) (L ++ [best]) from ChOwn.push vals HV1.out HV3.out (fun i hi => by
                    obtain ⟨X', c', e1, e2, e3⟩ := HV4.out i hi
                    refine ⟨X', c', e1, fun h0 => ?_, e3⟩
                    obtain ⟨b', cs', g1, g2, g3⟩ := (e2.later HBL.out) h0
                    exact ⟨b', cs', g1, HKEEP.out _ _ _ g2 (by decide), g3⟩) (X := X) (c := cx) (x := best) (fun h0 => by
                    obtain ⟨b', cs', g1, g2, g3⟩ := (his.out.later HBL.out) h0
                    exact ⟨b', cs', g1, HKEEP.out _ _ _ g2 (by decide), g3⟩) hcx.out hown8)
                  have HTA8 := Lib.hid (show TArr w8 tb n (tyL l (clss l n k)) from by
                    obtain ⟨cs, g1, g2, g3⟩ := HTAK.out.below HBL.out
                    exact ⟨cs, HKEEP.out _ _ _ g1 (by decide), g2, g3⟩)
                  have HDA8 := Lib.hid (show BArr w8 db n (dnF l n k) from by
                    obtain ⟨cs, g1, g2, g3⟩ := HDAK.out.below HBL.out
                    exact ⟨cs, HKEEP.out _ _ _ g1 (by decide), g2, g3⟩)
                  have HIA8 := Lib.hid (show IArr w8 cb n f from by
                    obtain ⟨cs, g1, g2, g3⟩ := HIAK.out.below HBL.out
                    exact ⟨cs, HKEEP.out _ _ _ g1 (by decide), g2, g3⟩)
                  clear hown8 hgr hsel hgl
                  obtain ⟨t0, t1, t2⟩ := HTB8.out.cells
                  have z0 := hfrz HTB8.out 0
                  have z1 := hfrz HTB8.out 1
                  have z2 := hfrz HTB8.out 2
                  have HFZ := Lib.hid (Fz.setT (v := 0) HTB8.out.tarr noT)
                  have HN1 := Lib.hid (HTB8.out.set noT)
                  have HN3 := Lib.hid (((HB8.out.setCell (p := ⟨xb, 0, none⟩) HXW.out (.int .i64 0)).setCell (p := ⟨xb, 1, none⟩) HXW.out (.int .i64 0)).setCell (p := ⟨xb, 2, none⟩) HXW.out (.string ⟨#[]⟩))
                  have HNT := Lib.hid (show TArr (setT w8 xb 0 noT) tb n (tyL l (clss l n k)) from by
                    obtain ⟨cs, g1, g2, g3⟩ := HTA8.out
                    exact ⟨cs, (setT_heap w8 xb 0 noT tb (fun e => hxt e.symm)).trans g1, g2, g3⟩)
                  have HND := Lib.hid (show BArr (setT w8 xb 0 noT) db n (dnF l n k) from by
                    obtain ⟨cs, g1, g2, g3⟩ := HDA8.out
                    exact ⟨cs, (setT_heap w8 xb 0 noT db (fun e => hxd e.symm)).trans g1, g2, g3⟩)
                  have HNI := Lib.hid (HIA8.out.fz HFZ.out)
                  have HNC := Lib.hid (HCH8.out.fz HFZ.out)
                  go_wp2_with (fail)
                  go_meet
                  exact ⟨some ⟨gq, 0, none⟩, cap, by rw [HC2.out, List.length_append]; rfl, by rw [HC2.out]; exact HNC, by rw [HT2.out]; exact HN1, HNT, HND, HNI, HN3⟩
              case rest =>
              obtain ⟨Y2, d2, rfl, hch2, htb2, hta2, hda2, hia2, hbw2⟩ := hcut
              generalize hwo : wc = wf at *
              clear hwo
              obtain ⟨T, HT⟩ : ∃ T, Hid ((typ l (cls l n k)).1 = T) := ⟨_, Lib.hid rfl⟩
              rw [HT.out] at htb2
              have HCT := Lib.hid (show ∀ v, v < n → (cls l n k).contains v = decide (0 ≤ f v) from fun v hv => by
                rw [Bool.eq_iff_iff, decide_eq_true_iff, List.contains_iff_mem, cls_iff HP.out hlt]
                exact (HDO.out.conn hv).symm)
              generalize hck : (cls l n k).contains = ck at *
              have HCK2 := Lib.hid hck
              have HTE := Lib.hid (show ∀ v, (if v < n ∧ ck v = true then T else tyL l (clss l n k) v) = tyL l (clss l n (k + 1)) v ∨ ¬ v < n from fun v => by
                by_cases hv : v < n
                · left
                  rw [HNEXT.out, tyL_snoc, HT.out, hck]
                  cases ck v <;> simp [hv]
                · exact .inr hv)
              have HDE := Lib.hid (show ∀ v, (if v < n ∧ ck v = true then true else dnF l n k v) = dnF l n (k + 1) v ∨ ¬ v < n from fun v => by
                by_cases hv : v < n
                · left
                  unfold dnF
                  rw [HNEXT.out, List.any_append]
                  simp only [List.any_cons, List.any_nil, Bool.or_false]
                  rw [hck]
                  cases ck v <;> simp [hv]
                · exact .inr hv)
              generalize hcc : chF l n (clss l n (k + 1)) = L2 at *
              have HCC := Lib.hid hcc
              clear hck hcc hfin HCHN
              go_wp2_with (fail)
              go_loopw [19] (fun i wr => ∃ q : Nat, q ≤ n ∧ i = .int .i64 (q : Int) ∧ Hid (TArr wr tb n (fun v => if v < q ∧ ck v = true then T else tyL l (clss l n k) v)) ∧ Hid (BArr wr db n (fun v => if v < q ∧ ck v = true then true else dnF l n k v)) ∧ Hid (Fz wf wr) ∧ Hid (Tb wr xb T) ∧ Hid (Below w.heap.size w wr)) (fun i _ => n - (intOf i).toNat)
              case atStart => exact ⟨0, Nat.zero_le _, rfl, Lib.hid (hta2.out.ext (fun v hv => by simp)), Lib.hid (by
                obtain ⟨cs, g1, g2, g3⟩ := hda2.out
                exact ⟨cs, g1, g2, fun v hv => by simpa using g3 v hv⟩), Lib.hid (Fz.refl _), htb2, hbw2⟩
              case round =>
                obtain ⟨q, hq, rfl, htq, hdq, hfz, htbq, hbq⟩ := hrel
                by_cases hqn : q < n
                · have cf := (hia2.out.fz hfz.out).cell hqn
                  obtain ⟨y, HY⟩ : ∃ y, Hid (f q = y) := ⟨_, Lib.hid rfl⟩
                  have HCQ := Lib.hid (HCT.out q hqn)
                  rw [HY.out] at cf HCQ
                  by_cases hy : 0 ≤ y
                  · have HCV := Lib.hid (show ck q = true by rw [HCQ.out]; simpa using hy)
                    obtain ⟨b0, b1, b2⟩ := htbq.out.cells
                    obtain ⟨t0, t1, t2⟩ := htq.out.cells q hqn
                    have z0 := htq.out.frz (q * 3)
                    have z1 := htq.out.frz (q * 3 + 1)
                    have z2 := htq.out.frz (q * 3 + 2)
                    have HDS := Lib.hid (show BArr (setT wr tb q T) db n (fun v => if v < q ∧ ck v = true then true else dnF l n k v) from by
                      obtain ⟨cs, g1, g2, g3⟩ := hdq.out
                      exact ⟨cs, (setT_heap wr tb q T db (fun e => htd e.symm)).trans g1, g2, g3⟩)
                    have d0 := HDS.out.cell hqn
                    have y0 := HDS.out.frz q
                    unfold setT at d0 y0
                    have HTS := Lib.hid (htq.out.set q hqn T)
                    have HTN := Lib.hid (show TArr ((setT wr tb q T).setCell ⟨db, q, none⟩ (.bool true)) tb n (fun v => if v < q + 1 ∧ ck v = true then T else tyL l (clss l n k) v) from by
                      obtain ⟨cs, g1, g2, g3⟩ := HTS.out
                      refine TArr.ext (f := fun u => if u = q then T else if u < q ∧ ck u = true then T else tyL l (clss l n k) u) ⟨cs, (Below.heap_setCell _ _ _ _ (show tb ≠ (⟨db, q, none⟩ : Addr).block from htd)).trans g1, g2, g3⟩ (fun v hv => ?_)
                      try dsimp only
                      by_cases e : v = q
                      · subst e; simp [HCV.out]
                      · rw [if_neg e]
                        have : (v < q + 1) ↔ (v < q) := by omega
                        simp only [this])
                    have HDN := Lib.hid (show BArr ((setT wr tb q T).setCell ⟨db, q, none⟩ (.bool true)) db n (fun v => if v < q + 1 ∧ ck v = true then true else dnF l n k v) from by
                      obtain ⟨cs, g1, g2, g3⟩ := HDS.out.set hqn true
                      refine ⟨cs, g1, g2, fun v hv => (g3 v hv).trans ?_⟩
                      try dsimp only
                      by_cases e : v = q
                      · subst e; simp [HCV.out]
                      · rw [if_neg e]
                        have : (v < q + 1) ↔ (v < q) := by omega
                        simp only [this])
                    have HFN := Lib.hid (show Fz wf ((setT wr tb q T).setCell ⟨db, q, none⟩ (.bool true)) from by
                      obtain ⟨cs, g1, _, _⟩ := HDS.out
                      exact (hfz.out.trans (Fz.setT (v := q) htq.out T)).trans (Fz.set (p := ⟨db, q, none⟩) g1 (.inr rfl) _))
                    have HTBN := Lib.hid (show Tb ((setT wr tb q T).setCell ⟨db, q, none⟩ (.bool true)) xb T from (Below.heap_setCell _ _ _ _ (show xb ≠ (⟨db, q, none⟩ : Addr).block from hxd)).trans ((setT_heap wr tb q T xb hxt).trans htbq.out))
                    have hwd : w.heap.size ≤ db := by have := HLO.out; have := HDB.out; omega
                    have HBN := Lib.hid ((((hbq.out.setCell (p := ⟨tb, q * 3, none⟩) HLO.out (.int .i64 T.kind)).setCell (p := ⟨tb, q * 3 + 1, none⟩) HLO.out (.int .i64 T.len)).setCell (p := ⟨tb, q * 3 + 2, none⟩) HLO.out (.string T.nm)).setCell (p := ⟨db, q, none⟩) hwd (.bool true))
                    go_wp2_with (fail)
                    exact ⟨⟨q + 1, by omega, by go_num, HTN, HDN, HFN, HTBN, HBN⟩, by simp [intOf]; omega⟩
                  · have HCV := Lib.hid (show ck q = false by rw [HCQ.out]; simpa using hy)
                    have HSV := Lib.hid (show ∀ v, (v < q + 1 ∧ ck v = true) = (v < q ∧ ck v = true) from fun v => by
                      rw [eq_iff_iff]
                      constructor
                      · rintro ⟨h1, h2⟩
                        refine ⟨?_, h2⟩
                        by_cases e : v = q
                        · rw [e, HCV.out] at h2; cases h2
                        · omega
                      · rintro ⟨h1, h2⟩
                        exact ⟨by omega, h2⟩)
                    go_wp2_with (fail)
                    exact ⟨⟨q + 1, by omega, by go_num, by simp only [HSV.out]; exact htq, by simp only [HSV.out]; exact hdq, hfz, htbq, hbq⟩, by simp [intOf]; omega⟩
                · obtain rfl : q = n := by omega
                  have HTF := Lib.hid (htq.out.ext (fun v hv => (HTE.out v).resolve_right (fun h => h hv)))
                  have HDF := Lib.hid (show BArr wr db q (dnF l q (k + 1)) from by
                    obtain ⟨cs, g1, g2, g3⟩ := hdq.out
                    exact ⟨cs, g1, g2, fun v hv => by rw [g3 v hv]; exact congrArg (fun b => some (Value.bool b)) ((HDE.out v).resolve_right (fun h => h hv))⟩)
                  have HCF := Lib.hid (hch2.out.fz hfz.out)
                  go_wp2_with (fail)
                  exact ⟨⟨k + 1, Y2, d2, by omega, by go_num, by rw [HCC.out], by rw [HCC.out]; exact HCF, HTF, HDF, hbq⟩, by simp [intOf]; omega⟩
    · obtain rfl : k = n := by omega
      go_wp2_with (fail)
      go_ret3
      exact ⟨tb, Y, d, rfl, hta.out, hch.out.lrow, hbw.out⟩
end Go.Proofs.YtmamajillkajoaaDoor
