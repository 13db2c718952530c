/- What is proved: Eval of package gates. -/
import Derived.Test.YtbcabnbgkicfdaaGaEv
import Derived.Test.YtbcabnbgkicfdaaGaApp
set_option linter.unusedVariables false
namespace Go.Proofs.Ytbcabnbgkicfdaa
open Go.RowKit Go.Maps

/-- what Eval answers -/
def evL (I : Int) (gs : List Gt) (inp : List Bool) (ls : List Int) : List Bool := if fitB I gs ls = true ∧ (inp.length : Int) = I then ls.map (litV (nv inp gs)) else []
def evE (I : Int) (gs : List Gt) (inp : List Bool) (ls : List Int) : Int := if fitB I gs ls = true ∧ (inp.length : Int) = I then 0 else 1
theorem ev_no {I : Int} {gs : List Gt} {inp : List Bool} {ls : List Int} (h : ¬ (fitB I gs ls = true ∧ (inp.length : Int) = I)) : evL I gs inp ls = [] ∧ evE I gs inp ls = 1 := by
  unfold evL evE
  rw [if_neg h, if_neg h]
  exact ⟨rfl, rfl⟩
theorem ev_yes {I : Int} {gs : List Gt} {inp : List Bool} {ls : List Int} (h : fitB I gs ls = true) (h2 : (inp.length : Int) = I) : evL I gs inp ls = ls.map (litV (nv inp gs)) ∧ evE I gs inp ls = 0 := by
  unfold evL evE
  rw [if_pos ⟨h, h2⟩, if_pos ⟨h, h2⟩]
  exact ⟨rfl, rfl⟩
/-- the loops of Eval -/
structure EvS (w0 : World) (B nb cb : Nat) (I : Int) (A : Option Addr) (n c : Nat) (ns : List Bool) (w : World) : Prop where
  ex : ∃ v, Bx w nb 48 v ∧ BOwn w B v ns
  ck : CBx w cb I A n c
  bel : Below B w0 w
  lo : B ≤ nb ∧ B ≤ cb ∧ B ≤ w.heap.size
theorem EvS.later {w0 w w' : World} {B nb cb : Nat} {I : Int} {A : Option Addr} {n c : Nat} {ns : List Bool} (h : EvS w0 B nb cb I A n c ns w) (hb : Below w.heap.size w w') : EvS w0 B nb cb I A n c ns w' := by
  obtain ⟨⟨v, h1, h2⟩, h3, h4, h5, h6, h7⟩ := h
  exact ⟨⟨v, h1.later hb, h2.later hb⟩, h3.later hb, h4.trans (hb.mono h7), h5, h6, Nat.le_trans h7 hb.size⟩
theorem bx_ne {w : World} {nb B : Nat} {T : TypeId} {v u : Value} {ns : List Bool} (hT : T ≠ 4) (hb : Bx w nb T u) (ho : BOwn w B v ns) : ∀ b, v.ownBlock = some b → b ≠ nb := fun b e h => by
  subst h
  obtain ⟨_, _, cs, hc⟩ := own_block' ho e
  unfold Bx at hb
  rw [hb] at hc
  simp only [Option.some.injEq, Obj.cells.injEq] at hc
  exact hT hc.2.1
theorem cb_ne {w : World} {cb B : Nat} {I : Int} {A : Option Addr} {n c : Nat} {v : Value} {ns : List Bool} (hb : CBx w cb I A n c) (ho : BOwn w B v ns) : ∀ b, v.ownBlock = some b → b ≠ cb := fun b e h => by
  subst h
  obtain ⟨_, _, cs, hc⟩ := own_block' ho e
  unfold CBx at hb
  rw [hb] at hc
  simp only [Option.some.injEq, Obj.cells.injEq] at hc
  exact absurd hc.2.1 (by decide)
theorem gb_ne {w : World} {gb B : Nat} {g : Gt} {v : Value} {ns : List Bool} (hb : GBox w gb g) (ho : BOwn w B v ns) : ∀ b, v.ownBlock = some b → b ≠ gb := fun b e h => by
  subst h
  obtain ⟨_, _, cs, hc⟩ := own_block' ho e
  unfold GBox at hb
  rw [hb] at hc
  simp only [Option.some.injEq, Obj.cells.injEq] at hc
  exact absurd hc.2.1 (by decide)
theorem gb_nb {w : World} {gb nb : Nat} {g : Gt} {u : Value} (hb : GBox w gb g) (ho : Bx w nb 48 u) : gb ≠ nb := fun h => by
  subst h
  unfold GBox at hb
  unfold Bx at ho
  rw [hb] at ho
  simp only [Option.some.injEq, Obj.cells.injEq] at ho
  exact absurd ho.2.1 (by decide)
theorem cb_nb {w : World} {cb nb : Nat} {I : Int} {A : Option Addr} {n c : Nat} {u : Value} (hb : CBx w cb I A n c) (ho : Bx w nb 48 u) : cb ≠ nb := fun h => by
  subst h
  unfold CBx at hb
  unfold Bx at ho
  rw [hb] at ho
  simp only [Option.some.injEq, Obj.cells.injEq] at ho
  exact absurd ho.2.1 (by decide)
/-- a value more -/
theorem ev_step {w0 wa w8 : World} {B nb cb gb : Nat} {I : Int} {A : Option Addr} {n c : Nat} {ns ns' : List Bool} {v : Value} {g : Gt} {m cap : Nat} {X : Option Addr}
    (h1 : Bx wa nb 48 v) (h2 : BOwn wa B v ns) (h3 : CBx wa cb I A n c) (h4 : Below B w0 wa) (h5 : B ≤ nb ∧ B ≤ cb ∧ B ≤ wa.heap.size) (h6 : GBox wa gb g) (hgr : wa.grownBy w8 v.ownBlock) (ho : BOwn w8 B (.slice X m cap) ns') :
    Bx w8 nb 48 v ∧ GBox w8 gb g ∧ GBox (w8.setCell ⟨nb, 0, none⟩ (.slice X m cap)) gb g ∧ Hid (EvS w0 B nb cb I A n c ns' (w8.setCell ⟨nb, 0, none⟩ (.slice X m cap))) := by
  have b8 : Bx w8 nb 48 v := h1.grown hgr (fun e => bx_ne (by decide) h1 h2 nb e.symm rfl)
  have g8 : GBox w8 gb g := (hgr.block gb (hlt h6) (fun e => gb_ne h6 h2 gb e.symm rfl)).trans h6
  have c8 : CBx w8 cb I A n c := (hgr.block cb (hlt h3) (fun e => cb_ne h3 h2 cb e.symm rfl)).trans h3
  have hB := grown_below hgr (own_lo h2) h5.2.2
  refine ⟨b8, g8, (hfar (gb_nb h6 h1) _).trans g8, Lib.hid ⟨⟨_, b8.set _, own_stays ho fun b e => hfar (bx_ne (by decide) b8 ho b e) _⟩, (hfar (cb_nb h3 h1) _).trans c8, (h4.trans hB).setCell h5.1 _, h5.1, h5.2.1, ?_⟩⟩
  have := hB.size
  have := h5.2.2
  simp [World.setCell]
  omega
set_option maxRecDepth 100000 in
set_option maxHeartbeats 8000000 in
theorem eval_any (I : Int) (A : Option Addr) (c : Nat) (gs : List Gt) (AI : Option Addr) (ci : Nat) (inp : List Bool) (AL : Option Addr) (cl : Nat) (ls : List Int) (w : World) (hr : GRow w A gs) (hok : ∀ x ∈ gs, GtOk x) (hn : gs.length ≤ 5000) (hi : BRow w AI inp) (hil : inp.length ≤ 9223372036854775807) (hz : ZRow w.heap.size w AL ls) (hl : ls.length ≤ 1000000) :
    Calls Try.prog 41 #[.agg #[.int .i64 I, .slice A gs.length c], .slice AI inp.length ci, .slice AL ls.length cl] w fun e w' => ∃ A' c', e = .returned (.tuple #[.slice A' (evL I gs inp ls).length c', .int .i64 (evE I gs inp ls)]) ∧ BRow w' A' (evL I gs inp ls) ∧ Below w.heap.size w w' := by
  have HB1 := Lib.hid ((Below.refl w.heap.size w).alloc (Nat.le_refl _) (.cells #[.int .i64 I, .slice A gs.length c] 30))
  have HBX := Lib.hid (CBx.new w I A gs.length c)
  have HF := Lib.hid (fit_any I A c gs AL cl ls _ (hr.later HB1.out) hok hn (hz.later HB1.out) hl)
  have HZ := Lib.hid hz
  have HR := Lib.hid hr
  have HI := Lib.hid hi
  have HOK := Lib.hid hok
  clear hz hr hok hi
  cases hv : fitB I gs ls with
  | false =>
    rw [hv] at HF
    obtain ⟨e1, e2⟩ := ev_no (I := I) (gs := gs) (inp := inp) (ls := ls) (by rw [hv]; simp)
    rw [e1, e2]
    clear hv e1 e2
    go_enter Try.func41, Try.ntmps41
    go_upto_region 1 with fail
    generalize w.alloc (.cells #[.int .i64 I, .slice A gs.length c] 30) = w1 at *
    obtain ⟨b0, b1⟩ := HBX.out.cells
    go_wp2_with (fail)
    refine HF.out.mono ?_
    rintro e w2 ⟨rfl, hb2⟩
    go_wp2_with (fail)
    go_ret2
    exact ⟨none, 0, rfl, BRow.nil _ _, HB1.out.trans (hb2.mono HB1.out.size)⟩
  | true =>
    rw [hv] at HF
    by_cases hlen : (inp.length : Int) = I
    · obtain ⟨e1, e2⟩ := ev_yes hv hlen
      rw [e1, e2]
      obtain ⟨⟨hck, hbig⟩, hlits⟩ := fit_iff.1 hv
      have HCK := Lib.hid hck
      have HLI := Lib.hid hlits
      have HEQ := Lib.hid hlen
      have hi24 := hck.hi
      have hi25 : inp.length ≤ 1024 := by omega
      have q0 : ((inp.length : Int) == I) = true := by simpa using hlen
      clear hv e1 e2 hck hlits hlen hbig
      rw [List.length_map]
      go_enter Try.func41, Try.ntmps41
      go_upto_region 1 with fail
      generalize hgw : w.alloc (.cells #[.int .i64 I, .slice A gs.length c] 30) = w1 at *
      clear hgw
      obtain ⟨b0, b1⟩ := HBX.out.cells
      go_wp2_with (fail)
      refine HF.out.mono ?_
      rintro e w2 ⟨rfl, hb2⟩
      have HB2 := Lib.hid (HB1.out.trans (hb2.mono HB1.out.size))
      have HX2 := Lib.hid (HBX.out.later hb2)
      clear hb2 b0 b1 HBX HB1 HF
      obtain ⟨b0, b1⟩ := HX2.out.cells
      have hba := (Below.refl w2.heap.size w2).alloc (Nat.le_refl _) (.cells #[.bool false] 4)
      have HO0 : Hid (BOwn (w2.alloc (.cells #[.bool false] 4)) w.heap.size (.slice (some ⟨w2.heap.size, 0, none⟩) 1 1) [false]) := Lib.hid ⟨rfl, .inr ⟨w2.heap.size, 1, #[.bool false], rfl, HB2.out.size, heap_alloc_new w2 _, Nat.le_refl _, by decide, rfl, rfl⟩⟩
      have HI3 := Lib.hid (HI.out.later (HB2.out.trans (hba.mono HB2.out.size)))
      obtain ⟨X, cap, w4, hrun, hown, hgr⟩ := b_append (w := w2.alloc (.cells #[.bool false] 4)) w.heap.size 1 _ _ HO0.out rfl AI ci inp.length inp rfl HI3.out (by omega) (by have := HB2.out.size; have := hba.size; omega)
      have HOWN := Lib.hid hown
      have HB4 := Lib.hid ((HB2.out.trans (hba.mono HB2.out.size)).trans (grown_below hgr (own_lo HO0.out) (by have := HB2.out.size; have := hba.size; omega)))
      have HX4 := Lib.hid (show CBx w4 w.heap.size I A gs.length c from (hgr.block w.heap.size (by have := hlt HX2.out; have := hba.size; omega) (fun e => by
        have := hlt HX2.out
        have h9 : (Value.slice (some ⟨w2.heap.size, 0, none⟩) 1 1).ownBlock = some w2.heap.size := rfl
        rw [h9] at e
        injection e with e
        omega)).trans (HX2.out.later hba))
      clear hown hgr hba HI3 HO0
      go_upto_region 4 with (at_builtin; refine app_by rfl _ _ 48 48 rfl _ _ rfl rfl _ _ hrun ?_; intro w4' hw4'; obtain rfl := hw4'.out)
      have hbn := (Below.refl w4'.heap.size w4').alloc (Nat.le_refl _) (.cells #[.slice X (1 + inp.length) cap] 48)
      have HE0 := Lib.hid (show EvS w w.heap.size w4'.heap.size w.heap.size I A gs.length c (nv inp (gs.take 0)) (w4'.alloc (.cells #[.slice X (1 + inp.length) cap] 48)) from ⟨⟨_, heap_alloc_new w4' _, HOWN.out.later hbn⟩, HX4.out.later hbn, HB4.out.trans (hbn.mono HB4.out.size), HB4.out.size, Nat.le_refl _, Nat.le_trans HB4.out.size hbn.size⟩)
      clear hbn hrun HOWN HX4 HB4 b0 b1 HX2 HB2 hw4'
      generalize w4'.alloc (.cells #[.slice X (1 + inp.length) cap] 48) = w5 at *
      generalize w4'.heap.size = nb at *
      obtain ⟨b0, b1⟩ := HE0.out.ck.cells
      go_wp2_with (fail)
      clear b0 b1
      go_loopw [33] (fun jv wr => ∃ (k : Nat), k ≤ gs.length ∧ jv = .int .i64 (k : Int) ∧ Hid (EvS w w.heap.size nb w.heap.size I A gs.length c (nv inp (gs.take k)) wr)) (fun jv _ => gs.length - (intOf jv).toNat)
      case atStart => exact ⟨0, Nat.zero_le _, rfl, HE0⟩
      case round =>
        obtain ⟨k, hk, rfl, hev⟩ := hrel
        by_cases hlt : k < gs.length
        · obtain ⟨b, off, hA, hb, hc0⟩ := (HR.out.later hev.out.bel).at hlt
          have hcg := HCK.out.ok k hlt
          have hnl := nv_len inp (gs.take k)
          rw [List.length_take] at hnl
          have heq := HEQ.out
          have HTK := Lib.hid (show gs.take (k + 1) = gs.take k ++ [gs[k]] from List.take_succ_eq_append_getElem hlt)
          subst hA
          obtain ⟨g, HG⟩ : ∃ g, Hid (gs[k] = g) := ⟨_, Lib.hid rfl⟩
          rw [HG.out] at hc0 hcg HTK
          obtain ⟨d0, d1⟩ := hc0
          have hgx : 0 ≤ g.x ∧ (g.x / 2).toNat < (nv inp (gs.take k)).length := by omega
          have hgy : 0 ≤ g.y ∧ (g.y / 2).toNat < (nv inp (gs.take k)).length := by omega
          have hns : (nv inp (gs.take k)).length ≤ 1000000 := by omega
          have HNS := Lib.hid (show nv inp (gs.take (k + 1)) = nv inp (gs.take k) ++ [litV (nv inp (gs.take k)) g.x && litV (nv inp (gs.take k)) g.y] by rw [HTK.out, nv_snoc])
          clear hcg hnl heq
          generalize nv inp (gs.take k) = ns at *
          go_upto_region 8 with fail
          have hba := (Below.refl wr.heap.size wr).alloc (Nat.le_refl _) (.cells #[.int .i64 g.x, .int .i64 g.y] 76)
          have HGB := Lib.hid (show GBox (wr.alloc (.cells #[.int .i64 g.x, .int .i64 g.y] 76)).drew wr.heap.size g from GBox.new wr g)
          have HEV := Lib.hid (show EvS w w.heap.size nb w.heap.size I _ gs.length c ns (wr.alloc (.cells #[.int .i64 g.x, .int .i64 g.y] 76)).drew from (hev.out.later hba).later (Below.refl _ _).drew)
          clear hba d0 d1 hev
          generalize wr.alloc (.cells #[.int .i64 g.x, .int .i64 g.y] 76) = w6 at *
          generalize wr.heap.size = gb at *
          obtain ⟨⟨v, hv1, hv2⟩, hck6, hbel6, hlo6⟩ := HEV.out
          have HV0 := Lib.hid hv1
          have HCX0 := Lib.hid (ev1_any w6.drew nb w.heap.size v ns g.x hgx.1 hgx.2 hns hv1 hv2)
          have HCY0 := Lib.hid (ev1_any w6.drew nb w.heap.size v ns g.y hgy.1 hgy.2 hns hv1 hv2)
          have HAP := Lib.hid (fun (b : Bool) => show ∃ X' cap' w8, (Builtin.append_ #[48, 48] 48 #[v, .slice (some ⟨w6.drew.heap.size, 0, none⟩) 1 1]).run Try.prog (w6.drew.alloc (.cells #[.bool b] 4)) = .ok (.slice X' (ns.length + 1) cap') w8 ∧ (∀ w9, Hid (w9 = w8) → Bx w9 nb 48 v ∧ GBox w9 gb g ∧ GBox (w9.setCell ⟨nb, 0, none⟩ (.slice X' (ns.length + 1) cap')) gb g ∧ Hid (EvS w w.heap.size nb w.heap.size I (some ⟨_, _, none⟩) gs.length c (ns ++ [b]) (w9.setCell ⟨nb, 0, none⟩ (.slice X' (ns.length + 1) cap')))) from by
            have hbb := (Below.refl w6.drew.heap.size w6.drew).alloc (Nat.le_refl _) (.cells #[.bool b] 4)
            obtain ⟨X', cap', w8, g1, g2, g3⟩ := b_append (w := w6.drew.alloc (.cells #[.bool b] 4)) w.heap.size ns.length v ns (hv2.later hbb) rfl (some ⟨w6.drew.heap.size, 0, none⟩) 1 1 [b] rfl (BRow.one w6.drew b) (by omega) (by have := hlo6.2.2; have := hbb.size; omega)
            refine ⟨X', cap', w8, g1, fun w9 h9 => ?_⟩
            obtain rfl := h9.out
            exact ev_step (hv1.later hbb) (hv2.later hbb) (hck6.later hbb) (hbel6.trans (hbb.mono hlo6.2.2)) ⟨hlo6.1, hlo6.2.1, Nat.le_trans hlo6.2.2 hbb.size⟩ (HGB.out.later hbb) g3 g2)
          have HV1 := Lib.hid (fun b => show Bx (w6.drew.alloc (.cells #[.bool b] 4)) nb 48 v from hv1.later ((Below.refl _ _).alloc (Nat.le_refl _) _))
          have HS1 := Lib.hid (fun b => show GBox (w6.drew.alloc (.cells #[.bool b] 4)) gb g from HGB.out.later ((Below.refl _ _).alloc (Nat.le_refl _) _))
          clear hv1 hv2 hck6 hbel6 hlo6 hgx hgy HEV
          cases hb1 : litV ns g.x with
          | false =>
            have HNV := Lib.hid (show nv inp (gs.take (k + 1)) = ns ++ [false] by rw [HNS.out, hb1, Bool.false_and])
            rw [hb1] at HCX0
            obtain ⟨X', cap', w8, hrun, hst⟩ := HAP.out false
            have HRUN := Lib.hid hrun
            have HST := Lib.hid hst
            have HV1 := Lib.hid (HV1.out false)
            have HS1 := Lib.hid (HS1.out false).cells
            clear hb1 hrun hst HAP HNS HTK HCY0
            -- REGION F
            refine wp_region_noPanic ?_
            refine wp_region_held_drew (S := fun w' => w'.cell? ⟨gb, 0, none⟩ = some (.int .i64 g.x) ∧ w'.cell? ⟨gb, 1, none⟩ = some (.int .i64 g.y)) (by kernel_rfl) HGB.out.cells (fun _ => ?_)
            have HS0 := Lib.hid HGB.out.cells
            generalize w6.drew = w7 at *
            refine wpAnyH_take (i := 1) (oi := { dst := some 38, op := Op.move (Operand.tmp 9), type := 60, pos := "gates.go:34", after := #[], guard := none }) (v := .func (.func 86) #[] #[.pointer (some ⟨nb, 0, none⟩)]) rfl (by kernel_rfl) (by kernel_rfl) (by kernel_rfl) (fun _ _ _ h => h) (Or.inl ⟨by rfl, ?_⟩) HS0.out ?_
            · (intro w' hSw; go_simp)
            simp only [Act.put, List.setIfInBounds_toArray, List.set_cons_zero, List.set_cons_succ]
            refine wpAnyH_take (i := 2) (oi := { dst := some 39, op := Op.indexAddr 76 (Operand.tmp 11) (Operand.const (Value.int IntKind.i64 0)), type := 0, pos := "gates.go:34", after := #[], guard := none }) (v := .pointer (some ⟨gb, 0, none⟩)) rfl (by kernel_rfl) (by kernel_rfl) (by kernel_rfl) (fun _ _ _ h => h) (Or.inl ⟨by rfl, ?_⟩) HS0.out ?_
            · (intro w' hSw; go_simp)
            simp only [Act.put, List.setIfInBounds_toArray, List.set_cons_zero, List.set_cons_succ]
            refine wpAnyH_take (i := 3) (oi := { dst := some 40, op := Op.load 3 (Operand.tmp 39), type := 3, pos := "gates.go:34", after := #[{ on := 2, ground := Ground.data }], guard := none }) (v := .int .i64 g.x) rfl (by kernel_rfl) (by kernel_rfl) (by kernel_rfl) (fun _ _ _ h => h) (Or.inl ⟨by rfl, ?_⟩) HS0.out ?_
            · (intro w' hSw; have z0 := hSw.1; go_simp)
            simp only [Act.put, List.setIfInBounds_toArray, List.set_cons_zero, List.set_cons_succ]
            refine wpAnyH_ready (rs := [0, 4]) (by kernel_rfl) (by simp) (AllReadyH.cons (o := { dst := some 37, op := Op.load 48 (Operand.tmp 8), type := 48, pos := "gates.go:34", after := #[], guard := none }) rfl (fun K hK => ?_) (AllReadyH.cons (o := { dst := some 41, op := Op.call { callee := Callee.value (Operand.tmp 38), args := #[Operand.tmp 40], argTypes := #[3] }, type := 4, pos := "gates.go:34", after := #[{ on := 1, ground := Ground.data }, { on := 3, ground := Ground.data }], guard := none }) rfl (fun K hK => ?_) AllReadyH.nil))
            · have c0 := HV0.out.cell
              go_simp
              clear c0
              refine hK.out _ _ HS0.out (fun _ => ?_)
              clear hK K
              try simp only [Act.put, List.setIfInBounds_toArray, List.set_cons_zero, List.set_cons_succ]
              refine wpAnyH_ready (rs := [4]) (by kernel_rfl) (by simp) (AllReadyH.cons (o := { dst := some 41, op := Op.call { callee := Callee.value (Operand.tmp 38), args := #[Operand.tmp 40], argTypes := #[3] }, type := 4, pos := "gates.go:34", after := #[{ on := 1, ground := Ground.data }, { on := 3, ground := Ground.data }], guard := none }) rfl (fun K hK => ?_) AllReadyH.nil)
              go_simp
              go_at_call 86
              refine (HCX0.out).mono ?_
              rintro e wx ⟨rfl, hwx⟩
              obtain rfl := hwx.symm
              clear hwx
              refine hK.out _ _ HS0.out (fun _ => ?_)
              clear hK K
              try simp only [Act.put, List.setIfInBounds_toArray, List.set_cons_zero, List.set_cons_succ]
              refine wpAnyH_take (i := 5) (oi := { dst := some 42, op := Op.move (Operand.tmp 41), type := 4, pos := "gates.go:34", after := #[{ on := 4, ground := Ground.data }, { on := 4, ground := Ground.chain }], guard := none }) (v := .bool false) rfl (by kernel_rfl) (by kernel_rfl) (by kernel_rfl) (fun _ _ _ h => h) (Or.inl ⟨by rfl, ?_⟩) HS0.out ?_
              · (intro w' hSw; go_simp)
              simp only [Act.put, List.setIfInBounds_toArray, List.set_cons_zero, List.set_cons_succ]
              refine wpAnyH_take (i := 6) (oi := { dst := some 43, op := Op.move (Operand.tmp 9), type := 60, pos := "gates.go:34", after := #[{ on := 5, ground := Ground.guard }], guard := some (5, true) }) (v := undef) rfl (by kernel_rfl) (by kernel_rfl) (by kernel_rfl) (fun _ _ _ h => h) (Or.inr ⟨by rfl, rfl⟩) HS0.out ?_
              simp only [Act.put, List.setIfInBounds_toArray, List.set_cons_zero, List.set_cons_succ]
              refine wpAnyH_take (i := 7) (oi := { dst := some 44, op := Op.indexAddr 76 (Operand.tmp 11) (Operand.const (Value.int IntKind.i64 1)), type := 0, pos := "gates.go:34", after := #[{ on := 5, ground := Ground.guard }], guard := some (5, true) }) (v := undef) rfl (by kernel_rfl) (by kernel_rfl) (by kernel_rfl) (fun _ _ _ h => h) (Or.inr ⟨by rfl, rfl⟩) HS0.out ?_
              simp only [Act.put, List.setIfInBounds_toArray, List.set_cons_zero, List.set_cons_succ]
              refine wpAnyH_take (i := 8) (oi := { dst := some 45, op := Op.load 3 (Operand.tmp 44), type := 3, pos := "gates.go:34", after := #[{ on := 7, ground := Ground.data }, { on := 5, ground := Ground.guard }], guard := some (5, true) }) (v := undef) rfl (by kernel_rfl) (by kernel_rfl) (by kernel_rfl) (fun _ _ _ h => h) (Or.inr ⟨by rfl, rfl⟩) HS0.out ?_
              simp only [Act.put, List.setIfInBounds_toArray, List.set_cons_zero, List.set_cons_succ]
              refine wpAnyH_take (i := 9) (oi := { dst := some 46, op := Op.call { callee := Callee.value (Operand.tmp 43), args := #[Operand.tmp 45], argTypes := #[3] }, type := 4, pos := "gates.go:34", after := #[{ on := 6, ground := Ground.data }, { on := 8, ground := Ground.data }, { on := 5, ground := Ground.chain }, { on := 5, ground := Ground.guard }], guard := some (5, true) }) (v := undef) rfl (by kernel_rfl) (by kernel_rfl) (by kernel_rfl) (fun _ _ _ h => h) (Or.inr ⟨by rfl, rfl⟩) HS0.out ?_
              simp only [Act.put, List.setIfInBounds_toArray, List.set_cons_zero, List.set_cons_succ]
              refine wpAnyH_take (i := 10) (oi := { dst := some 47, op := Op.pick (Operand.tmp 42) (Operand.tmp 46) (Operand.const (Value.bool false)), type := 4, pos := "gates.go:34", after := #[{ on := 5, ground := Ground.data }, { on := 9, ground := Ground.data }], guard := none }) (v := .bool false) rfl (by kernel_rfl) (by kernel_rfl) (by kernel_rfl) (fun _ _ _ h => h) (Or.inl ⟨by rfl, ?_⟩) HS0.out ?_
              · (intro w' hSw; go_simp)
              simp only [Act.put, List.setIfInBounds_toArray, List.set_cons_zero, List.set_cons_succ]
              refine wpAnyH_ready (rs := [11]) (by kernel_rfl) (by simp) (AllReadyH.cons (o := { dst := some 48, op := Op.buildSlice 48 1 #[(0, Operand.tmp 47)], type := 48, pos := "gates.go:34", after := #[{ on := 10, ground := Ground.data }], guard := none }) rfl (fun K hK => ?_) AllReadyH.nil)
              go_simp
              refine hK.out _ _ HS1.out (fun _ => ?_)
              clear hK K
              try simp only [Act.put, List.setIfInBounds_toArray, List.set_cons_zero, List.set_cons_succ]
              refine wpAnyH_ready (rs := [12]) (by kernel_rfl) (by simp) (AllReadyH.cons (o := { dst := some 49, op := Op.call { callee := Callee.builtin Builtin.append, args := #[Operand.tmp 37, Operand.tmp 48], argTypes := #[48, 48] }, type := 48, pos := "gates.go:34", after := #[{ on := 0, ground := Ground.data }, { on := 11, ground := Ground.data }, { on := 9, ground := Ground.chain }], guard := none }) rfl (fun K hK => ?_) AllReadyH.nil)
              refine step_app_by (by rfl) _ _ 48 48 (by rfl) _ _ (by rfl) (by rfl) _ _ HRUN.out ?_
              intro w8 hw8
              have HW8 := Lib.hid (HST.out w8 hw8)
              clear hw8
              refine hK.out _ _ HW8.out.2.1.cells (fun _ => ?_)
              clear hK K
              try simp only [Act.put, List.setIfInBounds_toArray, List.set_cons_zero, List.set_cons_succ]
              refine wpAnyH_ready (rs := [13]) (by kernel_rfl) (by simp) (AllReadyH.cons (o := { dst := none, op := Op.store 48 (Operand.tmp 8) (Operand.tmp 49), type := 0, pos := "gates.go:34", after := #[{ on := 12, ground := Ground.data }, { on := 12, ground := Ground.chain }, { on := 0, ground := Ground.phase }, { on := 1, ground := Ground.phase }, { on := 2, ground := Ground.phase }, { on := 3, ground := Ground.phase }, { on := 4, ground := Ground.phase }, { on := 5, ground := Ground.phase }, { on := 6, ground := Ground.phase }, { on := 7, ground := Ground.phase }, { on := 8, ground := Ground.phase }, { on := 9, ground := Ground.phase }, { on := 10, ground := Ground.phase }, { on := 11, ground := Ground.phase }, { on := 12, ground := Ground.phase }], guard := none }) rfl (fun K hK => ?_) AllReadyH.nil)
              have y1 := HW8.out.1.cell
              have y2 := HW8.out.1.frz
              go_simp
              clear y1 y2
              refine hK.out _ _ HW8.out.2.2.1.cells (fun _ => ?_)
              clear hK K
              try simp only [Act.put, List.setIfInBounds_toArray, List.set_cons_zero, List.set_cons_succ]
              refine wpAnyH_done (by kernel_rfl) ?_ _
              refine NoPanic.normal ?_
              have HFIN := HW8.out.2.2.2
              clear HW8
              go_wp2_with (fail)
              exact ⟨⟨k + 1, by omega, by go_num, by rw [HNV.out]; exact HFIN⟩, by simp [intOf]; omega⟩
            · go_simp
              go_at_call 86
              refine (HCX0.out).mono ?_
              rintro e wx ⟨rfl, hwx⟩
              obtain rfl := hwx.symm
              clear hwx
              refine hK.out _ _ HS0.out (fun _ => ?_)
              clear hK K
              try simp only [Act.put, List.setIfInBounds_toArray, List.set_cons_zero, List.set_cons_succ]
              refine wpAnyH_take (i := 5) (oi := { dst := some 42, op := Op.move (Operand.tmp 41), type := 4, pos := "gates.go:34", after := #[{ on := 4, ground := Ground.data }, { on := 4, ground := Ground.chain }], guard := none }) (v := .bool false) rfl (by kernel_rfl) (by kernel_rfl) (by kernel_rfl) (fun _ _ _ h => h) (Or.inl ⟨by rfl, ?_⟩) HS0.out ?_
              · (intro w' hSw; go_simp)
              simp only [Act.put, List.setIfInBounds_toArray, List.set_cons_zero, List.set_cons_succ]
              refine wpAnyH_take (i := 6) (oi := { dst := some 43, op := Op.move (Operand.tmp 9), type := 60, pos := "gates.go:34", after := #[{ on := 5, ground := Ground.guard }], guard := some (5, true) }) (v := undef) rfl (by kernel_rfl) (by kernel_rfl) (by kernel_rfl) (fun _ _ _ h => h) (Or.inr ⟨by rfl, rfl⟩) HS0.out ?_
              simp only [Act.put, List.setIfInBounds_toArray, List.set_cons_zero, List.set_cons_succ]
              refine wpAnyH_take (i := 7) (oi := { dst := some 44, op := Op.indexAddr 76 (Operand.tmp 11) (Operand.const (Value.int IntKind.i64 1)), type := 0, pos := "gates.go:34", after := #[{ on := 5, ground := Ground.guard }], guard := some (5, true) }) (v := undef) rfl (by kernel_rfl) (by kernel_rfl) (by kernel_rfl) (fun _ _ _ h => h) (Or.inr ⟨by rfl, rfl⟩) HS0.out ?_
              simp only [Act.put, List.setIfInBounds_toArray, List.set_cons_zero, List.set_cons_succ]
              refine wpAnyH_take (i := 8) (oi := { dst := some 45, op := Op.load 3 (Operand.tmp 44), type := 3, pos := "gates.go:34", after := #[{ on := 7, ground := Ground.data }, { on := 5, ground := Ground.guard }], guard := some (5, true) }) (v := undef) rfl (by kernel_rfl) (by kernel_rfl) (by kernel_rfl) (fun _ _ _ h => h) (Or.inr ⟨by rfl, rfl⟩) HS0.out ?_
              simp only [Act.put, List.setIfInBounds_toArray, List.set_cons_zero, List.set_cons_succ]
              refine wpAnyH_take (i := 9) (oi := { dst := some 46, op := Op.call { callee := Callee.value (Operand.tmp 43), args := #[Operand.tmp 45], argTypes := #[3] }, type := 4, pos := "gates.go:34", after := #[{ on := 6, ground := Ground.data }, { on := 8, ground := Ground.data }, { on := 5, ground := Ground.chain }, { on := 5, ground := Ground.guard }], guard := some (5, true) }) (v := undef) rfl (by kernel_rfl) (by kernel_rfl) (by kernel_rfl) (fun _ _ _ h => h) (Or.inr ⟨by rfl, rfl⟩) HS0.out ?_
              simp only [Act.put, List.setIfInBounds_toArray, List.set_cons_zero, List.set_cons_succ]
              refine wpAnyH_take (i := 10) (oi := { dst := some 47, op := Op.pick (Operand.tmp 42) (Operand.tmp 46) (Operand.const (Value.bool false)), type := 4, pos := "gates.go:34", after := #[{ on := 5, ground := Ground.data }, { on := 9, ground := Ground.data }], guard := none }) (v := .bool false) rfl (by kernel_rfl) (by kernel_rfl) (by kernel_rfl) (fun _ _ _ h => h) (Or.inl ⟨by rfl, ?_⟩) HS0.out ?_
              · (intro w' hSw; go_simp)
              simp only [Act.put, List.setIfInBounds_toArray, List.set_cons_zero, List.set_cons_succ]
              refine wpAnyH_ready (rs := [0, 11]) (by kernel_rfl) (by simp) (AllReadyH.cons (o := { dst := some 37, op := Op.load 48 (Operand.tmp 8), type := 48, pos := "gates.go:34", after := #[], guard := none }) rfl (fun K hK => ?_) (AllReadyH.cons (o := { dst := some 48, op := Op.buildSlice 48 1 #[(0, Operand.tmp 47)], type := 48, pos := "gates.go:34", after := #[{ on := 10, ground := Ground.data }], guard := none }) rfl (fun K hK => ?_) AllReadyH.nil))
              · have c0 := HV0.out.cell
                go_simp
                clear c0
                refine hK.out _ _ HS0.out (fun _ => ?_)
                clear hK K
                try simp only [Act.put, List.setIfInBounds_toArray, List.set_cons_zero, List.set_cons_succ]
                refine wpAnyH_ready (rs := [11]) (by kernel_rfl) (by simp) (AllReadyH.cons (o := { dst := some 48, op := Op.buildSlice 48 1 #[(0, Operand.tmp 47)], type := 48, pos := "gates.go:34", after := #[{ on := 10, ground := Ground.data }], guard := none }) rfl (fun K hK => ?_) AllReadyH.nil)
                go_simp
                refine hK.out _ _ HS1.out (fun _ => ?_)
                clear hK K
                try simp only [Act.put, List.setIfInBounds_toArray, List.set_cons_zero, List.set_cons_succ]
                refine wpAnyH_ready (rs := [12]) (by kernel_rfl) (by simp) (AllReadyH.cons (o := { dst := some 49, op := Op.call { callee := Callee.builtin Builtin.append, args := #[Operand.tmp 37, Operand.tmp 48], argTypes := #[48, 48] }, type := 48, pos := "gates.go:34", after := #[{ on := 0, ground := Ground.data }, { on := 11, ground := Ground.data }, { on := 9, ground := Ground.chain }], guard := none }) rfl (fun K hK => ?_) AllReadyH.nil)
                refine step_app_by (by rfl) _ _ 48 48 (by rfl) _ _ (by rfl) (by rfl) _ _ HRUN.out ?_
                intro w8 hw8
                have HW8 := Lib.hid (HST.out w8 hw8)
                clear hw8
                refine hK.out _ _ HW8.out.2.1.cells (fun _ => ?_)
                clear hK K
                try simp only [Act.put, List.setIfInBounds_toArray, List.set_cons_zero, List.set_cons_succ]
                refine wpAnyH_ready (rs := [13]) (by kernel_rfl) (by simp) (AllReadyH.cons (o := { dst := none, op := Op.store 48 (Operand.tmp 8) (Operand.tmp 49), type := 0, pos := "gates.go:34", after := #[{ on := 12, ground := Ground.data }, { on := 12, ground := Ground.chain }, { on := 0, ground := Ground.phase }, { on := 1, ground := Ground.phase }, { on := 2, ground := Ground.phase }, { on := 3, ground := Ground.phase }, { on := 4, ground := Ground.phase }, { on := 5, ground := Ground.phase }, { on := 6, ground := Ground.phase }, { on := 7, ground := Ground.phase }, { on := 8, ground := Ground.phase }, { on := 9, ground := Ground.phase }, { on := 10, ground := Ground.phase }, { on := 11, ground := Ground.phase }, { on := 12, ground := Ground.phase }], guard := none }) rfl (fun K hK => ?_) AllReadyH.nil)
                have y1 := HW8.out.1.cell
                have y2 := HW8.out.1.frz
                go_simp
                clear y1 y2
                refine hK.out _ _ HW8.out.2.2.1.cells (fun _ => ?_)
                clear hK K
                try simp only [Act.put, List.setIfInBounds_toArray, List.set_cons_zero, List.set_cons_succ]
                refine wpAnyH_done (by kernel_rfl) ?_ _
                refine NoPanic.normal ?_
                have HFIN := HW8.out.2.2.2
                clear HW8
                go_wp2_with (fail)
                exact ⟨⟨k + 1, by omega, by go_num, by rw [HNV.out]; exact HFIN⟩, by simp [intOf]; omega⟩
              · go_simp
                refine hK.out _ _ HS1.out (fun _ => ?_)
                clear hK K
                try simp only [Act.put, List.setIfInBounds_toArray, List.set_cons_zero, List.set_cons_succ]
                refine wpAnyH_ready (rs := [0]) (by kernel_rfl) (by simp) (AllReadyH.cons (o := { dst := some 37, op := Op.load 48 (Operand.tmp 8), type := 48, pos := "gates.go:34", after := #[], guard := none }) rfl (fun K hK => ?_) AllReadyH.nil)
                have c0 := HV1.out.cell
                go_simp
                clear c0
                refine hK.out _ _ HS1.out (fun _ => ?_)
                clear hK K
                try simp only [Act.put, List.setIfInBounds_toArray, List.set_cons_zero, List.set_cons_succ]
                refine wpAnyH_ready (rs := [12]) (by kernel_rfl) (by simp) (AllReadyH.cons (o := { dst := some 49, op := Op.call { callee := Callee.builtin Builtin.append, args := #[Operand.tmp 37, Operand.tmp 48], argTypes := #[48, 48] }, type := 48, pos := "gates.go:34", after := #[{ on := 0, ground := Ground.data }, { on := 11, ground := Ground.data }, { on := 9, ground := Ground.chain }], guard := none }) rfl (fun K hK => ?_) AllReadyH.nil)
                refine step_app_by (by rfl) _ _ 48 48 (by rfl) _ _ (by rfl) (by rfl) _ _ HRUN.out ?_
                intro w8 hw8
                have HW8 := Lib.hid (HST.out w8 hw8)
                clear hw8
                refine hK.out _ _ HW8.out.2.1.cells (fun _ => ?_)
                clear hK K
                try simp only [Act.put, List.setIfInBounds_toArray, List.set_cons_zero, List.set_cons_succ]
                refine wpAnyH_ready (rs := [13]) (by kernel_rfl) (by simp) (AllReadyH.cons (o := { dst := none, op := Op.store 48 (Operand.tmp 8) (Operand.tmp 49), type := 0, pos := "gates.go:34", after := #[{ on := 12, ground := Ground.data }, { on := 12, ground := Ground.chain }, { on := 0, ground := Ground.phase }, { on := 1, ground := Ground.phase }, { on := 2, ground := Ground.phase }, { on := 3, ground := Ground.phase }, { on := 4, ground := Ground.phase }, { on := 5, ground := Ground.phase }, { on := 6, ground := Ground.phase }, { on := 7, ground := Ground.phase }, { on := 8, ground := Ground.phase }, { on := 9, ground := Ground.phase }, { on := 10, ground := Ground.phase }, { on := 11, ground := Ground.phase }, { on := 12, ground := Ground.phase }], guard := none }) rfl (fun K hK => ?_) AllReadyH.nil)
                have y1 := HW8.out.1.cell
                have y2 := HW8.out.1.frz
                go_simp
                clear y1 y2
                refine hK.out _ _ HW8.out.2.2.1.cells (fun _ => ?_)
                clear hK K
                try simp only [Act.put, List.setIfInBounds_toArray, List.set_cons_zero, List.set_cons_succ]
                refine wpAnyH_done (by kernel_rfl) ?_ _
                refine NoPanic.normal ?_
                have HFIN := HW8.out.2.2.2
                clear HW8
                go_wp2_with (fail)
                exact ⟨⟨k + 1, by omega, by go_num, by rw [HNV.out]; exact HFIN⟩, by simp [intOf]; omega⟩
            -- END F
          | true =>
            have HNV := Lib.hid (show nv inp (gs.take (k + 1)) = ns ++ [litV ns g.y] by rw [HNS.out, hb1, Bool.true_and])
            rw [hb1] at HCX0
            generalize litV ns g.y = b2 at *
            obtain ⟨X', cap', w8, hrun, hst⟩ := HAP.out b2
            have HRUN := Lib.hid hrun
            have HST := Lib.hid hst
            have HV1 := Lib.hid (HV1.out b2)
            have HS1 := Lib.hid (HS1.out b2).cells
            clear hb1 hrun hst HAP HNS HTK
            -- REGION T
            refine wp_region_noPanic ?_
            refine wp_region_held_drew (S := fun w' => w'.cell? ⟨gb, 0, none⟩ = some (.int .i64 g.x) ∧ w'.cell? ⟨gb, 1, none⟩ = some (.int .i64 g.y)) (by kernel_rfl) HGB.out.cells (fun _ => ?_)
            have HS0 := Lib.hid HGB.out.cells
            generalize w6.drew = w7 at *
            refine wpAnyH_take (i := 1) (oi := { dst := some 38, op := Op.move (Operand.tmp 9), type := 60, pos := "gates.go:34", after := #[], guard := none }) (v := .func (.func 86) #[] #[.pointer (some ⟨nb, 0, none⟩)]) rfl (by kernel_rfl) (by kernel_rfl) (by kernel_rfl) (fun _ _ _ h => h) (Or.inl ⟨by rfl, ?_⟩) HS0.out ?_
            · (intro w' hSw; go_simp)
            simp only [Act.put, List.setIfInBounds_toArray, List.set_cons_zero, List.set_cons_succ]
            refine wpAnyH_take (i := 2) (oi := { dst := some 39, op := Op.indexAddr 76 (Operand.tmp 11) (Operand.const (Value.int IntKind.i64 0)), type := 0, pos := "gates.go:34", after := #[], guard := none }) (v := .pointer (some ⟨gb, 0, none⟩)) rfl (by kernel_rfl) (by kernel_rfl) (by kernel_rfl) (fun _ _ _ h => h) (Or.inl ⟨by rfl, ?_⟩) HS0.out ?_
            · (intro w' hSw; go_simp)
            simp only [Act.put, List.setIfInBounds_toArray, List.set_cons_zero, List.set_cons_succ]
            refine wpAnyH_take (i := 3) (oi := { dst := some 40, op := Op.load 3 (Operand.tmp 39), type := 3, pos := "gates.go:34", after := #[{ on := 2, ground := Ground.data }], guard := none }) (v := .int .i64 g.x) rfl (by kernel_rfl) (by kernel_rfl) (by kernel_rfl) (fun _ _ _ h => h) (Or.inl ⟨by rfl, ?_⟩) HS0.out ?_
            · (intro w' hSw; have z0 := hSw.1; go_simp)
            simp only [Act.put, List.setIfInBounds_toArray, List.set_cons_zero, List.set_cons_succ]
            refine wpAnyH_ready (rs := [0, 4]) (by kernel_rfl) (by simp) (AllReadyH.cons (o := { dst := some 37, op := Op.load 48 (Operand.tmp 8), type := 48, pos := "gates.go:34", after := #[], guard := none }) rfl (fun K hK => ?_) (AllReadyH.cons (o := { dst := some 41, op := Op.call { callee := Callee.value (Operand.tmp 38), args := #[Operand.tmp 40], argTypes := #[3] }, type := 4, pos := "gates.go:34", after := #[{ on := 1, ground := Ground.data }, { on := 3, ground := Ground.data }], guard := none }) rfl (fun K hK => ?_) AllReadyH.nil))
            · have c0 := HV0.out.cell
              go_simp
              clear c0
              refine hK.out _ _ HS0.out (fun _ => ?_)
              clear hK K
              try simp only [Act.put, List.setIfInBounds_toArray, List.set_cons_zero, List.set_cons_succ]
              refine wpAnyH_ready (rs := [4]) (by kernel_rfl) (by simp) (AllReadyH.cons (o := { dst := some 41, op := Op.call { callee := Callee.value (Operand.tmp 38), args := #[Operand.tmp 40], argTypes := #[3] }, type := 4, pos := "gates.go:34", after := #[{ on := 1, ground := Ground.data }, { on := 3, ground := Ground.data }], guard := none }) rfl (fun K hK => ?_) AllReadyH.nil)
              go_simp
              go_at_call 86
              refine (HCX0.out).mono ?_
              rintro e wx ⟨rfl, hwx⟩
              obtain rfl := hwx.symm
              clear hwx
              refine hK.out _ _ HS0.out (fun _ => ?_)
              clear hK K
              try simp only [Act.put, List.setIfInBounds_toArray, List.set_cons_zero, List.set_cons_succ]
              refine wpAnyH_take (i := 5) (oi := { dst := some 42, op := Op.move (Operand.tmp 41), type := 4, pos := "gates.go:34", after := #[{ on := 4, ground := Ground.data }, { on := 4, ground := Ground.chain }], guard := none }) (v := .bool true) rfl (by kernel_rfl) (by kernel_rfl) (by kernel_rfl) (fun _ _ _ h => h) (Or.inl ⟨by rfl, ?_⟩) HS0.out ?_
              · (intro w' hSw; go_simp)
              simp only [Act.put, List.setIfInBounds_toArray, List.set_cons_zero, List.set_cons_succ]
              refine wpAnyH_take (i := 6) (oi := { dst := some 43, op := Op.move (Operand.tmp 9), type := 60, pos := "gates.go:34", after := #[{ on := 5, ground := Ground.guard }], guard := some (5, true) }) (v := .func (.func 86) #[] #[.pointer (some ⟨nb, 0, none⟩)]) rfl (by kernel_rfl) (by kernel_rfl) (by kernel_rfl) (fun _ _ _ h => h) (Or.inl ⟨by rfl, ?_⟩) HS0.out ?_
              · (intro w' hSw; go_simp)
              simp only [Act.put, List.setIfInBounds_toArray, List.set_cons_zero, List.set_cons_succ]
              refine wpAnyH_take (i := 7) (oi := { dst := some 44, op := Op.indexAddr 76 (Operand.tmp 11) (Operand.const (Value.int IntKind.i64 1)), type := 0, pos := "gates.go:34", after := #[{ on := 5, ground := Ground.guard }], guard := some (5, true) }) (v := .pointer (some ⟨gb, 1, none⟩)) rfl (by kernel_rfl) (by kernel_rfl) (by kernel_rfl) (fun _ _ _ h => h) (Or.inl ⟨by rfl, ?_⟩) HS0.out ?_
              · (intro w' hSw; go_simp)
              simp only [Act.put, List.setIfInBounds_toArray, List.set_cons_zero, List.set_cons_succ]
              refine wpAnyH_take (i := 8) (oi := { dst := some 45, op := Op.load 3 (Operand.tmp 44), type := 3, pos := "gates.go:34", after := #[{ on := 7, ground := Ground.data }, { on := 5, ground := Ground.guard }], guard := some (5, true) }) (v := .int .i64 g.y) rfl (by kernel_rfl) (by kernel_rfl) (by kernel_rfl) (fun _ _ _ h => h) (Or.inl ⟨by rfl, ?_⟩) HS0.out ?_
              · (intro w' hSw; have z1 := hSw.2; go_simp)
              simp only [Act.put, List.setIfInBounds_toArray, List.set_cons_zero, List.set_cons_succ]
              refine wpAnyH_ready (rs := [9]) (by kernel_rfl) (by simp) (AllReadyH.cons (o := { dst := some 46, op := Op.call { callee := Callee.value (Operand.tmp 43), args := #[Operand.tmp 45], argTypes := #[3] }, type := 4, pos := "gates.go:34", after := #[{ on := 6, ground := Ground.data }, { on := 8, ground := Ground.data }, { on := 5, ground := Ground.chain }, { on := 5, ground := Ground.guard }], guard := some (5, true) }) rfl (fun K hK => ?_) AllReadyH.nil)
              go_simp
              go_at_call 86
              refine (HCY0.out).mono ?_
              rintro e wx ⟨rfl, hwx⟩
              obtain rfl := hwx.symm
              clear hwx
              refine hK.out _ _ HS0.out (fun _ => ?_)
              clear hK K
              try simp only [Act.put, List.setIfInBounds_toArray, List.set_cons_zero, List.set_cons_succ]
              refine wpAnyH_take (i := 10) (oi := { dst := some 47, op := Op.pick (Operand.tmp 42) (Operand.tmp 46) (Operand.const (Value.bool false)), type := 4, pos := "gates.go:34", after := #[{ on := 5, ground := Ground.data }, { on := 9, ground := Ground.data }], guard := none }) (v := .bool b2) rfl (by kernel_rfl) (by kernel_rfl) (by kernel_rfl) (fun _ _ _ h => h) (Or.inl ⟨by rfl, ?_⟩) HS0.out ?_
              · (intro w' hSw; go_simp)
              simp only [Act.put, List.setIfInBounds_toArray, List.set_cons_zero, List.set_cons_succ]
              refine wpAnyH_ready (rs := [11]) (by kernel_rfl) (by simp) (AllReadyH.cons (o := { dst := some 48, op := Op.buildSlice 48 1 #[(0, Operand.tmp 47)], type := 48, pos := "gates.go:34", after := #[{ on := 10, ground := Ground.data }], guard := none }) rfl (fun K hK => ?_) AllReadyH.nil)
              go_simp
              refine hK.out _ _ HS1.out (fun _ => ?_)
              clear hK K
              try simp only [Act.put, List.setIfInBounds_toArray, List.set_cons_zero, List.set_cons_succ]
              refine wpAnyH_ready (rs := [12]) (by kernel_rfl) (by simp) (AllReadyH.cons (o := { dst := some 49, op := Op.call { callee := Callee.builtin Builtin.append, args := #[Operand.tmp 37, Operand.tmp 48], argTypes := #[48, 48] }, type := 48, pos := "gates.go:34", after := #[{ on := 0, ground := Ground.data }, { on := 11, ground := Ground.data }, { on := 9, ground := Ground.chain }], guard := none }) rfl (fun K hK => ?_) AllReadyH.nil)
              refine step_app_by (by rfl) _ _ 48 48 (by rfl) _ _ (by rfl) (by rfl) _ _ HRUN.out ?_
              intro w8 hw8
              have HW8 := Lib.hid (HST.out w8 hw8)
              clear hw8
              refine hK.out _ _ HW8.out.2.1.cells (fun _ => ?_)
              clear hK K
              try simp only [Act.put, List.setIfInBounds_toArray, List.set_cons_zero, List.set_cons_succ]
              refine wpAnyH_ready (rs := [13]) (by kernel_rfl) (by simp) (AllReadyH.cons (o := { dst := none, op := Op.store 48 (Operand.tmp 8) (Operand.tmp 49), type := 0, pos := "gates.go:34", after := #[{ on := 12, ground := Ground.data }, { on := 12, ground := Ground.chain }, { on := 0, ground := Ground.phase }, { on := 1, ground := Ground.phase }, { on := 2, ground := Ground.phase }, { on := 3, ground := Ground.phase }, { on := 4, ground := Ground.phase }, { on := 5, ground := Ground.phase }, { on := 6, ground := Ground.phase }, { on := 7, ground := Ground.phase }, { on := 8, ground := Ground.phase }, { on := 9, ground := Ground.phase }, { on := 10, ground := Ground.phase }, { on := 11, ground := Ground.phase }, { on := 12, ground := Ground.phase }], guard := none }) rfl (fun K hK => ?_) AllReadyH.nil)
              have y1 := HW8.out.1.cell
              have y2 := HW8.out.1.frz
              go_simp
              clear y1 y2
              refine hK.out _ _ HW8.out.2.2.1.cells (fun _ => ?_)
              clear hK K
              try simp only [Act.put, List.setIfInBounds_toArray, List.set_cons_zero, List.set_cons_succ]
              refine wpAnyH_done (by kernel_rfl) ?_ _
              refine NoPanic.normal ?_
              have HFIN := HW8.out.2.2.2
              clear HW8
              go_wp2_with (fail)
              exact ⟨⟨k + 1, by omega, by go_num, by rw [HNV.out]; exact HFIN⟩, by simp [intOf]; omega⟩
            · go_simp
              go_at_call 86
              refine (HCX0.out).mono ?_
              rintro e wx ⟨rfl, hwx⟩
              obtain rfl := hwx.symm
              clear hwx
              refine hK.out _ _ HS0.out (fun _ => ?_)
              clear hK K
              try simp only [Act.put, List.setIfInBounds_toArray, List.set_cons_zero, List.set_cons_succ]
              refine wpAnyH_take (i := 5) (oi := { dst := some 42, op := Op.move (Operand.tmp 41), type := 4, pos := "gates.go:34", after := #[{ on := 4, ground := Ground.data }, { on := 4, ground := Ground.chain }], guard := none }) (v := .bool true) rfl (by kernel_rfl) (by kernel_rfl) (by kernel_rfl) (fun _ _ _ h => h) (Or.inl ⟨by rfl, ?_⟩) HS0.out ?_
              · (intro w' hSw; go_simp)
              simp only [Act.put, List.setIfInBounds_toArray, List.set_cons_zero, List.set_cons_succ]
              refine wpAnyH_take (i := 6) (oi := { dst := some 43, op := Op.move (Operand.tmp 9), type := 60, pos := "gates.go:34", after := #[{ on := 5, ground := Ground.guard }], guard := some (5, true) }) (v := .func (.func 86) #[] #[.pointer (some ⟨nb, 0, none⟩)]) rfl (by kernel_rfl) (by kernel_rfl) (by kernel_rfl) (fun _ _ _ h => h) (Or.inl ⟨by rfl, ?_⟩) HS0.out ?_
              · (intro w' hSw; go_simp)
              simp only [Act.put, List.setIfInBounds_toArray, List.set_cons_zero, List.set_cons_succ]
              refine wpAnyH_take (i := 7) (oi := { dst := some 44, op := Op.indexAddr 76 (Operand.tmp 11) (Operand.const (Value.int IntKind.i64 1)), type := 0, pos := "gates.go:34", after := #[{ on := 5, ground := Ground.guard }], guard := some (5, true) }) (v := .pointer (some ⟨gb, 1, none⟩)) rfl (by kernel_rfl) (by kernel_rfl) (by kernel_rfl) (fun _ _ _ h => h) (Or.inl ⟨by rfl, ?_⟩) HS0.out ?_
              · (intro w' hSw; go_simp)
              simp only [Act.put, List.setIfInBounds_toArray, List.set_cons_zero, List.set_cons_succ]
              refine wpAnyH_take (i := 8) (oi := { dst := some 45, op := Op.load 3 (Operand.tmp 44), type := 3, pos := "gates.go:34", after := #[{ on := 7, ground := Ground.data }, { on := 5, ground := Ground.guard }], guard := some (5, true) }) (v := .int .i64 g.y) rfl (by kernel_rfl) (by kernel_rfl) (by kernel_rfl) (fun _ _ _ h => h) (Or.inl ⟨by rfl, ?_⟩) HS0.out ?_
              · (intro w' hSw; have z1 := hSw.2; go_simp)
              simp only [Act.put, List.setIfInBounds_toArray, List.set_cons_zero, List.set_cons_succ]
              refine wpAnyH_ready (rs := [0, 9]) (by kernel_rfl) (by simp) (AllReadyH.cons (o := { dst := some 37, op := Op.load 48 (Operand.tmp 8), type := 48, pos := "gates.go:34", after := #[], guard := none }) rfl (fun K hK => ?_) (AllReadyH.cons (o := { dst := some 46, op := Op.call { callee := Callee.value (Operand.tmp 43), args := #[Operand.tmp 45], argTypes := #[3] }, type := 4, pos := "gates.go:34", after := #[{ on := 6, ground := Ground.data }, { on := 8, ground := Ground.data }, { on := 5, ground := Ground.chain }, { on := 5, ground := Ground.guard }], guard := some (5, true) }) rfl (fun K hK => ?_) AllReadyH.nil))
              · have c0 := HV0.out.cell
                go_simp
                clear c0
                refine hK.out _ _ HS0.out (fun _ => ?_)
                clear hK K
                try simp only [Act.put, List.setIfInBounds_toArray, List.set_cons_zero, List.set_cons_succ]
                refine wpAnyH_ready (rs := [9]) (by kernel_rfl) (by simp) (AllReadyH.cons (o := { dst := some 46, op := Op.call { callee := Callee.value (Operand.tmp 43), args := #[Operand.tmp 45], argTypes := #[3] }, type := 4, pos := "gates.go:34", after := #[{ on := 6, ground := Ground.data }, { on := 8, ground := Ground.data }, { on := 5, ground := Ground.chain }, { on := 5, ground := Ground.guard }], guard := some (5, true) }) rfl (fun K hK => ?_) AllReadyH.nil)
                go_simp
                go_at_call 86
                refine (HCY0.out).mono ?_
                rintro e wx ⟨rfl, hwx⟩
                obtain rfl := hwx.symm
                clear hwx
                refine hK.out _ _ HS0.out (fun _ => ?_)
                clear hK K
                try simp only [Act.put, List.setIfInBounds_toArray, List.set_cons_zero, List.set_cons_succ]
                refine wpAnyH_take (i := 10) (oi := { dst := some 47, op := Op.pick (Operand.tmp 42) (Operand.tmp 46) (Operand.const (Value.bool false)), type := 4, pos := "gates.go:34", after := #[{ on := 5, ground := Ground.data }, { on := 9, ground := Ground.data }], guard := none }) (v := .bool b2) rfl (by kernel_rfl) (by kernel_rfl) (by kernel_rfl) (fun _ _ _ h => h) (Or.inl ⟨by rfl, ?_⟩) HS0.out ?_
                · (intro w' hSw; go_simp)
                simp only [Act.put, List.setIfInBounds_toArray, List.set_cons_zero, List.set_cons_succ]
                refine wpAnyH_ready (rs := [11]) (by kernel_rfl) (by simp) (AllReadyH.cons (o := { dst := some 48, op := Op.buildSlice 48 1 #[(0, Operand.tmp 47)], type := 48, pos := "gates.go:34", after := #[{ on := 10, ground := Ground.data }], guard := none }) rfl (fun K hK => ?_) AllReadyH.nil)
                go_simp
                refine hK.out _ _ HS1.out (fun _ => ?_)
                clear hK K
                try simp only [Act.put, List.setIfInBounds_toArray, List.set_cons_zero, List.set_cons_succ]
                refine wpAnyH_ready (rs := [12]) (by kernel_rfl) (by simp) (AllReadyH.cons (o := { dst := some 49, op := Op.call { callee := Callee.builtin Builtin.append, args := #[Operand.tmp 37, Operand.tmp 48], argTypes := #[48, 48] }, type := 48, pos := "gates.go:34", after := #[{ on := 0, ground := Ground.data }, { on := 11, ground := Ground.data }, { on := 9, ground := Ground.chain }], guard := none }) rfl (fun K hK => ?_) AllReadyH.nil)
                refine step_app_by (by rfl) _ _ 48 48 (by rfl) _ _ (by rfl) (by rfl) _ _ HRUN.out ?_
                intro w8 hw8
                have HW8 := Lib.hid (HST.out w8 hw8)
                clear hw8
                refine hK.out _ _ HW8.out.2.1.cells (fun _ => ?_)
                clear hK K
                try simp only [Act.put, List.setIfInBounds_toArray, List.set_cons_zero, List.set_cons_succ]
                refine wpAnyH_ready (rs := [13]) (by kernel_rfl) (by simp) (AllReadyH.cons (o := { dst := none, op := Op.store 48 (Operand.tmp 8) (Operand.tmp 49), type := 0, pos := "gates.go:34", after := #[{ on := 12, ground := Ground.data }, { on := 12, ground := Ground.chain }, { on := 0, ground := Ground.phase }, { on := 1, ground := Ground.phase }, { on := 2, ground := Ground.phase }, { on := 3, ground := Ground.phase }, { on := 4, ground := Ground.phase }, { on := 5, ground := Ground.phase }, { on := 6, ground := Ground.phase }, { on := 7, ground := Ground.phase }, { on := 8, ground := Ground.phase }, { on := 9, ground := Ground.phase }, { on := 10, ground := Ground.phase }, { on := 11, ground := Ground.phase }, { on := 12, ground := Ground.phase }], guard := none }) rfl (fun K hK => ?_) AllReadyH.nil)
                have y1 := HW8.out.1.cell
                have y2 := HW8.out.1.frz
                go_simp
                clear y1 y2
                refine hK.out _ _ HW8.out.2.2.1.cells (fun _ => ?_)
                clear hK K
                try simp only [Act.put, List.setIfInBounds_toArray, List.set_cons_zero, List.set_cons_succ]
                refine wpAnyH_done (by kernel_rfl) ?_ _
                refine NoPanic.normal ?_
                have HFIN := HW8.out.2.2.2
                clear HW8
                go_wp2_with (fail)
                exact ⟨⟨k + 1, by omega, by go_num, by rw [HNV.out]; exact HFIN⟩, by simp [intOf]; omega⟩
              · go_simp
                go_at_call 86
                refine (HCY0.out).mono ?_
                rintro e wx ⟨rfl, hwx⟩
                obtain rfl := hwx.symm
                clear hwx
                refine hK.out _ _ HS0.out (fun _ => ?_)
                clear hK K
                try simp only [Act.put, List.setIfInBounds_toArray, List.set_cons_zero, List.set_cons_succ]
                refine wpAnyH_take (i := 10) (oi := { dst := some 47, op := Op.pick (Operand.tmp 42) (Operand.tmp 46) (Operand.const (Value.bool false)), type := 4, pos := "gates.go:34", after := #[{ on := 5, ground := Ground.data }, { on := 9, ground := Ground.data }], guard := none }) (v := .bool b2) rfl (by kernel_rfl) (by kernel_rfl) (by kernel_rfl) (fun _ _ _ h => h) (Or.inl ⟨by rfl, ?_⟩) HS0.out ?_
                · (intro w' hSw; go_simp)
                simp only [Act.put, List.setIfInBounds_toArray, List.set_cons_zero, List.set_cons_succ]
                refine wpAnyH_ready (rs := [0, 11]) (by kernel_rfl) (by simp) (AllReadyH.cons (o := { dst := some 37, op := Op.load 48 (Operand.tmp 8), type := 48, pos := "gates.go:34", after := #[], guard := none }) rfl (fun K hK => ?_) (AllReadyH.cons (o := { dst := some 48, op := Op.buildSlice 48 1 #[(0, Operand.tmp 47)], type := 48, pos := "gates.go:34", after := #[{ on := 10, ground := Ground.data }], guard := none }) rfl (fun K hK => ?_) AllReadyH.nil))
                · have c0 := HV0.out.cell
                  go_simp
                  clear c0
                  refine hK.out _ _ HS0.out (fun _ => ?_)
                  clear hK K
                  try simp only [Act.put, List.setIfInBounds_toArray, List.set_cons_zero, List.set_cons_succ]
                  refine wpAnyH_ready (rs := [11]) (by kernel_rfl) (by simp) (AllReadyH.cons (o := { dst := some 48, op := Op.buildSlice 48 1 #[(0, Operand.tmp 47)], type := 48, pos := "gates.go:34", after := #[{ on := 10, ground := Ground.data }], guard := none }) rfl (fun K hK => ?_) AllReadyH.nil)
                  go_simp
                  refine hK.out _ _ HS1.out (fun _ => ?_)
                  clear hK K
                  try simp only [Act.put, List.setIfInBounds_toArray, List.set_cons_zero, List.set_cons_succ]
                  refine wpAnyH_ready (rs := [12]) (by kernel_rfl) (by simp) (AllReadyH.cons (o := { dst := some 49, op := Op.call { callee := Callee.builtin Builtin.append, args := #[Operand.tmp 37, Operand.tmp 48], argTypes := #[48, 48] }, type := 48, pos := "gates.go:34", after := #[{ on := 0, ground := Ground.data }, { on := 11, ground := Ground.data }, { on := 9, ground := Ground.chain }], guard := none }) rfl (fun K hK => ?_) AllReadyH.nil)
                  refine step_app_by (by rfl) _ _ 48 48 (by rfl) _ _ (by rfl) (by rfl) _ _ HRUN.out ?_
                  intro w8 hw8
                  have HW8 := Lib.hid (HST.out w8 hw8)
                  clear hw8
                  refine hK.out _ _ HW8.out.2.1.cells (fun _ => ?_)
                  clear hK K
                  try simp only [Act.put, List.setIfInBounds_toArray, List.set_cons_zero, List.set_cons_succ]
                  refine wpAnyH_ready (rs := [13]) (by kernel_rfl) (by simp) (AllReadyH.cons (o := { dst := none, op := Op.store 48 (Operand.tmp 8) (Operand.tmp 49), type := 0, pos := "gates.go:34", after := #[{ on := 12, ground := Ground.data }, { on := 12, ground := Ground.chain }, { on := 0, ground := Ground.phase }, { on := 1, ground := Ground.phase }, { on := 2, ground := Ground.phase }, { on := 3, ground := Ground.phase }, { on := 4, ground := Ground.phase }, { on := 5, ground := Ground.phase }, { on := 6, ground := Ground.phase }, { on := 7, ground := Ground.phase }, { on := 8, ground := Ground.phase }, { on := 9, ground := Ground.phase }, { on := 10, ground := Ground.phase }, { on := 11, ground := Ground.phase }, { on := 12, ground := Ground.phase }], guard := none }) rfl (fun K hK => ?_) AllReadyH.nil)
                  have y1 := HW8.out.1.cell
                  have y2 := HW8.out.1.frz
                  go_simp
                  clear y1 y2
                  refine hK.out _ _ HW8.out.2.2.1.cells (fun _ => ?_)
                  clear hK K
                  try simp only [Act.put, List.setIfInBounds_toArray, List.set_cons_zero, List.set_cons_succ]
                  refine wpAnyH_done (by kernel_rfl) ?_ _
                  refine NoPanic.normal ?_
                  have HFIN := HW8.out.2.2.2
                  clear HW8
                  go_wp2_with (fail)
                  exact ⟨⟨k + 1, by omega, by go_num, by rw [HNV.out]; exact HFIN⟩, by simp [intOf]; omega⟩
                · go_simp
                  refine hK.out _ _ HS1.out (fun _ => ?_)
                  clear hK K
                  try simp only [Act.put, List.setIfInBounds_toArray, List.set_cons_zero, List.set_cons_succ]
                  refine wpAnyH_ready (rs := [0]) (by kernel_rfl) (by simp) (AllReadyH.cons (o := { dst := some 37, op := Op.load 48 (Operand.tmp 8), type := 48, pos := "gates.go:34", after := #[], guard := none }) rfl (fun K hK => ?_) AllReadyH.nil)
                  have c0 := HV1.out.cell
                  go_simp
                  clear c0
                  refine hK.out _ _ HS1.out (fun _ => ?_)
                  clear hK K
                  try simp only [Act.put, List.setIfInBounds_toArray, List.set_cons_zero, List.set_cons_succ]
                  refine wpAnyH_ready (rs := [12]) (by kernel_rfl) (by simp) (AllReadyH.cons (o := { dst := some 49, op := Op.call { callee := Callee.builtin Builtin.append, args := #[Operand.tmp 37, Operand.tmp 48], argTypes := #[48, 48] }, type := 48, pos := "gates.go:34", after := #[{ on := 0, ground := Ground.data }, { on := 11, ground := Ground.data }, { on := 9, ground := Ground.chain }], guard := none }) rfl (fun K hK => ?_) AllReadyH.nil)
                  refine step_app_by (by rfl) _ _ 48 48 (by rfl) _ _ (by rfl) (by rfl) _ _ HRUN.out ?_
                  intro w8 hw8
                  have HW8 := Lib.hid (HST.out w8 hw8)
                  clear hw8
                  refine hK.out _ _ HW8.out.2.1.cells (fun _ => ?_)
                  clear hK K
                  try simp only [Act.put, List.setIfInBounds_toArray, List.set_cons_zero, List.set_cons_succ]
                  refine wpAnyH_ready (rs := [13]) (by kernel_rfl) (by simp) (AllReadyH.cons (o := { dst := none, op := Op.store 48 (Operand.tmp 8) (Operand.tmp 49), type := 0, pos := "gates.go:34", after := #[{ on := 12, ground := Ground.data }, { on := 12, ground := Ground.chain }, { on := 0, ground := Ground.phase }, { on := 1, ground := Ground.phase }, { on := 2, ground := Ground.phase }, { on := 3, ground := Ground.phase }, { on := 4, ground := Ground.phase }, { on := 5, ground := Ground.phase }, { on := 6, ground := Ground.phase }, { on := 7, ground := Ground.phase }, { on := 8, ground := Ground.phase }, { on := 9, ground := Ground.phase }, { on := 10, ground := Ground.phase }, { on := 11, ground := Ground.phase }, { on := 12, ground := Ground.phase }], guard := none }) rfl (fun K hK => ?_) AllReadyH.nil)
                  have y1 := HW8.out.1.cell
                  have y2 := HW8.out.1.frz
                  go_simp
                  clear y1 y2
                  refine hK.out _ _ HW8.out.2.2.1.cells (fun _ => ?_)
                  clear hK K
                  try simp only [Act.put, List.setIfInBounds_toArray, List.set_cons_zero, List.set_cons_succ]
                  refine wpAnyH_done (by kernel_rfl) ?_ _
                  refine NoPanic.normal ?_
                  have HFIN := HW8.out.2.2.2
                  clear HW8
                  go_wp2_with (fail)
                  exact ⟨⟨k + 1, by omega, by go_num, by rw [HNV.out]; exact HFIN⟩, by simp [intOf]; omega⟩
            -- END T
        · obtain rfl : k = gs.length := by omega
          rw [List.take_length] at hev
          have HEV := hev
          clear hev
          obtain ⟨b0, b1⟩ := HEV.out.ck.cells
          have HN0 := Lib.hid (BOwn.nil wr wr.heap.size)
          go_wp2_with (fail)
          clear b0 b1
          generalize hnvx : nv inp gs = ns at *
          have HNS := Lib.hid (show ns.length ≤ 1000000 ∧ ∀ x ∈ ls, 0 ≤ x ∧ (x / 2).toNat < ns.length from by
            have h1 := nv_len inp gs
            have h2 := HEQ.out
            rw [hnvx] at h1
            refine ⟨by omega, fun x hx => ?_⟩
            have h3 := HLI.out x hx
            unfold isLit at h3
            omega)
          have HNX := Lib.hid hnvx
          clear hnvx
          generalize wr = wo at *
          go_loopw [12, 53] (fun u jv wr => ∃ (k : Nat), k ≤ ls.length ∧ jv = .int .i64 (k : Int) ∧ Hid (BOwn wr wo.heap.size u ((ls.take k).map (litV ns))) ∧ Hid (Below wo.heap.size wo wr)) (fun _ jv _ => ls.length - (intOf jv).toNat)
          case atStart => exact ⟨0, Nat.zero_le _, rfl, HN0, Lib.hid (Below.refl _ _)⟩
          case round =>
            obtain ⟨k, hk, rfl, hown, hbw⟩ := hrel
            have hev := HEV.out.later hbw.out
            by_cases hlt : k < ls.length
            · obtain ⟨b, off, hA, hb, hc0⟩ := (HZ.out.below hev.bel) (by omega)
              have hx := hc0 k hlt
              subst hA
              have hxl := HNS.out.2 _ (List.getElem_mem hlt)
              have HTK := Lib.hid (show (ls.take (k + 1)).map (litV ns) = (ls.take k).map (litV ns) ++ [litV ns ls[k]] by rw [List.take_succ_eq_append_getElem hlt, List.map_append]; rfl)
              obtain ⟨x, HX⟩ : ∃ x, Hid (ls[k] = x) := ⟨_, Lib.hid rfl⟩
              rw [HX.out] at hx hxl HTK
              obtain ⟨⟨v, hv1, hv2⟩, hck6, hbel6, hlo6⟩ := hev
              have HCX := Lib.hid (ev1_any wr nb w.heap.size v ns x hxl.1 hxl.2 HNS.out.1 hv1 hv2)
              generalize litV ns x = b1 at *
              have hba := (Below.refl wr.heap.size wr).alloc (Nat.le_refl _) (.cells #[.bool b1] 4)
              have hlen : ((ls.take k).map (litV ns)).length = k := by rw [List.length_map, List.length_take]; omega
              have ho := hown.out.later hba
              have hsz := Nat.le_trans hbw.out.size hba.size
              obtain ⟨X', cap', w8, hrun, hown8, hgr8⟩ := b_append (w := wr.alloc (.cells #[.bool b1] 4)) wo.heap.size k u12 _ ho hlen.symm (some ⟨wr.heap.size, 0, none⟩) 1 1 [b1] rfl (BRow.one wr b1) (by omega) hsz
              have HO8 := Lib.hid (show BOwn w8 wo.heap.size (.slice X' (k + 1) cap') ((ls.take (k + 1)).map (litV ns)) by rw [HTK.out]; exact hown8)
              have HB8 := Lib.hid ((hbw.out.trans (hba.mono hbw.out.size)).trans (grown_below hgr8 (own_lo ho) hsz))
              clear hown8 hgr8 hba hlen hv1 hv2 hck6 hbel6 hlo6 hown hc0 HTK ho hsz
              go_wp2_with (fail)
              refine HCX.out.mono ?_
              rintro e wx ⟨rfl, hwx⟩
              obtain rfl := hwx.symm
              go_wp2_with (at_builtin; refine app_by rfl _ _ 48 48 rfl _ _ rfl rfl _ _ hrun ?_; intro w9 hw9; obtain rfl := hw9.out)
              exact ⟨⟨k + 1, by omega, by go_num, HO8, HB8⟩, by simp [intOf]; omega⟩
            · obtain rfl : k = ls.length := by omega
              rw [List.take_length] at hown
              obtain ⟨X', cap', hu, _, hrow⟩ := hown.out.form
              rw [List.length_map] at hu
              subst hu
              have HROW := Lib.hid hrow
              have HBE := Lib.hid hev.bel
              clear hrow hev hown
              go_wp2_with (fail)
              go_ret2
              exact ⟨X', cap', rfl, by rw [HNX.out]; exact HROW.out, HBE.out⟩
    · obtain ⟨e1, e2⟩ := ev_no (I := I) (gs := gs) (inp := inp) (ls := ls) (fun h => hlen h.2)
      rw [e1, e2]
      have q0 : ((inp.length : Int) == I) = false := by rw [beq_eq_false_iff_ne]; exact hlen
      clear hv e1 e2 hlen
      go_enter Try.func41, Try.ntmps41
      go_upto_region 1 with fail
      generalize w.alloc (.cells #[.int .i64 I, .slice A gs.length c] 30) = w1 at *
      obtain ⟨b0, b1⟩ := HBX.out.cells
      go_wp2_with (fail)
      refine HF.out.mono ?_
      rintro e w2 ⟨rfl, hb2⟩
      obtain ⟨b0, b1⟩ := (HBX.out.later hb2).cells
      go_wp2_with (fail)
      go_ret2
      exact ⟨none, 0, rfl, BRow.nil _ _, HB1.out.trans (hb2.mono HB1.out.size)⟩
end Go.Proofs.Ytbcabnbgkicfdaa
