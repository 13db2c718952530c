/- What is proved: whether a circuit is valid and has some literals, on both sides; rows of truth values; slices.Equal over them. -/
import Derived.Test.YtbcabnbgkicfdaaGaRVal
import Derived.Test.YtbcabnbgkicfdaaGaOpen
set_option linter.unusedVariables false
namespace Go.Proofs.Ytbcabnbgkicfdaa
open Go.RowKit Go.Maps

/-- a valid circuit that has some literals -/
def fitB (I : Int) (gs : List Gt) (ls : List Int) : Bool := vldB I gs && ls.all (litB I gs.length)
theorem fit_iff {I : Int} {gs : List Gt} {ls : List Int} : fitB I gs ls = true ↔ (CkOk I gs ∧ 1 + I + (gs.length : Int) ≤ 65536) ∧ ∀ x ∈ ls, isLit I gs x := by
  unfold fitB
  simp only [Bool.and_eq_true, vld_iff, List.all_eq_true, litB_iff]
theorem vldB_dom {I : Int} {gs : List Gt} (h : vldB I gs = true) : 0 ≤ I ∧ I ≤ 1024 := ⟨(vld_iff.1 h).1.lo, (vld_iff.1 h).1.hi⟩
set_option maxRecDepth 100000 in
set_option maxHeartbeats 1000000 in
theorem fit_any (I : Int) (A : Option Addr) (c : Nat) (gs : List Gt) (AL : Option Addr) (cl : Nat) (ls : List Int) (w : World) (hr : GRow w A gs) (hok : ∀ x ∈ gs, GtOk x) (hn : gs.length ≤ 5000) (hz : ZRow w.heap.size w AL ls) (hl : ls.length ≤ 1000000) :
    Calls Try.prog 85 #[.agg #[.int .i64 I, .slice A gs.length c], .slice AL ls.length cl] w fun e w' => e = .returned (.bool (fitB I gs ls)) ∧ Below w.heap.size w w' := by
  have HB1 := Lib.hid ((Below.refl w.heap.size w).alloc (Nat.le_refl _) (.cells #[.int .i64 I, .slice A gs.length c] 30))
  have HBX := Lib.hid (CBx.new w I A gs.length c)
  have HV := Lib.hid (valid_any I A c gs _ (hr.later HB1.out) hok hn)
  have HZ := Lib.hid hz
  unfold fitB
  clear hz hr hok
  cases hv : vldB I gs with
  | false =>
    rw [hv] at HV
    clear hv
    go_enter Try.func85, Try.ntmps85
    go_upto_region 1 with fail
    generalize w.alloc (.cells #[.int .i64 I, .slice A gs.length c] 30) = w1 at *
    obtain ⟨b0, b1⟩ := HBX.out.cells
    go_wp2_with (fail)
    refine HV.out.mono ?_
    rintro e w2 ⟨rfl, hb2⟩
    go_wp2_with (fail)
    go_ret
    exact ⟨rfl, HB1.out.trans (hb2.mono HB1.out.size)⟩
  | true =>
    have HAL := Lib.hid (fun w h => areLits_any I (vldB_dom hv) A gs.length c (by omega) AL cl ls w h hl)
    rw [hv] at HV
    clear hv
    rw [Bool.true_and]
    go_enter Try.func85, Try.ntmps85
    go_upto_region 1 with fail
    generalize w.alloc (.cells #[.int .i64 I, .slice A gs.length c] 30) = w1 at *
    obtain ⟨b0, b1⟩ := HBX.out.cells
    go_wp2_with (fail)
    refine HV.out.mono ?_
    rintro e w2 ⟨rfl, hb2⟩
    have HB2 := Lib.hid (HB1.out.trans (hb2.mono HB1.out.size))
    obtain ⟨b0, b1⟩ := (HBX.out.later hb2).cells
    clear hb2
    go_wp2_with (fail)
    refine (HAL.out _ (HZ.out.later HB2.out)).mono ?_
    rintro e w3 ⟨rfl, hb3⟩
    go_wp2_with (fail)
    go_ret
    exact ⟨rfl, HB2.out.trans (hb3.mono HB2.out.size)⟩
theorem r_nodes_gen (I : Int) (A : Option Addr) (n c : Nat) (w : World) : Calls Try.prog 15 #[.agg #[.int .i64 I, .slice A n c]] w fun e w' => (∃ z, e = .returned (.int .i64 z)) ∧ Below w.heap.size w w' := by
  have HC := Lib.hid (CBx.new w I A n c)
  have HB := Lib.hid ((Below.refl w.heap.size w).alloc (Nat.le_refl _) (.cells #[.int .i64 I, .slice A n c] 30))
  go_enter Try.func15, Try.ntmps15
  go_upto_region 1 with fail
  generalize w.alloc (.cells #[.int .i64 I, .slice A n c] 30) = w1 at *
  obtain ⟨c0, c1⟩ := HC.out.cells
  go_wp2_with (fail)
  go_ret
  exact ⟨⟨_, rfl⟩, HB.out⟩
set_option maxRecDepth 100000 in
set_option maxHeartbeats 1000000 in
/-- IsLiteral answers something; with a number of inputs that is allowed, the truth -/
theorem r_isLit_any (I : Int) (A : Option Addr) (n c : Nat) (hn : n ≤ 100000) (x : Int) (w : World) : Calls Try.prog 97 #[.agg #[.int .i64 I, .slice A n c], .int .i64 x] w fun e w' => (∃ b, e = .returned (.bool b) ∧ (0 ≤ I ∧ I ≤ 1024 → b = litB I n x)) ∧ Below w.heap.size w w' := by
  have HB1 := Lib.hid ((Below.refl w.heap.size w).alloc (Nat.le_refl _) (.cells #[.int .i64 I, .slice A n c] 30))
  have HBX := Lib.hid (CBx.new w I A n c)
  by_cases h0 : x < 0
  · have d0 : decide (0 ≤ x) = false := by simpa using h0
    have HE := Lib.hid (litB_no (I := I) (n := n) (.inl h0))
    clear h0
    go_enter Try.func97, Try.ntmps97
    go_upto_region 1 with fail
    generalize w.alloc (.cells #[.int .i64 I, .slice A n c] 30) = w1 at *
    obtain ⟨b0, b1⟩ := HBX.out.cells
    go_wp2_with (fail)
    go_ret
    exact ⟨⟨_, rfl, fun _ => HE.out.symm⟩, HB1.out⟩
  · have d0 : decide (0 ≤ x) = true := by simp; omega
    by_cases hI : 0 ≤ I ∧ I ≤ 1024
    · have HC := Lib.hid (fun w => r_nodes_any I (by omega) A n c (by omega) w)
      have hnd : 0 ≤ nds I n ∧ nds I n ≤ 200000 := by unfold nds; omega
      have HE := Lib.hid (show litB I n x = decide (x < 2 * nds I n) by unfold litB; rw [d0, Bool.true_and])
      generalize nds I n = N at *
      clear h0 hI
      go_enter Try.func97, Try.ntmps97
      go_upto_region 1 with fail
      generalize w.alloc (.cells #[.int .i64 I, .slice A n c] 30) = w1 at *
      obtain ⟨b0, b1⟩ := HBX.out.cells
      go_wp2_with (fail)
      refine (HC.out _).mono ?_
      rintro e w2 ⟨rfl, hb2⟩
      go_wp2_with (fail)
      go_ret
      exact ⟨⟨_, rfl, fun _ => HE.out.symm⟩, HB1.out.trans (hb2.mono HB1.out.size)⟩
    · have HC := Lib.hid (fun w => r_nodes_gen I A n c w)
      have HI := Lib.hid hI
      clear h0 hI
      go_enter Try.func97, Try.ntmps97
      go_upto_region 1 with fail
      generalize w.alloc (.cells #[.int .i64 I, .slice A n c] 30) = w1 at *
      obtain ⟨b0, b1⟩ := HBX.out.cells
      go_wp2_with (fail)
      refine (HC.out _).mono ?_
      rintro e w2 ⟨⟨z, rfl⟩, hb2⟩
      go_wp2_with (fail)
      go_ret
      exact ⟨⟨_, rfl, fun h => absurd h HI.out⟩, HB1.out.trans (hb2.mono HB1.out.size)⟩
/-- a row of truth values that is owned -/
def bcells (l : List Bool) : List Value := l.map (fun x => Value.bool x)
theorem bcells_len (l : List Bool) : (bcells l).length = l.length := by simp [bcells]
theorem bcells_append (l m : List Bool) : bcells (l ++ m) = bcells l ++ bcells m := by simp [bcells]
theorem bcells_one (l : List Bool) : ∀ u ∈ bcells l, u.oneCell' = true := by
  intro u hu
  obtain ⟨x, _, rfl⟩ := List.mem_map.1 hu
  rfl
theorem bcells_get (l : List Bool) (k : Nat) (h : k < l.length) : (bcells l)[k]? = some (.bool l[k]) := by
  unfold bcells
  rw [List.getElem?_map, List.getElem?_eq_getElem h]
  rfl
def BOwn (w : World) (B : Nat) (v : Value) (l : List Bool) : Prop := w.ownsRow B 4 1 v l.length (bcells l)
theorem BOwn.form {w : World} {B : Nat} {v : Value} {l : List Bool} (h : BOwn w B v l) : ∃ A c, v = .slice A l.length c ∧ l.length ≤ c ∧ BRow w A l := by
  rcases h.2 with ⟨rfl, h0⟩ | ⟨g, cap, cur, hv, hB, hg, hn, _⟩
  · exact ⟨none, 0, by rw [h0], by omega, fun hh => by omega⟩
  · refine ⟨some ⟨g, 0, none⟩, cap, hv, hn, fun _ => ⟨g, 0, rfl, hlt hg, fun i hi => ?_⟩⟩
    have hb : v.ownBlock = some g := by rw [hv]; rfl
    have a := World.ownsRow.cells h hb _ _ (bcells_get l i hi)
    rw [do_add] at a
    rw [Nat.zero_add]
    exact a
theorem BOwn.later {w w' : World} {B : Nat} {v : Value} {l : List Bool} (h : BOwn w B v l) (hb : Below w.heap.size w w') : BOwn w' B v l := own_stays h fun b e => hb.block b (own_block' h e).2.1
theorem BOwn.nil (w : World) (B : Nat) : BOwn w B (.slice none 0 0) [] := World.ownsRow_nil _ _ _ _
set_option maxRecDepth 100000 in
set_option maxHeartbeats 1000000 in
theorem equalB_any (A1 : Option Addr) (c1 : Nat) (l1 : List Bool) (A2 : Option Addr) (c2 : Nat) (l2 : List Bool) (w : World) (h1 : BRow w A1 l1) (h2 : BRow w A2 l2) (hl : l1.length ≤ 1000000) :
    Calls Try.prog 26 #[.slice A1 l1.length c1, .slice A2 l2.length c2] w fun e w' => e = .returned (.bool (decide (l1 = l2))) ∧ Below w.heap.size w w' := by
  have HR1 := Lib.hid h1
  have HR2 := Lib.hid h2
  clear h1 h2
  by_cases hlen : l1.length = l2.length
  · have d0 : ((l1.length : Int) == (l2.length : Int)) = true := by rw [hlen]; simp
    have HL := Lib.hid hlen
    rw [← hlen]
    clear hlen d0
    go_enter Try.func26, Try.ntmps26
    go_wp2_with (fail)
    go_loopw [13] (fun jv wr => ∃ (k : Nat), k ≤ l1.length ∧ jv = .int .i64 (k : Int) ∧ Hid (l1.take k = l2.take k) ∧ Hid (Below w.heap.size w wr)) (fun jv _ => l1.length - (intOf jv).toNat)
    case atStart => exact ⟨0, Nat.zero_le _, rfl, Lib.hid (by simp), Lib.hid (Below.refl _ _)⟩
    case round =>
      obtain ⟨k, hk, rfl, hpre, hbw⟩ := hrel
      by_cases hlt : k < l1.length
      · have hk2 : k < l2.length := by have := HL.out; omega
        obtain ⟨a1, o1, e1, _, q1⟩ := (HR1.out.later hbw.out) (by omega)
        obtain ⟨a2, o2, e2, _, q2⟩ := (HR2.out.later hbw.out) (by omega)
        have r1 := q1 k hlt
        have r2 := q2 k hk2
        have HN := Lib.hid (show l1[k] = l2[k] → l1.take (k + 1) = l2.take (k + 1) from fun e => by rw [List.take_succ_eq_append_getElem hlt, List.take_succ_eq_append_getElem hk2, hpre.out, e])
        have HD := Lib.hid (show l1[k] ≠ l2[k] → decide (l1 = l2) = false from fun e => decide_eq_false (fun h => e (by subst h; rfl)))
        obtain ⟨x, HX⟩ : ∃ x, Hid (l1[k] = x) := ⟨_, Lib.hid rfl⟩
        obtain ⟨y, HY⟩ : ∃ y, Hid (l2[k] = y) := ⟨_, Lib.hid rfl⟩
        rw [HX.out] at r1 HN HD
        rw [HY.out] at r2 HN HD
        cases e1
        cases e2
        clear q1 q2
        by_cases hxy : x = y
        · subst hxy
          have HE := Lib.hid (HN.out rfl)
          cases x
          all_goals
            go_wp2_with (fail)
            go_quiet (fail)
            go_wp2_with (fail)
            exact ⟨⟨k + 1, by omega, by go_num, HE, Lib.hid (hbw.out.trans ((drewN_below wr nq).mono hbw.out.size))⟩, by simp [intOf]; omega⟩
        · have HE := Lib.hid (HD.out hxy)
          cases x <;> cases y
          all_goals first
            | (exact absurd rfl hxy)
            | (clear hxy
               go_wp2_with (fail)
               go_quiet (fail)
               go_wp2_with (fail)
               go_ret
               rw [HE.out]
               exact ⟨rfl, hbw.out.trans ((drewN_below wr nq).mono hbw.out.size)⟩)
      · obtain rfl : k = l1.length := by omega
        have HE := Lib.hid (show decide (l1 = l2) = true from decide_eq_true (by
          have := hpre.out
          rw [List.take_length, HL.out, List.take_length] at this
          exact this))
        go_wp2_with (fail)
        go_ret
        rw [HE.out]
        exact ⟨rfl, hbw.out⟩
  · have d0 : ((l1.length : Int) == (l2.length : Int)) = false := by rw [beq_eq_false_iff_ne]; omega
    have HE := Lib.hid (show decide (l1 = l2) = false from decide_eq_false (fun h => hlen (by rw [h])))
    clear hlen
    go_enter Try.func26, Try.ntmps26
    go_wp2_with (fail)
    go_ret
    rw [HE.out]
    exact ⟨rfl, Below.refl _ _⟩
end Go.Proofs.Ytbcabnbgkicfdaa
