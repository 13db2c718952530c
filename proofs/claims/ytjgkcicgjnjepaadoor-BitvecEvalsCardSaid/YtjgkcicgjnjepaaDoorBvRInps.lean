/- What is proved: the reference's Inputs. -/
import Derived.Test.YtjgkcicgjnjepaaDoorBvRSize
set_option linter.unusedVariables false
namespace Go.Proofs.YtjgkcicgjnjepaaDoor
open Go.RowKit Go.Maps

/-- whether the first k nodes hold input n of node i -/
def fnd (l : List Tm) (i : Int) (n k : Nat) : Bool := (List.range k).any fun q => mrkZ l i q && inpAt l n q
theorem fnd_succ (l : List Tm) (i : Int) (n k : Nat) : fnd l i n (k + 1) = (fnd l i n k || (mrkZ l i k && inpAt l n k)) := by
  unfold fnd
  rw [List.range_succ, List.any_append]
  simp
theorem fnd_all {W : Int} {l : List Tm} (ht : TbOk W l) (i : Int) (n : Nat) : fnd l i n l.length = (prtZ l i).any (inpAt l n) := by
  unfold fnd
  rw [← mrkZ_filter ht i, List.any_filter]
/-- the inputs below n -/
def inpB (l : List Tm) (i : Int) (n : Nat) : List Nat := (List.range n).filter fun n => (prtZ l i).any (inpAt l n)
theorem inpB_succ (l : List Tm) (i : Int) (n : Nat) : inpB l i (n + 1) = inpB l i n ++ (if (prtZ l i).any (inpAt l n) = true then [n] else []) := by
  unfold inpB
  rw [List.range_succ, List.filter_append]
  congr 1
  by_cases h : (prtZ l i).any (inpAt l n) = true
  · rw [if_pos h, List.filter_cons_of_pos (by simpa using h)]; rfl
  · rw [if_neg h, List.filter_cons_of_neg (by simpa using h)]; rfl
theorem inpB_len (l : List Tm) (i : Int) (n : Nat) : (inpB l i n).length ≤ n := by
  unfold inpB
  have := List.length_filter_le (fun n => (prtZ l i).any (inpAt l n)) (List.range n)
  simpa using this
section
variable {w : World} {W : Int} {l : List Tm}
set_option maxRecDepth 100000 in
set_option maxHeartbeats 4000000 in
theorem r_inputs_any (A : Option Addr) (c : Nat) (i : Int) (hr : TRow w A l) (ht : TbOk W l) (hl : l.length ≤ 1000) : Calls Tryd.prog 13 #[.agg #[.int .i64 W, .slice A l.length c], .int .i64 i] w fun e w' => ∃ v, e = .returned v ∧ ZOwn w' w.heap.size v (zl (inpN l i)) ∧ Below w.heap.size w w' := by
  have HB1 := Lib.hid ((Below.refl w.heap.size w).alloc (Nat.le_refl _) (.cells #[.int .i64 W, .slice A l.length c] 29))
  have HRB := Lib.hid (show RBox (w.alloc (.cells #[.int .i64 W, .slice A l.length c] 29)) w.heap.size W A l.length c from heap_alloc_new w _)
  have HM := Lib.hid (fun w1 (hb : Below w.heap.size w w1) => r_marks_any (w := w1) A c i (hr.later hb) ht hl)
  have HALL := Lib.hid (fun n => fnd_all ht i n)
  have HROW := Lib.hid hr
  have HND := Lib.hid (fun k (hk : k < l.length) => ht.node hk)
  clear hr ht
  go_enter Tryd.func13, Tryd.ntmps13
  go_upto_region 1 with fail
  generalize w.alloc (.cells #[.int .i64 W, .slice A l.length c] 29) = w1 at *
  obtain ⟨tb, HTE⟩ : ∃ tb, Hid (tb = w.heap.size) := ⟨_, Lib.hid rfl⟩
  have HRB := Lib.hid (show RBox w1 tb W A l.length c by rw [HTE.out]; exact HRB.out)
  rw [← HTE.out]
  have hbe := (Below.refl w1.heap.size w1).alloc (Nat.le_refl _) (.cells #[] 3)
  have HZ0 := Lib.hid (show ZOwn (w1.alloc (.cells #[] 3)) tb (.slice (some ⟨w1.heap.size, 0, none⟩) 0 0) (zl (inpB l i 0)) from ⟨rfl, .inr ⟨w1.heap.size, 0, #[], rfl, by rw [HTE.out]; exact HB1.out.size, heap_alloc_new w1 _, Nat.le_refl _, Nat.zero_le _, rfl, rfl⟩⟩)
  have HB2 := Lib.hid (HB1.out.trans (hbe.mono HB1.out.size))
  have HR2 := Lib.hid (HRB.out.later hbe)
  clear hbe
  go_upto_region 2 with fail
  generalize w1.alloc (.cells #[] 3) = w2 at *
  obtain ⟨r0, r1⟩ := HR2.out.cells
  go_wp2_with (fail)
  refine (HM.out _ HB2.out).mono ?_
  rintro e w3 ⟨b, rfl, hba, hb3⟩
  have HB3 := Lib.hid (HB2.out.trans (hb3.mono HB2.out.size))
  have HBA := Lib.hid hba
  have HR3 := Lib.hid (HR2.out.later hb3)
  have HZ3 := Lib.hid (HZ0.out.later hb3)
  have HTB := Lib.hid (show tb ≤ w3.heap.size by rw [HTE.out]; exact HB3.out.size)
  clear hba hb3 r0 r1 HM HB2 HR2 HZ0
  go_wp2_with (fail)
  go_loopw [5, 7] (fun v nv wr => ∃ (n : Nat), n ≤ 24 ∧ nv = .int .i64 (n : Int) ∧ Hid (ZOwn wr tb v (zl (inpB l i n))) ∧ Hid (BArr wr b l.length (mrkZ l i)) ∧ Hid (RBox wr tb W A l.length c) ∧ Hid (Below w.heap.size w wr)) (fun _ nv _ => 24 - (intOf nv).toNat)
  case atStart => exact ⟨0, by omega, rfl, HZ3, HBA, HR3, HB3⟩
  case round =>
    obtain ⟨n, hn, rfl, hz, hb, hrb, hbw⟩ := hrel
    obtain ⟨A5, c5, hv, _, _⟩ := hz.out.form
    have hlz : (zl (inpB l i n)).length = (inpB l i n).length := zl_len _
    rw [hlz] at hv
    subst hv
    by_cases hlt : n < 24
    · generalize wr = wo at *
      go_wp2_with (fail)
      go_loopw [8, 9] (fun fv jv ws => ∃ (k : Nat), k ≤ l.length ∧ jv = .int .i64 (k : Int) ∧ fv = .bool (fnd l i n k) ∧ Hid (ws = wo)) (fun _ jv _ => l.length - (intOf jv).toNat)
      case atStart => exact ⟨0, Nat.zero_le _, rfl, rfl, Lib.hid rfl⟩
      case round =>
        obtain ⟨k, hk, rfl, rfl, hws⟩ := hrel
        have hw2 := hws.out
        clear hws
        subst hw2
        by_cases hkl : k < l.length
        · have q1 := hb.out.cell hkl
          obtain ⟨r0, r1⟩ := hrb.out.cells
          obtain ⟨b0, off, hA, _, hc0⟩ := (HROW.out.later hbw.out).at hkl
          have HS := Lib.hid (fnd_succ l i n k)
          have HIA := Lib.hid (show inpAt l n k = (isInp l[k] && l[k].v == (n : Int)) by unfold inpAt; rw [List.getElem?_eq_getElem hkl])
          have hnl : ¬ l.length ≤ k := by omega
          generalize l[k] = x at *
          generalize fnd l i n k = fb at *
          subst hA
          have d0 := hc0.1
          have d1 := hc0.2.1
          clear hc0
          cases hm : mrkZ l i k with
          | false =>
            rw [hm] at q1
            have HS2 := Lib.hid (show fnd l i n (k + 1) = fb by rw [HS.out, hm]; simp)
            clear hm
            go_wp2_with (fail)
            exact ⟨⟨k + 1, by omega, by go_num, by rw [HS2.out], Lib.hid trivial⟩, by simp [intOf]; omega⟩
          | true =>
            rw [hm] at q1
            have HS2 := Lib.hid (show fnd l i n (k + 1) = (fb || (isInp x && x.v == (n : Int))) by rw [HS.out, hm, HIA.out]; simp)
            clear hm
            by_cases h0 : x.op = 0
            · have e0 : (x.op == 0) = true := by simpa using h0
              by_cases h2 : x.v = (n : Int)
              · have e2 : (x.v == (n : Int)) = true := by simpa using h2
                have HS3 := Lib.hid (show fnd l i n (k + 1) = true by rw [HS2.out, e2]; simp [isInp, h0])
                clear h0 h2
                go_wp2_with (fail)
                exact ⟨⟨k + 1, by omega, by go_num, by rw [HS3.out], Lib.hid trivial⟩, by simp [intOf]; omega⟩
              · have e2 : (x.v == (n : Int)) = false := by simpa using h2
                have HS3 := Lib.hid (show fnd l i n (k + 1) = fb by rw [HS2.out, e2]; simp)
                clear h0 h2
                go_wp2_with (fail)
                exact ⟨⟨k + 1, by omega, by go_num, by rw [HS3.out], Lib.hid trivial⟩, by simp [intOf]; omega⟩
            · have e0 : (x.op == 0) = false := by simpa using h0
              by_cases h1 : x.op = 1
              · have e1 : (x.op == 1) = true := by simpa using h1
                by_cases h2 : x.v = (n : Int)
                · have e2 : (x.v == (n : Int)) = true := by simpa using h2
                  have HS3 := Lib.hid (show fnd l i n (k + 1) = true by rw [HS2.out, e2]; simp [isInp, h1])
                  clear h0 h1 h2
                  go_wp2_with (fail)
                  exact ⟨⟨k + 1, by omega, by go_num, by rw [HS3.out], Lib.hid trivial⟩, by simp [intOf]; omega⟩
                · have e2 : (x.v == (n : Int)) = false := by simpa using h2
                  have HS3 := Lib.hid (show fnd l i n (k + 1) = fb by rw [HS2.out, e2]; simp)
                  clear h0 h1 h2
                  go_wp2_with (fail)
                  exact ⟨⟨k + 1, by omega, by go_num, by rw [HS3.out], Lib.hid trivial⟩, by simp [intOf]; omega⟩
              · have e1 : (x.op == 1) = false := by simpa using h1
                have HS3 := Lib.hid (show fnd l i n (k + 1) = fb by rw [HS2.out]; simp [isInp, h0, h1])
                clear h0 h1
                go_wp2_with (fail)
                exact ⟨⟨k + 1, by omega, by go_num, by rw [HS3.out], Lib.hid trivial⟩, by simp [intOf]; omega⟩
        · obtain rfl : k = l.length := by omega
          have HSB := Lib.hid (inpB_succ l i n)
          have HFE := Lib.hid (show fnd l i n l.length = (prtZ l i).any (inpAt l n) from HALL.out n)
          have hil := inpB_len l i n
          cases hf : fnd l i n l.length with
          | false =>
            have HZ2 := Lib.hid (show ZOwn wr tb (.slice A5 (inpB l i n).length c5) (zl (inpB l i (n + 1))) by rw [HSB.out, ← HFE.out, hf]; simpa using hz.out)
            clear hf
            go_wp2_with (fail)
            exact ⟨⟨n + 1, by omega, by go_num, HZ2, hb, hrb, hbw⟩, by simp [intOf]; omega⟩
          | true =>
            have HZB := Lib.hid (show zl (inpB l i (n + 1)) = zl (inpB l i n) ++ [(n : Int)] by rw [HSB.out, ← HFE.out, hf, zl_append]; rfl)
            clear hf
            obtain ⟨i0, hi0, hz0, hz1, hz2⟩ := info_parts infoInt
            have HCS := Lib.hid (show tb ≤ wr.heap.size by rw [HTE.out]; exact hbw.out.size)
            have HOK := Lib.hid (show ∀ g, Value.ownBlock (.slice A5 (inpB l i n).length c5) = some g → tb ≤ g ∧ g ≠ b ∧ g ≠ tb from fun g e => by
              obtain ⟨q1, q2, cs, q3⟩ := own_block' hz.out e
              refine ⟨q1, fun e2 => ?_, fun e2 => ?_⟩
              · obtain ⟨cs2, h1, _⟩ := hb.out
                rw [e2, h1] at q3
                simp only [Option.some.injEq, Obj.cells.injEq] at q3
                exact absurd q3.2.1 (by decide)
              · have h1 := hrb.out
                unfold RBox at h1
                rw [e2, h1] at q3
                simp only [Option.some.injEq, Obj.cells.injEq] at q3
                exact absurd q3.2.1 (by decide))
            have HOA := Lib.hid (show (wr.alloc (.cells #[.int .i64 (n : Int)] 3)).ownsRow tb 3 1 (.slice A5 (inpB l i n).length c5) (inpB l i n).length (zcells (zl (inpB l i n))) by have := hz.out; unfold ZOwn at this; rw [hlz] at this; exact World.ownsRow.alloc this _)
            have HNB2 := Lib.hid (show ∀ (j : Nat) (u : Value), ([.int .i64 (n : Int)] : List Value)[j]? = some u → (wr.alloc (.cells #[.int .i64 (n : Int)] 3)).cell? ((⟨wr.heap.size, 0, none⟩ : Addr).add j) = some u from World.news_of_block (cs := #[.int .i64 (n : Int)]) (heap_alloc_new wr _))
            go_wp2_with (at_builtin; refine wpList_append_own _ rfl _ _ 23 rfl tb 3 i0 _ 1 8 Tryd.underlying23 hi0 hz0 hz1 hz2 rfl (by decide) _ _ _ rfl HOA.out ⟨wr.heap.size, 0, none⟩ 1 1 [.int .i64 (n : Int)] rfl rfl HNB2.out ?c2 ?c3 ?c4 ?c5 ?_)
            case c2 => intro u hu; simp at hu; subst hu; rfl
            case c3 => unfold maxLen; omega
            case c4 => omega
            case c5 => have := HCS.out; simp; omega
            intro v' w7 hown' hgrow _
            have HZ7 := Lib.hid (show ZOwn w7 tb v' (zl (inpB l i (n + 1))) by
              unfold ZOwn
              rw [HZB.out, zcells_append, List.length_append, hlz]
              exact hown')
            have hst : ∀ q, q < wr.heap.size → (∀ g, Value.ownBlock (.slice A5 (inpB l i n).length c5) = some g → g ≠ q) → w7.heap[q]? = wr.heap[q]? := fun q hq hne => (hgrow.block q (by simp; omega) (fun e => hne q e.symm rfl)).trans (heap_alloc_old wr _ hq)
            have HB7 := Lib.hid (show BArr w7 b l.length (mrkZ l i) from hb.out.eq (hst b hb.out.lt (fun g e => (HOK.out g e).2.1)))
            have HR7 := Lib.hid (show RBox w7 tb W A l.length c from (hst tb (Go.Proofs.YtjgkcicgjnjepaaDoor.hlt hrb.out) (fun g e => (HOK.out g e).2.2)).trans hrb.out)
            have HW7 := Lib.hid (hbw.out.trans (((Below.refl wr.heap.size wr).alloc (Nat.le_refl _) (.cells #[.int .i64 (n : Int)] 3)).mono hbw.out.size) |>.grown hgrow (by have := hbw.out.size; simp; omega) (fun g e => by have := (HOK.out g e).1; rw [HTE.out] at this; exact this))
            clear hown' hgrow hst
            go_wp2_with (fail)
            exact ⟨⟨n + 1, by omega, by go_num, HZ7, HB7, HR7, HW7⟩, by simp [intOf]; omega⟩
    · obtain rfl : n = 24 := by omega
      go_wp2_with (fail)
      go_ret
      exact ⟨_, rfl, own_down (show ZOwn wr tb _ (zl (inpN l i)) from hz.out) (by rw [HTE.out]; exact Nat.le_refl _), hbw.out⟩
end
end Go.Proofs.YtjgkcicgjnjepaaDoor
