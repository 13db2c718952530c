/- What is proved: Shape of the reference says whether a tree has its shape. -/
import Derived.Test.YtlaiahiphghggaaRefMost
import Derived.Test.YtlaiahiphghggaaRefText
import Derived.Test.YtlaiahiphghggaaBare
import Derived.Deep.RegionHeld3
set_option linter.unusedVariables false
namespace Go.Proofs.Ytlaiahiphghggaa
open Go.RowKit

def sh (n : NT) : Bool := (NT.nds n).all nodeB
theorem ndss_all (l : List NT) : (NT.ndss l).all nodeB = l.all sh := by
  induction l with
  | nil => rfl
  | cons x xs ih => simp only [NT.ndss, List.all_append, List.all_cons, ih]; rfl
theorem sh_eq (n : NT) : sh n = (nodeB n && n.kids.all sh) := by
  unfold sh
  rw [NT.nds_eq, List.all_cons, ndss_all]
  rfl
/-- the kids from the k-th on: of their classes, and of their shapes -/
def restB (kd : Int) (k : Nat) (l : List NT) : Bool := goB kd k l && l.all sh
theorem restB_cons (kd : Int) (k : Nat) (x : NT) (l : List NT) : restB kd k (x :: l) = (clsAt kd k x && sh x && restB kd (k + 1) l) := by
  unfold restB
  simp only [goB, List.all_cons]
  cases clsAt kd k x <;> cases sh x <;> cases goB kd (k + 1) l <;> simp
theorem sh_no {n : NT} (h : kindOk n.kind = false) : sh n = false := by rw [sh_eq]; unfold nodeB; rw [h]; rfl
theorem sh_of {n : NT} (h : kindOk n.kind = true) (hl : n.kids.length ≤ 4096) : sh n = (textB n.kind n.text && (decide (loK n.kind ≤ (n.kids.length : Int)) && decide ((n.kids.length : Int) ≤ hiK n.kind) && restB n.kind 0 n.kids)) := by
  rw [sh_eq]
  unfold nodeB restB
  rw [h, kids_eq h _ hl]
  cases textB n.kind n.text <;> cases decide (loK n.kind ≤ (n.kids.length : Int)) <;> cases decide ((n.kids.length : Int) ≤ hiK n.kind) <;> simp

/-- a call that says whether a tree has its shape -/
def ShapeC (f : Nat) (n : NT) : Prop := ∀ w : World, InT w.heap.size w n → NT.cnt n ≤ 4096 →
  Calls Try.prog f #[.agg #[.int .i64 n.kind, .string n.text, .int .i64 n.lo, .int .i64 n.hi, .slice n.A n.kids.length n.c]] w fun e w' => e = .returned (.bool (sh n)) ∧ Below w.heap.size w w'

set_option maxHeartbeats 8000000 in
set_option maxRecDepth 100000 in
theorem r_shape_any : ∀ n : NT, ShapeC 44 n := NT.ind fun n ih w hin hcn => by
  have IH := Lib.hid ih
  have HI := Lib.hid hin
  have hkl := NT.kids_len n
  clear ih hin
  have HBX := Lib.hid ((Below.refl w.heap.size w).alloc (Nat.le_refl _) (.cells #[.int .i64 n.kind, .string n.text, .int .i64 n.lo, .int .i64 n.hi, .slice n.A n.kids.length n.c] 24))
  cases hok : kindOk n.kind with
  | false =>
    have hv := Lib.hid (sh_no hok)
    have hk : n.kind < 0 ∨ n.kind = 1 ∨ 29 < n.kind := by
      unfold kindOk at hok
      simp only [decide_eq_false_iff_not] at hok
      omega
    clear hok
    by_cases h0 : n.kind < 0
    · have e0 : decide (n.kind < 0) = true := by simpa using h0
      clear hk h0
      go_enter Try.func44, Try.ntmps44
      go_wp2_with (fail)
      go_ret
      exact ⟨retB hv.out, HBX.out⟩
    · have e0 : decide (n.kind < 0) = false := by simpa using h0
      by_cases h1 : n.kind = 1
      · have e1 : (n.kind == 1) = true := by simpa using h1
        clear hk h0 h1
        go_enter Try.func44, Try.ntmps44
        go_wp2_with (fail)
        go_ret
        exact ⟨retB hv.out, HBX.out⟩
      · have e1 : (n.kind == 1) = false := by simpa using h1
        have e2 : decide (29 < n.kind) = true := by simp; omega
        clear hk h0 h1
        go_enter Try.func44, Try.ntmps44
        go_wp2_with (fail)
        go_ret
        exact ⟨retB hv.out, HBX.out⟩
  | true =>
    have HV := Lib.hid (sh_of hok (by omega))
    have HM := Lib.hid (fun w1 => r_most_any n.kind hok w1)
    have HKC := Lib.hid (fun (i : Nat) (hi : (i : Int) < hiK n.kind) => r_kid_any hok i hi)
    have HT := Lib.hid (fun w1 => r_text_any n w1)
    have hk : 0 ≤ n.kind ∧ n.kind ≠ 1 ∧ n.kind ≤ 29 := by
      unfold kindOk at hok
      simp only [decide_eq_true_eq] at hok
      omega
    have e0 : decide (n.kind < 0) = false := by simp; omega
    have e1 : (n.kind == 1) = false := by simp; omega
    have e2 : decide (29 < n.kind) = false := by simp; omega
    clear hk hok
    have HN := Lib.hid (NBox.new w n)
    generalize hiK n.kind = hi at *
    generalize loK n.kind = lo at *
    cases htx : textB n.kind n.text with
    | false =>
      rw [htx] at HV HT
      clear htx
      have hv := Lib.hid (show sh n = false from HV.out)
      go_enter Try.func44, Try.ntmps44
      go_wp2_with (fail)
      refine (HT.out _).mono ?_
      rintro e w' ⟨rfl, hb⟩
      go_wp2_with (fail)
      go_ret
      exact ⟨retB hv.out, HBX.out.trans (hb.mono HBX.out.size)⟩
    | true =>
      rw [htx] at HV HT
      clear htx
      go_enter Try.func44, Try.ntmps44
      go_wp2_with (fail)
      refine (HT.out _).mono ?_
      rintro e w2 ⟨rfl, hb⟩
      have HB2 := Lib.hid (HBX.out.trans (hb.mono HBX.out.size))
      have HN2 := Lib.hid (HN.out.below hb (by simp))
      clear hb HN
      obtain ⟨c0, c1, c2, c3, c4⟩ := HN2.out.cells
      go_wp2_with (fail)
      refine (HM.out _).mono ?_
      rintro e w3 ⟨rfl, rfl⟩
      by_cases h1 : (n.kids.length : Int) < lo
      · have hv := Lib.hid (show sh n = false by rw [HV.out, show decide (lo ≤ (n.kids.length : Int)) = false from by simp; omega]; rfl)
        go_wp2_with (fail)
        go_ret
        exact ⟨retB hv.out, HB2.out⟩
      · by_cases h2 : hi < (n.kids.length : Int)
        · have hv := Lib.hid (show sh n = false by rw [HV.out, show decide ((n.kids.length : Int) ≤ hi) = false from by simp; omega]; simp)
          go_wp2_with (fail)
          go_ret
          exact ⟨retB hv.out, HB2.out⟩
        · have HV2 := Lib.hid (show sh n = restB n.kind 0 n.kids by rw [HV.out, show decide (lo ≤ (n.kids.length : Int)) = true from by simp; omega, show decide ((n.kids.length : Int) ≤ hi) = true from by simp; omega]; rfl)
          go_wp2_with (fail)
          clear c0 c1 c2 c3 c4 HV HT HM h1
          go_loopw [5] (fun i wr => ∃ k : Nat, k ≤ n.kids.length ∧ i = .int .i64 (k : Int) ∧ Hid (sh n = restB n.kind k (n.kids.drop k)) ∧ Hid (NBox wr w.heap.size n) ∧ Hid (Below w.heap.size w wr)) (fun i _ => n.kids.length - (intOf i).toNat)
          case atStart => exact ⟨0, Nat.zero_le _, rfl, HV2, HN2, HB2⟩
          case round =>
            obtain ⟨k, hk, rfl, hrs, hnb, hbw⟩ := hrel
            obtain ⟨b0, b1, b2, b3, b4⟩ := hnb.out.cells
            have hzr : w.heap.size < wr.heap.size := (Array.getElem?_eq_some_iff.1 hnb.out).1
            by_cases hlt : k < n.kids.length
            · obtain ⟨b, off, hA, hb, hcw⟩ := HI.out.cells k hlt
              have HCW := Lib.hid hcw
              obtain ⟨c0, c1, c2, c3, c4⟩ := hcw.below hbw.out hb
              clear hcw
              have HIX := Lib.hid (InT.kidAt HI.out hlt)
              have HX := Lib.hid (IH.out _ (List.getElem_mem hlt))
              have HCK := Lib.hid (NT.cnt_kid (List.getElem_mem hlt))
              have hd : n.kids.drop k = n.kids[k] :: n.kids.drop (k + 1) := List.drop_eq_getElem_cons hlt
              rw [hd, restB_cons] at hrs
              clear hd
              rw [hA] at b4
              have HAE := Lib.hid hA
              clear hA
              have g1 : (0 : Int) ≤ (k : Int) := by omega
              have g2 : (k : Int) < (n.kids.length : Int) := by omega
              have HKD := Lib.hid (HKC.out k (by omega))
              generalize n.kids[k] = x at *
              have HK := Lib.hid (show ∀ w' : World, Below w.heap.size w w' → NBox w' w.heap.size n → w'.cell? ⟨w.heap.size, 0, none⟩ = some (.int .i64 n.kind) ∧ w'.cell? ⟨w.heap.size, 4, none⟩ = some (.slice (some ⟨b, off, none⟩) n.kids.length n.c) ∧ w'.cell? ⟨b, off + k * 5, none⟩ = some (.int .i64 x.kind) ∧ w'.cell? ⟨b, off + k * 5 + 1, none⟩ = some (.string x.text) ∧ w'.cell? ⟨b, off + k * 5 + 2, none⟩ = some (.int .i64 x.lo) ∧ w'.cell? ⟨b, off + k * 5 + 3, none⟩ = some (.int .i64 x.hi) ∧ w'.cell? ⟨b, off + k * 5 + 4, none⟩ = some (.slice x.A x.kids.length x.c) from fun w' hb2 hn2 => ⟨hn2.cells.1, by have := hn2.cells.2.2.2.2; rw [HAE.out] at this; exact this, HCW.out.below hb2 hb⟩)
              cases hcl : clsAt n.kind k x with
              | false =>
                rw [hcl] at hrs
                have hv := Lib.hid (show sh n = false from hrs.out)
                have HKX := Lib.hid (fun w1 => show Calls Try.prog 65 #[.int .i64 n.kind, .int .i64 (k : Int), .agg #[.int .i64 x.kind, .string x.text, .int .i64 x.lo, .int .i64 x.hi, .slice x.A x.kids.length x.c]] w1 fun e w' => e = .returned (.bool false) ∧ Below w1.heap.size w1 w' from by have h := HKD.out x w1; rw [hcl] at h; exact h)
                clear hcl
                go_wp2_with (fail)
                first | (go_region_law (first | (go_simp; go_at_call 65; refine (HKX.out _).mono ?_; rintro e w4 ⟨rfl, hb4⟩; have HB4 := Lib.hid (hbw.out.drew.trans (hb4.mono hbw.out.size)); clear hb4))) | fail
                all_goals
                  go_wp2_with (fail)
                  go_ret
                  exact ⟨retB hv.out, HB4.out⟩
              | true =>
                rw [hcl] at hrs
                have HKX := Lib.hid (fun w1 => show Calls Try.prog 65 #[.int .i64 n.kind, .int .i64 (k : Int), .agg #[.int .i64 x.kind, .string x.text, .int .i64 x.lo, .int .i64 x.hi, .slice x.A x.kids.length x.c]] w1 fun e w' => e = .returned (.bool true) ∧ Below w1.heap.size w1 w' from by have h := HKD.out x w1; rw [hcl] at h; exact h)
                clear hcl
                cases hsx : sh x with
                | false =>
                  rw [hsx] at hrs
                  have hv := Lib.hid (show sh n = false from hrs.out)
                  have HXX := Lib.hid (fun w1 h1 => show Calls Try.prog 44 #[.agg #[.int .i64 x.kind, .string x.text, .int .i64 x.lo, .int .i64 x.hi, .slice x.A x.kids.length x.c]] w1 fun e w' => e = .returned (.bool false) ∧ Below w1.heap.size w1 w' from by have h := HX.out w1 h1 (by have := HCK.out; omega); rw [hsx] at h; exact h)
                  clear hsx
                  go_wp2_with (fail)
                  go_region_held3 (fun w' => w'.cell? ⟨w.heap.size, 0, none⟩ = some (.int .i64 n.kind) ∧ w'.cell? ⟨w.heap.size, 4, none⟩ = some (.slice (some ⟨b, off, none⟩) n.kids.length n.c) ∧ w'.cell? ⟨b, off + k * 5, none⟩ = some (.int .i64 x.kind) ∧ w'.cell? ⟨b, off + k * 5 + 1, none⟩ = some (.string x.text) ∧ w'.cell? ⟨b, off + k * 5 + 2, none⟩ = some (.int .i64 x.lo) ∧ w'.cell? ⟨b, off + k * 5 + 3, none⟩ = some (.int .i64 x.hi) ∧ w'.cell? ⟨b, off + k * 5 + 4, none⟩ = some (.slice x.A x.kids.length x.c)) (first | exact HS5.out | exact HSS.out | go_keep) ((first | (go_at_call 65; refine (HKX.out _).mono ?_; rintro e w4 ⟨rfl, hb4⟩; have HB4 := Lib.hid (hbw.out.drew.trans (hb4.mono hbw.out.size)); have HN4 := Lib.hid (hnb.out.below (show Below wr.heap.size wr w4 from (Below.refl wr.heap.size wr).drew.trans hb4) hzr); have HSS := Lib.hid (HK.out w4 HB4.out HN4.out); clear hb4) | (go_at_call 44; refine (HXX.out _ (InT.later HIX.out HB4.out)).mono ?_; rintro e w5 ⟨rfl, hb5⟩; have HB5 := Lib.hid (HB4.out.trans (hb5.mono HB4.out.size)); have HN5 := Lib.hid (HN4.out.below hb5 (Array.getElem?_eq_some_iff.1 HN4.out).1); have HS5 := Lib.hid (HK.out w5 HB5.out HN5.out); clear hb5)))
                  go_wp2_with (fail)
                  go_ret
                  exact ⟨retB hv.out, HB5.out⟩
                | true =>
                  rw [hsx] at hrs
                  have HR := Lib.hid (show sh n = restB n.kind (k + 1) (n.kids.drop (k + 1)) from hrs.out)
                  have HXX := Lib.hid (fun w1 h1 => show Calls Try.prog 44 #[.agg #[.int .i64 x.kind, .string x.text, .int .i64 x.lo, .int .i64 x.hi, .slice x.A x.kids.length x.c]] w1 fun e w' => e = .returned (.bool true) ∧ Below w1.heap.size w1 w' from by have h := HX.out w1 h1 (by have := HCK.out; omega); rw [hsx] at h; exact h)
                  clear hsx
                  go_wp2_with (fail)
                  go_region_held3 (fun w' => w'.cell? ⟨w.heap.size, 0, none⟩ = some (.int .i64 n.kind) ∧ w'.cell? ⟨w.heap.size, 4, none⟩ = some (.slice (some ⟨b, off, none⟩) n.kids.length n.c) ∧ w'.cell? ⟨b, off + k * 5, none⟩ = some (.int .i64 x.kind) ∧ w'.cell? ⟨b, off + k * 5 + 1, none⟩ = some (.string x.text) ∧ w'.cell? ⟨b, off + k * 5 + 2, none⟩ = some (.int .i64 x.lo) ∧ w'.cell? ⟨b, off + k * 5 + 3, none⟩ = some (.int .i64 x.hi) ∧ w'.cell? ⟨b, off + k * 5 + 4, none⟩ = some (.slice x.A x.kids.length x.c)) (first | exact HS5.out | exact HSS.out | go_keep) ((first | (go_at_call 65; refine (HKX.out _).mono ?_; rintro e w4 ⟨rfl, hb4⟩; have HB4 := Lib.hid (hbw.out.drew.trans (hb4.mono hbw.out.size)); have HN4 := Lib.hid (hnb.out.below (show Below wr.heap.size wr w4 from (Below.refl wr.heap.size wr).drew.trans hb4) hzr); have HSS := Lib.hid (HK.out w4 HB4.out HN4.out); clear hb4) | (go_at_call 44; refine (HXX.out _ (InT.later HIX.out HB4.out)).mono ?_; rintro e w5 ⟨rfl, hb5⟩; have HB5 := Lib.hid (HB4.out.trans (hb5.mono HB4.out.size)); have HN5 := Lib.hid (HN4.out.below hb5 (Array.getElem?_eq_some_iff.1 HN4.out).1); have HS5 := Lib.hid (HK.out w5 HB5.out HN5.out); clear hb5)))
                  go_wp2_with (fail)
                  exact ⟨⟨k + 1, by omega, by go_num, HR, HN5, HB5⟩, by simp [intOf]; omega⟩
            · have hd : n.kids.drop k = [] := List.drop_eq_nil_of_le (by omega)
              rw [hd] at hrs
              have hv := Lib.hid (show sh n = true from hrs.out)
              clear hd
              go_wp2_with (fail)
              go_ret
              exact ⟨retB hv.out, hbw.out⟩
end Go.Proofs.Ytlaiahiphghggaa
