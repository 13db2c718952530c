/- What is proved: the law's build: a table of some nodes, as far as they are right. -/
import Derived.Test.YtjgkcicgjnjepaaDoorBvAwake
set_option linter.unusedVariables false
namespace Go.Proofs.YtjgkcicgjnjepaaDoor
open Go.RowKit Go.Maps

set_option maxRecDepth 100000 in
set_option maxHeartbeats 1000000 in
theorem build_any (W : Int) (A : Option Addr) (c : Nat) (ns : List Tm) (w : World) (ht : TabS w) (hW : ¬ (W < 2 ∨ 8 < W)) (hr : TRow w A ns) (hok : ∀ x ∈ ns, TmOk x) (hn : ns.length ≤ 900) : Calls Tryd.prog 6 #[.int .i64 W, .slice A ns.length c] w fun e w' => ∃ tb mb rv, e = .returned (.pointer (some ⟨tb, 0, none⟩)) ∧ Tab w' w.heap.size tb mb rv W (bldL W ns) ∧ Below w.heap.size w w' := by
  have HN := Lib.hid (new_any W hW w)
  have HR := Lib.hid hr
  have HT := Lib.hid ht
  have HWW := Lib.hid hW
  have HOK := Lib.hid hok
  clear hr ht hW hok
  go_enter Tryd.func6, Tryd.ntmps6
  go_wp2_with (fail)
  refine HN.out.mono ?_
  rintro e w1 ⟨tb, mb, rfl, ht1, hb1⟩
  have HB1 := Lib.hid hb1
  have HT1 := Lib.hid (show Tab w1 w.heap.size tb mb (.slice none 0 0) W (bldL W (ns.take 0)) from ht1)
  clear ht1 hb1 HN
  go_wp2_with (fail)
  go_loopw [18] (fun jv wr => ∃ (j : Nat) (rv : Value), j ≤ ns.length ∧ jv = .int .i64 (j : Int) ∧ Hid (Tab wr w.heap.size tb mb rv W (bldL W (ns.take j))) ∧ Hid (Below w.heap.size w wr)) (fun jv _ => ns.length - (intOf jv).toNat)
  case atStart => exact ⟨0, _, Nat.zero_le _, rfl, HT1, HB1⟩
  case round =>
    obtain ⟨j, rv, hj, rfl, htb, hbw⟩ := hrel
    by_cases hlt : j < ns.length
    · obtain ⟨b0, off, hA, _, hc0⟩ := (HR.out.later hbw.out).at hlt
      have HX := Lib.hid (HOK.out _ (List.getElem_mem hlt))
      have HTK := Lib.hid (bld_take W ns j hlt)
      have hlen := (bld_ok W ns j (by omega)).2
      generalize ns[j] = x at *
      subst hA
      obtain ⟨d0, d1, d2, d3, d4⟩ := hc0
      go_upto_region 7 with fail
      have HBX := Lib.hid (TBox.new wr x)
      have HW5 := Lib.hid ((Below.refl wr.heap.size wr).alloc (Nat.le_refl _) (.cells #[.int .i64 x.op, .int .i64 x.v, .int .i64 x.a, .int .i64 x.b, .int .i64 x.c] 46))
      clear d0 d1 d2 d3 d4
      generalize wr.alloc (.cells #[.int .i64 x.op, .int .i64 x.v, .int .i64 x.a, .int .i64 x.b, .int .i64 x.c] 46) = w5 at *
      have HB5 := Lib.hid (hbw.out.trans (HW5.out.mono hbw.out.size))
      have HT5 := Lib.hid (htb.out.later HW5.out)
      have HM := Lib.hid (make_any x HT5.out HX.out (HT.out.later HB5.out) HWW.out (by omega))
      obtain ⟨x0, x1, x2, x3, x4⟩ := HBX.out.cells
      go_wp2_with (fail)
      refine HM.out.mono ?_
      rintro e w6 ⟨rfl, rv', hm⟩
      have HB6 := Lib.hid (hm.later (Nat.le_refl _) HT5.out HB5.out)
      have HT6 := Lib.hid (show Tab w6 w.heap.size tb mb rv' W (bldL W (ns.take (j + 1))) by rw [HTK.out]; exact hm.tab)
      clear hm x0 x1 x2 x3 x4
      go_wp2_with (fail)
      exact ⟨⟨j + 1, rv', by omega, by go_num, HT6, HB6⟩, by simp [intOf]; omega⟩
    · obtain rfl : j = ns.length := by omega
      rw [List.take_length] at htb
      go_wp2_with (fail)
      go_ret
      exact ⟨tb, mb, rv, rfl, htb.out, hbw.out⟩
end Go.Proofs.YtjgkcicgjnjepaaDoor
