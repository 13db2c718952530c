/- What is proved: the reference's parser: stops, primary. -/
import Derived.Test.YtnpcfmoiiecadaaDoorParKit
set_option linter.unusedVariables false
namespace Go.Proofs.YtnpcfmoiiecadaaDoor.Par
open Go.RowKit
open Lx (Tok)

set_option maxHeartbeats 1000000 in
theorem stops_k5 {B0 bp : Nat} {E : Env} {w : World} {p : St} (h : PIs B0 bp E w p) (kd : Int) (hk : knd E p = kd) (k5 : (kd == 5) = true) :
    Calls Tryd.prog 64 #[.pointer (some ⟨bp, 0, none⟩)] w fun e w' => e = .returned (.bool true) ∧ Below w.heap.size w w' := by
  have HP0 := Lib.hid h
  have HB0 := Lib.hid (Below.refl w.heap.size w)
  clear h
  go_enter Tryd.func64, Tryd.ntmps64
  go_wp2_with (fail)
  refine (kind_at HP0.out hk).mono ?_
  rintro e w1 ⟨rfl, hb1⟩
  have HP1 := Lib.hid (HP0.out.later hb1)
  have HB1 := Lib.hid (HB0.out.trans (hb1.mono HB0.out.size))
  clear hb1 HB0
  go_wp2_with (fail)
  go_ret
  exact ⟨rfl, HB1.out⟩
set_option maxHeartbeats 1000000 in
theorem stops_w0 {B0 bp : Nat} {E : Env} {w : World} {p : St} (h : PIs B0 bp E w p) (kd : Int) (hk : knd E p = kd) (k5 : (kd == 5) = false) (n0 : isW E p (⟨#[125]⟩ : ByteArray) = true) :
    Calls Tryd.prog 64 #[.pointer (some ⟨bp, 0, none⟩)] w fun e w' => e = .returned (.bool true) ∧ Below w.heap.size w w' := by
  have HP0 := Lib.hid h
  have HB0 := Lib.hid (Below.refl w.heap.size w)
  clear h
  go_enter Tryd.func64, Tryd.ntmps64
  go_wp2_with (fail)
  refine (kind_at HP0.out hk).mono ?_
  rintro e w1 ⟨rfl, hb1⟩
  have HP1 := Lib.hid (HP0.out.later hb1)
  have HB1 := Lib.hid (HB0.out.trans (hb1.mono HB0.out.size))
  clear hb1 HB0
  go_wp2_with (fail)
  refine (is_at HP1.out n0).mono ?_
  rintro e w2 ⟨rfl, hb2⟩
  have HP2 := Lib.hid (HP1.out.later hb2)
  have HB2 := Lib.hid (HB1.out.trans (hb2.mono HB1.out.size))
  clear hb2 HB1
  go_wp2_with (fail)
  go_ret
  exact ⟨rfl, HB2.out⟩
set_option maxHeartbeats 1000000 in
theorem stops_w1 {B0 bp : Nat} {E : Env} {w : World} {p : St} (h : PIs B0 bp E w p) (kd : Int) (hk : knd E p = kd) (k5 : (kd == 5) = false) (n0 : isW E p (⟨#[125]⟩ : ByteArray) = false) (n1 : isW E p (⟨#[112, 114, 111, 99]⟩ : ByteArray) = true) :
    Calls Tryd.prog 64 #[.pointer (some ⟨bp, 0, none⟩)] w fun e w' => e = .returned (.bool true) ∧ Below w.heap.size w w' := by
  have HP0 := Lib.hid h
  have HB0 := Lib.hid (Below.refl w.heap.size w)
  clear h
  go_enter Tryd.func64, Tryd.ntmps64
  go_wp2_with (fail)
  refine (kind_at HP0.out hk).mono ?_
  rintro e w1 ⟨rfl, hb1⟩
  have HP1 := Lib.hid (HP0.out.later hb1)
  have HB1 := Lib.hid (HB0.out.trans (hb1.mono HB0.out.size))
  clear hb1 HB0
  go_wp2_with (fail)
  refine (is_at HP1.out n0).mono ?_
  rintro e w2 ⟨rfl, hb2⟩
  have HP2 := Lib.hid (HP1.out.later hb2)
  have HB2 := Lib.hid (HB1.out.trans (hb2.mono HB1.out.size))
  clear hb2 HB1
  go_wp2_with (fail)
  refine (is_at HP2.out n1).mono ?_
  rintro e w3 ⟨rfl, hb3⟩
  have HP3 := Lib.hid (HP2.out.later hb3)
  have HB3 := Lib.hid (HB2.out.trans (hb3.mono HB2.out.size))
  clear hb3 HB2
  go_wp2_with (fail)
  go_ret
  exact ⟨rfl, HB3.out⟩
set_option maxHeartbeats 1000000 in
theorem stops_w2 {B0 bp : Nat} {E : Env} {w : World} {p : St} (h : PIs B0 bp E w p) (kd : Int) (hk : knd E p = kd) (k5 : (kd == 5) = false) (n0 : isW E p (⟨#[125]⟩ : ByteArray) = false) (n1 : isW E p (⟨#[112, 114, 111, 99]⟩ : ByteArray) = false) (n2 : isW E p (⟨#[114, 101, 99, 111, 114, 100]⟩ : ByteArray) = true) :
    Calls Tryd.prog 64 #[.pointer (some ⟨bp, 0, none⟩)] w fun e w' => e = .returned (.bool true) ∧ Below w.heap.size w w' := by
  have HP0 := Lib.hid h
  have HB0 := Lib.hid (Below.refl w.heap.size w)
  clear h
  go_enter Tryd.func64, Tryd.ntmps64
  go_wp2_with (fail)
  refine (kind_at HP0.out hk).mono ?_
  rintro e w1 ⟨rfl, hb1⟩
  have HP1 := Lib.hid (HP0.out.later hb1)
  have HB1 := Lib.hid (HB0.out.trans (hb1.mono HB0.out.size))
  clear hb1 HB0
  go_wp2_with (fail)
  refine (is_at HP1.out n0).mono ?_
  rintro e w2 ⟨rfl, hb2⟩
  have HP2 := Lib.hid (HP1.out.later hb2)
  have HB2 := Lib.hid (HB1.out.trans (hb2.mono HB1.out.size))
  clear hb2 HB1
  go_wp2_with (fail)
  refine (is_at HP2.out n1).mono ?_
  rintro e w3 ⟨rfl, hb3⟩
  have HP3 := Lib.hid (HP2.out.later hb3)
  have HB3 := Lib.hid (HB2.out.trans (hb3.mono HB2.out.size))
  clear hb3 HB2
  go_wp2_with (fail)
  refine (is_at HP3.out n2).mono ?_
  rintro e w4 ⟨rfl, hb4⟩
  have HP4 := Lib.hid (HP3.out.later hb4)
  have HB4 := Lib.hid (HB3.out.trans (hb4.mono HB3.out.size))
  clear hb4 HB3
  go_wp2_with (fail)
  go_ret
  exact ⟨rfl, HB4.out⟩
set_option maxHeartbeats 1000000 in
theorem stops_no {B0 bp : Nat} {E : Env} {w : World} {p : St} (h : PIs B0 bp E w p) (kd : Int) (hk : knd E p = kd) (k5 : (kd == 5) = false) (n0 : isW E p (⟨#[125]⟩ : ByteArray) = false) (n1 : isW E p (⟨#[112, 114, 111, 99]⟩ : ByteArray) = false) (n2 : isW E p (⟨#[114, 101, 99, 111, 114, 100]⟩ : ByteArray) = false) :
    Calls Tryd.prog 64 #[.pointer (some ⟨bp, 0, none⟩)] w fun e w' => e = .returned (.bool false) ∧ Below w.heap.size w w' := by
  have HP0 := Lib.hid h
  have HB0 := Lib.hid (Below.refl w.heap.size w)
  clear h
  go_enter Tryd.func64, Tryd.ntmps64
  go_wp2_with (fail)
  refine (kind_at HP0.out hk).mono ?_
  rintro e w1 ⟨rfl, hb1⟩
  have HP1 := Lib.hid (HP0.out.later hb1)
  have HB1 := Lib.hid (HB0.out.trans (hb1.mono HB0.out.size))
  clear hb1 HB0
  go_wp2_with (fail)
  refine (is_at HP1.out n0).mono ?_
  rintro e w2 ⟨rfl, hb2⟩
  have HP2 := Lib.hid (HP1.out.later hb2)
  have HB2 := Lib.hid (HB1.out.trans (hb2.mono HB1.out.size))
  clear hb2 HB1
  go_wp2_with (fail)
  refine (is_at HP2.out n1).mono ?_
  rintro e w3 ⟨rfl, hb3⟩
  have HP3 := Lib.hid (HP2.out.later hb3)
  have HB3 := Lib.hid (HB2.out.trans (hb3.mono HB2.out.size))
  clear hb3 HB2
  go_wp2_with (fail)
  refine (is_at HP3.out n2).mono ?_
  rintro e w4 ⟨rfl, hb4⟩
  have HP4 := Lib.hid (HP3.out.later hb4)
  have HB4 := Lib.hid (HB3.out.trans (hb4.mono HB3.out.size))
  clear hb4 HB3
  go_wp2_with (fail)
  go_ret
  exact ⟨rfl, HB4.out⟩
theorem stops_any {B0 bp : Nat} {E : Env} {w : World} {p : St} (h : PIs B0 bp E w p) :
    Calls Tryd.prog 64 #[.pointer (some ⟨bp, 0, none⟩)] w fun e w' => e = .returned (.bool (stops E p)) ∧ Below w.heap.size w w' := by
  unfold stops
  cases k5 : (knd E p == 5) with
  | true => exact stops_k5 h _ rfl k5
  | false =>
    cases n0 : isW E p (⟨#[125]⟩ : ByteArray) with
    | true => exact stops_w0 h _ rfl k5 n0
    | false =>
      cases n1 : isW E p (⟨#[112, 114, 111, 99]⟩ : ByteArray) with
      | true => exact stops_w1 h _ rfl k5 n0 n1
      | false =>
        cases n2 : isW E p (⟨#[114, 101, 99, 111, 114, 100]⟩ : ByteArray) with
        | true => exact stops_w2 h _ rfl k5 n0 n1 n2
        | false =>
          exact stops_no h _ rfl k5 n0 n1 n2
set_option maxHeartbeats 1000000 in
theorem primary_k0 {B0 bp : Nat} {E : Env} {w : World} {p : St} (h : PIs B0 bp E w p) (kd : Int) (hk : knd E p = kd) (k0 : (kd == 0) = true) :
    Calls Tryd.prog 72 #[.pointer (some ⟨bp, 0, none⟩)] w fun e w' => e = .returned (.bool true) ∧ Below w.heap.size w w' := by
  have HP0 := Lib.hid h
  have HB0 := Lib.hid (Below.refl w.heap.size w)
  clear h
  go_enter Tryd.func72, Tryd.ntmps72
  go_wp2_with (fail)
  refine (kind_at HP0.out hk).mono ?_
  rintro e w1 ⟨rfl, hb1⟩
  have HP1 := Lib.hid (HP0.out.later hb1)
  have HB1 := Lib.hid (HB0.out.trans (hb1.mono HB0.out.size))
  clear hb1 HB0
  go_wp2_with (fail)
  go_ret
  exact ⟨rfl, HB1.out⟩
set_option maxHeartbeats 1000000 in
theorem primary_k2 {B0 bp : Nat} {E : Env} {w : World} {p : St} (h : PIs B0 bp E w p) (kd : Int) (hk : knd E p = kd) (k0 : (kd == 0) = false) (k2 : (kd == 2) = true) :
    Calls Tryd.prog 72 #[.pointer (some ⟨bp, 0, none⟩)] w fun e w' => e = .returned (.bool true) ∧ Below w.heap.size w w' := by
  have HP0 := Lib.hid h
  have HB0 := Lib.hid (Below.refl w.heap.size w)
  clear h
  go_enter Tryd.func72, Tryd.ntmps72
  go_wp2_with (fail)
  refine (kind_at HP0.out hk).mono ?_
  rintro e w1 ⟨rfl, hb1⟩
  have HP1 := Lib.hid (HP0.out.later hb1)
  have HB1 := Lib.hid (HB0.out.trans (hb1.mono HB0.out.size))
  clear hb1 HB0
  go_wp2_with (fail)
  refine (kind_at HP1.out hk).mono ?_
  rintro e w2 ⟨rfl, hb2⟩
  have HP2 := Lib.hid (HP1.out.later hb2)
  have HB2 := Lib.hid (HB1.out.trans (hb2.mono HB1.out.size))
  clear hb2 HB1
  go_wp2_with (fail)
  go_ret
  exact ⟨rfl, HB2.out⟩
set_option maxHeartbeats 1000000 in
theorem primary_w0 {B0 bp : Nat} {E : Env} {w : World} {p : St} (h : PIs B0 bp E w p) (kd : Int) (hk : knd E p = kd) (k0 : (kd == 0) = false) (k2 : (kd == 2) = false) (n0 : isW E p (⟨#[116, 114, 117, 101]⟩ : ByteArray) = true) :
    Calls Tryd.prog 72 #[.pointer (some ⟨bp, 0, none⟩)] w fun e w' => e = .returned (.bool true) ∧ Below w.heap.size w w' := by
  have HP0 := Lib.hid h
  have HB0 := Lib.hid (Below.refl w.heap.size w)
  clear h
  go_enter Tryd.func72, Tryd.ntmps72
  go_wp2_with (fail)
  refine (kind_at HP0.out hk).mono ?_
  rintro e w1 ⟨rfl, hb1⟩
  have HP1 := Lib.hid (HP0.out.later hb1)
  have HB1 := Lib.hid (HB0.out.trans (hb1.mono HB0.out.size))
  clear hb1 HB0
  go_wp2_with (fail)
  refine (kind_at HP1.out hk).mono ?_
  rintro e w2 ⟨rfl, hb2⟩
  have HP2 := Lib.hid (HP1.out.later hb2)
  have HB2 := Lib.hid (HB1.out.trans (hb2.mono HB1.out.size))
  clear hb2 HB1
  go_wp2_with (fail)
  refine (is_at HP2.out n0).mono ?_
  rintro e w3 ⟨rfl, hb3⟩
  have HP3 := Lib.hid (HP2.out.later hb3)
  have HB3 := Lib.hid (HB2.out.trans (hb3.mono HB2.out.size))
  clear hb3 HB2
  go_wp2_with (fail)
  go_ret
  exact ⟨rfl, HB3.out⟩
set_option maxHeartbeats 1000000 in
theorem primary_w1 {B0 bp : Nat} {E : Env} {w : World} {p : St} (h : PIs B0 bp E w p) (kd : Int) (hk : knd E p = kd) (k0 : (kd == 0) = false) (k2 : (kd == 2) = false) (n0 : isW E p (⟨#[116, 114, 117, 101]⟩ : ByteArray) = false) (n1 : isW E p (⟨#[102, 97, 108, 115, 101]⟩ : ByteArray) = true) :
    Calls Tryd.prog 72 #[.pointer (some ⟨bp, 0, none⟩)] w fun e w' => e = .returned (.bool true) ∧ Below w.heap.size w w' := by
  have HP0 := Lib.hid h
  have HB0 := Lib.hid (Below.refl w.heap.size w)
  clear h
  go_enter Tryd.func72, Tryd.ntmps72
  go_wp2_with (fail)
  refine (kind_at HP0.out hk).mono ?_
  rintro e w1 ⟨rfl, hb1⟩
  have HP1 := Lib.hid (HP0.out.later hb1)
  have HB1 := Lib.hid (HB0.out.trans (hb1.mono HB0.out.size))
  clear hb1 HB0
  go_wp2_with (fail)
  refine (kind_at HP1.out hk).mono ?_
  rintro e w2 ⟨rfl, hb2⟩
  have HP2 := Lib.hid (HP1.out.later hb2)
  have HB2 := Lib.hid (HB1.out.trans (hb2.mono HB1.out.size))
  clear hb2 HB1
  go_wp2_with (fail)
  refine (is_at HP2.out n0).mono ?_
  rintro e w3 ⟨rfl, hb3⟩
  have HP3 := Lib.hid (HP2.out.later hb3)
  have HB3 := Lib.hid (HB2.out.trans (hb3.mono HB2.out.size))
  clear hb3 HB2
  go_wp2_with (fail)
  refine (is_at HP3.out n1).mono ?_
  rintro e w4 ⟨rfl, hb4⟩
  have HP4 := Lib.hid (HP3.out.later hb4)
  have HB4 := Lib.hid (HB3.out.trans (hb4.mono HB3.out.size))
  clear hb4 HB3
  go_wp2_with (fail)
  go_ret
  exact ⟨rfl, HB4.out⟩
set_option maxHeartbeats 1000000 in
theorem primary_w2 {B0 bp : Nat} {E : Env} {w : World} {p : St} (h : PIs B0 bp E w p) (kd : Int) (hk : knd E p = kd) (k0 : (kd == 0) = false) (k2 : (kd == 2) = false) (n0 : isW E p (⟨#[116, 114, 117, 101]⟩ : ByteArray) = false) (n1 : isW E p (⟨#[102, 97, 108, 115, 101]⟩ : ByteArray) = false) (n2 : isW E p (⟨#[108, 101, 110]⟩ : ByteArray) = true) :
    Calls Tryd.prog 72 #[.pointer (some ⟨bp, 0, none⟩)] w fun e w' => e = .returned (.bool true) ∧ Below w.heap.size w w' := by
  have HP0 := Lib.hid h
  have HB0 := Lib.hid (Below.refl w.heap.size w)
  clear h
  go_enter Tryd.func72, Tryd.ntmps72
  go_wp2_with (fail)
  refine (kind_at HP0.out hk).mono ?_
  rintro e w1 ⟨rfl, hb1⟩
  have HP1 := Lib.hid (HP0.out.later hb1)
  have HB1 := Lib.hid (HB0.out.trans (hb1.mono HB0.out.size))
  clear hb1 HB0
  go_wp2_with (fail)
  refine (kind_at HP1.out hk).mono ?_
  rintro e w2 ⟨rfl, hb2⟩
  have HP2 := Lib.hid (HP1.out.later hb2)
  have HB2 := Lib.hid (HB1.out.trans (hb2.mono HB1.out.size))
  clear hb2 HB1
  go_wp2_with (fail)
  refine (is_at HP2.out n0).mono ?_
  rintro e w3 ⟨rfl, hb3⟩
  have HP3 := Lib.hid (HP2.out.later hb3)
  have HB3 := Lib.hid (HB2.out.trans (hb3.mono HB2.out.size))
  clear hb3 HB2
  go_wp2_with (fail)
  refine (is_at HP3.out n1).mono ?_
  rintro e w4 ⟨rfl, hb4⟩
  have HP4 := Lib.hid (HP3.out.later hb4)
  have HB4 := Lib.hid (HB3.out.trans (hb4.mono HB3.out.size))
  clear hb4 HB3
  go_wp2_with (fail)
  refine (is_at HP4.out n2).mono ?_
  rintro e w5 ⟨rfl, hb5⟩
  have HP5 := Lib.hid (HP4.out.later hb5)
  have HB5 := Lib.hid (HB4.out.trans (hb5.mono HB4.out.size))
  clear hb5 HB4
  go_wp2_with (fail)
  go_ret
  exact ⟨rfl, HB5.out⟩
set_option maxHeartbeats 1000000 in
theorem primary_w3 {B0 bp : Nat} {E : Env} {w : World} {p : St} (h : PIs B0 bp E w p) (kd : Int) (hk : knd E p = kd) (k0 : (kd == 0) = false) (k2 : (kd == 2) = false) (n0 : isW E p (⟨#[116, 114, 117, 101]⟩ : ByteArray) = false) (n1 : isW E p (⟨#[102, 97, 108, 115, 101]⟩ : ByteArray) = false) (n2 : isW E p (⟨#[108, 101, 110]⟩ : ByteArray) = false) (n3 : isW E p (⟨#[40]⟩ : ByteArray) = true) :
    Calls Tryd.prog 72 #[.pointer (some ⟨bp, 0, none⟩)] w fun e w' => e = .returned (.bool true) ∧ Below w.heap.size w w' := by
  have HP0 := Lib.hid h
  have HB0 := Lib.hid (Below.refl w.heap.size w)
  clear h
  go_enter Tryd.func72, Tryd.ntmps72
  go_wp2_with (fail)
  refine (kind_at HP0.out hk).mono ?_
  rintro e w1 ⟨rfl, hb1⟩
  have HP1 := Lib.hid (HP0.out.later hb1)
  have HB1 := Lib.hid (HB0.out.trans (hb1.mono HB0.out.size))
  clear hb1 HB0
  go_wp2_with (fail)
  refine (kind_at HP1.out hk).mono ?_
  rintro e w2 ⟨rfl, hb2⟩
  have HP2 := Lib.hid (HP1.out.later hb2)
  have HB2 := Lib.hid (HB1.out.trans (hb2.mono HB1.out.size))
  clear hb2 HB1
  go_wp2_with (fail)
  refine (is_at HP2.out n0).mono ?_
  rintro e w3 ⟨rfl, hb3⟩
  have HP3 := Lib.hid (HP2.out.later hb3)
  have HB3 := Lib.hid (HB2.out.trans (hb3.mono HB2.out.size))
  clear hb3 HB2
  go_wp2_with (fail)
  refine (is_at HP3.out n1).mono ?_
  rintro e w4 ⟨rfl, hb4⟩
  have HP4 := Lib.hid (HP3.out.later hb4)
  have HB4 := Lib.hid (HB3.out.trans (hb4.mono HB3.out.size))
  clear hb4 HB3
  go_wp2_with (fail)
  refine (is_at HP4.out n2).mono ?_
  rintro e w5 ⟨rfl, hb5⟩
  have HP5 := Lib.hid (HP4.out.later hb5)
  have HB5 := Lib.hid (HB4.out.trans (hb5.mono HB4.out.size))
  clear hb5 HB4
  go_wp2_with (fail)
  refine (is_at HP5.out n3).mono ?_
  rintro e w6 ⟨rfl, hb6⟩
  have HP6 := Lib.hid (HP5.out.later hb6)
  have HB6 := Lib.hid (HB5.out.trans (hb6.mono HB5.out.size))
  clear hb6 HB5
  go_wp2_with (fail)
  go_ret
  exact ⟨rfl, HB6.out⟩
set_option maxHeartbeats 1000000 in
theorem primary_w4 {B0 bp : Nat} {E : Env} {w : World} {p : St} (h : PIs B0 bp E w p) (kd : Int) (hk : knd E p = kd) (k0 : (kd == 0) = false) (k2 : (kd == 2) = false) (n0 : isW E p (⟨#[116, 114, 117, 101]⟩ : ByteArray) = false) (n1 : isW E p (⟨#[102, 97, 108, 115, 101]⟩ : ByteArray) = false) (n2 : isW E p (⟨#[108, 101, 110]⟩ : ByteArray) = false) (n3 : isW E p (⟨#[40]⟩ : ByteArray) = false) (n4 : isW E p (⟨#[91]⟩ : ByteArray) = true) :
    Calls Tryd.prog 72 #[.pointer (some ⟨bp, 0, none⟩)] w fun e w' => e = .returned (.bool true) ∧ Below w.heap.size w w' := by
  have HP0 := Lib.hid h
  have HB0 := Lib.hid (Below.refl w.heap.size w)
  clear h
  go_enter Tryd.func72, Tryd.ntmps72
  go_wp2_with (fail)
  refine (kind_at HP0.out hk).mono ?_
  rintro e w1 ⟨rfl, hb1⟩
  have HP1 := Lib.hid (HP0.out.later hb1)
  have HB1 := Lib.hid (HB0.out.trans (hb1.mono HB0.out.size))
  clear hb1 HB0
  go_wp2_with (fail)
  refine (kind_at HP1.out hk).mono ?_
  rintro e w2 ⟨rfl, hb2⟩
  have HP2 := Lib.hid (HP1.out.later hb2)
  have HB2 := Lib.hid (HB1.out.trans (hb2.mono HB1.out.size))
  clear hb2 HB1
  go_wp2_with (fail)
  refine (is_at HP2.out n0).mono ?_
  rintro e w3 ⟨rfl, hb3⟩
  have HP3 := Lib.hid (HP2.out.later hb3)
  have HB3 := Lib.hid (HB2.out.trans (hb3.mono HB2.out.size))
  clear hb3 HB2
  go_wp2_with (fail)
  refine (is_at HP3.out n1).mono ?_
  rintro e w4 ⟨rfl, hb4⟩
  have HP4 := Lib.hid (HP3.out.later hb4)
  have HB4 := Lib.hid (HB3.out.trans (hb4.mono HB3.out.size))
  clear hb4 HB3
  go_wp2_with (fail)
  refine (is_at HP4.out n2).mono ?_
  rintro e w5 ⟨rfl, hb5⟩
  have HP5 := Lib.hid (HP4.out.later hb5)
  have HB5 := Lib.hid (HB4.out.trans (hb5.mono HB4.out.size))
  clear hb5 HB4
  go_wp2_with (fail)
  refine (is_at HP5.out n3).mono ?_
  rintro e w6 ⟨rfl, hb6⟩
  have HP6 := Lib.hid (HP5.out.later hb6)
  have HB6 := Lib.hid (HB5.out.trans (hb6.mono HB5.out.size))
  clear hb6 HB5
  go_wp2_with (fail)
  refine (is_at HP6.out n4).mono ?_
  rintro e w7 ⟨rfl, hb7⟩
  have HP7 := Lib.hid (HP6.out.later hb7)
  have HB7 := Lib.hid (HB6.out.trans (hb7.mono HB6.out.size))
  clear hb7 HB6
  go_wp2_with (fail)
  go_ret
  exact ⟨rfl, HB7.out⟩
set_option maxHeartbeats 1000000 in
theorem primary_no {B0 bp : Nat} {E : Env} {w : World} {p : St} (h : PIs B0 bp E w p) (kd : Int) (hk : knd E p = kd) (k0 : (kd == 0) = false) (k2 : (kd == 2) = false) (n0 : isW E p (⟨#[116, 114, 117, 101]⟩ : ByteArray) = false) (n1 : isW E p (⟨#[102, 97, 108, 115, 101]⟩ : ByteArray) = false) (n2 : isW E p (⟨#[108, 101, 110]⟩ : ByteArray) = false) (n3 : isW E p (⟨#[40]⟩ : ByteArray) = false) (n4 : isW E p (⟨#[91]⟩ : ByteArray) = false) :
    Calls Tryd.prog 72 #[.pointer (some ⟨bp, 0, none⟩)] w fun e w' => e = .returned (.bool false) ∧ Below w.heap.size w w' := by
  have HP0 := Lib.hid h
  have HB0 := Lib.hid (Below.refl w.heap.size w)
  clear h
  go_enter Tryd.func72, Tryd.ntmps72
  go_wp2_with (fail)
  refine (kind_at HP0.out hk).mono ?_
  rintro e w1 ⟨rfl, hb1⟩
  have HP1 := Lib.hid (HP0.out.later hb1)
  have HB1 := Lib.hid (HB0.out.trans (hb1.mono HB0.out.size))
  clear hb1 HB0
  go_wp2_with (fail)
  refine (kind_at HP1.out hk).mono ?_
  rintro e w2 ⟨rfl, hb2⟩
  have HP2 := Lib.hid (HP1.out.later hb2)
  have HB2 := Lib.hid (HB1.out.trans (hb2.mono HB1.out.size))
  clear hb2 HB1
  go_wp2_with (fail)
  refine (is_at HP2.out n0).mono ?_
  rintro e w3 ⟨rfl, hb3⟩
  have HP3 := Lib.hid (HP2.out.later hb3)
  have HB3 := Lib.hid (HB2.out.trans (hb3.mono HB2.out.size))
  clear hb3 HB2
  go_wp2_with (fail)
  refine (is_at HP3.out n1).mono ?_
  rintro e w4 ⟨rfl, hb4⟩
  have HP4 := Lib.hid (HP3.out.later hb4)
  have HB4 := Lib.hid (HB3.out.trans (hb4.mono HB3.out.size))
  clear hb4 HB3
  go_wp2_with (fail)
  refine (is_at HP4.out n2).mono ?_
  rintro e w5 ⟨rfl, hb5⟩
  have HP5 := Lib.hid (HP4.out.later hb5)
  have HB5 := Lib.hid (HB4.out.trans (hb5.mono HB4.out.size))
  clear hb5 HB4
  go_wp2_with (fail)
  refine (is_at HP5.out n3).mono ?_
  rintro e w6 ⟨rfl, hb6⟩
  have HP6 := Lib.hid (HP5.out.later hb6)
  have HB6 := Lib.hid (HB5.out.trans (hb6.mono HB5.out.size))
  clear hb6 HB5
  go_wp2_with (fail)
  refine (is_at HP6.out n4).mono ?_
  rintro e w7 ⟨rfl, hb7⟩
  have HP7 := Lib.hid (HP6.out.later hb7)
  have HB7 := Lib.hid (HB6.out.trans (hb7.mono HB6.out.size))
  clear hb7 HB6
  go_wp2_with (fail)
  go_ret
  exact ⟨rfl, HB7.out⟩
theorem primary_any {B0 bp : Nat} {E : Env} {w : World} {p : St} (h : PIs B0 bp E w p) :
    Calls Tryd.prog 72 #[.pointer (some ⟨bp, 0, none⟩)] w fun e w' => e = .returned (.bool (prim E p)) ∧ Below w.heap.size w w' := by
  unfold prim
  cases k0 : (knd E p == 0) with
  | true => exact primary_k0 h _ rfl k0
  | false =>
    cases k2 : (knd E p == 2) with
    | true => exact primary_k2 h _ rfl k0 k2
    | false =>
      cases n0 : isW E p (⟨#[116, 114, 117, 101]⟩ : ByteArray) with
      | true => exact primary_w0 h _ rfl k0 k2 n0
      | false =>
        cases n1 : isW E p (⟨#[102, 97, 108, 115, 101]⟩ : ByteArray) with
        | true => exact primary_w1 h _ rfl k0 k2 n0 n1
        | false =>
          cases n2 : isW E p (⟨#[108, 101, 110]⟩ : ByteArray) with
          | true => exact primary_w2 h _ rfl k0 k2 n0 n1 n2
          | false =>
            cases n3 : isW E p (⟨#[40]⟩ : ByteArray) with
            | true => exact primary_w3 h _ rfl k0 k2 n0 n1 n2 n3
            | false =>
              cases n4 : isW E p (⟨#[91]⟩ : ByteArray) with
              | true => exact primary_w4 h _ rfl k0 k2 n0 n1 n2 n3 n4
              | false =>
                exact primary_no h _ rfl k0 k2 n0 n1 n2 n3 n4
end Go.Proofs.YtnpcfmoiiecadaaDoor.Par
