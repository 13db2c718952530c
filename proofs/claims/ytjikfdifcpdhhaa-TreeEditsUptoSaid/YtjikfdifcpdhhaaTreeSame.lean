/- What is proved: Same says whether two trees are equal apart from their places; List says whether the kids of a kind are a list. -/
import Derived.Test.YtjikfdifcpdhhaaInS
import Derived.Deep.QuietTactic
set_option linter.unusedVariables false
namespace Go.Proofs.Ytjikfdifcpdhhaa
open Go.RowKit

theorem bytes_inj {s t : ByteArray} (h : s.toList = t.toList) : s = t := by
  rw [ByteArray.toList_eq, ByteArray.toList_eq] at h
  exact ByteArray.ext (Array.toList_inj.1 h)
namespace NT
mutual
/-- equal apart from their places -/
def sameB : NT → NT → Bool
  | mk k t _ _ _ _ ks, mk k' t' _ _ _ _ ks' => k == k' && t.toList == t'.toList && samesB ks ks'
def samesB : List NT → List NT → Bool
  | [], [] => true
  | x :: xs, y :: ys => sameB x y && samesB xs ys
  | _, _ => false
end
theorem sameB_eq (a b : NT) : sameB a b = (a.kind == b.kind && a.text.toList == b.text.toList && samesB a.kids b.kids) := by cases a; cases b; simp [sameB, kind, text, kids]
theorem samesB_len (l m : List NT) (h : l.length ≠ m.length) : samesB l m = false := by
  induction l generalizing m with
  | nil => cases m with
    | nil => simp at h
    | cons y ys => rfl
  | cons x xs ih => cases m with
    | nil => rfl
    | cons y ys => simp only [samesB]; rw [ih ys (by simpa using h)]; simp
theorem samesB_iff (l m : List NT) (h : l.length = m.length) : samesB l m = true ↔ ∀ (i : Nat) (h1 : i < l.length), sameB l[i] (m[i]'(by omega)) = true := by
  induction l generalizing m with
  | nil => cases m with
    | nil => simp [samesB]
    | cons y ys => simp at h
  | cons x xs ih => cases m with
    | nil => simp at h
    | cons y ys =>
      simp only [samesB, Bool.and_eq_true]
      rw [ih ys (by simpa using h)]
      constructor
      · intro ⟨h1, h2⟩ i hi
        cases i with
        | zero => exact h1
        | succ i => exact h2 i (by simpa using hi)
      · intro h1
        exact ⟨h1 0 (by simp), fun i hi => h1 (i + 1) (by simpa using hi)⟩
end NT

/-- a call that compares two trees -/
def Compares (f : Nat) (a : NT) : Prop := ∀ (b : NT) (w : World), InT w.heap.size w a → InT w.heap.size w b → NT.cnt a ≤ 1000000000 →
  Calls Try.prog f #[.agg #[.int .i64 a.kind, .string a.text, .int .i64 a.lo, .int .i64 a.hi, .slice a.A a.kids.length a.c], .agg #[.int .i64 b.kind, .string b.text, .int .i64 b.lo, .int .i64 b.hi, .slice b.A b.kids.length b.c]] w fun e w' => e = .returned (.bool (NT.sameB a b)) ∧ Below w.heap.size w w'

set_option maxHeartbeats 1000000 in
theorem equalFunc_any (A B : Option Addr) (c d : Nat) (l m : List NT) (hcp : ∀ k ∈ l, Compares 36 k) (w : World) (hra : Row w.heap.size w A l) (hrb : Row w.heap.size w B m) (hia : ∀ k ∈ l, InT w.heap.size w k) (hib : ∀ k ∈ m, InT w.heap.size w k) (hcn : NT.cnts l ≤ 1000000000) :
    Calls Try.prog 57 #[.slice A l.length c, .slice B m.length d, .func (.func 36) #[] #[]] w fun e w' => e = .returned (.bool (NT.samesB l m)) ∧ Below w.heap.size w w' := by
  have HCP := Lib.hid hcp
  have HA := Lib.hid hra
  have HB := Lib.hid hrb
  have HI := Lib.hid hia
  have HJ := Lib.hid hib
  have hll := NT.cnts_len l
  clear hcp hra hrb hia hib
  by_cases hlen : l.length = m.length
  · have hle : ((l.length : Int) != (m.length : Int)) = false := by simp [hlen]
    have HL := Lib.hid hlen
    clear hlen
    go_enter Try.func57, Try.ntmps57
    go_wp2_with (fail)
    go_loopw [17] (fun i wr => ∃ k : Nat, k ≤ l.length ∧ i = .int .i64 (k : Int) ∧ Hid (∀ (j : Nat) (h : j < l.length) (h2 : j < m.length), j < k → NT.sameB l[j] m[j] = true) ∧ Hid (Below w.heap.size w wr)) (fun i _ => l.length - (intOf i).toNat)
    case atStart => exact ⟨0, Nat.zero_le _, rfl, (fun j _ _ h => absurd h (by omega) : ∀ (j : Nat) (h : j < l.length) (h2 : j < m.length), j < 0 → NT.sameB l[j] m[j] = true), Below.refl _ _⟩
    case round =>
      obtain ⟨k, hk, rfl, hall, hbw⟩ := hrel
      have hzw := hbw.out.size
      by_cases hlt : k < l.length
      · have hltm : k < m.length := by have := HL.out; omega
        obtain ⟨b, off, rfl, hb, hcs⟩ := (HA.out.below hbw.out) (by omega)
        obtain ⟨c0, c1, c2, c3, c4⟩ := hcs k hlt
        obtain ⟨b', off', rfl, hb', hcs'⟩ := (HB.out.below hbw.out) (by omega)
        obtain ⟨d0, d1, d2, d3, d4⟩ := hcs' k hltm
        clear hcs hcs'
        have HIx := Lib.hid (InT.later (HI.out _ (List.getElem_mem hlt)) hbw.out)
        have HJx := Lib.hid (InT.later (HJ.out _ (List.getElem_mem hltm)) hbw.out)
        have HC := Lib.hid (HCP.out _ (List.getElem_mem hlt))
        have hcx := NT.cnts_mem (List.getElem_mem hlt)
        obtain ⟨x, HX⟩ : ∃ x, Hid (l[k] = x) := ⟨_, Lib.hid rfl⟩
        obtain ⟨y, HY⟩ : ∃ y, Hid (m[k] = y) := ⟨_, Lib.hid rfl⟩
        rw [HX.out] at c0 c1 c2 c3 c4 HIx HC hcx
        rw [HY.out] at d0 d1 d2 d3 d4 HJx
        have hltm' : (k : Int) < (m.length : Int) := by omega
        have hbz : b' < wr.heap.size := by omega
        go_wp2_with (fail)
        have hba := ((Below.refl wr.heap.size wr).alloc (Nat.le_refl _) (.cells #[.int .i64 x.kind, .string x.text, .int .i64 x.lo, .int .i64 x.hi, .slice x.A x.kids.length x.c] 24)).alloc (by simp) (.cells #[.int .i64 y.kind, .string y.text, .int .i64 y.lo, .int .i64 y.hi, .slice y.A y.kids.length y.c] 24)
        refine (HC.out y _ (InT.later HIx.out hba) (InT.later HJx.out hba) (by omega)).mono ?_
        rintro e w2 ⟨rfl, hb2⟩
        have hz2 := hb2.size
        simp at hz2
        have HB2 := Lib.hid (hbw.out.trans ((hba.trans (hb2.mono (by simp; omega))).mono hzw))
        clear hba hb2
        cases hh : NT.sameB x y with
        | true =>
          have HH := Lib.hid hh
          clear hh
          go_wp2_with (fail)
          have HN : Hid (∀ (j : Nat) (h : j < l.length) (h2 : j < m.length), j < k + 1 → NT.sameB l[j] m[j] = true) := Lib.hid (fun j h h2 hj => by
            rcases Nat.lt_or_ge j k with h' | h'
            · exact hall.out j h h2 h'
            · obtain rfl : j = k := by omega
              rw [HX.out, HY.out]; exact HH.out)
          exact ⟨⟨k + 1, by omega, by go_num, HN, HB2⟩, by simp [intOf]; omega⟩
        | false =>
          have HS := Lib.hid (show NT.samesB l m = false by
            rw [Bool.eq_false_iff]
            intro e
            have := (NT.samesB_iff l m HL.out).1 e k hlt
            rw [HX.out, HY.out, hh] at this
            cases this)
          clear hh
          go_wp2_with (fail)
          go_ret
          exact ⟨congrArg (fun b => Ending.returned (Value.bool b)) HS.out.symm, HB2.out⟩
      · have HS := Lib.hid ((NT.samesB_iff l m HL.out).2 (fun i hi => hall.out i hi (by have := HL.out; omega) (by omega)))
        go_wp2_with (fail)
        go_ret
        exact ⟨congrArg (fun b => Ending.returned (Value.bool b)) HS.out.symm, hbw.out⟩
  · have hle : ((l.length : Int) != (m.length : Int)) = true := by simp; omega
    have HS := Lib.hid (NT.samesB_len l m hlen)
    clear hlen
    go_enter Try.func57, Try.ntmps57
    go_wp2_with (fail)
    go_ret
    exact ⟨congrArg (fun b => Ending.returned (Value.bool b)) HS.out.symm, Below.refl _ _⟩

set_option maxHeartbeats 1000000 in
theorem same_any : ∀ a : NT, Compares 36 a := NT.ind fun a ih b w hia hib hcn => by
  have hce := NT.cnt_eq a
  have hba := ((Below.refl w.heap.size w).alloc (Nat.le_refl _) (.cells #[.int .i64 a.kind, .string a.text, .int .i64 a.lo, .int .i64 a.hi, .slice a.A a.kids.length a.c] 24)).alloc (by simp) (.cells #[.int .i64 b.kind, .string b.text, .int .i64 b.lo, .int .i64 b.hi, .slice b.A b.kids.length b.c] 24)
  have HBA := Lib.hid hba
  have HC := Lib.hid (equalFunc_any a.A b.A a.c b.c a.kids b.kids ih _ ((InT.later hia hba).row) ((InT.later hib hba).row) (fun k hk => (InT.later hia hba).kid hk) (fun k hk => (InT.later hib hba).kid hk) (by omega))
  have HE := Lib.hid (NT.sameB_eq a b)
  clear ih hia hib hce hba
  by_cases hk : a.kind = b.kind
  · have hk1 : (a.kind == b.kind) = true := by simpa using hk
    by_cases ht : a.text.toList = b.text.toList
    · have ht1 : (a.text.toList == b.text.toList) = true := by simpa using ht
      have HV := Lib.hid (show NT.sameB a b = NT.samesB a.kids b.kids by rw [HE.out, hk1, ht1]; rfl)
      clear hk ht
      go_enter Try.func36, Try.ntmps36
      go_wp2_with (fail)
      refine HC.out.mono ?_
      rintro e w2 ⟨rfl, hb2⟩
      have hz2 := hb2.size
      simp at hz2
      have HB2 := Lib.hid (HBA.out.trans (hb2.mono (by simp; omega)))
      clear hb2
      go_wp2_with (fail)
      go_ret
      exact ⟨congrArg (fun b => Ending.returned (Value.bool b)) HV.out.symm, HB2.out⟩
    · have ht1 : (a.text.toList == b.text.toList) = false := by simpa using ht
      have HV := Lib.hid (show NT.sameB a b = false by rw [HE.out, ht1]; simp)
      clear hk ht
      go_enter Try.func36, Try.ntmps36
      go_wp2_with (fail)
      go_ret
      exact ⟨congrArg (fun b => Ending.returned (Value.bool b)) HV.out.symm, HBA.out⟩
  · have hk1 : (a.kind == b.kind) = false := by simpa using hk
    have HV := Lib.hid (show NT.sameB a b = false by rw [HE.out, hk1]; rfl)
    clear hk
    go_enter Try.func36, Try.ntmps36
    go_wp2_with (fail)
    go_ret
    exact ⟨congrArg (fun b => Ending.returned (Value.bool b)) HV.out.symm, HBA.out⟩

def listB (k : Int) : Bool := decide (k = 2 ∨ k = 3 ∨ k = 6 ∨ k = 11 ∨ k = 19 ∨ k = 26 ∨ k = 27)
set_option maxHeartbeats 1000000 in
theorem list_any (k : Int) (w : World) : Calls Try.prog 18 #[.int .i64 k] w fun e w' => e = .returned (.bool (listB k)) ∧ w = w' := by
  have hk0 : k = 2 ∨ k = 3 ∨ k = 6 ∨ k = 11 ∨ k = 19 ∨ k = 26 ∨ k = 27 ∨ ((k == 2) = false ∧ (k == 3) = false ∧ (k == 6) = false ∧ (k == 11) = false ∧ (k == 19) = false ∧ (k == 26) = false ∧ (k == 27) = false ∧ listB k = false) := by
    simp [listB]; omega
  rcases hk0 with rfl | rfl | rfl | rfl | rfl | rfl | rfl | ⟨h1, h2, h3, h4, h5, h6, h7, h8⟩
  all_goals
    go_enter Try.func18, Try.ntmps18
    go_wp2_with (fail)
    go_ret
    first | exact ⟨congrArg (fun b => Ending.returned (Value.bool b)) h8.symm, rfl⟩ | exact ⟨rfl, rfl⟩
end Go.Proofs.Ytjikfdifcpdhhaa
