/- What is proved: covers, Keyword, Name and Space return what the plain functions say. -/
import Derived.Test.YtgihfnnffailiabWords
set_option linter.unusedVariables false
namespace Go.Proofs.Ytgihfnnffailiab
open Go.RowKit

def covB (t : Tok) (a e : Int) : Bool := decide (a < e) && t.at_ == a && t.hi == e

set_option maxHeartbeats 400000 in
theorem covers_any (t : Tok) (a e : Int) (w : World) :
    Calls Try.prog 39 #[tokV t, .int .i64 a, .int .i64 e] w fun r w' => r = .returned (.bool (covB t a e)) ∧ Below w.heap.size w w' := by
  have HV := Lib.hid (show covB t a e = (decide (a < e) && t.at_ == a && t.hi == e) from rfl)
  generalize covB t a e = z at *
  obtain ⟨kd, lo, ta, th⟩ := t
  unfold tokV
  simp only at HV
  go_enter Try.func39, Try.ntmps39
  go_wp2_with (fail)
  all_goals
    go_ret
    refine ⟨ret_bool ?_, (Below.refl _ _).alloc (Nat.le_refl _) _⟩
    rw [HV.out]
    simp_all
    try omega

set_option maxHeartbeats 400000 in
theorem keyword_any (s : ByteArray) (w : World) (hs : s.size ≤ maxLen) :
    Calls Try.prog 20 #[.string s] w fun e w' => e = .returned (.bool (isKw s.data.toList)) ∧ Below w.heap.size w w' := by
  have HK := Lib.hid (keywords_any w)
  go_enter Try.func20, Try.ntmps20
  go_wp2_with (fail)
  refine HK.out.mono ?_
  rintro e w1 ⟨rfl, hk, hb⟩
  have hlk := hk.look s hs
  have HB := Lib.hid hb
  clear hk hb
  go_wp2_with (fail)
  go_ret
  exact ⟨rfl, HB.out⟩

/-- do two words remain two tokens with nothing between them -/
def glueB (a b : ByteArray) : Bool :=
  covB (nextTok (a.data.toList ++ b.data.toList) 0) 0 a.size && covB (nextTok (a.data.toList ++ b.data.toList) (tokAt (a.data.toList ++ b.data.toList) (blank (a.data.toList ++ b.data.toList) 0)).2) a.size ((a.size : Int) + b.size)
def spaceS (a b : ByteArray) : ByteArray := if glueB a b then ⟨#[]⟩ else ⟨#[32]⟩

theorem app_list (a b : ByteArray) : (a ++ b).data.toList = a.data.toList ++ b.data.toList := by simp [ByteArray.data_append]

set_option maxHeartbeats 1000000 in
theorem space_any (a b : ByteArray) (w : World) (ha : a.size ≤ 100000) (hb : b.size ≤ 100000) :
    Calls Try.prog 24 #[.string a, .string b] w fun e w' => e = .returned (.string (spaceS a b)) ∧ Below w.heap.size w w' := by
  have hz : (a ++ b).size = a.size + b.size := ByteArray.size_append
  have HN := Lib.hid (newScanner_any (a ++ b) w)
  have HX := Lib.hid (fun g k i wr hi h => next_any (a ++ b) g k i wr (by omega) hi h)
  have hl := app_list a b
  have hll : (a.data.toList ++ b.data.toList).length = a.size + b.size := by simp
  have hbd := blank_bd (a.data.toList ++ b.data.toList) 0 (by omega)
  have htb := tokAt_bd (a.data.toList ++ b.data.toList) _ hbd.2
  have HC := Lib.hid covers_any
  have HV := Lib.hid (show spaceS a b = if glueB a b then ⟨#[]⟩ else ⟨#[32]⟩ from rfl)
  rw [hl] at HX
  rw [hll] at htb
  have HE := Lib.hid (show (nextTok (a.data.toList ++ b.data.toList) 0).hi = (((tokAt (a.data.toList ++ b.data.toList) (blank (a.data.toList ++ b.data.toList) 0)).2 : Nat) : Int) from rfl)
  have HG := Lib.hid (show glueB a b = (covB (nextTok (a.data.toList ++ b.data.toList) 0) 0 a.size && covB (nextTok (a.data.toList ++ b.data.toList) (tokAt (a.data.toList ++ b.data.toList) (blank (a.data.toList ++ b.data.toList) 0)).2) a.size ((a.size : Int) + b.size)) from rfl)
  clear hl hll hbd
  generalize glueB a b = gl at *
  generalize (tokAt (a.data.toList ++ b.data.toList) (blank (a.data.toList ++ b.data.toList) 0)).2 = m at *
  have HX1 := Lib.hid (fun g k wr h => HX.out g k 0 wr (Nat.zero_le _) h)
  have HX2 := Lib.hid (fun g k wr h => HX.out g k m wr (by omega) h)
  clear HX
  generalize nextTok (a.data.toList ++ b.data.toList) 0 = t1 at *
  generalize nextTok (a.data.toList ++ b.data.toList) m = t2 at *
  generalize spaceS a b = sp at *
  have HC1 := Lib.hid (fun w => covers_any t1 0 a.size w)
  have HC2 := Lib.hid (fun w => covers_any t2 a.size ((a.size : Int) + b.size) w)
  clear HC
  unfold tokV at HX1 HX2 HC1 HC2
  generalize covB t1 0 a.size = q1 at *
  generalize covB t2 a.size ((a.size : Int) + b.size) = q2 at *
  go_enter Try.func24, Try.ntmps24
  go_wp2_with (fail)
  refine HN.out.mono ?_
  rintro e w1 ⟨g, k, rfl, hsc, hge, hb1⟩
  have S1 := Lib.hid hsc
  have z1 := hb1.size
  have B1 := Lib.hid hb1
  clear hsc hb1
  go_wp2_with (fail)
  refine (HX1.out g k w1 S1.out).mono ?_
  rintro e w2 ⟨rfl, hsc, hg⟩
  have S2 := Lib.hid (HE.out ▸ hsc)
  have hb2 := B1.out.grown hg z1 (fun k hk => by injection hk with hk; omega)
  have z2 := hb2.size
  have B2 := Lib.hid hb2
  clear hsc hg hb2
  go_wp2_with (fail)
  refine (HX2.out g k w2 S2.out).mono ?_
  rintro e w3 ⟨rfl, hsc, hg⟩
  have hb3 := B2.out.grown hg z2 (fun k hk => by injection hk with hk; omega)
  have z3 := hb3.size
  have B3 := Lib.hid hb3
  clear hsc hg hb3
  go_wp2_with (fail)
  have B4 := Lib.hid ((B3.out.alloc z3 (.cells #[.int .i64 t1.kind, .int .i64 t1.lo, .int .i64 t1.at_, .int .i64 t1.hi] 39)).alloc (by simp; omega) (.cells #[.int .i64 t2.kind, .int .i64 t2.lo, .int .i64 t2.at_, .int .i64 t2.hi] 39))
  refine (HC1.out _).mono ?_
  rintro e w4 ⟨rfl, hb4⟩
  cases q1 with
  | false =>
    have B5 := Lib.hid (B4.out.trans (hb4.mono (by simp; omega)))
    clear hb4
    go_wp2_with (fail)
    go_ret
    exact ⟨by rw [HV.out, HG.out]; rfl, B5.out⟩
  | true =>
    have tO : w4.heap[w3.heap.size + 1]? = some (.cells #[.int .i64 t2.kind, .int .i64 t2.lo, .int .i64 t2.at_, .int .i64 t2.hi] 39) := (hb4.block _ (by simp)).trans (heap_new2 w3 _ _)
    obtain ⟨x0, x1, x2, x3, _⟩ := cells4 tO
    have z4 := hb4.size
    have B5 := Lib.hid (B4.out.trans (hb4.mono (by simp; omega)))
    clear hb4 tO
    go_wp2_with (fail)
    refine (HC2.out _).mono ?_
    rintro e w5 ⟨rfl, hb5⟩
    have B6 := Lib.hid (B5.out.trans (hb5.mono (by simp at z4; omega)))
    clear hb5
    cases q2 with
    | false =>
      go_wp2_with (fail)
      go_ret
      exact ⟨by rw [HV.out, HG.out]; rfl, B6.out⟩
    | true =>
      go_wp2_with (fail)
      go_ret
      exact ⟨by rw [HV.out, HG.out]; rfl, B6.out⟩
end Go.Proofs.Ytgihfnnffailiab
