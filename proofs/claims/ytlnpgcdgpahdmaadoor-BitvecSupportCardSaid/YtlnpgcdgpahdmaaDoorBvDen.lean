/- What is proved: where all inputs fit, the values of all nodes of a table satisfy their equations, and Eval gives them. -/
import Derived.Test.YtlnpgcdgpahdmaaDoorBvEval
set_option linter.unusedVariables false
namespace Go.Proofs.YtlnpgcdgpahdmaaDoor
open Go.RowKit

theorem val_congr {W : Int} {x : Tm} {f g : Nat → Int} {inp : List Int} (ho : x.o < 18) (h : ∀ a ∈ x.args, f a = g a) : valP W x f inp = valP W x g inp := by
  have key : ∀ j, j < cnt x.o → f (x.arg j).toNat = g (x.arg j).toNat := fun j hj => h _ (by
    have hj2 : j < x.args.length := by rw [args_len]; exact hj
    rw [← args_get x hj2]
    exact List.getElem_mem hj2)
  unfold valP
  have A : 0 < cnt x.o → f x.a.toNat = g x.a.toNat := key 0
  have B : 1 < cnt x.o → f x.b.toNat = g x.b.toNat := key 1
  have C : 2 < cnt x.o → f x.c.toNat = g x.c.toNat := key 2
  unfold valQ
  rcases o_cases ho with e | e | e | e | e | e | e | e | e | e | e | e | e | e | e | e | e | e <;> rw [e] at A B C ⊢
  all_goals first
    | rfl
    | (have a1 := A (by decide); have b1 := B (by decide); have c1 := C (by decide); simp only [a1, b1, c1])
    | (have a1 := A (by decide); have b1 := B (by decide); simp only [a1, b1])
    | (have a1 := A (by decide); simp only [a1])
/-- the values of all nodes, one after another -/
def dnF (W : Int) (l : List Tm) (inp : List Int) : Nat → (Nat → Int)
  | 0 => fun _ => 0
  | k + 1 => setF (dnF W l inp k) k (match l[k]? with | none => 0 | some x => valP W x (dnF W l inp k) inp)
def den (W : Int) (l : List Tm) (inp : List Int) (k : Nat) : Int := dnF W l inp l.length k
theorem dnF_low (W : Int) (l : List Tm) (inp : List Int) {j : Nat} : ∀ k, j < k → dnF W l inp k j = dnF W l inp (j + 1) j := by
  intro k
  induction k with
  | zero => intro h; omega
  | succ k ih =>
    intro h
    rcases Nat.lt_or_ge j k with h1 | h1
    · rw [← ih h1]
      show setF _ k _ j = _
      unfold setF
      rw [if_neg (by omega)]
    · obtain rfl : j = k := by omega
      rfl
/-- each value satisfies its node's equation -/
theorem den_eq {W : Int} {l : List Tm} (ht : TbOk W l) (inp : List Int) {k : Nat} (hk : k < l.length) : den W l inp k = valP W l[k] (den W l inp) inp := by
  unfold den
  rw [dnF_low W l inp l.length hk]
  show setF _ k _ k = _
  unfold setF
  rw [if_pos rfl, List.getElem?_eq_getElem hk]
  have hn := ht.node hk
  refine val_congr (o_lt hn.1 hn.2.1).1 fun a ha => ?_
  have hlt := args_lt ht hk ha
  rw [dnF_low W l inp k hlt, dnF_low W l inp l.length (by omega)]
theorem ev_den {W : Int} {l : List Tm} (ht : TbOk W l) {inp : List Int} (hfit : ∀ k (h : k < l.length), fitB W l[k] inp = true) {m : Nat → Bool} (hm : ∀ k (h : k < l.length), m k = true → ∀ a ∈ l[k].args, m a = true) : ∀ k, k ≤ l.length → ∃ g, evS W l m inp k = some g ∧ ∀ j, j < k → m j = true → g j = den W l inp j := by
  intro k
  induction k with
  | zero => intro _; exact ⟨_, rfl, fun j h => by omega⟩
  | succ k ih =>
    intro hk
    obtain ⟨g, hg, hj⟩ := ih (by omega)
    rw [evS_succ hg (by omega)]
    cases hmk : m k with
    | false =>
      rw [if_neg (by decide)]
      refine ⟨g, rfl, fun j h1 h2 => ?_⟩
      rcases Nat.lt_or_ge j k with h3 | h3
      · exact hj j h3 h2
      · obtain rfl : j = k := by omega
        rw [hmk] at h2
        cases h2
    | true =>
      rw [if_pos rfl, if_pos (hfit k (by omega))]
      refine ⟨_, rfl, fun j h1 h2 => ?_⟩
      unfold setF
      rcases Nat.lt_or_ge j k with h3 | h3
      · rw [if_neg (by omega)]
        exact hj j h3 h2
      · obtain rfl : j = k := by omega
        rw [if_pos rfl, den_eq ht inp (by omega)]
        have hn := ht.node (show j < l.length by omega)
        exact val_congr (o_lt hn.1 hn.2.1).1 fun a ha => hj a (args_lt ht (by omega) ha) (hm j (by omega) hmk a ha)
/-- Eval gives the values -/
theorem evP_den {W : Int} {l : List Tm} (ht : TbOk W l) {inp : List Int} (hfit : ∀ k (h : k < l.length), fitB W l[k] inp = true) (i : Nat) (hi : i < l.length) : evP W l (i : Int) inp = (den W l inp i, 0) := by
  unfold evP
  rw [if_pos (by omega), Int.toNat_natCast]
  obtain ⟨g, hg, hj⟩ := ev_den ht hfit (m := mrk l i) (fun k h hk a ha => mrk_args ht hi hk h ha) (i + 1) (by omega)
  rw [hg]
  show (g i, (0 : Int)) = _
  rw [hj i (by omega) (mrk_self l i)]
end Go.Proofs.YtlnpgcdgpahdmaaDoor
