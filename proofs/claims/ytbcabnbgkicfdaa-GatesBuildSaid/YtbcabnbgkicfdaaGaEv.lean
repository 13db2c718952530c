/- What is proved: the function that Eval of package gates gives its loops: a literal's value. -/
import Derived.Test.YtbcabnbgkicfdaaGaFit
set_option linter.unusedVariables false
namespace Go.Proofs.Ytbcabnbgkicfdaa
open Go.RowKit Go.Maps

theorem litV_at {ns : List Bool} {x : Int} {k : Nat} (hk : (x / 2).toNat = k) (hl : k < ns.length) : litV ns x = (ns[k] != decide (x % 2 = 1)) := by
  unfold litV
  rw [hk, List.getElem?_eq_getElem hl]
  rfl
theorem ev1_any (w : World) (nb B : Nat) (v : Value) (ns : List Bool) (x : Int) (hx : 0 ≤ x) (hl : (x / 2).toNat < ns.length) (hn : ns.length ≤ 1000000) (hb : Bx w nb 48 v) (ho : BOwn w B v ns) :
    Calls Try.prog 86 #[.int .i64 x, .pointer (some ⟨nb, 0, none⟩)] w fun e w' => e = .returned (.bool (litV ns x)) ∧ w' = w := by
  obtain ⟨A, c, rfl, _, hr⟩ := ho.form
  obtain ⟨b, off, rfl, _, hc⟩ := hr (by omega)
  have c0 := hb.cell
  have r0 := hc _ hl
  have HV := Lib.hid (litV_at (ns := ns) rfl hl)
  obtain ⟨m, rfl⟩ : ∃ m : Nat, x = (m : Int) := ⟨x.toNat, by omega⟩
  have hk : ((m : Int) / 2).toNat = m / 2 := by omega
  obtain ⟨q, HQ⟩ : ∃ q, Hid (ns[((m : Int) / 2).toNat] = q) := ⟨_, Lib.hid rfl⟩
  rw [HQ.out] at r0 HV
  rw [hk] at r0 hl
  clear hc hr ho hb hk
  go_enter Try.func86, Try.ntmps86
  go_wp2_with (fail)
  go_ret
  rw [HV.out]
  refine ⟨ret_bool ?_, rfl⟩
  show (!(q == ((m : Int) % 2 == 1))) = (q != ((m : Int) % 2 == 1))
  rfl
end Go.Proofs.Ytbcabnbgkicfdaa
