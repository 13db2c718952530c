/- What is proved: the text of a type that exists is read as this type. -/
import Derived.Test.YtnpcfmoiiecadaaDoorWtParse
import Derived.Test.YtnpcfmoiiecadaaDoorWtGet
import Derived.Test.YtnpcfmoiiecadaaDoorTyWr
import Derived.Test.YtnpcfmoiiecadaaDoorCoFmtC
set_option linter.unusedVariables false
set_option linter.unusedSimpArgs false
namespace Go.Proofs.YtnpcfmoiiecadaaDoor.Wt
open Lx Par

/-- the text that the law reads -/
def txt (t : TyV) : ByteArray := ((⟨#[112, 114, 111, 99, 32, 102, 40, 120, 58, 32]⟩ : ByteArray) ++ fmtS t) ++ (⟨#[41, 32, 123, 32, 125]⟩ : ByteArray)
def Reads (s : ByteArray) (t : TyV) : Prop := ∃ m y, parse s = some (m, []) ∧ Go.Proofs.YtnpcfmoiiecadaaDoor.NT.cnt m ≤ 1000 ∧ NT.getZ m [0, 0, 0, 0] = some y ∧ wrT numV y = t
def rdB (s : ByteArray) (t : TyV) : Bool := match parse s with
  | some (m, []) => decide (Go.Proofs.YtnpcfmoiiecadaaDoor.NT.cnt m ≤ 1000) && (match NT.getZ m [0, 0, 0, 0] with | some y => tyB (wrT numV y) t | none => false)
  | _ => false
theorem ba_ext {a b : ByteArray} (h : a.data.toList = b.data.toList) : a = b := by
  cases a; cases b
  exact congrArg ByteArray.mk (Array.ext' h)
theorem ba_nil {a : ByteArray} (h : (a.toList == []) = true) : a = ⟨#[]⟩ := by
  rw [ByteArray.toList_eq] at h
  exact ba_ext (eq_of_beq h)
theorem reads_of {s : ByteArray} {t : TyV} (h : rdB s t = true) : Reads s t := by
  unfold rdB at h
  split at h
  · rename_i m hm
    rw [Bool.and_eq_true] at h
    obtain ⟨h1, h2⟩ := h
    split at h2
    · rename_i y hy
      exact ⟨m, y, hm, of_decide_eq_true h1, hy, tyB_eq h2⟩
    · cases h2
  · cases h
theorem reads_int : Reads (txt ⟨1, 0, ⟨#[]⟩⟩) ⟨1, 0, ⟨#[]⟩⟩ := reads_of (by kernel_rfl)
theorem reads_bool : Reads (txt ⟨2, 0, ⟨#[]⟩⟩) ⟨2, 0, ⟨#[]⟩⟩ := reads_of (by kernel_rfl)
theorem reads_arr1 : Reads (txt ⟨3, 1, ⟨#[]⟩⟩) ⟨3, 1, ⟨#[]⟩⟩ := reads_of (by kernel_rfl)
theorem reads_arr2 : Reads (txt ⟨3, 2, ⟨#[]⟩⟩) ⟨3, 2, ⟨#[]⟩⟩ := reads_of (by kernel_rfl)
theorem reads_arr3 : Reads (txt ⟨3, 3, ⟨#[]⟩⟩) ⟨3, 3, ⟨#[]⟩⟩ := reads_of (by kernel_rfl)
theorem reads_arr4 : Reads (txt ⟨3, 4, ⟨#[]⟩⟩) ⟨3, 4, ⟨#[]⟩⟩ := reads_of (by kernel_rfl)
theorem reads_arr5 : Reads (txt ⟨3, 5, ⟨#[]⟩⟩) ⟨3, 5, ⟨#[]⟩⟩ := reads_of (by kernel_rfl)
theorem reads_arr6 : Reads (txt ⟨3, 6, ⟨#[]⟩⟩) ⟨3, 6, ⟨#[]⟩⟩ := reads_of (by kernel_rfl)
theorem reads_arr7 : Reads (txt ⟨3, 7, ⟨#[]⟩⟩) ⟨3, 7, ⟨#[]⟩⟩ := reads_of (by kernel_rfl)
theorem reads_arr8 : Reads (txt ⟨3, 8, ⟨#[]⟩⟩) ⟨3, 8, ⟨#[]⟩⟩ := reads_of (by kernel_rfl)
theorem kw_not {l : List UInt8} (h : Lx.nameB l = true) : (l == [105, 110, 116]) = false ∧ (l == [98, 111, 111, 108]) = false := by
  have hkw := (nm_facts h).2.2.2.1
  refine ⟨?_, ?_⟩
  · cases h : l == [105, 110, 116] with
    | false => rfl
    | true => rw [eq_of_beq h] at hkw; exact absurd hkw (by decide)
  · cases h : l == [98, 111, 111, 108] with
    | false => rfl
    | true => rw [eq_of_beq h] at hkw; exact absurd hkw (by decide)
theorem txt_rec (nm : ByteArray) : (txt ⟨4, 0, nm⟩).data.toList = wtL nm.data.toList := by
  unfold txt fmtS wtL
  simp [ByteArray.data_append, preL, postL]
theorem reads_rec (nm : ByteArray) (h : Lx.nameB nm.data.toList = true) : Reads (txt ⟨4, 0, nm⟩) ⟨4, 0, nm⟩ := by
  obtain ⟨E, qa, qb, qc, qd, f, x, hp⟩ := wt_tree nm.data.toList (txt ⟨4, 0, nm⟩) h (txt_rec nm)
  obtain ⟨k1, k2⟩ := kw_not h
  refine ⟨_, mkN E qd 5 9 ⟨nm.data.toList.toArray⟩ [], hp, ?_, rfl, ?_⟩
  · unfold mkN
    simp [Go.Proofs.YtnpcfmoiiecadaaDoor.NT.cnt, Go.Proofs.YtnpcfmoiiecadaaDoor.NT.cnts]
  · have e : (⟨nm.data.toList.toArray⟩ : ByteArray) = nm := ba_ext (by simp)
    rw [e]
    unfold wrT mkN
    have e1 : (nm.toList == [105, 110, 116]) = false := by rw [ByteArray.toList_eq]; exact k1
    have e2 : (nm.toList == [98, 111, 111, 108]) = false := by rw [ByteArray.toList_eq]; exact k2
    simp only [NT.kind, NT.text, e1, e2, Bool.false_eq_true, if_false]
    rfl
/-- the text of a type that exists -/
theorem reads_any (t : TyV) (l : List RcV) (hv : validB t l = true) (hn : t.kind = 4 → Lx.nameB t.nm.data.toList = true) : Reads (txt t) t := by
  obtain ⟨k, n, nm⟩ := t
  unfold validB at hv
  simp only at hv hn
  by_cases h12 : k = 1 ∨ k = 2
  · rw [if_pos h12, Bool.and_eq_true] at hv
    have h1 : n = 0 := eq_of_beq hv.1
    have h2 := ba_nil hv.2
    subst h1 h2
    rcases h12 with rfl | rfl
    · exact reads_int
    · exact reads_bool
  · rw [if_neg h12] at hv
    by_cases h3 : k = 3
    · rw [if_pos h3, Bool.and_eq_true, Bool.and_eq_true, decide_eq_true_eq, decide_eq_true_eq] at hv
      have h2 := ba_nil hv.2
      subst h2 h3
      obtain ⟨⟨a, b⟩, _⟩ := hv
      have hc : n = 1 ∨ n = 2 ∨ n = 3 ∨ n = 4 ∨ n = 5 ∨ n = 6 ∨ n = 7 ∨ n = 8 := by omega
      rcases hc with rfl | rfl | rfl | rfl | rfl | rfl | rfl | rfl
      · exact reads_arr1
      · exact reads_arr2
      · exact reads_arr3
      · exact reads_arr4
      · exact reads_arr5
      · exact reads_arr6
      · exact reads_arr7
      · exact reads_arr8
    · rw [if_neg h3] at hv
      by_cases h4 : k = 4
      · rw [if_pos h4, Bool.and_eq_true] at hv
        have h1 : n = 0 := eq_of_beq hv.2
        subst h1 h4
        exact reads_rec nm (hn rfl)
      · rw [if_neg h4] at hv; cases hv
theorem getZ_strip (p : List Int) : ∀ n : NT, NT.getZ (Go.Proofs.YtnpcfmoiiecadaaDoor.NT.strip n) p = (NT.getZ n p).map Go.Proofs.YtnpcfmoiiecadaaDoor.NT.strip := by
  induction p with
  | nil => intro n; rfl
  | cons i p ih =>
    intro n
    have hk : (Go.Proofs.YtnpcfmoiiecadaaDoor.NT.strip n).kids = n.kids.map Go.Proofs.YtnpcfmoiiecadaaDoor.NT.strip := by rw [Go.Proofs.YtnpcfmoiiecadaaDoor.NT.strip_eq]; rfl
    by_cases h : 0 ≤ i ∧ i.toNat < n.kids.length
    · rw [NT.getZ_yes h.1 (by rw [hk]; simpa using h.2), NT.getZ_yes h.1 h.2, ← ih]
      congr 1
      simp only [hk, List.getElem_map]
    · rw [NT.getZ_no (by rw [hk]; simp; omega), NT.getZ_no (by omega)]
      rfl
end Go.Proofs.YtnpcfmoiiecadaaDoor.Wt
