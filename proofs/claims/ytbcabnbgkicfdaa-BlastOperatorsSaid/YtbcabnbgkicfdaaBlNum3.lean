/- What is proved: package blast: Words, Bits. -/
import Derived.Test.YtbcabnbgkicfdaaBlNum2
set_option linter.unusedVariables false
set_option linter.unusedSimpArgs false
namespace Go.Proofs.Ytbcabnbgkicfdaa
open Go.RowKit Go.Maps

theorem infoSl : (Try.prog.info? 47).map (fun i => (i.zero, i.size, i.bytes)) = some (some (.slice none 0 0), 1, 24) := by kernel_rfl
/-- a slice of words, as it may be read -/
def LsRow (w : World) (A : Option Addr) (L : List (List Int)) : Prop :=
  0 < L.length → ∃ b off, A = some ⟨b, off, none⟩ ∧ b < w.heap.size ∧ ∀ (i : Nat) (h : i < L.length), ∃ X c, w.cell? ⟨b, off + i, none⟩ = some (.slice X L[i].length c) ∧ L[i].length ≤ c ∧ WRow w.heap.size w X L[i]
theorem LsRow.nil (w : World) (A : Option Addr) : LsRow w A [] := fun h => by simp at h
theorem LsRow.later {w w' : World} {A : Option Addr} {L : List (List Int)} (h : LsRow w A L) (hb : Below w.heap.size w w') : LsRow w' A L := fun h0 => by
  obtain ⟨b, off, h1, h2, h3⟩ := h h0
  refine ⟨b, off, h1, Nat.lt_of_lt_of_le h2 hb.size, fun i hi => ?_⟩
  obtain ⟨X, c, g1, g2, g3⟩ := h3 i hi
  exact ⟨X, c, (hb.cell (p := ⟨b, off + i, none⟩) h2).trans g1, g2, (g3.later hb).mono hb.size⟩
/-- a slice of words that the call owns -/
def SlOwn (w : World) (B : Nat) (v : Value) (L : List (List Int)) : Prop :=
  ∃ vs : List Value, w.ownsRow B 47 1 v L.length vs ∧ vs.length = L.length ∧ (∀ u ∈ vs, u.oneCell' = true) ∧ ∀ (i : Nat) (h : i < L.length), ∃ X c, vs[i]? = some (.slice X L[i].length c) ∧ L[i].length ≤ c ∧ WRow w.heap.size w X L[i]
section
variable {w w' : World} {B : Nat} {v : Value} {L : List (List Int)}
theorem SlOwn.nil (w : World) (B : Nat) : SlOwn w B (.slice none 0 0) [] := ⟨[], World.ownsRow_nil _ _ _ _, rfl, fun u hu => by simp at hu, fun i h => by simp at h⟩
theorem SlOwn.later (h : SlOwn w B v L) (hb : Below w.heap.size w w') : SlOwn w' B v L := by
  obtain ⟨vs, h1, h2, h3, h4⟩ := h
  refine ⟨vs, own_stays h1 fun b e => hb.block b (own_block' h1 e).2.1, h2, h3, fun i hi => ?_⟩
  obtain ⟨X, c, g1, g2, g3⟩ := h4 i hi
  exact ⟨X, c, g1, g2, (g3.later hb).mono hb.size⟩
theorem SlOwn.form (h : SlOwn w B v L) : ∃ A c, v = .slice A L.length c ∧ L.length ≤ c ∧ LsRow w A L := by
  obtain ⟨vs, h1, h2, h3, h4⟩ := h
  rcases h1.2 with ⟨rfl, h0⟩ | ⟨g, cap, cur, hv, hB, hg, hn, _⟩
  · exact ⟨none, 0, by rw [h0], by omega, fun hh => by omega⟩
  · refine ⟨some ⟨g, 0, none⟩, cap, hv, hn, fun _ => ⟨g, 0, rfl, Go.Proofs.Ytbcabnbgkicfdaa.hlt hg, fun i hi => ?_⟩⟩
    obtain ⟨X, c, g1, g2, g3⟩ := h4 i hi
    have hb : v.ownBlock = some g := by rw [hv]; rfl
    have a := World.ownsRow.cells h1 hb i _ g1
    rw [do_add] at a
    exact ⟨X, c, by rw [Nat.zero_add]; exact a, g2, g3⟩
theorem SlOwn.blk (h : SlOwn w B v L) : ∀ b, v.ownBlock = some b → B ≤ b ∧ b < w.heap.size ∧ ∃ cs, w.heap[b]? = some (.cells cs 47 (0, 0)) := by
  obtain ⟨vs, h1, _⟩ := h
  exact fun b e => own_block' h1 e
/-- a word more -/
theorem SlOwn.push (h : SlOwn w B v L) (hL : L.length ≤ 1000) {X : Option Addr} {c : Nat} {l : List Int} (hl : l.length ≤ c) (hr : WRow w.heap.size w X l) (hB : B ≤ w.heap.size) :
    ∃ Y cap w3, (Builtin.append_ #[49, 49] 49 #[v, .slice (some ⟨w.heap.size, 0, none⟩) 1 1]).run Try.prog (w.alloc (.cells #[.slice X l.length c] 47)) = .ok (.slice Y (L.length + 1) cap) w3 ∧ SlOwn w3 B (.slice Y (L.length + 1) cap) (L ++ [l]) ∧ Below B w w3 := by
  have hba := (Below.refl w.heap.size w).alloc (Nat.le_refl _) (.cells #[.slice X l.length c] 47)
  obtain ⟨vs, h1, h2, h3, h4⟩ := h.later hba
  obtain ⟨Y, cap, w3, g1, g2, g3⟩ := own_append (P := Try.prog) (w := w.alloc (.cells #[.slice X l.length c] 47)) 49 47 Try.underlying49 infoSl rfl (by decide) (by decide) B L.length v vs h1 (some ⟨w.heap.size, 0, none⟩) 1 1 [.slice X l.length c] rfl (fun _ => ⟨_, rfl, fun j u hj => by
    have : j = 0 := by
      have := (List.getElem?_eq_some_iff.1 hj).1
      simp at this; omega
    subst this
    simp at hj
    subst hj
    exact Lib.cell_of_heap (heap_alloc_new w _) 0⟩) (fun u hu => by simp at hu; subst hu; rfl) (by omega) (Nat.le_trans hB hba.size)
  have hrow : ∀ {A : Option Addr} {m : List Int} {k : Nat}, WRow k (w.alloc (.cells #[.slice X l.length c] 47)) A m → WRow k w3 A m := fun h => h.stays fun b cs hk hb => g3.block b (Go.Proofs.Ytbcabnbgkicfdaa.hlt hb) fun e => by
    obtain ⟨_, _, cs2, hc⟩ := own_block' h1 e.symm
    rw [hb] at hc
    simp only [Option.some.injEq, Obj.cells.injEq] at hc
    exact absurd hc.2.1 (by decide)
  refine ⟨Y, cap, w3, g1, ⟨vs ++ [.slice X l.length c], by rw [List.length_append]; exact g2, by simp [h2], fun u hu => ?_, fun i hi => ?_⟩, ⟨g3.os.trans hba.os, g3.tape.trans hba.tape, g3.output.trans hba.output, Nat.le_trans hba.size g3.size, fun k hk => (g3.block k (by have := hba.size; omega) fun e => by have := (own_block' h1 e.symm).1; omega).trans (hba.block k (by omega))⟩⟩
  · rcases List.mem_append.1 hu with hu | hu
    · exact h3 u hu
    · simp at hu; subst hu; rfl
  · by_cases hlt' : i < L.length
    · obtain ⟨Z, d, e1, e2, e3⟩ := h4 i hlt'
      refine ⟨Z, d, ?_, ?_, ?_⟩
      · rw [List.getElem?_append_left (by omega), e1, List.getElem_append_left hlt']
      · rw [List.getElem_append_left hlt']; exact e2
      · rw [List.getElem_append_left hlt']; exact (hrow e3).here
    · have e : i = L.length := by simp at hi; omega
      subst e
      refine ⟨X, c, ?_, ?_, ?_⟩
      · rw [List.getElem?_append_right (by omega), h2, Nat.sub_self]; simp
      · simpa using hl
      · simpa using (hrow (hr.later hba)).here
end
/-- the bits and the words of inputs of sorts -/
def lenN (m : Nat) (s : Int) : Nat := if s = 1 then 1 else m
theorem lenS_nat (m : Nat) (s : Int) : lenS (m : Int) s = (lenN m s : Int) := by unfold lenS lenN; split <;> rfl
def wordL (b n : Nat) : List Int := (List.range n).map (fun j => 2 * (((b + j : Nat) : Int) + 1))
theorem wordL_succ (b n : Nat) : wordL b (n + 1) = wordL b n ++ [2 * (((b + n : Nat) : Int) + 1)] := by simp [wordL, List.range_succ]
theorem wordL_len (b n : Nat) : (wordL b n).length = n := by simp [wordL]
def srtK (l : List Int) (k : Nat) : Int := (l[k]?).getD 0
theorem srtK_at {l : List Int} {k : Nat} (h : k < l.length) : srtK l k = l[k] := by unfold srtK; rw [List.getElem?_eq_getElem h]; rfl
def btK (m : Nat) (l : List Int) : Nat → Nat
  | 0 => 0
  | k + 1 => btK m l k + lenN m (srtK l k)
def wdK (m : Nat) (l : List Int) : Nat → List (List Int)
  | 0 => []
  | k + 1 => wdK m l k ++ [wordL (btK m l k) (lenN m (srtK l k))]
theorem wdK_len (m : Nat) (l : List Int) (k : Nat) : (wdK m l k).length = k := by
  induction k with
  | zero => rfl
  | succ k ih => simp [wdK, ih]
theorem lenN_le (m : Nat) (h : 1 ≤ m) (s : Int) : lenN m s ≤ m := by unfold lenN; split <;> omega
theorem btK_le (m : Nat) (h : 1 ≤ m) (l : List Int) (k : Nat) : btK m l k ≤ m * k := by
  induction k with
  | zero => simp [btK]
  | succ k ih =>
    have := lenN_le m h (srtK l k)
    rw [Nat.mul_succ]
    simp only [btK]
    omega
/-- what Words answers -/
def wdsL (W : Int) (l : List Int) : List (List Int) := if okS W l = true then wdK W.toNat l l.length else []
def wdsN (W : Int) (l : List Int) : Int := if okS W l = true then (btK W.toNat l l.length : Int) else 0
def wdsE (W : Int) (l : List Int) : Int := if okS W l = true then 0 else 1
theorem okS_nat {W : Int} {l : List Int} (h : okS W l = true) : ∃ m : Nat, W = (m : Int) ∧ 2 ≤ m ∧ m ≤ 8 ∧ l.length ≤ 24 := by
  unfold okS at h
  simp only [Bool.and_eq_true, decide_eq_true_eq] at h
  exact ⟨W.toNat, by omega, by omega, by omega, h.1.2⟩
set_option maxRecDepth 100000 in
set_option maxHeartbeats 4000000 in
theorem words_any (W : Int) (A : Option Addr) (c : Nat) (l : List Int) (w : World) (hr : ZRow w.heap.size w A l) (hl : l.length ≤ 1000) :
    Calls Try.prog 21 #[.int .i64 W, .slice A l.length c] w fun e w' => ∃ X d, e = .returned (.tuple #[.slice X (wdsL W l).length d, .int .i64 (wdsN W l), .int .i64 (wdsE W l)]) ∧ (wdsL W l).length ≤ d ∧ LsRow w' X (wdsL W l) ∧ Below w.heap.size w w' := by
  have HS := Lib.hid (areSorts_any W A c l w hr hl)
  have HR := Lib.hid hr
  cases hok : okS W l with
  | false =>
    have HV := Lib.hid (show wdsL W l = [] ∧ wdsN W l = 0 ∧ wdsE W l = 1 by simp [wdsL, wdsN, wdsE, hok])
    rw [hok] at HS
    clear hok hr
    go_enter Try.func21, Try.ntmps21
    go_wp2_with (fail)
    refine HS.out.mono ?_
    rintro e w1 ⟨rfl, hb⟩
    have HB := Lib.hid hb
    clear hb
    go_wp2_with (fail)
    go_ret3
    rw [HV.out.1, HV.out.2.1, HV.out.2.2]
    exact ⟨none, 0, rfl, Nat.le_refl _, LsRow.nil _ _, HB.out⟩
  | true =>
    obtain ⟨m, rfl, hm2, hm8, hl24⟩ := okS_nat hok
    have HV := Lib.hid (show wdsL (m : Int) l = wdK m l l.length ∧ wdsN (m : Int) l = (btK m l l.length : Int) ∧ wdsE (m : Int) l = 0 by simp [wdsL, wdsN, wdsE, hok])
    rw [hok] at HS
    clear hok hr
    go_enter Try.func21, Try.ntmps21
    go_wp2_with (fail)
    refine HS.out.mono ?_
    rintro e w1 ⟨rfl, hb⟩
    have HB1 := Lib.hid hb
    have HO0 := Lib.hid (SlOwn.nil w1 w.heap.size)
    clear hb HS
    go_wp2_with (fail)
    go_loopw [7, 8, 18] (fun u7 u8 jv wr => ∃ (k : Nat), k ≤ l.length ∧ jv = .int .i64 (k : Int) ∧ u8 = .int .i64 (btK m l k : Int) ∧ Hid (SlOwn wr w.heap.size u7 (wdK m l k)) ∧ Hid (Below w.heap.size w wr)) (fun _ _ jv _ => l.length - (intOf jv).toNat)
    case atStart => exact ⟨0, Nat.zero_le _, rfl, rfl, HO0, HB1⟩
    case round =>
      obtain ⟨k, hk, rfl, rfl, hown, hbw⟩ := hrel
      by_cases hlt' : k < l.length
      · obtain ⟨b, off, hA, _, hc0⟩ := (HR.out.below hbw.out) (by omega)
        have c0 := hc0 k hlt'
        subst hA
        have HE := Lib.hid (show btK m l (k + 1) = btK m l k + lenN m l[k] ∧ wdK m l (k + 1) = wdK m l k ++ [wordL (btK m l k) (lenN m l[k])] by simp only [btK, wdK, srtK_at hlt']; exact ⟨trivial, trivial⟩)
        have hbt := btK_le m (by omega) l k
        have hbt2 : btK m l k ≤ 200 := Nat.le_trans hbt (Nat.le_trans (Nat.mul_le_mul hm8 (show k ≤ 24 by omega)) (by decide))
        have HLN := Lib.hid (fun W' => length_any (m : Int) l[k] W')
        rw [lenS_nat] at HLN
        have hln := lenN_le m (by omega) l[k]
        obtain ⟨s, HSV⟩ : ∃ s, Hid (l[k] = s) := ⟨_, Lib.hid rfl⟩
        rw [HSV.out] at c0 HE HLN hln
        generalize btK m l k = bt at *
        generalize lenN m s = n at *
        have HW0 := Lib.hid (show ZOwn wr wr.heap.size (.slice none 0 0) (wordL bt 0) from World.ownsRow_nil _ _ _ _)
        clear hc0 hbt
        generalize hgo : wr = w2 at *
        clear hgo
        go_wp2_with (fail)
        refine (HLN.out _).mono ?_
        rintro e wx ⟨rfl, hwx⟩
        obtain rfl := hwx.symm
        go_wp2_with (fail)
        clear c0
        go_loopw [8, 11, 25] (fun u8 u11 jv wr => ∃ (j : Nat), j ≤ n ∧ jv = .int .i64 (j : Int) ∧ u8 = .int .i64 ((bt + j : Nat) : Int) ∧ Hid (ZOwn wr w2.heap.size u11 (wordL bt j)) ∧ Hid (Below w2.heap.size w2 wr)) (fun _ _ jv _ => n - (intOf jv).toNat)
        case atStart => exact ⟨0, Nat.zero_le _, rfl, rfl, HW0, Lib.hid (Below.refl _ _)⟩
        case round =>
          obtain ⟨j, hj, rfl, rfl, hzo, hbz⟩ := hrel
          by_cases hjt : j < n
          · obtain ⟨p, HP⟩ : ∃ p, Hid (bt + j = p) := ⟨_, Lib.hid rfl⟩
            have hp : p ≤ 300 := by have := HP.out; omega
            have HT := Lib.hid (wordL_succ bt j)
            rw [HP.out] at HT ⊢
            have hba := (Below.refl wr.heap.size wr).alloc (Nat.le_refl _) (.cells #[.int .i64 (2 * ((p : Int) + 1))] 3)
            have ho := hzo.out.later hba
            have hsz := Nat.le_trans hbz.out.size hba.size
            obtain ⟨X', cap', w8, hrun, hown8, hgr8⟩ := z_append (w := wr.alloc (.cells #[.int .i64 (2 * ((p : Int) + 1))] 3)) w2.heap.size j u11 _ ho (wordL_len bt j).symm (some ⟨wr.heap.size, 0, none⟩) 1 1 [2 * ((p : Int) + 1)] rfl (ZRow.one wr _) (by omega) hsz
            have HO8 := Lib.hid (show ZOwn w8 w2.heap.size (.slice X' (j + 1) cap') (wordL bt (j + 1)) by rw [HT.out]; exact hown8)
            have HB8 := Lib.hid ((hbz.out.trans (hba.mono hbz.out.size)).trans (grown_below hgr8 (own_lo ho) hsz))
            have hmul : IntKind.i64.wrap (2 * ((p : Int) + 1)) = 2 * ((p : Int) + 1) := IntWalk.i64_in _ (by omega)
            have HPN := Lib.hid (show ((p : Int) + 1) = ((bt + (j + 1) : Nat) : Int) by have := HP.out; omega)
            clear hba ho hsz hown8 hgr8 HT
            go_wp2_with (at_builtin; refine app_by rfl _ _ 47 47 rfl _ _ rfl rfl _ _ hrun ?_; intro w9 hw9; obtain rfl := hw9.out)
            exact ⟨⟨j + 1, by omega, by go_num, by rw [← HPN.out], HO8, HB8⟩, by simp [intOf]; omega⟩
          · obtain rfl : j = n := by omega
            obtain ⟨X, cc, hu, hcc, _⟩ := hzo.out.form
            rw [wordL_len] at hu hcc
            subst hu
            have hwl := wordL_len bt j
            obtain ⟨Y, cap, w3, hrun, hsl, hbl⟩ := (hown.out.later hbz.out).push (by rw [wdK_len]; omega) (X := X) (c := cc) (l := wordL bt j) (by omega) (by have := hzo.out.wrow.2.2; exact this) (by have := hbw.out.size; have := hbz.out.size; omega)
            rw [wdK_len, hwl] at hrun
            rw [wdK_len] at hsl
            have HO3 := Lib.hid (show SlOwn w3 w.heap.size (.slice Y (k + 1) cap) (wdK m l (k + 1)) by rw [HE.out.2]; exact hsl)
            have HB3 := Lib.hid ((hbw.out.trans (hbz.out.mono hbw.out.size)).trans hbl)
            have HBN := Lib.hid (show ((bt + j : Nat) : Int) = (btK m l (k + 1) : Int) by rw [HE.out.1])
            clear hsl hbl hwl
            go_wp2_with (at_builtin; refine app_by rfl _ _ 49 49 rfl _ _ rfl rfl _ _ hrun ?_; intro w9 hw9; obtain rfl := hw9.out)
            exact ⟨⟨k + 1, by omega, by go_num, by rw [← HBN.out]; simp, HO3, HB3⟩, by simp [intOf]; omega⟩
      · obtain rfl : k = l.length := by omega
        obtain ⟨X, d, hu, hd, hrow⟩ := hown.out.form
        have hwl := wdK_len m l l.length
        rw [hwl] at hu hd
        subst hu
        have HROW := Lib.hid hrow
        have HWL := Lib.hid hwl
        have HD := Lib.hid hd
        clear hrow hwl hd
        go_wp2_with (fail)
        go_ret3
        rw [HV.out.1, HV.out.2.1, HV.out.2.2, HWL.out]
        exact ⟨X, d, rfl, HD.out, HROW.out, hbw.out⟩
/-- the bits of inputs -/
def bitL (n : Int) (k : Nat) : List Bool := (List.range k).map (fun j => bitP n j == 1)
theorem bitL_succ (n : Int) (k : Nat) : bitL n (k + 1) = bitL n k ++ [bitP n k == 1] := by simp [bitL, List.range_succ]
theorem bitL_len (n : Int) (k : Nat) : (bitL n k).length = k := by simp [bitL]
def bsK (m : Nat) (l inp : List Int) : Nat → List Bool
  | 0 => []
  | k + 1 => bsK m l inp k ++ bitL (srtK inp k) (lenN m (srtK l k))
theorem bsK_len (m : Nat) (l inp : List Int) (k : Nat) : (bsK m l inp k).length = btK m l k := by
  induction k with
  | zero => rfl
  | succ k ih => simp [bsK, btK, ih, bitL_len]
def okI (W : Int) (l inp : List Int) : Nat → Bool
  | 0 => true
  | k + 1 => okI W l inp k && okV W (srtK l k) (srtK inp k)
theorem okI_bad {W : Int} {l inp : List Int} {k : Nat} (h : okV W (srtK l k) (srtK inp k) = false) : ∀ n, k < n → okI W l inp n = false := by
  intro n
  induction n with
  | zero => intro h; omega
  | succ n ih =>
    intro hk
    by_cases e : k = n
    · subst e; simp [okI, h]
    · simp [okI, ih (by omega)]
/-- what Bits answers -/
def bitsL (W : Int) (l inp : List Int) : List Bool := if okS W l = true ∧ inp.length = l.length ∧ okI W l inp l.length = true then bsK W.toNat l inp l.length else []
def bitsE (W : Int) (l inp : List Int) : Int := if okS W l = true ∧ inp.length = l.length then (if okI W l inp l.length = true then 0 else 2) else 1
set_option maxRecDepth 100000 in
set_option maxHeartbeats 4000000 in
theorem bits_any (W : Int) (A : Option Addr) (c : Nat) (l : List Int) (B : Option Addr) (d : Nat) (inp : List Int) (w : World) (hr : ZRow w.heap.size w A l) (hi : ZRow w.heap.size w B inp) (hl : l.length ≤ 1000) (hli : inp.length ≤ 1000) (hin : ∀ x ∈ inp, -9223372036854775808 ≤ x ∧ x ≤ 9223372036854775807) :
    Calls Try.prog 23 #[.int .i64 W, .slice A l.length c, .slice B inp.length d] w fun e w' => ∃ X d', e = .returned (.tuple #[.slice X (bitsL W l inp).length d', .int .i64 (bitsE W l inp)]) ∧ BRow w' X (bitsL W l inp) ∧ Below w.heap.size w w' := by
  have HS := Lib.hid (areSorts_any W A c l w hr hl)
  have HR := Lib.hid hr
  have HI := Lib.hid hi
  have HIN := Lib.hid hin
  clear hi hin
  cases hok : okS W l with
  | false =>
    have HV := Lib.hid (show bitsL W l inp = [] ∧ bitsE W l inp = 1 by simp [bitsL, bitsE, hok])
    rw [hok] at HS
    clear hok hr
    go_enter Try.func23, Try.ntmps23
    go_wp2_with (fail)
    refine HS.out.mono ?_
    rintro e w1 ⟨rfl, hb⟩
    have HB := Lib.hid hb
    clear hb
    go_wp2_with (fail)
    go_ret2
    rw [HV.out.1, HV.out.2]
    exact ⟨none, 0, rfl, BRow.nil _ _, HB.out⟩
  | true =>
    by_cases hlen : inp.length = l.length
    · obtain ⟨m, rfl, hm2, hm8, hl24⟩ := okS_nat hok
      have HV := Lib.hid (show bitsL (m : Int) l inp = (if okI (m : Int) l inp l.length = true then bsK m l inp l.length else []) ∧ bitsE (m : Int) l inp = (if okI (m : Int) l inp l.length = true then 0 else 2) by
        unfold bitsL bitsE
        rw [if_pos (show okS (m : Int) l = true ∧ inp.length = l.length from ⟨hok, hlen⟩)]
        simp [hok, hlen])
      have hne : ((inp.length : Int) != (l.length : Int)) = false := by rw [hlen]; simp
      have HLE := Lib.hid hlen
      rw [hok] at HS
      clear hok hr hlen
      go_enter Try.func23, Try.ntmps23
      go_wp2_with (fail)
      refine HS.out.mono ?_
      rintro e w1 ⟨rfl, hb⟩
      have HB1 := Lib.hid hb
      have HO0 := Lib.hid (BOwn.nil w1 w.heap.size)
      clear hb HS
      go_wp2_with (fail)
      go_loopw [8, 25] (fun u8 jv wr => ∃ (k : Nat), k ≤ inp.length ∧ jv = .int .i64 (k : Int) ∧ Hid (okI (m : Int) l inp k = true) ∧ Hid (BOwn wr w.heap.size u8 (bsK m l inp k)) ∧ Hid (Below w.heap.size w wr)) (fun _ jv _ => inp.length - (intOf jv).toNat)
      case atStart => exact ⟨0, Nat.zero_le _, rfl, Lib.hid rfl, HO0, HB1⟩
      case round =>
        obtain ⟨k, hk, rfl, hpre, hown, hbw⟩ := hrel
        by_cases hlt' : k < inp.length
        · have hkl : k < l.length := by have := HLE.out; omega
          obtain ⟨b, off, hA, _, hc0⟩ := (HR.out.below hbw.out) (by omega)
          have c0 := hc0 k hkl
          obtain ⟨b2, o2, hB, _, hc2⟩ := (HI.out.below hbw.out) (by omega)
          have c2 := hc2 k hlt'
          subst hA
          subst hB
          have HE := Lib.hid (show bsK m l inp (k + 1) = bsK m l inp k ++ bitL inp[k] (lenN m l[k]) by simp only [bsK, srtK_at hkl, srtK_at hlt'])
          have HOK := Lib.hid (show okI (m : Int) l inp (k + 1) = okV (m : Int) l[k] inp[k] by simp only [okI, srtK_at hkl, srtK_at hlt', hpre.out, Bool.true_and])
          have HBAD := Lib.hid (show okV (m : Int) l[k] inp[k] = false → okI (m : Int) l inp l.length = false from fun h => okI_bad (k := k) (by rw [srtK_at hkl, srtK_at hlt']; exact h) _ hkl)
          have hm64 : IntKind.i64.wrap (m : Int) = (m : Int) := IntWalk.i64_in _ (by omega)
          have HVA := Lib.hid (isValue_any (m : Int) l[k] inp[k] hm64 wr)
          have HLN := Lib.hid (fun W' => length_any (m : Int) l[k] W')
          rw [lenS_nat] at HLN
          have hln := lenN_le m (by omega) l[k]
          have hnn := HIN.out _ (List.getElem_mem hlt')
          obtain ⟨s, HSV⟩ : ∃ s, Hid (l[k] = s) := ⟨_, Lib.hid rfl⟩
          obtain ⟨n, HNV⟩ : ∃ n, Hid (inp[k] = n) := ⟨_, Lib.hid rfl⟩
          rw [HSV.out] at c0 HE HLN hln HVA HOK HBAD
          rw [HNV.out] at c2 HE HVA HOK HBAD hnn
          have hbl := bsK_len m l inp k
          have hbt := btK_le m (by omega) l k
          have hbt2 : (bsK m l inp k).length ≤ 200 := by
            rw [hbl]
            exact Nat.le_trans hbt (Nat.le_trans (Nat.mul_le_mul hm8 (show k ≤ 24 by omega)) (by decide))
          have HBI := Lib.hid (fun (j : Nat) (hj : j < 8) (w : World) => bit_any n j hnn (by omega) w)
          clear hbl hbt hnn hc0 hc2
          generalize lenN m s = ln at *
          cases hv : okV (m : Int) s n with
          | false =>
            rw [hv] at HVA
            have HBD := Lib.hid (HBAD.out hv)
            clear hv
            go_wp2_with (fail)
            refine HVA.out.mono ?_
            rintro e wx ⟨rfl, hwx⟩
            obtain rfl := hwx.symm
            go_wp2_with (fail)
            go_ret2
            rw [HV.out.1, HV.out.2, HBD.out]
            exact ⟨none, 0, rfl, BRow.nil _ _, hbw.out⟩
          | true =>
            rw [hv] at HVA
            have HOKT := Lib.hid (show okI (m : Int) l inp (k + 1) = true by rw [HOK.out]; exact hv)
            have HT0 := Lib.hid (show BOwn wr w.heap.size u8 (bsK m l inp k ++ bitL n 0) by simp [bitL]; exact hown.out)
            clear hv
            go_wp2_with (fail)
            refine HVA.out.mono ?_
            rintro e wx ⟨rfl, hwx⟩
            obtain rfl := hwx.symm
            go_wp2_with (fail)
            refine (HLN.out _).mono ?_
            rintro e wx ⟨rfl, hwx⟩
            obtain rfl := hwx.symm
            generalize bsK m l inp k = bs at *
            go_wp2_with (fail)
            clear c0 c2
            go_loopw [8, 44] (fun u8 jv wr => ∃ (j : Nat), j ≤ ln ∧ jv = .int .i64 (j : Int) ∧ Hid (BOwn wr w.heap.size u8 (bs ++ bitL n j)) ∧ Hid (Below w.heap.size w wr)) (fun _ jv _ => ln - (intOf jv).toNat)
            case atStart => exact ⟨0, Nat.zero_le _, rfl, HT0, hbw⟩
            case round =>
              obtain ⟨j, hj, rfl, hzo, hbz⟩ := hrel
              by_cases hjt : j < ln
              · have HT := Lib.hid (show bs ++ bitL n (j + 1) = (bs ++ bitL n j) ++ [bitP n j == 1] by rw [bitL_succ, List.append_assoc])
                have HBJ := Lib.hid (HBI.out j (by omega))
                obtain ⟨p, HP⟩ : ∃ p, Hid (bitP n j = p) := ⟨_, Lib.hid rfl⟩
                rw [HP.out] at HT HBJ
                have hba := (Below.refl wr.heap.size wr).alloc (Nat.le_refl _) (.cells #[.bool (p == 1)] 4)
                have ho := hzo.out.later hba
                have hsz := Nat.le_trans hbz.out.size hba.size
                have hll : (bs ++ bitL n j).length = bs.length + j := by rw [List.length_append, bitL_len]
                obtain ⟨X', cap', w8, hrun, hown8, hgr8⟩ := b_append (w := wr.alloc (.cells #[.bool (p == 1)] 4)) w.heap.size (bs.length + j) u8 _ ho hll.symm (some ⟨wr.heap.size, 0, none⟩) 1 1 [p == 1] rfl (BRow.one wr _) (by omega) hsz
                have HO8 := Lib.hid (show BOwn w8 w.heap.size (.slice X' (bs.length + j + 1) cap') (bs ++ bitL n (j + 1)) by rw [HT.out]; exact hown8)
                have HB8 := Lib.hid ((hbz.out.trans (hba.mono hbz.out.size)).trans (grown_below hgr8 (own_lo ho) hsz))
                clear hba ho hsz hown8 hgr8 HT hll
                go_wp2_with (fail)
                refine (HBJ.out _).mono ?_
                rintro e wx ⟨rfl, hwx⟩
                obtain rfl := hwx.symm
                go_wp2_with (at_builtin; refine app_by rfl _ _ 48 48 rfl _ _ rfl rfl _ _ hrun ?_; intro w9 hw9; obtain rfl := hw9.out)
                exact ⟨⟨j + 1, by omega, by go_num, HO8, HB8⟩, by simp [intOf]; omega⟩
              · obtain rfl : j = ln := by omega
                have HO3 := Lib.hid (show BOwn wr w.heap.size u8 (bsK m l inp (k + 1)) by rw [HE.out]; exact hzo.out)
                go_wp2_with (fail)
                exact ⟨⟨k + 1, by omega, by go_num, HOKT, HO3, hbz⟩, by simp [intOf]; omega⟩
        · obtain rfl : k = inp.length := by omega
          obtain ⟨X, d', hu, _, hrow⟩ := hown.out.form
          subst hu
          have HROW := Lib.hid hrow
          have HPR := Lib.hid (show okI (m : Int) l inp l.length = true by have := hpre.out; rwa [HLE.out] at this)
          clear hrow
          go_wp2_with (fail)
          go_ret2
          rw [HV.out.1, HV.out.2, HPR.out, if_pos rfl, if_pos rfl, ← HLE.out]
          exact ⟨X, d', rfl, HROW.out, hbw.out⟩
    · have HV := Lib.hid (show bitsL W l inp = [] ∧ bitsE W l inp = 1 by simp [bitsL, bitsE, hlen])
      have hne : ((inp.length : Int) != (l.length : Int)) = true := by simp; omega
      rw [hok] at HS
      clear hok hr hlen
      go_enter Try.func23, Try.ntmps23
      go_wp2_with (fail)
      refine HS.out.mono ?_
      rintro e w1 ⟨rfl, hb⟩
      have HB := Lib.hid hb
      clear hb
      go_wp2_with (fail)
      go_ret2
      rw [HV.out.1, HV.out.2]
      exact ⟨none, 0, rfl, BRow.nil _ _, HB.out⟩
end Go.Proofs.Ytbcabnbgkicfdaa
