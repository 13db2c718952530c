/- What is proved: plain facts: the words of words that are put together with line feeds, or with what must stand between them, are these words. -/
import Derived.Test.YtgihfnnffailiabPartsPlain
import Derived.Test.YtgihfnnffailiabLossless
import Derived.Lib.Join
set_option linter.unusedVariables false
namespace Go.Proofs.Ytgihfnnffailiab
open Go.RowKit

def wordL (l : List UInt8) (t : Tok) : List UInt8 := (l.take t.hi.toNat).drop t.at_.toNat
/-- the words of a list of bytes -/
def Ws (l : List UInt8) : List (List UInt8) := (scan l).map (wordL l)

theorem word_shift (p u : List UInt8) (t : Tok) (h1 : 0 ≤ t.at_) (h2 : 0 ≤ t.hi) : wordL (p ++ u) (shiftT p.length t) = wordL u t := by
  unfold wordL shiftT
  simp only
  rw [show (t.hi + (p.length : Int)).toNat = p.length + t.hi.toNat from by omega, show (t.at_ + (p.length : Int)).toNat = p.length + t.at_.toNat from by omega]
  rw [List.take_append, List.drop_append]
  simp [List.take_of_length_le, List.drop_of_length_le]
theorem scanTo_okTok (l : List UInt8) (f i : Nat) (hi : i ≤ l.length) (hf : l.length - i < f) (t : Tok) (h : t ∈ scanTo l f i) : 0 ≤ t.lo ∧ t.lo ≤ t.at_ ∧ t.at_ ≤ t.hi ∧ t.hi ≤ l.length := by
  have c := chain_ok _ _ _ (scanTo_chain l f i hi hf)
  rw [List.all_eq_true] at c
  exact (okTok_iff _ _).1 (c t h)
theorem ws_shift (p u : List UInt8) (f i : Nat) (hi : i ≤ u.length) (hf : u.length - i < f) : (scanTo (p ++ u) f (p.length + i)).map (wordL (p ++ u)) = (scanTo u f i).map (wordL u) := by
  rw [scanTo_shift p u f i hi, List.map_map]
  refine List.map_congr_left fun t ht => ?_
  have o := scanTo_okTok u f i hi hf t ht
  exact word_shift p u t (by omega) (by omega)

/-- a stands alone as the first token of a ++ r -/
def Cut (a r : List UInt8) : Prop := 0 < a.length ∧ blank (a ++ r) 0 = 0 ∧ (tokAt (a ++ r) 0).2 = a.length

theorem ws_cut (a r : List UInt8) (h : Cut a r) : Ws (a ++ r) = a :: Ws r := by
  obtain ⟨h1, h2, h3⟩ := h
  have hl : (a ++ r).length = a.length + r.length := by simp
  have ne := nextTok_end (a ++ r) 0 (Nat.zero_le _)
  have hk : (nextTok (a ++ r) 0).kind ≠ 5 := fun e => by have := ne.1 e; omega
  have hat : (nextTok (a ++ r) 0).at_ = 0 := by show ((blank (a ++ r) 0 : Nat) : Int) = 0; omega
  have hhi : (nextTok (a ++ r) 0).hi = a.length := by show (((tokAt (a ++ r) (blank (a ++ r) 0)).2 : Nat) : Int) = a.length; rw [h2, h3]
  unfold Ws scan
  rw [scanTo_step, if_neg hk, List.map_cons, hhi]
  congr 1
  · unfold wordL
    rw [hat, hhi]
    simp
  · have s := ws_shift a r ((a ++ r).length) 0 (Nat.zero_le _) (by omega)
    rw [Int.toNat_natCast, ← Nat.add_zero a.length, s]
    rw [scanTo_fuel r _ (r.length + 1) 0 (Nat.zero_le _) (by omega) (by omega)]
theorem ws_white (c : UInt8) (r : List UInt8) (hc : white c = true) : Ws (c :: r) = Ws r := by
  have hl : (c :: r).length = r.length + 1 := rfl
  have h0 : at_ (c :: r) 0 = c := rfl
  have hb := blank_white (c :: r) 0 (by omega) (by rw [h0]; exact hc)
  have n1 : nextTok (c :: r) 0 = { nextTok (c :: r) 1 with lo := 0 } := by
    unfold nextTok
    rw [hb]
    rfl
  have s := ws_shift [c] r (r.length + 2) 0 (Nat.zero_le _) (by omega)
  have e : (scanTo (c :: r) (r.length + 2) 0).map (wordL (c :: r)) = (scanTo (c :: r) (r.length + 2) 1).map (wordL (c :: r)) := by
    rw [scanTo_step, scanTo_step, n1]
    rfl
  unfold Ws scan
  rw [show (c :: r).length + 1 = r.length + 2 from rfl, e]
  refine s.trans ?_
  rw [scanTo_fuel r _ (r.length + 1) 0 (Nat.zero_le _) (by omega) (by omega)]
theorem ws_nil : Ws [] = [[]] := by decide

theorem cut_first (a r : List UInt8) (h : Cut a r) : white (at_ a 0) = false ∧ at_ a 0 ≠ 35 := by
  obtain ⟨h1, h2, h3⟩ := h
  have := blank_stop (a ++ r) 0 (Nat.zero_le _) (by rw [h2]; simp; omega)
  rw [h2, at_left _ _ _ h1] at this
  exact this
theorem cut_blank (a r : List UInt8) (h1 : 0 < a.length) (h : white (at_ a 0) = false ∧ at_ a 0 ≠ 35) : blank (a ++ r) 0 = 0 :=
  blank_here _ 0 (fun _ => by rw [at_left _ _ _ h1]; exact h) (Nat.zero_le _)
/-- what stands alone, stands so ahead of white space and of the end -/
theorem cut_white (a r : List UInt8) (h : Cut a []) (hr : 0 < r.length → white (at_ r 0) = true) : Cut a r := by
  have f := cut_first a [] h
  obtain ⟨h1, h2, h3⟩ := h
  rw [List.append_nil] at h2 h3
  refine ⟨h1, cut_blank a r h1 f, ?_⟩
  have e := tokAt_move a (a ++ r) 0 0 a.length (tokAt a 0).1 (by rw [← h3, Nat.zero_add]) h1 (by omega) (by simp)
    (fun j hj => by rw [at_left _ _ _ (by omega)])
    (fun hh => .inl (by
      have hh' : 0 < r.length := by simp at hh; omega
      rw [Nat.zero_add, ← Nat.add_zero a.length, at_right]
      exact hr hh'))
  rw [e]
  simp
/-- what stands alone ahead of b, stands so whatever follows b -/
theorem cut_more (a b r : List UInt8) (hb : 0 < b.length) (h : Cut a b) : Cut a (b ++ r) := by
  have f := cut_first a b h
  obtain ⟨h1, h2, h3⟩ := h
  have hl : (a ++ b).length = a.length + b.length := by simp
  refine ⟨h1, cut_blank a (b ++ r) h1 f, ?_⟩
  have ag : ∀ j, j < a.length + b.length → at_ (a ++ (b ++ r)) j = at_ (a ++ b) j := by
    intro j hj
    rw [← List.append_assoc]
    exact at_left _ _ _ (by omega)
  have e := tokAt_move (a ++ b) (a ++ (b ++ r)) 0 0 a.length (tokAt (a ++ b) 0).1 (by rw [← h3, Nat.zero_add]) h1 (by omega) (by simp)
    (fun j hj => ag _ (by omega))
    (fun hh => .inr ⟨by omega, ag _ (by omega), fun hw => by
      rw [Nat.zero_add] at hw ⊢
      have a0 := ag a.length (by omega)
      by_cases b2 : a.length + 1 < a.length + b.length
      · rw [wrong_move (a ++ b) _ a.length a.length a0 (by rw [ag _ b2])]
        exact hw
      · have o : at_ (a ++ b) (a.length + 1) = 0 := at_out _ _ (by omega)
        have t0 : two (a ++ b) a.length = false := by
          unfold two
          rw [o]
          rfl
        unfold wrongAt at hw ⊢
        rw [a0]
        by_cases s : sym (a ++ b) a.length = 0
        · rw [s] at hw
          have : (!white (at_ (a ++ b) a.length) && at_ (a ++ b) a.length != 35 && !letter (at_ (a ++ b) a.length) && !digit (at_ (a ++ b) a.length)) = false := by simpa using hw
          rw [this]
          rfl
        · have sb : symB (at_ (a ++ b) a.length) = true := by
            unfold sym at s
            rw [t0] at s
            cases q : symB (at_ (a ++ b) a.length) with
            | true => rfl
            | false => rw [q] at s; exact absurd rfl s
          have sm : sym (a ++ (b ++ r)) a.length ≠ 0 := by
            unfold sym
            rw [a0, sb]
            split <;> simp
          rw [show (sym (a ++ (b ++ r)) a.length == 0) = false from by simpa using sm]
          simp⟩)
  rw [e]
  simp

/-- all words but the last stand alone; the last is empty -/
theorem words_cut (s : List UInt8) : ∀ f i, i ≤ s.length → s.length - i < f → ∃ init, (scanTo s f i).map (wordL s) = init ++ [[]] ∧ ∀ a ∈ init, Cut a [] := by
  intro f
  induction f with
  | zero => intro i h1 h2; omega
  | succ f ih =>
    intro i h1 h2
    have nb := nextTok_bd s i h1
    have ne := nextTok_end s i h1
    have bd := blank_bd s i h1
    have hat : (nextTok s i).at_ = (blank s i : Nat) := rfl
    have hhi : (nextTok s i).hi = ((tokAt s (blank s i)).2 : Nat) := rfl
    rw [scanTo_step]
    by_cases he : (nextTok s i).kind = 5
    · rw [if_pos he]
      refine ⟨[], ?_, by simp⟩
      have := ne.1 he
      have e : wordL s (nextTok s i) = [] := by
        unfold wordL
        rw [List.drop_eq_nil_iff]
        simp
        omega
      rw [List.map_cons, e]
      rfl
    · rw [if_neg he]
      have m := nextTok_more s i h1 he
      have hlt : blank s i < s.length := by omega
      have st := blank_stop s i h1 hlt
      obtain ⟨init, hi, hc⟩ := ih (nextTok s i).hi.toNat (by omega) (by omega)
      refine ⟨wordL s (nextTok s i) :: init, by rw [List.map_cons, hi]; rfl, ?_⟩
      intro a ha
      rcases List.mem_cons.1 ha with rfl | ha
      · have tb := tokAt_bd s (blank s i) bd.2
        have tm := tokAt_more s (blank s i) hlt st.1 st.2
        have wl : (wordL s (nextTok s i)).length = (tokAt s (blank s i)).2 - blank s i := by
          unfold wordL
          rw [hhi, hat]
          simp
          omega
        have ag : ∀ j, j < (tokAt s (blank s i)).2 - blank s i → at_ (wordL s (nextTok s i)) (0 + j) = at_ s (blank s i + j) := by
          intro j hj
          unfold wordL at_
          rw [hhi, hat]
          simp only [Int.toNat_natCast, Nat.zero_add, List.getD_eq_getElem?_getD, List.getElem?_drop]
          rw [List.getElem?_take_of_lt (by omega)]
        have f0 : white (at_ (wordL s (nextTok s i)) 0) = false ∧ at_ (wordL s (nextTok s i)) 0 ≠ 35 := by
          have := ag 0 (by omega)
          simp only [Nat.add_zero] at this
          rw [this]
          exact st
        refine ⟨by omega, cut_blank _ [] (by omega) f0, ?_⟩
        rw [List.append_nil]
        have e := tokAt_move s (wordL s (nextTok s i)) (blank s i) 0 ((tokAt s (blank s i)).2 - blank s i) (tokAt s (blank s i)).1
          (by rw [show blank s i + ((tokAt s (blank s i)).2 - blank s i) = (tokAt s (blank s i)).2 from by omega]) (by omega) (by omega) (by omega) ag (fun hh => by omega)
        rw [e, wl]
        simp
      · exact hc a ha
theorem ws_init (s : List UInt8) : ∃ init, Ws s = init ++ [[]] ∧ ∀ a ∈ init, Cut a [] := words_cut s _ 0 (Nat.zero_le _) (by omega)

/-- with line feeds -/
theorem join_lines (init : List (List UInt8)) : Lib.join (init ++ [[]]) [10] = init.flatMap (· ++ [10]) := by
  induction init with
  | nil => rfl
  | cons a init ih =>
    have e : ∀ l : List (List UInt8), l ≠ [] → Lib.joinTail [10] l = 10 :: Lib.join l [10] := by
      intro l hl
      cases l with
      | nil => exact absurd rfl hl
      | cons b r =>
        rw [Lib.join_cons]
        simp [Lib.joinTail]
    rw [List.cons_append, Lib.join_cons, e _ (by simp), ih, List.flatMap_cons]
    simp
theorem ws_lines : ∀ init : List (List UInt8), (∀ a ∈ init, Cut a []) → Ws (init.flatMap (· ++ [10])) = init ++ [[]] := by
  intro init
  induction init with
  | nil => intro _; exact ws_nil
  | cons a init ih =>
    intro h
    rw [List.flatMap_cons, List.append_assoc, ws_cut a _ (cut_white a _ (h a (by simp)) (fun _ => rfl))]
    show a :: Ws (10 :: init.flatMap (· ++ [10])) = _
    rw [ws_white 10 _ rfl, ih (fun b hb => h b (by simp [hb]))]
    rfl

/-- with what must stand between two words -/
def dense : List ByteArray → ByteArray
  | [] => ⟨#[]⟩
  | [a] => a
  | a :: b :: r => a ++ (spaceS a b ++ dense (b :: r))
theorem bapp_assoc (a b c : ByteArray) : a ++ b ++ c = a ++ (b ++ c) := by
  apply ByteArray.ext
  simp [ByteArray.data_append]
theorem dense_snoc (a b : ByteArray) : ∀ l : List ByteArray, dense (l ++ [a, b]) = dense (l ++ [a]) ++ spaceS a b ++ b := by
  intro l
  induction l with
  | nil =>
    show a ++ (spaceS a b ++ b) = a ++ spaceS a b ++ b
    rw [bapp_assoc]
  | cons x l ih =>
    cases l with
    | nil =>
      show x ++ (spaceS x a ++ (a ++ (spaceS a b ++ b))) = x ++ (spaceS x a ++ a) ++ spaceS a b ++ b
      simp only [bapp_assoc]
    | cons y l =>
      have e1 : dense (x :: y :: l ++ [a, b]) = x ++ (spaceS x y ++ dense (y :: l ++ [a, b])) := rfl
      have e2 : dense (x :: y :: l ++ [a]) = x ++ (spaceS x y ++ dense (y :: l ++ [a])) := rfl
      rw [e1, e2, ih]
      simp only [bapp_assoc]
theorem dense_first (ws : List ByteArray) (k : Nat) (hk : 0 < ws.length) : dense (ws.take 1) = dense (ws.take 0) ++ ws[0] := by
  cases ws with
  | nil => simp at hk
  | cons a r =>
    show a = ⟨#[]⟩ ++ a
    apply ByteArray.ext
    simp [ByteArray.data_append]
theorem dense_step (ws : List ByteArray) (k : Nat) (hk : k + 1 < ws.length) : dense (ws.take (k + 1 + 1)) = dense (ws.take (k + 1)) ++ spaceS ws[k] ws[k + 1] ++ ws[k + 1] := by
  have e1 : ws.take (k + 1) = ws.take k ++ [ws[k]] := (List.take_append_getElem (by omega)).symm
  have e2 : ws.take (k + 1 + 1) = ws.take k ++ [ws[k], ws[k + 1]] :=
    (List.take_append_getElem hk).symm.trans (by rw [e1, List.append_assoc]; rfl)
  rw [e2, e1]
  exact dense_snoc _ _ _

theorem glue_cut (a b : ByteArray) (h : glueB a b = true) : Cut a.data.toList b.data.toList ∧ 0 < b.data.toList.length := by
  unfold glueB covB at h
  simp only [Bool.and_eq_true, decide_eq_true_eq, beq_iff_eq] at h
  obtain ⟨⟨⟨h1, h2⟩, h3⟩, ⟨h4, _⟩, _⟩ := h
  have sa : a.data.toList.length = a.size := by simp
  have sb : b.data.toList.length = b.size := by simp
  have b0 : blank (a.data.toList ++ b.data.toList) 0 = 0 := by
    have : ((blank (a.data.toList ++ b.data.toList) 0 : Nat) : Int) = 0 := h2
    omega
  refine ⟨⟨by omega, b0, ?_⟩, by omega⟩
  have : (((tokAt (a.data.toList ++ b.data.toList) (blank (a.data.toList ++ b.data.toList) 0)).2 : Nat) : Int) = a.size := h3
  rw [b0] at this
  omega
theorem dense_begins (b : ByteArray) (r : List ByteArray) : ∃ x, (dense (b :: r)).data.toList = b.data.toList ++ x := by
  cases r with
  | nil => exact ⟨[], by simp [dense]⟩
  | cons c r => exact ⟨(spaceS b c ++ dense (c :: r)).data.toList, by rw [dense, app_list]⟩
theorem ws_dense : ∀ ws : List ByteArray, (∀ a ∈ ws, Cut a.data.toList []) → Ws (dense ws).data.toList = ws.map (·.data.toList) ++ [[]] := by
  intro ws
  induction ws with
  | nil => intro _; exact ws_nil
  | cons a r ih =>
    intro h
    have ha := h a (by simp)
    cases r with
    | nil =>
      have := ws_cut a.data.toList [] ha
      rw [List.append_nil, ws_nil] at this
      exact this
    | cons b r =>
      have hI := ih (fun c hc => h c (by simp [hc]))
      obtain ⟨x, hx⟩ := dense_begins b r
      rw [dense, app_list, app_list]
      unfold spaceS
      cases g : glueB a b with
      | true =>
        obtain ⟨gc, gl⟩ := glue_cut a b g
        rw [if_pos rfl]
        show Ws (a.data.toList ++ (dense (b :: r)).data.toList) = _
        rw [hx] at hI ⊢
        rw [ws_cut _ _ (cut_more _ _ x gl gc), hI]
        rfl
      | false =>
        rw [if_neg (by simp)]
        show Ws (a.data.toList ++ (32 :: (dense (b :: r)).data.toList)) = _
        rw [ws_cut _ _ (cut_white _ _ ha (fun _ => rfl)), ws_white 32 _ rfl, hI]
        rfl

/-- how long they are -/
def lens (l : List (List UInt8)) : Nat := (l.map List.length).sum
theorem lens_cons (a : List UInt8) (l : List (List UInt8)) : lens (a :: l) = a.length + lens l := by simp [lens]
theorem lens_app (l m : List (List UInt8)) : lens (l ++ m) = lens l + lens m := by simp [lens]
theorem chain_lens (l : List UInt8) : ∀ (ts : List Tok) (i : Nat), i ≤ l.length → chain l.length i ts → lens (ts.map (wordL l)) + i ≤ l.length := by
  intro ts
  induction ts with
  | nil => intro i hi _; simpa [lens] using hi
  | cons t ts ih =>
    rintro i hi ⟨h1, h2, h3, h4, _, _, h7⟩
    have := ih _ (by omega) h7
    rw [List.map_cons, lens_cons]
    have wl : (wordL l t).length = t.hi.toNat - t.at_.toNat := by
      unfold wordL
      simp
      omega
    omega
theorem ws_lens (l : List UInt8) : lens (Ws l) ≤ l.length := by
  have := chain_lens l _ 0 (Nat.zero_le _) (scan_chain l)
  unfold Ws
  omega
theorem ws_length (l : List UInt8) : (Ws l).length ≤ l.length + 1 := by
  have := scan_length l
  unfold Ws
  rw [List.length_map]
  exact this
theorem lines_length (init : List (List UInt8)) : (init.flatMap (· ++ [10])).length = lens init + init.length := by
  induction init with
  | nil => rfl
  | cons a r ih => rw [List.flatMap_cons, List.length_append, ih, lens_cons]; simp; omega
theorem space_size (a b : ByteArray) : (spaceS a b).size ≤ 1 := by
  unfold spaceS
  split
  · exact Nat.zero_le _
  · exact Nat.le_refl _
theorem dense_size : ∀ ws : List ByteArray, (dense ws).size ≤ lens (ws.map (·.data.toList)) + ws.length := by
  intro ws
  induction ws with
  | nil => exact Nat.zero_le _
  | cons a r ih =>
    have sa : a.data.toList.length = a.size := by simp
    cases r with
    | nil =>
      rw [dense, List.map_cons, lens_cons, sa]
      simp [lens]
    | cons b r =>
      have := space_size a b
      rw [dense, ByteArray.size_append, ByteArray.size_append, List.map_cons, lens_cons, sa, List.length_cons]
      omega

/-- the words as byte arrays -/
theorem words_lists (s : ByteArray) (h : s.size ≤ 4096) : (words s (scan s.data.toList)).map (·.data.toList) = Ws s.data.toList := by
  unfold words
  rw [scan_fit s h, if_pos rfl, List.map_map]
  unfold Ws
  refine List.map_congr_left fun t _ => ?_
  exact slice_list s _ _
theorem lists_inj (l m : List ByteArray) (h : l.map (·.data.toList) = m.map (·.data.toList)) : l = m := by
  refine (List.map_inj_right fun a b e => ?_).1 h
  exact ByteArray.ext (Array.ext' e)

/-- all that the law wants -/
theorem spaces_facts (s : ByteArray) (h : s.size ≤ 600) : ∃ (init : List ByteArray), words s (scan s.data.toList) = init ++ [⟨#[]⟩]
    ∧ init.length ≤ 600 ∧ (scan s.data.toList).length = init.length + 1
    ∧ (∀ k, (dense (init.take k)).size ≤ 1200) ∧ (∀ a ∈ init, a.size ≤ 600)
    ∧ (Lib.join ((init ++ [(⟨#[]⟩ : ByteArray)]).map (·.data.toList)) [10]).length ≤ 1200
    ∧ words ⟨(Lib.join ((init ++ [(⟨#[]⟩ : ByteArray)]).map (·.data.toList)) [10]).toArray⟩ (scan (Lib.join ((init ++ [(⟨#[]⟩ : ByteArray)]).map (·.data.toList)) [10])) = init ++ [⟨#[]⟩]
    ∧ words (dense init) (scan (dense init).data.toList) = init ++ [⟨#[]⟩] := by
  have hs : s.data.toList.length = s.size := by simp
  obtain ⟨il, hil, hcut⟩ := ws_init s.data.toList
  have wl := words_lists s (by omega)
  obtain ⟨init, rfl⟩ : ∃ init : List ByteArray, il = init.map (·.data.toList) := ⟨il.map (fun x => ⟨x.toArray⟩), by rw [List.map_map]; simp [Function.comp_def]⟩
  have e0 : words s (scan s.data.toList) = init ++ [⟨#[]⟩] := by
    apply lists_inj
    rw [wl, hil]
    simp
  have hlen : (Ws s.data.toList).length ≤ s.size + 1 := by have := ws_length s.data.toList; omega
  have hlens : lens (Ws s.data.toList) ≤ s.size := by have := ws_lens s.data.toList; omega
  rw [hil] at hlen hlens
  rw [lens_app] at hlens
  simp only [List.length_append, List.length_map, List.length_singleton] at hlen
  have hjoin : Lib.join ((init ++ [(⟨#[]⟩ : ByteArray)]).map (·.data.toList)) [10] = (init.map (·.data.toList)).flatMap (· ++ [10]) := by
    rw [List.map_append]
    exact join_lines _
  have hcutB : ∀ a ∈ init, Cut a.data.toList [] := fun a ha => hcut _ (List.mem_map.2 ⟨a, ha, rfl⟩)
  have hdl : ∀ k, (dense (init.take k)).size ≤ 1200 := by
    intro k
    have := dense_size (init.take k)
    have h1 : lens ((init.take k).map (·.data.toList)) ≤ lens (init.map (·.data.toList)) := by
      have h2 : lens (init.map (·.data.toList)) = lens ((init.take k).map (·.data.toList)) + lens ((init.drop k).map (·.data.toList)) := by
        rw [← lens_app, ← List.map_append, List.take_append_drop]
      omega
    have h2 : (init.take k).length ≤ init.length := by simp; omega
    omega
  have hsc : (scan s.data.toList).length = init.length + 1 := by
    have := congrArg List.length hil
    unfold Ws at this
    simpa using this
  refine ⟨init, e0, by omega, hsc, hdl, ?_, ?_, ?_, ?_⟩
  · intro a ha
    obtain ⟨p, q, rfl⟩ := List.append_of_mem ha
    rw [List.map_append, List.map_cons, lens_app, lens_cons] at hlens
    have : a.data.toList.length = a.size := by simp
    omega
  · rw [hjoin, lines_length, List.length_map]
    omega
  · rw [hjoin]
    apply lists_inj
    have sz : (⟨((init.map (·.data.toList)).flatMap (· ++ [10])).toArray⟩ : ByteArray).size ≤ 4096 := by
      show (((init.map (·.data.toList)).flatMap (· ++ [10])).toArray).size ≤ 4096
      rw [List.size_toArray, lines_length, List.length_map]
      omega
    have w := words_lists ⟨((init.map (·.data.toList)).flatMap (· ++ [10])).toArray⟩ sz
    simp only at w
    rw [w, ws_lines _ hcut]
    simp
  · apply lists_inj
    have sz := hdl init.length
    rw [List.take_length] at sz
    rw [words_lists _ (by omega), ws_dense _ hcutB]
    simp
end Go.Proofs.Ytgihfnnffailiab
