/-
  Plain facts on requests that were told: rows of words, lines of words; parts of them. No program is imported.
-/
import Derived.Test.YtadffjmpkeaikaaDoorFrameMath
namespace Go.Proofs.YtadffjmpkeaikaaDoor.FrameMath
open Go.Lib NumMath ReplyMath
set_option linter.unusedVariables false

theorem itoa_small_all : (List.range 601).all (fun v => decide ((itoa (v : Int)).length ≤ 3)) = true := by decide +kernel
theorem itoa_small (v : Nat) (h : v ≤ 600) : (itoa (v : Int)).length ≤ 3 := by
  have := List.all_eq_true.1 itoa_small_all v (List.mem_range.2 (by omega))
  exact of_decide_eq_true this
theorem itoa_no10 (n : Int) : ∀ c ∈ itoa n, c ≠ 10 := by
  intro c hc
  rcases itoa_mem n c hc with h | h
  · rw [h]; decide
  · rintro rfl
    exact absurd h.1 (by decide)
/-- A line that tells a number. -/
def told (mark : UInt8) (v : Nat) : List UInt8 := mark :: (itoa (v : Int) ++ [13, 10])
theorem told_len (mark : UInt8) (v : Nat) : (told mark v).length = (itoa (v : Int)).length + 3 := by simp [told]
theorem find_told (mark : UInt8) (v : Nat) (hv : v ≤ 600) (hm : mark ≠ 10) (z : List UInt8) : find10 16 (told mark v ++ z) = some ((itoa (v : Int)).length + 2) := by
  have hs := itoa_small v hv
  have e : told mark v ++ z = (mark :: itoa (v : Int)) ++ 13 :: 10 :: z := by simp [told]
  have hl : (mark :: itoa (v : Int)).length = (itoa (v : Int)).length + 1 := rfl
  refine find10_first (by omega) ?_ ?_
  · rw [e, List.getElem?_append_right (by omega), hl, show (itoa (v : Int)).length + 2 - ((itoa (v : Int)).length + 1) = 1 by omega]
    rfl
  · intro j hj
    rw [e]
    rcases Nat.lt_or_ge j (mark :: itoa (v : Int)).length with h | h
    · rw [List.getElem?_append_left h, List.getElem?_eq_getElem h]
      intro hh
      injection hh with hh
      have := List.getElem_mem h
      rw [hh] at this
      rcases List.mem_cons.1 this with h1 | h1
      · exact hm h1.symm
      · exact itoa_no10 _ _ h1 rfl
    · rw [List.getElem?_append_right h, show j - (mark :: itoa (v : Int)).length = 0 by omega]
      simp
theorem headAt_told (mark : UInt8) (low high : Int) (v : Nat) (hv : v ≤ 600) (z : List UInt8) : headAt mark low high (told mark v ++ z) ((itoa (v : Int)).length + 2) = if low ≤ (v : Int) ∧ (v : Int) ≤ high then .is v ((itoa (v : Int)).length + 3) else .bad := by
  have e : told mark v ++ z = (mark :: itoa (v : Int)) ++ 13 :: 10 :: z := by simp [told]
  have hl : (mark :: itoa (v : Int)).length = (itoa (v : Int)).length + 1 := rfl
  have hp := itoa_len_pos (v : Int)
  unfold headAt
  rw [if_pos ⟨by omega, by rw [e, show (itoa (v : Int)).length + 2 - 1 = (mark :: itoa (v : Int)).length by rw [hl]; omega, List.getElem?_append_right (Nat.le_refl _), Nat.sub_self]; rfl, by rw [e]; rfl⟩]
  rw [show ((told mark v ++ z).take ((itoa (v : Int)).length + 2 - 1)).drop 1 = itoa (v : Int) by
    rw [e, show (itoa (v : Int)).length + 2 - 1 = (mark :: itoa (v : Int)).length by rw [hl]; omega, List.take_left]
    rfl, parse_itoa (v : Int) (by omega) (by omega)]
  simp only [Int.toNat_natCast]
theorem headL_told (mark : UInt8) (low high : Int) (v : Nat) (hv : v ≤ 600) (hm : mark ≠ 10) (z : List UInt8) : headL mark low high (told mark v ++ z) = if low ≤ (v : Int) ∧ (v : Int) ≤ high then .is v ((itoa (v : Int)).length + 3) else .bad := by
  unfold headL
  rw [find_told mark v hv hm z]
  exact headAt_told mark low high v hv z

theorem bulk_told (s : List UInt8) : bulk s = told 36 s.length ++ (s ++ [13, 10]) := by simp [bulk, told]
theorem texts_told (L : List (List UInt8)) : texts L = told 42 L.length ++ (L.map bulk).flatten := by simp [texts, array, told]
theorem wordAt_told (s z : List UInt8) : wordAt s.length (s ++ [13, 10] ++ z) = .is [s] (s.length + 2) := by
  unfold wordAt
  rw [if_neg (by simp), List.append_assoc, List.drop_left, if_pos (show List.take 2 ([13, 10] ++ z) = [13, 10] from rfl), List.take_left]
theorem rowOf_told : ∀ (L : List (List UInt8)) (z : List UInt8), (∀ s ∈ L, s.length ≤ 512) → rowOf L.length ((L.map bulk).flatten ++ z) = .is L (L.map bulk).flatten.length
  | [], z, _ => rfl
  | s :: L, z, h => by
    have hs := h s (by simp)
    have ih := rowOf_told L z (fun t ht => h t (by simp [ht]))
    have e : ((s :: L).map bulk).flatten ++ z = told 36 s.length ++ (s ++ [13, 10] ++ ((L.map bulk).flatten ++ z)) := by
      rw [List.map_cons, List.flatten_cons, bulk_told]
      simp
    rw [List.length_cons, rowOf, e, headL_told 36 0 512 s.length (by omega) (by decide) _, if_pos ⟨by omega, by omega⟩]
    simp only
    have hd : (told 36 s.length ++ (s ++ [13, 10] ++ ((L.map bulk).flatten ++ z))).drop ((itoa (s.length : Int)).length + 3) = s ++ [13, 10] ++ ((L.map bulk).flatten ++ z) := by
      rw [← told_len 36 s.length, List.drop_left]
    rw [hd, wordAt_told]
    simp only
    have hd2 : (told 36 s.length ++ (s ++ [13, 10] ++ ((L.map bulk).flatten ++ z))).drop ((itoa (s.length : Int)).length + 3 + (s.length + 2)) = (L.map bulk).flatten ++ z := by
      rw [← List.drop_drop, hd, show s.length + 2 = (s ++ [13, 10]).length by simp, List.drop_left]
    rw [hd2, ih]
    simp only [List.map_cons, List.flatten_cons, List.length_append, List.cons_append, List.nil_append]
    rw [bulk_told, List.length_append, told_len]
    simp
theorem head_texts (L : List (List UInt8)) (z : List UInt8) : (texts L ++ z).head? = some 42 := by rw [texts_told]; rfl
theorem drop_head (L : List (List UInt8)) (z : List UInt8) : (texts L ++ z).drop ((itoa (L.length : Int)).length + 3) = (L.map bulk).flatten ++ z := by
  rw [texts_told, ← told_len 42 L.length, List.append_assoc, List.drop_left]
/-- What was put is read. -/
theorem next_told (L : List (List UInt8)) (z : List UInt8) (h1 : 1 ≤ L.length) (h2 : L.length ≤ 32) (h : ∀ s ∈ L, s.length ≤ 512) : nextL (texts L ++ z) = .is L (texts L).length := by
  unfold nextL
  rw [if_pos (head_texts L z)]
  unfold rowL
  have hh : headL 42 1 32 (texts L ++ z) = .is L.length ((itoa (L.length : Int)).length + 3) := by
    rw [texts_told, List.append_assoc, headL_told 42 1 32 L.length (by omega) (by decide) _, if_pos ⟨by omega, by omega⟩]
  rw [hh]
  simp only
  rw [drop_head, rowOf_told L z h]
  simp only
  rw [texts_told, List.length_append, told_len]
theorem next_many (L : List (List UInt8)) (z : List UInt8) (h1 : L.length = 0 ∨ 32 < L.length) (h2 : L.length ≤ 600) : nextL (texts L ++ z) = .bad := by
  unfold nextL
  rw [if_pos (head_texts L z)]
  unfold rowL
  have hh : headL 42 1 32 (texts L ++ z) = .bad := by
    rw [texts_told, List.append_assoc, headL_told 42 1 32 L.length (by omega) (by decide) _, if_neg (by omega)]
  rw [hh]
theorem next_long (s z : List UInt8) (h1 : 512 < s.length) (h2 : s.length ≤ 600) : nextL (texts [s] ++ z) = .bad := by
  unfold nextL
  rw [if_pos (head_texts [s] z)]
  unfold rowL
  have hh : headL 42 1 32 (texts [s] ++ z) = .is 1 ((itoa (1 : Int)).length + 3) := by
    rw [texts_told, List.append_assoc]
    have := headL_told 42 1 32 1 (by omega) (by decide) (([s].map bulk).flatten ++ z)
    rw [if_pos ⟨by omega, by omega⟩] at this
    exact this
  rw [hh]
  simp only
  have hd := drop_head [s] z
  have hd : (texts [s] ++ z).drop ((itoa (1 : Int)).length + 3) = ([s].map bulk).flatten ++ z := hd
  rw [hd, rowOf]
  have hb : headL 36 0 512 (([s].map bulk).flatten ++ z) = .bad := by
    have e : ([s].map bulk).flatten ++ z = told 36 s.length ++ (s ++ [13, 10] ++ z) := by simp [bulk_told]
    rw [e, headL_told 36 0 512 s.length h2 (by decide) _, if_neg (by omega)]
  rw [hb]
/-- A part of what was put is not whole. -/
theorem next_part (L : List (List UInt8)) (p t : List UInt8) (h1 : 1 ≤ L.length) (h2 : L.length ≤ 32) (h : ∀ s ∈ L, s.length ≤ 512) (e : texts L = p ++ t) (ht : t ≠ []) : nextL p = .part := by
  have hn := next_told L [] h1 h2 h
  rw [List.append_nil] at hn
  cases hp : nextL p with
  | part => rfl
  | bad =>
    have := nextL_bad hp t
    rw [← e, hn] at this
    cases this
  | is ws k =>
    obtain ⟨-, -, hk, hz⟩ := nextL_is hp
    have := hz t
    rw [← e, hn] at this
    injection this with _ h3
    have h4 := congrArg List.length e
    rw [List.length_append] at h4
    have h5 : 0 < t.length := List.length_pos_iff.2 ht
    omega

theorem wordsOn_word : ∀ (s cur r : List UInt8), (∀ c ∈ s, c ≠ 32) → wordsOn cur (s ++ r) = wordsOn (cur ++ s) r
  | [], cur, r, _ => by simp
  | c :: s, cur, r, h => by
    have hc := h c (by simp)
    show wordsOn cur (c :: (s ++ r)) = _
    rw [wordsOn, if_neg hc, wordsOn_word s (cur ++ [c]) r (fun d hd => h d (by simp [hd])), List.append_assoc]
    rfl
theorem wordsOn_blanks : ∀ (m : Nat) (r : List UInt8), wordsOn [] (List.replicate m 32 ++ r) = wordsOn [] r
  | 0, r => rfl
  | m + 1, r => by
    show wordsOn [] (32 :: (List.replicate m 32 ++ r)) = _
    rw [wordsOn, if_pos rfl, if_pos rfl, wordsOn_blanks m r]
/-- Words with so many blanks behind each. -/
def spread (m : Nat) (w : List (List UInt8)) : List UInt8 := (w.map fun s => s ++ List.replicate (m + 1) 32).flatten
theorem wordsL_spread (m : Nat) : ∀ (w : List (List UInt8)), (∀ s ∈ w, s ≠ [] ∧ ∀ c ∈ s, c ≠ 32) → wordsL (spread m w) = w
  | [], _ => rfl
  | s :: w, h => by
    obtain ⟨h1, h2⟩ := h s (by simp)
    have ih := wordsL_spread m w (fun t ht => h t (by simp [ht]))
    unfold wordsL at ih ⊢
    have e : spread m (s :: w) = s ++ (32 :: (List.replicate m 32 ++ spread m w)) := by simp [spread, List.replicate_succ]
    rw [e, wordsOn_word s [] _ h2, List.nil_append, wordsOn, if_pos rfl, if_neg h1, wordsOn_blanks, ih]
theorem spread_snoc (m : Nat) (w : List (List UInt8)) (s : List UInt8) : spread m (w ++ [s]) = spread m w ++ (s ++ List.replicate (m + 1) 32) := by simp [spread]
theorem spread_len (m : Nat) : ∀ (w : List (List UInt8)), (∀ s ∈ w, s.length ≤ 15) → (spread m w).length ≤ (16 + m) * w.length
  | [], _ => by simp [spread]
  | s :: w, h => by
    have h1 := h s (by simp)
    have ih := spread_len m w (fun t ht => h t (by simp [ht]))
    have e : (spread m (s :: w)).length = s.length + (m + 1) + (spread m w).length := by simp [spread]; omega
    rw [e, List.length_cons, Nat.mul_succ]
    omega
/-- A line's end. -/
def lineEnd (both : Bool) : List UInt8 := if both = true then [13, 10] else [10]
theorem next_line (x z : List UInt8) (both : Bool) (h10 : ∀ c ∈ x, c ≠ 10) (h42 : x.head? ≠ some 42) (h13 : x.getLast? ≠ some 13) (hl : x.length + 2 ≤ 600) (hw : (wordsL x).length ≤ 32) :
    nextL (x ++ lineEnd both ++ z) = .is (wordsL x) (x.length + (lineEnd both).length) := by
  have hno : ∀ j, j < x.length → ∀ r : List UInt8, (x ++ r)[j]? ≠ some 10 := fun j hj r hh => by
    rw [List.getElem?_append_left hj, List.getElem?_eq_getElem hj] at hh
    injection hh with hh
    exact h10 _ (List.getElem_mem hj) hh
  have hhead : (x ++ lineEnd both ++ z).head? ≠ some 42 := by
    cases x with
    | nil => cases both <;> (simp [lineEnd])
    | cons a r => simpa using h42
  unfold nextL
  rw [if_neg hhead]
  unfold lineL
  cases both with
  | false =>
    have hf : find10 600 (x ++ lineEnd false ++ z) = some x.length := by
      refine find10_first (by omega) ?_ (fun j hj => by rw [List.append_assoc]; exact hno j hj _)
      rw [List.append_assoc, List.getElem?_append_right (Nat.le_refl _), Nat.sub_self]
      rfl
    rw [hf]
    show lineAt _ _ = _
    have he : endAt (x ++ lineEnd false ++ z) x.length = x.length := by
      unfold endAt
      rw [if_neg]
      rintro ⟨h1, h2⟩
      rw [List.append_assoc, List.getElem?_append_left (by omega)] at h2
      rw [List.getLast?_eq_getElem?] at h13
      exact h13 h2
    unfold lineAt
    rw [he, List.append_assoc, List.take_left, if_neg (by omega)]
    rfl
  | true =>
    have hf : find10 600 (x ++ lineEnd true ++ z) = some (x.length + 1) := by
      refine find10_first (by omega) ?_ (fun j hj => ?_)
      · rw [List.append_assoc, List.getElem?_append_right (by omega), show x.length + 1 - x.length = 1 by omega]
        rfl
      · rcases Nat.lt_or_ge j x.length with h | h
        · rw [List.append_assoc]; exact hno j h _
        · rw [List.append_assoc, List.getElem?_append_right h, show j - x.length = 0 by omega]
          simp [lineEnd]
    rw [hf]
    show lineAt _ _ = _
    have he : endAt (x ++ lineEnd true ++ z) (x.length + 1) = x.length := by
      unfold endAt
      rw [if_pos]
      · rfl
      · refine ⟨by omega, ?_⟩
        rw [List.append_assoc, show x.length + 1 - 1 = x.length by omega, List.getElem?_append_right (Nat.le_refl _), Nat.sub_self]
        rfl
    unfold lineAt
    rw [he, List.append_assoc, List.take_left, if_neg (by omega)]
    rfl

end Go.Proofs.YtadffjmpkeaikaaDoor.FrameMath
