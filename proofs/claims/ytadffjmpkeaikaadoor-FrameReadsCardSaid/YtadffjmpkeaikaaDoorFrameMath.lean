/-
  Plain facts on requests out of rows of bytes: the line of a row, a row, a line of words, what a row begins with; that it grows. No program is imported.
-/
import Derived.Test.YtadffjmpkeaikaaDoorReplyMath
namespace Go.Proofs.YtadffjmpkeaikaaDoor.FrameMath
open Go.Lib NumMath ReplyMath
set_option linter.unusedVariables false

/-- The first place of a byte 10 among so many bytes. -/
def find10 : Nat → List UInt8 → Option Nat
  | 0, _ => none
  | _ + 1, [] => none
  | f + 1, c :: r => if c = 10 then some 0 else (find10 f r).map (· + 1)
theorem find10_some : ∀ {f : Nat} {l : List UInt8} {i : Nat}, find10 f l = some i → i < f ∧ i < l.length ∧ l[i]? = some 10 ∧ (∀ j, j < i → l[j]? ≠ some 10) ∧ ∀ z, find10 f (l ++ z) = some i
  | 0, l, i, h => by simp [find10] at h
  | f + 1, [], i, h => by simp [find10] at h
  | f + 1, c :: r, i, h => by
    rw [find10] at h
    by_cases hc : c = 10
    · rw [if_pos hc] at h
      injection h with h
      subst h hc
      exact ⟨by omega, by simp, rfl, fun j hj => absurd hj (by omega), fun z => by simp [find10]⟩
    · rw [if_neg hc] at h
      cases hr : find10 f r with
      | none => rw [hr] at h; simp at h
      | some k =>
        rw [hr] at h
        simp at h
        subst h
        obtain ⟨h1, h2, h3, h4, h5⟩ := find10_some hr
        refine ⟨by omega, by simp; omega, by simpa using h3, fun j hj => ?_, fun z => ?_⟩
        · cases j with
          | zero => simpa using hc
          | succ j => simpa using h4 j (by omega)
        · show find10 (f + 1) (c :: (r ++ z)) = _
          rw [find10, if_neg hc, h5]
          rfl
theorem find10_none : ∀ {f : Nat} {l : List UInt8}, find10 f l = none → f ≤ l.length → ∀ z, find10 f (l ++ z) = none
  | 0, l, _, _, z => by simp [find10]
  | f + 1, [], _, h, _ => by simp at h
  | f + 1, c :: r, h, hl, z => by
    rw [find10] at h
    by_cases hc : c = 10
    · rw [if_pos hc] at h; cases h
    · rw [if_neg hc] at h
      have hr : find10 f r = none := by
        cases hr : find10 f r with
        | none => rfl
        | some k => rw [hr] at h; simp at h
      show find10 (f + 1) (c :: (r ++ z)) = _
      rw [find10, if_neg hc, find10_none hr (by simp at hl; omega)]
      rfl
theorem find10_first : ∀ {f : Nat} {l : List UInt8} {i : Nat}, i < f → l[i]? = some 10 → (∀ j, j < i → l[j]? ≠ some 10) → find10 f l = some i
  | 0, l, i, h, _, _ => absurd h (by omega)
  | f + 1, [], i, _, h, _ => by simp at h
  | f + 1, c :: r, 0, _, h, _ => by
    simp at h
    rw [find10, if_pos h]
  | f + 1, c :: r, i + 1, h1, h2, h3 => by
    have hc : c ≠ 10 := by simpa using h3 0 (by omega)
    rw [find10, if_neg hc, find10_first (f := f) (l := r) (i := i) (by omega) (by simpa using h2) (fun j hj => by simpa using h3 (j + 1) (by omega))]
    rfl
theorem find10_no : ∀ {f : Nat} {l : List UInt8}, (∀ j, j < f → l[j]? ≠ some 10) → find10 f l = none
  | 0, l, _ => by simp [find10]
  | f + 1, [], _ => by simp [find10]
  | f + 1, c :: r, h => by
    have hc : c ≠ 10 := by simpa using h 0 (by omega)
    rw [find10, if_neg hc, find10_no (f := f) (l := r) (fun j hj => by simpa using h (j + 1) (by omega))]
    rfl

/-- The number of a row's line, and how many bytes that has. -/
inductive Hd where
  | bad
  | part
  | is (n k : Nat)
/-- A row's line, its end found. -/
def headAt (mark : UInt8) (low high : Int) (l : List UInt8) (i : Nat) : Hd :=
  if 2 ≤ i ∧ l[i - 1]? = some 13 ∧ l[0]? = some mark then
    match parse ((l.take (i - 1)).drop 1) with
    | some v => if low ≤ v ∧ v ≤ high then .is v.toNat (i + 1) else .bad
    | none => .bad
  else .bad
def headL (mark : UInt8) (low high : Int) (l : List UInt8) : Hd :=
  match find10 16 l with
  | some i => headAt mark low high l i
  | none => if 16 ≤ l.length then .bad else .part
theorem headAt_app (mark : UInt8) (low high : Int) (l z : List UInt8) (i : Nat) (hi : i < l.length) : headAt mark low high (l ++ z) i = headAt mark low high l i := by
  unfold headAt
  rw [List.getElem?_append_left (show i - 1 < l.length by omega), List.getElem?_append_left (show 0 < l.length by omega), List.take_append_of_le_length (by omega)]
theorem headAt_is {mark : UInt8} {low high : Int} {l : List UInt8} {i n k : Nat} (h : headAt mark low high l i = .is n k) : k = i + 1 ∧ 3 ≤ k ∧ low ≤ (n : Int) ∧ ((n : Int) ≤ high ∨ high < 0) := by
  unfold headAt at h
  split at h
  · rename_i hc
    split at h
    · split at h
      · rename_i v _ hv
        injection h with h1 h2
        subst h1 h2
        refine ⟨rfl, by omega, ?_, ?_⟩ <;> omega
      · cases h
    · cases h
  · cases h
theorem headAt_part {mark : UInt8} {low high : Int} {l : List UInt8} {i : Nat} : headAt mark low high l i ≠ .part := by
  unfold headAt
  intro h
  split at h
  · split at h
    · split at h <;> cases h
    · cases h
  · cases h
theorem headL_is {mark : UInt8} {low high : Int} {l : List UInt8} {n k : Nat} (h : headL mark low high l = .is n k) : 3 ≤ k ∧ k ≤ l.length ∧ low ≤ (n : Int) ∧ ((n : Int) ≤ high ∨ high < 0) ∧ ∀ z, headL mark low high (l ++ z) = .is n k := by
  unfold headL at h
  cases hf : find10 16 l with
  | none => rw [hf] at h; simp only at h; split at h <;> cases h
  | some i =>
    rw [hf] at h
    have h : headAt mark low high l i = .is n k := h
    obtain ⟨-, h2, -, -, h5⟩ := find10_some hf
    obtain ⟨a1, a2, a3, a4⟩ := headAt_is h
    refine ⟨a2, by omega, a3, a4, fun z => ?_⟩
    unfold headL
    rw [h5 z]
    show headAt mark low high (l ++ z) i = _
    rw [headAt_app _ _ _ _ _ _ h2, h]
theorem headL_bad {mark : UInt8} {low high : Int} {l : List UInt8} (h : headL mark low high l = .bad) (z : List UInt8) : headL mark low high (l ++ z) = .bad := by
  unfold headL at h ⊢
  cases hf : find10 16 l with
  | none =>
    rw [hf] at h
    simp only at h
    split at h
    · rename_i h16
      rw [find10_none hf h16]
      simp only
      rw [if_pos (by rw [List.length_append]; omega)]
    · cases h
  | some i =>
    rw [hf] at h
    obtain ⟨-, h2, -, -, h5⟩ := find10_some hf
    rw [h5 z]
    show headAt mark low high (l ++ z) i = _
    rw [headAt_app _ _ _ _ _ _ h2]
    exact h

/-- A request, and how many bytes it takes. -/
inductive Rq where
  | bad
  | part
  | is (ws : List (List UInt8)) (k : Nat)
/-- One word of a row, its line told. -/
def wordAt (k : Nat) (r : List UInt8) : Rq := if r.length < k + 2 then .part else if (r.drop k).take 2 = [13, 10] then .is [r.take k] (k + 2) else .bad
/-- So many words of a row. -/
def rowOf : Nat → List UInt8 → Rq
  | 0, _ => .is [] 0
  | n + 1, l =>
    match headL 36 0 512 l with
    | .bad => .bad
    | .part => .part
    | .is k j =>
      match wordAt k (l.drop j) with
      | .bad => .bad
      | .part => .part
      | .is w t =>
        match rowOf n (l.drop (j + t)) with
        | .bad => .bad
        | .part => .part
        | .is ws u => .is (w ++ ws) (j + t + u)
def rowL (l : List UInt8) : Rq :=
  match headL 42 1 32 l with
  | .bad => .bad
  | .part => .part
  | .is n j =>
    match rowOf n (l.drop j) with
    | .bad => .bad
    | .part => .part
    | .is ws u => .is ws (j + u)
theorem wordAt_is {k : Nat} {r : List UInt8} {w : List (List UInt8)} {t : Nat} (h : wordAt k r = .is w t) : t = k + 2 ∧ t ≤ r.length ∧ w = [r.take k] ∧ ∀ z, wordAt k (r ++ z) = .is w t := by
  unfold wordAt at h
  split at h
  · cases h
  · rename_i hl
    split at h
    · rename_i hc
      injection h with h1 h2
      subst h1 h2
      refine ⟨rfl, by omega, rfl, fun z => ?_⟩
      unfold wordAt
      rw [if_neg (by rw [List.length_append]; omega), List.drop_append_of_le_length (by omega), List.take_append_of_le_length (by rw [List.length_drop]; omega), if_pos hc, List.take_append_of_le_length (by omega)]
    · cases h
theorem wordAt_bad {k : Nat} {r : List UInt8} (h : wordAt k r = .bad) (z : List UInt8) : wordAt k (r ++ z) = .bad := by
  unfold wordAt at h
  split at h
  · cases h
  · rename_i hl
    split at h
    · cases h
    · rename_i hc
      unfold wordAt
      rw [if_neg (by rw [List.length_append]; omega), List.drop_append_of_le_length (by omega), List.take_append_of_le_length (by rw [List.length_drop]; omega), if_neg hc]
/-- A row's words, step by step. -/
theorem rowOf_is : ∀ {n : Nat} {l : List UInt8} {ws : List (List UInt8)} {k : Nat}, rowOf n l = .is ws k → ws.length = n ∧ k ≤ l.length ∧ ∀ z, rowOf n (l ++ z) = .is ws k
  | 0, l, ws, k, h => by
    rw [rowOf] at h
    injection h with h1 h2
    subst h1 h2
    exact ⟨rfl, Nat.zero_le _, fun z => rfl⟩
  | n + 1, l, ws, k, h => by
    rw [rowOf] at h
    cases hh : headL 36 0 512 l with
    | bad => rw [hh] at h; cases h
    | part => rw [hh] at h; cases h
    | is m j =>
      rw [hh] at h
      simp only at h
      obtain ⟨b1, b2, -, -, b5⟩ := headL_is hh
      cases hw : wordAt m (l.drop j) with
      | bad => rw [hw] at h; cases h
      | part => rw [hw] at h; cases h
      | is w t =>
        rw [hw] at h
        simp only at h
        obtain ⟨c1, c2, c3, c4⟩ := wordAt_is hw
        rw [List.length_drop] at c2
        cases hr : rowOf n (l.drop (j + t)) with
        | bad => rw [hr] at h; cases h
        | part => rw [hr] at h; cases h
        | is us u =>
          rw [hr] at h
          simp only at h
          injection h with h1 h2
          subst h1 h2
          obtain ⟨d1, d2, d3⟩ := rowOf_is hr
          rw [List.length_drop] at d2
          refine ⟨by rw [c3, List.length_append, d1]; simp; omega, by omega, fun z => ?_⟩
          rw [rowOf, b5 z]
          simp only
          rw [List.drop_append_of_le_length (by omega), c4 z]
          simp only
          rw [List.drop_append_of_le_length (by omega), d3 z]
theorem rowOf_bad : ∀ {n : Nat} {l : List UInt8}, rowOf n l = .bad → ∀ z, rowOf n (l ++ z) = .bad
  | 0, l, h, z => by rw [rowOf] at h; cases h
  | n + 1, l, h, z => by
    rw [rowOf] at h ⊢
    cases hh : headL 36 0 512 l with
    | bad => rw [headL_bad hh z]
    | part => rw [hh] at h; cases h
    | is m j =>
      rw [hh] at h
      simp only at h
      obtain ⟨b1, b2, -, -, b5⟩ := headL_is hh
      rw [b5 z]
      simp only
      rw [List.drop_append_of_le_length (by omega)]
      cases hw : wordAt m (l.drop j) with
      | bad => rw [wordAt_bad hw z]
      | part => rw [hw] at h; cases h
      | is w t =>
        rw [hw] at h
        simp only at h
        obtain ⟨c1, c2, c3, c4⟩ := wordAt_is hw
        rw [List.length_drop] at c2
        rw [c4 z]
        simp only
        rw [List.drop_append_of_le_length (by omega)]
        cases hr : rowOf n (l.drop (j + t)) with
        | bad => rw [rowOf_bad hr z]
        | part => rw [hr] at h; cases h
        | is us u => rw [hr] at h; cases h
theorem rowL_is {l : List UInt8} {ws : List (List UInt8)} {k : Nat} (h : rowL l = .is ws k) : 1 ≤ ws.length ∧ ws.length ≤ 32 ∧ 3 ≤ k ∧ k ≤ l.length ∧ ∀ z, rowL (l ++ z) = .is ws k := by
  unfold rowL at h
  cases hh : headL 42 1 32 l with
  | bad => rw [hh] at h; cases h
  | part => rw [hh] at h; cases h
  | is n j =>
    rw [hh] at h
    simp only at h
    obtain ⟨b1, b2, b3, b4, b5⟩ := headL_is hh
    cases hr : rowOf n (l.drop j) with
    | bad => rw [hr] at h; cases h
    | part => rw [hr] at h; cases h
    | is us u =>
      rw [hr] at h
      simp only at h
      injection h with h1 h2
      subst h1 h2
      obtain ⟨d1, d2, d3⟩ := rowOf_is hr
      rw [List.length_drop] at d2
      refine ⟨by omega, by omega, by omega, by omega, fun z => ?_⟩
      unfold rowL
      rw [b5 z]
      simp only
      rw [List.drop_append_of_le_length (by omega), d3 z]
theorem rowL_bad {l : List UInt8} (h : rowL l = .bad) (z : List UInt8) : rowL (l ++ z) = .bad := by
  unfold rowL at h ⊢
  cases hh : headL 42 1 32 l with
  | bad => rw [headL_bad hh z]
  | part => rw [hh] at h; cases h
  | is n j =>
    rw [hh] at h
    simp only at h
    obtain ⟨b1, b2, b3, b4, b5⟩ := headL_is hh
    rw [b5 z]
    simp only
    rw [List.drop_append_of_le_length (by omega)]
    cases hr : rowOf n (l.drop j) with
    | bad => rw [rowOf_bad hr z]
    | part => rw [hr] at h; cases h
    | is us u => rw [hr] at h; cases h

/-- What stands between blanks, a word begun. -/
def wordsOn : List UInt8 → List UInt8 → List (List UInt8)
  | cur, [] => if cur = [] then [] else [cur]
  | cur, c :: r => if c = 32 then (if cur = [] then wordsOn [] r else cur :: wordsOn [] r) else wordsOn (cur ++ [c]) r
def wordsL (l : List UInt8) : List (List UInt8) := wordsOn [] l
/-- Where the text of a line ends. -/
def endAt (l : List UInt8) (i : Nat) : Nat := if 1 ≤ i ∧ l[i - 1]? = some 13 then i - 1 else i
def lineAt (l : List UInt8) (i : Nat) : Rq := if 32 < (wordsL (l.take (endAt l i))).length then .bad else .is (wordsL (l.take (endAt l i))) (i + 1)
def lineL (l : List UInt8) : Rq :=
  match find10 600 l with
  | some i => lineAt l i
  | none => if 600 ≤ l.length then .bad else .part
theorem endAt_app (l z : List UInt8) (i : Nat) (hi : i < l.length) : endAt (l ++ z) i = endAt l i := by
  unfold endAt
  rw [List.getElem?_append_left (show i - 1 < l.length by omega)]
theorem endAt_le (l : List UInt8) (i : Nat) : endAt l i ≤ i := by unfold endAt; split <;> omega
theorem lineAt_app (l z : List UInt8) (i : Nat) (hi : i < l.length) : lineAt (l ++ z) i = lineAt l i := by
  unfold lineAt
  have := endAt_le l i
  rw [endAt_app l z i hi, List.take_append_of_le_length (by omega)]
theorem lineL_is {l : List UInt8} {ws : List (List UInt8)} {k : Nat} (h : lineL l = .is ws k) : ws.length ≤ 32 ∧ 1 ≤ k ∧ k ≤ l.length ∧ ∀ z, lineL (l ++ z) = .is ws k := by
  unfold lineL at h
  cases hf : find10 600 l with
  | none => rw [hf] at h; simp only at h; split at h <;> cases h
  | some i =>
    rw [hf] at h
    have h : lineAt l i = .is ws k := h
    obtain ⟨-, h2, -, -, h5⟩ := find10_some hf
    have h0 := h
    unfold lineAt at h
    split at h
    · cases h
    · injection h with e1 e2
      subst e1 e2
      refine ⟨by omega, by omega, by omega, fun z => ?_⟩
      unfold lineL
      rw [h5 z]
      show lineAt (l ++ z) i = _
      rw [lineAt_app l z i h2, h0]
theorem lineL_bad {l : List UInt8} (h : lineL l = .bad) (z : List UInt8) : lineL (l ++ z) = .bad := by
  unfold lineL at h ⊢
  cases hf : find10 600 l with
  | none =>
    rw [hf] at h
    simp only at h
    split at h
    · rename_i h6
      rw [find10_none hf h6]
      simp only
      rw [if_pos (by rw [List.length_append]; omega)]
    · cases h
  | some i =>
    rw [hf] at h
    obtain ⟨-, h2, -, -, h5⟩ := find10_some hf
    rw [h5 z]
    show lineAt (l ++ z) i = _
    rw [lineAt_app l z i h2]
    exact h

/-- The request that a row begins with. -/
def nextL (l : List UInt8) : Rq := if l.head? = some 42 then rowL l else lineL l
theorem lineL_nil : lineL [] = .part := by simp [lineL, find10]
theorem nextL_is {l : List UInt8} {ws : List (List UInt8)} {k : Nat} (h : nextL l = .is ws k) : ws.length ≤ 32 ∧ 1 ≤ k ∧ k ≤ l.length ∧ ∀ z, nextL (l ++ z) = .is ws k := by
  unfold nextL at h
  split at h
  · rename_i hc
    obtain ⟨-, a, b, c, d⟩ := rowL_is h
    refine ⟨a, by omega, c, fun z => ?_⟩
    unfold nextL
    rw [show (l ++ z).head? = some 42 by rw [List.head?_append, hc]; rfl, if_pos rfl, d z]
  · rename_i hc
    obtain ⟨a, b, c, d⟩ := lineL_is h
    refine ⟨a, b, c, fun z => ?_⟩
    unfold nextL
    have hne : l ≠ [] := by rintro rfl; simp at c; omega
    rw [if_neg (by
      rw [List.head?_append]
      cases l with
      | nil => exact absurd rfl hne
      | cons x r => exact hc), d z]
theorem nextL_bad {l : List UInt8} (h : nextL l = .bad) (z : List UInt8) : nextL (l ++ z) = .bad := by
  unfold nextL at h
  split at h
  · rename_i hc
    unfold nextL
    rw [show (l ++ z).head? = some 42 by rw [List.head?_append, hc]; rfl, if_pos rfl, rowL_bad h z]
  · rename_i hc
    have hne : l ≠ [] := by rintro rfl; rw [lineL_nil] at h; cases h
    unfold nextL
    rw [if_neg (by
      rw [List.head?_append]
      cases l with
      | nil => exact absurd rfl hne
      | cons x r => exact hc), lineL_bad h z]

/-- All requests with words, one behind the other; what is left, and whether that is none. -/
inductive Reads : List UInt8 → List (List (List UInt8)) → List UInt8 → Bool → Prop
  | bad {l : List UInt8} (h : nextL l = .bad) : Reads l [] l true
  | part {l : List UInt8} (h : nextL l = .part) : Reads l [] l false
  | skip {l t : List UInt8} {k : Nat} {R : List (List (List UInt8))} {b : Bool} (h : nextL l = .is [] k) (hs : Reads (l.drop k) R t b) : Reads l R t b
  | some {l t : List UInt8} {w : List UInt8} {ws : List (List UInt8)} {k : Nat} {R : List (List (List UInt8))} {b : Bool} (h : nextL l = .is (w :: ws) k) (hs : Reads (l.drop k) R t b) : Reads l ((w :: ws) :: R) t b
theorem Reads.det {l t t' : List UInt8} {R R' : List (List (List UInt8))} {b b' : Bool} (h : Reads l R t b) (h' : Reads l R' t' b') : R = R' ∧ t = t' ∧ b = b' := by
  induction h generalizing R' t' b' with
  | bad h => cases h' with
    | bad _ => exact ⟨rfl, rfl, rfl⟩
    | part h2 => rw [h] at h2; cases h2
    | skip h2 _ => rw [h] at h2; cases h2
    | some h2 _ => rw [h] at h2; cases h2
  | part h => cases h' with
    | bad h2 => rw [h] at h2; cases h2
    | part _ => exact ⟨rfl, rfl, rfl⟩
    | skip h2 _ => rw [h] at h2; cases h2
    | some h2 _ => rw [h] at h2; cases h2
  | skip h hs ih => cases h' with
    | bad h2 => rw [h] at h2; cases h2
    | part h2 => rw [h] at h2; cases h2
    | skip h2 hs2 =>
      rw [h] at h2
      injection h2 with _ e
      subst e
      exact ih hs2
    | some h2 _ => rw [h] at h2; injection h2 with e; cases e
  | some h hs ih => cases h' with
    | bad h2 => rw [h] at h2; cases h2
    | part h2 => rw [h] at h2; cases h2
    | skip h2 _ => rw [h] at h2; injection h2 with e; cases e
    | some h2 hs2 =>
      rw [h] at h2
      injection h2 with e1 e
      injection e1 with e1 e2
      subst e e1 e2
      obtain ⟨a, b, c⟩ := ih hs2
      exact ⟨by rw [a], b, c⟩
theorem reads_all : ∀ (n : Nat) (l : List UInt8), l.length ≤ n → ∃ R t b, Reads l R t b
  | n, l, hl => by
    cases h : nextL l with
    | bad => exact ⟨_, _, _, Reads.bad h⟩
    | part => exact ⟨_, _, _, Reads.part h⟩
    | is ws k =>
      obtain ⟨-, h1, h2, -⟩ := nextL_is h
      match n with
      | 0 => omega
      | n + 1 =>
        obtain ⟨R, t, b, hr⟩ := reads_all n (l.drop k) (by rw [List.length_drop]; omega)
        cases ws with
        | nil => exact ⟨R, t, b, Reads.skip h hr⟩
        | cons w ws => exact ⟨_, t, b, Reads.some h hr⟩
theorem Reads.count {l t : List UInt8} {R : List (List (List UInt8))} {b : Bool} (h : Reads l R t b) : R.length + t.length ≤ l.length := by
  induction h with
  | bad h => simp
  | part h => simp
  | skip h hs ih =>
    obtain ⟨-, h1, h2, -⟩ := nextL_is h
    rw [List.length_drop] at ih
    omega
  | some h hs ih =>
    obtain ⟨-, h1, h2, -⟩ := nextL_is h
    rw [List.length_drop] at ih
    simp
    omega
/-- What was none stays none; what was not whole goes on. -/
theorem Reads.more_bad {l t : List UInt8} {R : List (List (List UInt8))} {b : Bool} (h : Reads l R t b) (hb : b = true) (z : List UInt8) : Reads (l ++ z) R (t ++ z) true := by
  induction h with
  | bad h => exact Reads.bad (nextL_bad h z)
  | part h => cases hb
  | skip h hs ih =>
    obtain ⟨-, h1, h2, h3⟩ := nextL_is h
    refine Reads.skip (h3 z) ?_
    rw [List.drop_append_of_le_length h2]
    exact ih hb
  | some h hs ih =>
    obtain ⟨-, h1, h2, h3⟩ := nextL_is h
    refine Reads.some (h3 z) ?_
    rw [List.drop_append_of_le_length h2]
    exact ih hb
theorem Reads.more {l t : List UInt8} {R : List (List (List UInt8))} {b : Bool} (h : Reads l R t b) (hb : b = false) {z t' : List UInt8} {R' : List (List (List UInt8))} {b' : Bool} (h' : Reads (t ++ z) R' t' b') : Reads (l ++ z) (R ++ R') t' b' := by
  induction h with
  | bad h => cases hb
  | part h => exact h'
  | skip h hs ih =>
    obtain ⟨-, h1, h2, h3⟩ := nextL_is h
    refine Reads.skip (h3 z) ?_
    rw [List.drop_append_of_le_length h2]
    exact ih hb h'
  | some h hs ih =>
    obtain ⟨-, h1, h2, h3⟩ := nextL_is h
    refine Reads.some (h3 z) ?_
    rw [List.drop_append_of_le_length h2]
    exact ih hb h'

end Go.Proofs.YtadffjmpkeaikaaDoor.FrameMath
