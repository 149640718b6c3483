/-
  SHA-256 over natural numbers, second part: how the end of the bytes is followed up. Plain mathematics.
-/
import Derived.Test.YtdhhiodnnnfioaaDoorShaMath
namespace Go.Proofs.YtdhhiodnnnfioaaDoor.ShaMath
open Go
set_option linter.unusedVariables false

theorem byte_left (l r : List UInt8) (j : Nat) (h : j < l.length) : byte (l ++ r) j = byte l j := by
  unfold byte
  rw [List.getD_eq_getElem?_getD, List.getD_eq_getElem?_getD, List.getElem?_append_left h]
theorem byte_right (l r : List UInt8) (j : Nat) (h : l.length ≤ j) : byte (l ++ r) j = byte r (j - l.length) := by
  unfold byte
  rw [List.getD_eq_getElem?_getD, List.getD_eq_getElem?_getD, List.getElem?_append_right h]
theorem byte_over (l : List UInt8) (j : Nat) (h : l.length ≤ j) : byte l j = 0 := by
  unfold byte
  rw [List.getD_eq_getElem?_getD, List.getElem?_eq_none h]
  rfl
theorem byte_zeros (n j : Nat) : byte (List.replicate n 0) j = 0 := by
  unfold byte
  rw [List.getD_eq_getElem?_getD, List.getElem?_replicate]
  split <;> rfl
theorem byte_one (c : UInt8) : byte [c] 0 = c.toNat := rfl
theorem byte_be8 (n i : Nat) (h : i < 8) : byte (be8 n) i = n / 2 ^ (8 * (7 - i)) % 256 := by
  unfold byte be8
  rw [List.getD_eq_getElem?_getD, List.getElem?_map, List.getElem?_range h]
  simp
theorem byte_drop (l : List UInt8) (k j : Nat) : byte (l.drop k) j = byte l (k + j) := by
  unfold byte
  rw [List.getD_eq_getElem?_getD, List.getD_eq_getElem?_getD, List.getElem?_drop]

/-- The last block, or the last two. -/
def fin (s : W8) (rest : List UInt8) (all : Nat) : W8 :=
  if rest.length < 56 then blk s (rest ++ [128] ++ List.replicate (55 - rest.length) 0 ++ be8 (8 * all))
  else blk (blk s (rest ++ [128])) (List.replicate 56 0 ++ be8 (8 * all))
theorem fin_short {s : W8} {rest : List UInt8} {all : Nat} (h : rest.length < 56) : fin s rest all = blk s (rest ++ [128] ++ List.replicate (55 - rest.length) 0 ++ be8 (8 * all)) := if_pos h
theorem fin_long {s : W8} {rest : List UInt8} {all : Nat} (h : ¬ rest.length < 56) : fin s rest all = blk (blk s (rest ++ [128])) (List.replicate 56 0 ++ be8 (8 * all)) := if_neg h

theorem after_succ (l : List UInt8) (k : Nat) : after l (k + 1) = blk (after l k) (l.drop (64 * k)) := by rw [after]
theorem padded_drop (l : List UInt8) (k : Nat) (h : 64 * k ≤ l.length) : (padded l).drop (64 * k) = l.drop (64 * k) ++ [128] ++ List.replicate (gap l.length) 0 ++ be8 (8 * l.length) := by
  unfold padded
  rw [List.append_assoc, List.append_assoc, List.drop_append_of_le_length h, List.append_assoc, List.append_assoc]
/-- A whole block of the bytes themselves. -/
theorem after_whole (l : List UInt8) (k : Nat) (h : 64 * k + 64 ≤ l.length) : blk (after (padded l) k) (l.drop (64 * k)) = after (padded l) (k + 1) := by
  rw [after_succ, padded_drop l k (by omega)]
  apply blk_same
  intro j hj
  rw [List.append_assoc, List.append_assoc, byte_left _ _ _ (by rw [List.length_drop]; omega)]
theorem sum_fin (l : List UInt8) (k : Nat) (h : 64 * k ≤ l.length) (h' : l.length < 64 * k + 64) : fin (after (padded l) k) (l.drop (64 * k)) l.length = sumW l := by
  have hd : (l.drop (64 * k)).length = l.length - 64 * k := List.length_drop
  unfold sumW
  rw [padded_length]
  by_cases hs : l.length - 64 * k < 56
  · have hg : gap l.length = 55 - (l.length - 64 * k) := by unfold gap; omega
    rw [fin_short (by rw [hd]; exact hs), show (l.length + 9 + gap l.length) / 64 = k + 1 by omega, after_succ, padded_drop l k h, hg, hd]
  · have hg : gap l.length = 119 - (l.length - 64 * k) := by unfold gap; omega
    rw [fin_long (by rw [hd]; exact hs), show (l.length + 9 + gap l.length) / 64 = k + 1 + 1 by omega, after_succ, after_succ]
    have e1 : blk (after (padded l) k) (l.drop (64 * k) ++ [128]) = blk (after (padded l) k) ((padded l).drop (64 * k)) := by
      rw [padded_drop l k h]
      apply blk_same
      intro j hj
      rw [List.append_assoc (l.drop (64 * k) ++ [128])]
      by_cases hj2 : j < (l.drop (64 * k) ++ [128]).length
      · rw [byte_left _ _ _ hj2]
      · rw [byte_over _ _ (by omega), byte_right _ _ _ (by omega), byte_left _ _ _ (by rw [List.length_replicate, List.length_append, hd, hg]; simp; omega), byte_zeros]
    rw [e1]
    congr 1
    have e2 : (padded l).drop (64 * (k + 1)) = ((padded l).drop (64 * k)).drop 64 := by rw [List.drop_drop]; congr 1
    rw [e2, padded_drop l k h]
    have e3 : l.drop (64 * k) ++ [128] ++ List.replicate (gap l.length) 0 = (l.drop (64 * k) ++ [128] ++ List.replicate (63 - (l.length - 64 * k)) 0) ++ List.replicate 56 0 := by
      rw [List.append_assoc _ (List.replicate (63 - (l.length - 64 * k)) 0), List.replicate_append_replicate]
      congr 2
      omega
    rw [e3, List.append_assoc, List.drop_append_of_le_length (by simp [hd]; omega), List.drop_of_length_le (by simp [hd]; omega)]
    rfl

/-- The last block's bytes, told by the place. -/
def endAt (f : Nat → Nat) (all : Nat) (j : Nat) : Nat := if 56 ≤ j then 8 * all / 2 ^ (8 * (63 - j)) % 256 else f j
theorem end_short (rest : List UInt8) (all j : Nat) (h : rest.length < 56) (hj : j < 64) : endAt (byte (rest ++ [128])) all j = byte (rest ++ [128] ++ List.replicate (55 - rest.length) 0 ++ be8 (8 * all)) j := by
  unfold endAt
  by_cases h56 : 56 ≤ j
  · rw [if_pos h56, byte_right _ _ _ (by simp; omega), byte_be8 _ _ (by simp; omega)]
    congr 3
    simp
    omega
  · rw [if_neg h56, byte_left (rest ++ [128] ++ List.replicate (55 - rest.length) 0) (be8 (8 * all)) j (by simp; omega)]
    by_cases hl : j < rest.length + 1
    · rw [byte_left (rest ++ [128]) (List.replicate (55 - rest.length) 0) j (by simp; omega)]
    · rw [byte_right (rest ++ [128]) (List.replicate (55 - rest.length) 0) j (by simp; omega), byte_zeros, byte_over _ _ (by simp; omega)]
theorem end_long (all j : Nat) (hj : j < 64) : endAt (fun _ => 0) all j = byte (List.replicate 56 0 ++ be8 (8 * all)) j := by
  unfold endAt
  by_cases h56 : 56 ≤ j
  · rw [if_pos h56, byte_right _ _ _ (by simp; omega), byte_be8 _ _ (by simp; omega)]
    congr 3
    simp
    omega
  · rw [if_neg h56, byte_left (List.replicate 56 0) (be8 (8 * all)) j (by simp; omega), byte_zeros]
theorem snoc_at (rest : List UInt8) (j : Nat) : (if j = rest.length then 128 else byte rest j) = byte (rest ++ [128]) j := by
  by_cases h : j < rest.length
  · rw [if_neg (by omega), byte_left _ _ _ h]
  · by_cases e : j = rest.length
    · subst e
      rw [if_pos rfl, byte_right _ _ _ (Nat.le_refl _), Nat.sub_self]
      rfl
    · rw [if_neg e, byte_over _ _ (by omega), byte_over _ _ (by simp; omega)]

end Go.Proofs.YtdhhiodnnnfioaaDoor.ShaMath
