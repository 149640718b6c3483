/-
  Big letters made small: pure.
-/
import Derived.Test.YtdhhiodnnnfioaaDoorKit
namespace Go.Proofs.YtdhhiodnnnfioaaDoor.Low
open Go.RowKit Kit
set_option linter.unusedVariables false
set_option maxRecDepth 100000

def lowByte (c : UInt8) : UInt8 := if 65 ≤ c.toNat ∧ c.toNat ≤ 90 then c + 32 else c
def lowL (l : List UInt8) : List UInt8 := l.map lowByte
def mixL (k : Nat) (l : List UInt8) : List UInt8 := lowL (l.take k) ++ l.drop k
theorem mixL_length (k : Nat) (l : List UInt8) : (mixL k l).length = l.length := by simp [mixL, lowL]; omega
theorem mixL_at (k : Nat) (l : List UInt8) (h : k < l.length) : (mixL k l)[k]'(by rw [mixL_length]; exact h) = l[k] := by
  unfold mixL lowL
  rw [List.getElem_append_right (by simp; omega)]
  simp [Nat.min_eq_left (Nat.le_of_lt h)]
theorem mixL_set (k : Nat) (l : List UInt8) (h : k < l.length) : (mixL k l).set k (lowByte l[k]) = mixL (k + 1) l := by
  unfold mixL lowL
  have e : (List.map lowByte (List.take k l)).length = k := by simp; omega
  rw [List.set_append_right _ _ (by omega), e, Nat.sub_self, List.drop_eq_getElem_cons h, List.set_cons_zero, List.take_succ_eq_append_getElem h, List.map_append]
  simp
theorem mixL_same (k : Nat) (l : List UInt8) (h : k < l.length) (hn : lowByte l[k] = l[k]) : mixL (k + 1) l = mixL k l := by
  rw [← mixL_set k l h, hn, ← mixL_at k l h, List.set_getElem_self]
theorem mixL_all (k : Nat) (l : List UInt8) (h : ¬ k < l.length) : mixL k l = lowL l := by
  unfold mixL
  rw [List.take_of_length_le (by omega), List.drop_eq_nil_of_le (by omega), List.append_nil]
theorem low_up {c : UInt8} (h1 : 65 ≤ c.toNat) (h2 : c.toNat ≤ 90) : ((lowByte c).toNat : Int) = (c.toNat : Int) + 97 - 65 := by
  unfold lowByte
  rw [if_pos ⟨h1, h2⟩, UInt8.toNat_add]
  have : (32 : UInt8).toNat = 32 := rfl
  omega
theorem low_not {c : UInt8} (h : ¬ (65 ≤ c.toNat ∧ c.toNat ≤ 90)) : lowByte c = c := if_neg h

theorem lowL_len (l : List UInt8) : (lowL l).length = l.length := by simp [lowL]
theorem lowByte_low (c : UInt8) : lowByte (lowByte c) = lowByte c := by
  unfold lowByte
  by_cases h : 65 ≤ c.toNat ∧ c.toNat ≤ 90
  · rw [if_pos h]
    refine if_neg fun h2 => ?_
    have : (c + 32).toNat = c.toNat + 32 := by
      rw [UInt8.toNat_add]
      have : (32 : UInt8).toNat = 32 := rfl
      omega
    omega
  · rw [if_neg h, if_neg h]
theorem lowL_low (l : List UInt8) : lowL (lowL l) = lowL l := by
  unfold lowL
  rw [List.map_map]
  exact List.map_congr_left fun c _ => lowByte_low c

end Go.Proofs.YtdhhiodnnnfioaaDoor.Low
