/-
  The bits of a category, as the machine's operations tell them.
-/
import Derived.Test.YtdhhiodnnnfioaaDoorTableMath2
import Derived.Laws.Bits64b
namespace Go.Proofs.YtdhhiodnnnfioaaDoor.TableMath
open Go.RowKit Kit
set_option linter.unusedVariables false
set_option maxRecDepth 100000

theorem big56 : (2 : Nat) ^ 56 = 72057594037927936 := by decide
theorem div_nat (m id : Nat) : (m : Int) / 2 ^ id = ((m / 2 ^ id : Nat) : Int) := by rw [Int.natCast_ediv, Int.natCast_pow]; rfl
theorem div_le' (m id : Nat) : m / 2 ^ id ≤ m := Nat.div_le_self _ _
theorem and1 (m id : Nat) (hm : m < 2 ^ 56) : bits .and .u64 ((m : Int) / 2 ^ id) 1 = ((bitN m id : Nat) : Int) := by
  rw [big56] at hm
  have h := div_le' m id
  rw [div_nat]
  have := bits_and_u64_nat (m / 2 ^ id) 1 (by omega) (by decide)
  rw [show ((1 : Nat) : Int) = 1 from rfl] at this
  rw [this, Nat.and_one_is_mod]
  rfl
theorem and2 (a b : Nat) (ha : a < 2 ^ 56) (hb : b < 2 ^ 56) : bits .and .u64 (a : Int) (b : Int) = ((a &&& b : Nat) : Int) := by
  rw [big56] at ha hb
  exact bits_and_u64_nat a b (by omega) (by omega)
theorem or2 (a b : Nat) (ha : a < 2 ^ 56) (hb : b < 2 ^ 56) : bits .or .u64 (a : Int) (b : Int) = ((a ||| b : Nat) : Int) ∧ a ||| b < 2 ^ 56 := by
  refine ⟨?_, Nat.or_lt_two_pow ha hb⟩
  rw [big56] at ha hb
  exact bits_or_u64_nat a b (by omega) (by omega)
theorem bitN_lt (m id : Nat) : bitN m id < 2 := Nat.mod_lt _ (by decide)

end Go.Proofs.YtdhhiodnnnfioaaDoor.TableMath
