/-
  What num.Add comes to.
-/
import Derived.Test.YtodpocciimbjbaaDoorChecked
import Derived.Test.YtodpocciimbjbaaDoorKit
import Derived.BigQuiet
import Derived.Deep.QuietTactic
import Derived.Lib.Hide
namespace Go.Proofs.YtodpocciimbjbaaDoor.NumW
open Go.RowKit Kit
set_option maxRecDepth 100000

/-- An int of 64 bits. -/
def inI (n : Int) : Prop := -9223372036854775808 ≤ n ∧ n ≤ 9223372036854775807
/-- num.Add. -/
def addV (a b : Int) : Int := if -9223372036854775808 ≤ a + b ∧ a + b ≤ 9223372036854775807 then a + b else 0
def addB (a b : Int) : Bool := decide (-9223372036854775808 ≤ a + b ∧ a + b ≤ 9223372036854775807)
theorem add_yes {a b : Int} (h : -9223372036854775808 ≤ a + b ∧ a + b ≤ 9223372036854775807) : addV a b = a + b ∧ addB a b = true := by
  simp only [addV, addB, if_pos h, decide_eq_true h, and_self]
theorem add_no {a b : Int} (h : ¬ (-9223372036854775808 ≤ a + b ∧ a + b ≤ 9223372036854775807)) : addV a b = 0 ∧ addB a b = false := by
  simp only [addV, addB, if_neg h, decide_eq_false h, and_self]

theorem add_any (a b : Int) (w : World) (ha0 : -9223372036854775808 ≤ a) (ha1 : a ≤ 9223372036854775807) (hb0 : -9223372036854775808 ≤ b) (hb1 : b ≤ 9223372036854775807) :
    Calls Tryd.prog 52 #[.int .i64 a, .int .i64 b] w fun e w' => e = .returned (.tuple #[.int .i64 (addV a b), .bool (addB a b)]) ∧ w = w' := by
  by_cases h0 : -9223372036854775808 ≤ a + b
  · by_cases h1 : a + b ≤ 9223372036854775807
    · have H := Lib.hid (add_yes ⟨h0, h1⟩)
      rcases Int.lt_trichotomy b 0 with hb | rfl | hb
      · go_enter Tryd.func52, Tryd.ntmps52
        go_wp2
        go_ret2
        exact ⟨ret_ib H.out.1.symm H.out.2.symm, rfl⟩
      · go_enter Tryd.func52, Tryd.ntmps52
        go_wp2
        go_ret2
        exact ⟨ret_ib (by rw [H.out.1]; omega) H.out.2.symm, rfl⟩
      · go_enter Tryd.func52, Tryd.ntmps52
        go_wp2
        go_ret2
        exact ⟨ret_ib H.out.1.symm H.out.2.symm, rfl⟩
    · have H := Lib.hid (add_no (a := a) (b := b) (by omega))
      have hb : 0 < b := by omega
      have hw : wrap64 (a + b) < a := by unfold wrap64; omega
      clear h0 h1
      go_enter Tryd.func52, Tryd.ntmps52
      go_wp2
      go_ret2
      exact ⟨ret_ib H.out.1.symm H.out.2.symm, rfl⟩
  · have H := Lib.hid (add_no (a := a) (b := b) (by omega))
    have hb : b < 0 := by omega
    have hw : a < wrap64 (a + b) := by unfold wrap64; omega
    clear h0
    go_enter Tryd.func52, Tryd.ntmps52
    go_wp2
    go_ret2
    exact ⟨ret_ib H.out.1.symm H.out.2.symm, rfl⟩

end Go.Proofs.YtodpocciimbjbaaDoor.NumW
