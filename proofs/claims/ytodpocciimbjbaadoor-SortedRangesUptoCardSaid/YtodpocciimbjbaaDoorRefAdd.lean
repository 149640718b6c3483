/-
  What the document's own Add of layer 1 comes to.
-/
import Derived.Test.YtodpocciimbjbaaDoorNumAdd
import Derived.Test.YtodpocciimbjbaaDoorKit
import Derived.Lib.Hide
import Derived.BigQuiet
import Derived.Deep.QuietTactic
namespace Go.Proofs.YtodpocciimbjbaaDoor.Ref01
set_option linter.unusedVariables false
set_option maxRecDepth 100000
open Go.RowKit Kit NumW

set_option maxHeartbeats 1000000 in
theorem add_ref (a b : Int) (w : World) (ha0 : -9223372036854775808 ≤ a) (ha1 : a ≤ 9223372036854775807) (hb0 : -9223372036854775808 ≤ b) (hb1 : b ≤ 9223372036854775807) :
    Calls Tryd.prog 16 #[.int .i64 a, .int .i64 b] w fun e w' => e = .returned (.tuple #[.int .i64 (addV a b), .bool (addB a b)]) ∧ w = w' := by
  by_cases sa : a < 0
  · have da : decide (a < 0) = true := decide_eq_true sa
    by_cases sb : b < 0
    · have db : decide (b < 0) = true := decide_eq_true sb
      by_cases h : -9223372036854775808 ≤ a + b
      · have H := Lib.hid (add_yes (a := a) (b := b) (by omega))
        have ds : decide (a + b < 0) = true := decide_eq_true (by omega)
        go_enter Tryd.func16, Tryd.ntmps16
        go_wp2
        go_ret2
        exact ⟨ret_ib H.out.1.symm H.out.2.symm, rfl⟩
      · have H := Lib.hid (add_no (a := a) (b := b) (by omega))
        have ds : decide (wrap64 (a + b) < 0) = false := decide_eq_false (by unfold wrap64; omega)
        clear h
        go_enter Tryd.func16, Tryd.ntmps16
        go_wp2
        go_ret2
        exact ⟨ret_ib H.out.1.symm H.out.2.symm, rfl⟩
    · have db : decide (b < 0) = false := decide_eq_false sb
      have H := Lib.hid (add_yes (a := a) (b := b) (by omega))
      go_enter Tryd.func16, Tryd.ntmps16
      go_wp2
      go_ret2
      exact ⟨ret_ib H.out.1.symm H.out.2.symm, rfl⟩
  · have da : decide (a < 0) = false := decide_eq_false sa
    by_cases sb : b < 0
    · have db : decide (b < 0) = true := decide_eq_true sb
      have H := Lib.hid (add_yes (a := a) (b := b) (by omega))
      go_enter Tryd.func16, Tryd.ntmps16
      go_wp2
      go_ret2
      exact ⟨ret_ib H.out.1.symm H.out.2.symm, rfl⟩
    · have db : decide (b < 0) = false := decide_eq_false sb
      by_cases h : a + b ≤ 9223372036854775807
      · have H := Lib.hid (add_yes (a := a) (b := b) (by omega))
        have ds : decide (a + b < 0) = false := decide_eq_false (by omega)
        go_enter Tryd.func16, Tryd.ntmps16
        go_wp2
        go_ret2
        exact ⟨ret_ib H.out.1.symm H.out.2.symm, rfl⟩
      · have H := Lib.hid (add_no (a := a) (b := b) (by omega))
        have ds : decide (wrap64 (a + b) < 0) = true := decide_eq_true (by unfold wrap64; omega)
        clear h
        go_enter Tryd.func16, Tryd.ntmps16
        go_wp2
        go_ret2
        exact ⟨ret_ib H.out.1.symm H.out.2.symm, rfl⟩


end Go.Proofs.YtodpocciimbjbaaDoor.Ref01
