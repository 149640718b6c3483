/-
  Packed by program.
-/
import Derived.Test.YtpoinibckmbfcaaGreatDoorPk15
namespace Go.Proofs.YtpoinibckmbfcaaGreatDoor.RuleM
open Go.RowKit Kit RuleT RefRule
set_option linter.unusedVariables false
structure Gw (w : World) : Prop where
 n : NumL.Gd w
 m : MacT.Mx w
theorem Gw.keep {w w' : World} (h : Gw w) (hb : Below w.heap.size w w') : Gw w' := ⟨h.n.keep hb,h.m.keep hb⟩
end Go.Proofs.YtpoinibckmbfcaaGreatDoor.RuleM
