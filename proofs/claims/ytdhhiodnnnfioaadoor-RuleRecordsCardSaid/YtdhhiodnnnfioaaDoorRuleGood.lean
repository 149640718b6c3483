/-
  What rule.Parse asks of the world.
-/
import Derived.Test.YtdhhiodnnnfioaaDoorRefRules
import Derived.Test.YtdhhiodnnnfioaaDoorMacPures
namespace Go.Proofs.YtdhhiodnnnfioaaDoor.RuleM
open Go.RowKit Kit RuleT RefRule
set_option linter.unusedVariables false

/-- What rule.Parse asks of the world: what mac.Right does. -/
structure Gw (w : World) : Prop where
  n : NumL.Gd w
  m : MacT.Mx w
theorem Gw.keep {w w' : World} (h : Gw w) (hb : Below w.heap.size w w') : Gw w' := ⟨h.n.keep hb, h.m.keep hb⟩

end Go.Proofs.YtdhhiodnnnfioaaDoor.RuleM
