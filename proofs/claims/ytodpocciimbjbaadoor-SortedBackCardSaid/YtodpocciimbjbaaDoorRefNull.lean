/-
  What the document's own way of telling no text comes to.
-/
import Derived.Test.YtodpocciimbjbaaDoorRefInt
namespace Go.Proofs.YtodpocciimbjbaaDoor.RefR
open Go.RowKit Kit BytesIn ReplyMath ReplyT NumMath
set_option linter.unusedVariables false
set_option maxRecDepth 100000

theorem rnull (w : World) : Calls Tryd.prog 14 #[] w (Gives null w) := by
  have hcv := run_const w
  go_enter Tryd.func14, Tryd.ntmps14
  go_wp2_with fail
  go_ret
  exact gives_lit w null _ _ (by decide)

end Go.Proofs.YtodpocciimbjbaaDoor.RefR
