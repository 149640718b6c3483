/-
  Rows of one's own that are changed record by record; a copy of a value.
-/
import Derived.Test.YteadjcligmmkmaaDoorRefVal0
import Derived.Test.YteadjcligmmkmaaDoorValRows
import Derived.Test.YteadjcligmmkmaaDoorOwnB
namespace Go.Proofs.YteadjcligmmkmaaDoor.ValT
open Go.RowKit Kit StrT RowG BOrd RefV
set_option linter.unusedVariables false
set_option maxRecDepth 100000

/-- A copy of a value. -/
def OwnP (d : V) (w : World) (e : Ending) (w' : World) : Prop :=
  ∃ S vl vh vz, e = .returned (.agg #[.int .u8 (d.kind : Int), .string S, vl, vh, vz]) ∧ S.data.toList = d.s ∧ RowO strE w.heap.size w' vl d.l ∧ RowO prE w.heap.size w' vh d.h ∧ RowO mkE w.heap.size w' vz d.z ∧ Below w.heap.size w w'

end Go.Proofs.YteadjcligmmkmaaDoor.ValT
