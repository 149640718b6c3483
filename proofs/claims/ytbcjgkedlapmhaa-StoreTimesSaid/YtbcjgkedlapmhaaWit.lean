/-
  A world for the witnesses: the settled one, the listed variables holding what their initialisers lay. Written by program.
-/
import Derived.Test.YtbcjgkedlapmhaaRows
import Derived.ProofKit
import Derived.Deep.DeepHandedRow
import Derived.Lib.LaidTab
import Derived.Stop.LaidErr
namespace Go.Proofs.Ytbcjgkedlapmhaa.Wit
open Go
theorem own : ownKnob Try.prog.godebug = none := by kernel_rfl
theorem laidOut : laidOutB Try.prog = true := by kernel_rfl
noncomputable def low : Nat := (World.holding Try.prog default ⟨#[], #[], []⟩).heap.size
noncomputable def laidWorld (os : Os) : World :=
  let w0 := World.holding Try.prog os ⟨#[], #[], []⟩
  { w0 with heap := w0.heap }
end Go.Proofs.Ytbcjgkedlapmhaa.Wit
