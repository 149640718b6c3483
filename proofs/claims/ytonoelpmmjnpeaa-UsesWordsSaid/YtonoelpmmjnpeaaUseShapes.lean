/-
  The landed code of layer 8: the map from a command's name to where its keys and channels stand.
-/
import Derived.Test.YtonoelpmmjnpeaaUseKind
import Derived.Deep.DeepCutAuto
namespace Go.Proofs.Ytonoelpmmjnpeaa.UseM
open Go.RowKit Kit StrT UseT TableMath Low MapT RefU
set_option linter.unusedVariables false
set_option maxRecDepth 100000

set_option maxHeartbeats 8000000 in
theorem shapes_any (w : World) : Calls Try.prog 27 #[] w fun e w' => e = .returned (.map (some w.heap.size)) ∧ MapAt w' w.heap.size shapesL ∧ Below w.heap.size w w' := by
  have hmm := @run_makeMap Try.prog
  have hM : MapAt (w.alloc (.map #[] 0)) w.heap.size (shapesL.take 0) := MapAt.new w
  have hB : Below w.heap.size w (w.alloc (.map #[] 0)) := bel1 w _
  go_enter Try.func27, Try.ntmps27
  go_upto_region 1 with fail
  apply wp_region_lit
  simp only [List.append_eq, List.cons_append, List.nil_append]
  go_wp2_with (with_reducible refine wpList_insert_lit rfl 53 (.tmp 1) _ _ rfl 9 52 Try.underlying53 Try.underlying9 w.heap.size w.heap.size rfl shapesL _ hM shapes_nodup hB (Nat.le_refl _) (by kernel_rfl) ?_; clear hM hB; intro w1 hM hB)
  go_ret
  exact ⟨rfl, hM, hB⟩

end Go.Proofs.Ytonoelpmmjnpeaa.UseM
