/-
  The landed row of commands in memory, and a row of it.
-/
import Derived.Test.YtdhhiodnnnfioaaDoorTableRows
namespace Go.Proofs.YtdhhiodnnnfioaaDoor.TableM
open Go.RowKit Kit TableMath
set_option linter.unusedVariables false
set_option maxRecDepth 100000

theorem tab_new (w : World) : Tab (w.alloc (.cells rowsC 80)) w.heap.size := ⟨by simp, fun j hj => by
  rw [cell_of_row _ _ _ _ 80 _ (heap_alloc_last w _)]
  simp [rowsC]⟩
theorem tab_set (w : World) (Z : Array Value) : Tab ((w.alloc (.cells Z 80)).setRow w.heap.size rowsC) w.heap.size := ⟨by simp, fun j hj => by
  rw [cell_of_row _ _ _ _ 80 _ (setRow_heap _ w.heap.size _ _ _ _ (heap_alloc_last w _))]
  simp [rowsC]⟩
theorem row_size3 : (Tryd.prog.info? 79).map (·.size) = some 3 := by kernel_rfl
theorem row_agg (w : World) : (isAgg 79).run Tryd.prog w = .ok true w := by
  simp [isAgg, run_underlying Tryd.underlying79]
theorem row_sz (w : World) : (sizeOf 79).run Tryd.prog w = .ok 3 w := by
  have h := row_size3
  cases hi : Tryd.prog.info? 79 with
  | none => rw [hi] at h; cases h
  | some i =>
    rw [hi] at h
    simp [sizeOf, typeInfo, hi]
    simpa using h
theorem rowsC_cut (k : Nat) (hk : k < 56) : rowsC.extract (k * 3) (k * 3 + 3) = #[.string ⟨(cmdAt k).name.toArray⟩, .int .i64 (cmdAt k).ar, .int .u16 ((cmdAt k).ct : Int)] := by
  have hs := rowsC_size
  have hf : ∀ d, d < 3 → rowsC[k * 3 + d]? = (cmdV (cmdAt k))[d]? := fun d hd => by
    rw [show rowsC[k * 3 + d]? = (flatV cmds)[k * 3 + d]? by simp [rowsC], Nat.mul_comm k 3, flatV_at cmds k (by rw [cmds_len]; exact hk) d hd, cmdAt_get k hk]
  apply Array.ext_getElem?
  intro j
  by_cases hj : j < 3
  · rw [Array.getElem?_extract, if_pos (by rw [hs]; omega), hf j hj]
    match j, hj with
    | 0, _ => rfl
    | 1, _ => rfl
    | 2, _ => rfl
  · rw [Array.getElem?_eq_none (by rw [Array.size_extract, hs]; omega), Array.getElem?_eq_none (by show 3 ≤ j; omega)]
/-- A row of it. -/
theorem idx_row (k : Nat) (hk : k < 56) (w : World) : (Instr.index 80 (.agg rowsC) (.int .i64 (k : Int))).run Tryd.prog w = .ok (.agg #[.string ⟨(cmdAt k).name.toArray⟩, .int .i64 (cmdAt k).ar, .int .u16 ((cmdAt k).ct : Int)]) w := by
  have hc := rowsC_cut k hk
  generalize rowsC = C at hc
  simp [Instr.index, run_underlying Tryd.underlying80, asIntOf, part, hk, hc, go_sem]

end Go.Proofs.YtdhhiodnnnfioaaDoor.TableM
