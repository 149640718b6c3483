/-
  The row of commands, as the landed code of layer 7 makes it: an array by value.
-/
import Derived.Test.YtdhhiodnnnfioaaDoorRefTabs
namespace Go.Proofs.YtdhhiodnnnfioaaDoor.TableM
open Go.RowKit Kit TableMath
set_option linter.unusedVariables false
set_option maxRecDepth 100000

theorem wpList_buildC {P : Program} {ops : Array Oper} {rest : List Oper} {o : Oper} {a : Act} {w : World} {Q : Exit → Act → World → Prop} (hgd : o.guard = none) (t : TypeId) (parts : Array (Nat × Operand)) (ho : o.op = .build t parts)
    (cells : Array Value) (hc : P.built t (parts.map fun (i, x) => (i, a.eval x)).toList = some cells) (h : wpList P ops Q rest (a.put o.dst (.agg cells)) w) : wpList P ops Q (o :: rest) a w :=
  wpList_plain hgd fun _ hK => wp_build t parts ho (by rw [hc]; rfl) (by rw [hc]; exact hK _ _ h)

def rowsC : Array Value := (flatV cmds).toArray
/-- An array of nothing. -/
def rows0 : Array Value := (List.replicate 56 [.string ByteArray.empty, .int .i64 0, .int .u16 0]).flatten.toArray
theorem rows_info : (Tryd.prog.info? 80).map (fun i => (i.zero, i.size)) = some (some (.agg rows0), 168) := by kernel_rfl
theorem rowsC_size : rowsC.size = 168 := by decide +kernel
theorem rowsC_one : rowsC.all (·.oneCell') = true := by decide +kernel
set_option maxHeartbeats 4000000 in
theorem rows_any (w : World) : Calls Tryd.prog 54 #[] w fun e w' => e = .returned (.agg rowsC) ∧ Below w.heap.size w w' := by
  have hv := (zero_of_info rows_info).1
  have HI := Lib.hid (zero_of_info rows_info).2
  have hz := rowsC_size
  have hz0 : rows0.size = 168 := by decide +kernel
  generalize rows0 = Z at hv hz0
  have HW := Lib.hid (Kit.below1 w (.cells Z 80))
  go_enter Tryd.func54, Tryd.ntmps54
  go_wp2_with (first | (with_reducible refine wpList_buildC rfl 80 _ rfl rowsC (by kernel_rfl) ?_) | (with_reducible refine wpList_store_row rfl 80 (.tmp 0) (.tmp 57) rfl w.heap.size rowsC rfl rfl 80 _ (heap_alloc_last _ _) (by rw [HI.out, hz]) (by rw [hz, hz0]) rowsC_one ?_))
  exact bodyPost_ret (results_cell_row rfl _ _ w.heap.size 80 rowsC (0, 0) _ rfl (setRow_heap _ w.heap.size _ _ _ _ (heap_alloc_last _ _)) Tryd.underlying80 rfl (by rw [HI.out, hz])) rfl ⟨rfl, below_setRow HW.out (Nat.le_refl _) _⟩

end Go.Proofs.YtdhhiodnnnfioaaDoor.TableM
