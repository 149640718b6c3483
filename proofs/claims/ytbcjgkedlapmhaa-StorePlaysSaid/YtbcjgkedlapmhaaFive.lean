/-
  A value stored cell by cell into a block of its own.
-/
import Derived.Test.YtbcjgkedlapmhaaValRows
namespace Go.Proofs.Ytbcjgkedlapmhaa.ValT
open Go.RowKit Kit RowG
set_option linter.unusedVariables false
set_option maxRecDepth 100000

def five (W : World) (g : Nat) (y0 y1 y2 y3 y4 : Value) : World := ((((W.setCell ⟨g, 0, none⟩ y0).setCell ⟨g, 1, none⟩ y1).setCell ⟨g, 2, none⟩ y2).setCell ⟨g, 3, none⟩ y3).setCell ⟨g, 4, none⟩ y4
theorem val_five {W : World} {g : Nat} {x0 x1 x2 x3 x4 : Value} (h : W.heap[g]? = some (.cells #[x0, x1, x2, x3, x4] 35 (0, 0))) (y0 y1 y2 y3 y4 : Value) : (five W g y0 y1 y2 y3 y4).heap[g]? = some (.cells #[y0, y1, y2, y3, y4] 35 (0, 0)) := by
  have h1 := heap_setCell_same _ _ 0 _ _ y0 h
  have h2 := heap_setCell_same _ _ 1 _ _ y1 h1
  have h3 := heap_setCell_same _ _ 2 _ _ y2 h2
  have h4 := heap_setCell_same _ _ 3 _ _ y3 h3
  exact heap_setCell_same _ _ 4 _ _ y4 h4
theorem five_other (W : World) (g j : Nat) (y0 y1 y2 y3 y4 : Value) (h : j ≠ g) : (five W g y0 y1 y2 y3 y4).heap[j]? = W.heap[j]? := by
  unfold five
  rw [heap_setCell_other _ _ _ _ h, heap_setCell_other _ _ _ _ h, heap_setCell_other _ _ _ _ h, heap_setCell_other _ _ _ _ h, heap_setCell_other _ _ _ _ h]
theorem five_size (W : World) (g : Nat) (y0 y1 y2 y3 y4 : Value) : (five W g y0 y1 y2 y3 y4).heap.size = W.heap.size := by simp [five, World.setCell]
theorem five_below {B g : Nat} {w W : World} (h : Below B w W) (hg : B ≤ g) (y0 y1 y2 y3 y4 : Value) : Below B w (five W g y0 y1 y2 y3 y4) :=
  ((((h.setCell (p := ⟨g, 0, none⟩) hg y0).setCell (p := ⟨g, 1, none⟩) hg y1).setCell (p := ⟨g, 2, none⟩) hg y2).setCell (p := ⟨g, 3, none⟩) hg y3).setCell (p := ⟨g, 4, none⟩) hg y4

end Go.Proofs.Ytbcjgkedlapmhaa.ValT
