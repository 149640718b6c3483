/-
  A row of bytes that came in, for layers that do not stand on sha; a literal of one byte as a text.
-/
import Derived.Test.YtdhhiodnnnfioaaDoorChecked
import Derived.Test.YtdhhiodnnnfioaaDoorKit
import Derived.Laws.Rows
import Derived.Deep.WholeRow
import Derived.Lib.Builder
namespace Go.Proofs.YtdhhiodnnnfioaaDoor.BytesIn
open Go.RowKit Kit
set_option linter.unusedVariables false
set_option maxRecDepth 100000

def Bs (w : World) (p : Option Addr) (l : List UInt8) : Prop :=
  0 < l.length → ∃ b off, p = some ⟨b, off, none⟩ ∧ b < w.heap.size ∧ ∀ j (h : j < l.length), w.cell? ⟨b, off + j, none⟩ = some (.int .u8 (l[j].toNat : Int))
theorem Bs.keep {w w' : World} {p : Option Addr} {l : List UInt8} (h : Bs w p l) (hb : Below w.heap.size w w') : Bs w' p l := by
  intro h0
  obtain ⟨b, off, hp, hlt, hc⟩ := h h0
  exact ⟨b, off, hp, Nat.lt_of_lt_of_le hlt hb.size, fun j hj => by rw [hb.cell (p := ⟨b, off + j, none⟩) hlt]; exact hc j hj⟩
theorem row_one (W : World) (x : UInt8) (t : TypeId) : Row8 (W.alloc (.cells #[.int .u8 (x.toNat : Int)] t)) W.heap.size [x] := by
  intro j hj
  have hh := heap_alloc_last W (.cells #[.int .u8 (x.toNat : Int)] t)
  match j, hj with
  | 0, _ => exact ⟨by rw [cell_of_row _ _ _ _ _ _ hh]; rfl, Go.Lib.frozen_of_heap hh 0⟩
  | j + 1, hj => simp at hj
theorem one_string (W : World) (x : UInt8) : (convert 40 9 (.slice (some ⟨W.heap.size, 0, none⟩) 1 1)).run Tryd.prog (W.alloc (.cells #[.int .u8 (x.toNat : Int)] 5)) = .ok (.string ⟨#[x]⟩) (W.alloc (.cells #[.int .u8 (x.toNat : Int)] 5)) :=
  run_row_string (P := Tryd.prog) _ 40 5 9 Tryd.underlying40 Tryd.underlying5 Tryd.underlying9 W.heap.size [x] (row_one W x _) 1 1 rfl

end Go.Proofs.YtdhhiodnnnfioaaDoor.BytesIn
