/-
  Small words for walks over rows of values.
-/
import Derived.Test.YteadjcligmmkmaaDoorValRows
import Derived.Lib.QuietBelow
import Derived.BigQuiet
import Derived.Deep.QuietTactic
import Derived.StillTailTactics
namespace Go.Proofs.YteadjcligmmkmaaDoor.RefV
open Go.RowKit Kit StrT RowG BOrd ValT
open Go.Op (bytesLess)
set_option linter.unusedVariables false
set_option maxRecDepth 100000

theorem drewN_below {B : Nat} {a w : World} (h : Below B a w) (q : Nat) : Below B a (w.drewN q) := h.trans ⟨rfl, rfl, rfl, Nat.le_refl _, fun _ _ => rfl⟩
theorem ss_at {w : World} {q : Option Addr} {L : List (List UInt8)} (h : Ss w q L) (k : Nat) (hk : k < L.length) : ∃ b off, q = some ⟨b, off, none⟩ ∧ b < w.heap.size ∧ w.cell? ⟨b, off + k, none⟩ = some (.string ⟨L[k].toArray⟩) := by
  obtain ⟨b, off, hp, hlt, hc⟩ := h (by omega)
  exact ⟨b, off, hp, hlt, hc k hk⟩

def TextsA (L : List (List UInt8)) (w : World) (e : Ending) (w' : World) : Prop := ∃ v, e = .returned v ∧ AnsR strE w.heap.size w' v L ∧ Below w.heap.size w w'

end Go.Proofs.YteadjcligmmkmaaDoor.RefV
