/-
  Rows of small numbers that were handed in.
-/
import Derived.Test.YtbcjgkedlapmhaaKit
namespace Go.Proofs.Ytbcjgkedlapmhaa.StoL
open Go.RowKit Kit
set_option linter.unusedVariables false
set_option maxRecDepth 100000

/-- A row of small numbers. -/
def Us (w : World) (q : Option Addr) (L : List Int) : Prop := 0 < L.length → ∃ b off, q = some ⟨b, off, none⟩ ∧ b < w.heap.size ∧ ∀ j (h : j < L.length), w.cell? ⟨b, off + j, none⟩ = some (.int .u16 L[j])
theorem Us.keep {w w' : World} {q : Option Addr} {L : List Int} (h : Us w q L) (hb : Below w.heap.size w w') : Us w' q L := by
  intro h0
  obtain ⟨b, off, hp, hlt, hc⟩ := h h0
  exact ⟨b, off, hp, Nat.lt_of_lt_of_le hlt hb.size, fun j hj => by rw [hb.cell (p := ⟨b, off + j, none⟩) hlt]; exact hc j hj⟩
theorem Us.at_ {w : World} {q : Option Addr} {L : List Int} (h : Us w q L) (k : Nat) (hk : k < L.length) : ∃ b off, q = some ⟨b, off, none⟩ ∧ b < w.heap.size ∧ w.cell? ⟨b, off + k, none⟩ = some (.int .u16 L[k]) := by
  obtain ⟨b, off, hp, hlt, hc⟩ := h (by omega)
  exact ⟨b, off, hp, hlt, hc k hk⟩

end Go.Proofs.Ytbcjgkedlapmhaa.StoL
