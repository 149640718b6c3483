/-
  Rows of numbers that were handed in.
-/
import Derived.Test.YtodpocciimbjbaaDoorKit
namespace Go.Proofs.YtodpocciimbjbaaDoor.IntT
open Go.RowKit Kit
set_option linter.unusedVariables false
set_option maxRecDepth 100000

/-- A row of numbers. -/
def Is (w : World) (q : Option Addr) (L : List Int) : Prop := 0 < L.length → ∃ b off, q = some ⟨b, off, none⟩ ∧ b < w.heap.size ∧ ∀ j (h : j < L.length), w.cell? ⟨b, off + j, none⟩ = some (.int .i64 L[j])
theorem Is.keep {w w' : World} {q : Option Addr} {L : List Int} (h : Is w q L) (hb : Below w.heap.size w w') : Is w' q L := by
  intro h0
  obtain ⟨b, off, hp, hlt, hc⟩ := h h0
  exact ⟨b, off, hp, Nat.lt_of_lt_of_le hlt hb.size, fun j hj => by rw [hb.cell (p := ⟨b, off + j, none⟩) hlt]; exact hc j hj⟩
theorem Is.at_ {w : World} {q : Option Addr} {L : List Int} (h : Is w q L) (k : Nat) (hk : k < L.length) : ∃ b off, q = some ⟨b, off, none⟩ ∧ b < w.heap.size ∧ w.cell? ⟨b, off + k, none⟩ = some (.int .i64 L[k]) := by
  obtain ⟨b, off, hp, hlt, hc⟩ := h (by omega)
  exact ⟨b, off, hp, hlt, hc k hk⟩

end Go.Proofs.YtodpocciimbjbaaDoor.IntT
