/-
  From the statements' reading of rows of numbers to what a walk asks.
-/
import Derived.Test.YtodpocciimbjbaaDoorIntRow
import Derived.Test.YtodpocciimbjbaaDoorChecked
import Derived.ProofKit
import Derived.OpenShut
import Derived.SizedLaws
import Derived.ChangeArms
namespace Go.Proofs.YtodpocciimbjbaaDoor.IntT
open Go.RowKit Kit
open Go.ChangeShapes Go.WideShapes
set_option linter.unusedVariables false
set_option maxRecDepth 100000

section
variable {H : Type} {enc : TypeId × Value → H} {W : World} {base : Nat} {v : Value} {d : DataW H} {p : List MemPlace}
theorem c_i : Tryd.prog.cellsOf 3 = 1 := by kernel_rfl
theorem open_i (hval : Value.okWide Tryd.prog W .any base 34 v) (h : DataW.Trod enc Tryd.prog W 0 (fun _ => true) true 34 v d p) :
    ∃ (a : Option Addr) (L : List Int) (cap : Nat), v = .slice a L.length cap ∧ Is W a L ∧ L.length ≤ cap ∧ cap ≤ 9223372036854775807 ∧ ∀ x ∈ L, -9223372036854775808 ≤ x ∧ x ≤ 9223372036854775807 := by
  obtain ⟨a1, len, cap, rfl⟩ := okWide_slice Tryd.underlying34 hval
  obtain ⟨fuel, hf⟩ := h
  rcases open_ints Tryd.underlying34 Tryd.underlying3 c_i hf with ⟨e, -⟩ | ⟨a, len', cap', zs, e, _, hl, hm, hz, -, hcell, hwz⟩
  · simp [Value.cells] at e
    obtain ⟨rfl, rfl, rfl⟩ := e
    exact ⟨none, [], 0, rfl, (fun h => absurd h (by simp)), by simp, by omega, (fun x hx => by cases hx)⟩
  · simp [Value.cells] at e
    obtain ⟨rfl, rfl, rfl⟩ := e
    simp only [if_true] at hz
    have hlen : (zs.take len).length = len := by simp; omega
    refine ⟨some a, zs.take len, cap, by rw [hlen], fun h0 => ?_, by rw [hlen]; exact hl, by unfold maxLen at hm; omega, fun x hx => bounds_i64 (hwz x (List.mem_of_mem_take hx))⟩
    rw [hlen] at h0
    obtain ⟨ab, ao, spot⟩ := a
    have hspot : spot = none := by simpa [Addr.add] using World.cell?_spot (hcell 0 (by omega))
    subst hspot
    refine ⟨ab, ao, rfl, ?_, fun j hj => ?_⟩
    · have := hcell 0 (by omega)
      have := Go.block_lt_of_cell this
      simpa [Addr.add] using this
    · rw [hlen] at hj
      have hcj := hcell j (by omega)
      rw [Addr.add_lit] at hcj
      rw [hcj]
      have e : zs.getD j 0 = zs[j]'(by omega) := by simp [List.getD, List.getElem?_eq_getElem (show j < zs.length by omega)]
      rw [e]
      simp
end

end Go.Proofs.YtodpocciimbjbaaDoor.IntT
