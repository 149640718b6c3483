/-
  From the statements' reading of rows of small numbers, and of two of them by value, to what the walks of layer 10 ask.
-/
import Derived.Test.YtbcjgkedlapmhaaUshort
import Derived.Test.YtbcjgkedlapmhaaChecked
import Derived.ProofKit
import Derived.OpenShut
import Derived.SizedLaws
import Derived.ChangeArms
namespace Go.Proofs.Ytbcjgkedlapmhaa.StoL
open Go.RowKit Kit
open Go.ChangeShapes Go.WideShapes
set_option linter.unusedVariables false
set_option maxRecDepth 100000

section
variable {H : Type} {enc : TypeId × Value → H} {W : World} {base : Nat} {v : Value} {d : DataW H} {p : List MemPlace}
theorem okWide_arr {P : Program} {t : TypeId} {n : Nat} {e : TypeId} (hu : P.underlying t = some (.array n e)) (h : Value.okWide P W .any base t v) : ∃ cs, v = .agg cs ∧ cs.size = P.cellsOf t := by
  unfold Value.okWide at h
  rw [hu] at h
  obtain ⟨cs, e, h1, _⟩ := h
  exact ⟨cs, e, h1⟩
theorem two_cells {cs : Array Value} (h : cs.size = 2) : ∃ a b, cs = #[a, b] := by
  obtain ⟨l⟩ := cs
  match l, h with
  | [a, b], _ => exact ⟨a, b, rfl⟩
theorem c_ww : Try.prog.cellsOf 57 = 2 := by kernel_rfl
theorem c_w : Try.prog.cellsOf 52 = 1 := by kernel_rfl
theorem open_w (hval : Value.okWide Try.prog W .any base 57 v) (h : DataW.Trod enc Try.prog W 0 (fun _ => true) true 57 v d p) :
    ∃ x y : Int, v = .agg #[.int .u16 x, .int .u16 y] ∧ d = .agg [.lit (.int .u16 x), .lit (.int .u16 y)] ∧ p = [] ∧ (Lit.int .u16 x).wf = true ∧ (Lit.int .u16 y).wf = true := by
  obtain ⟨cs, rfl, hcs⟩ := okWide_arr Try.underlying57 hval
  rw [c_ww] at hcs
  obtain ⟨v1, v2, rfl⟩ := two_cells hcs
  obtain ⟨fuel, hf⟩ := h
  obtain ⟨xs, m, _, hx, _, hl, hel⟩ := DataW.trod_array Try.underlying57 hf
  match xs, hl with
  | [y0, y1], _ =>
    have e0 := hel 0 (by decide)
    have e1 := hel 1 (by decide)
    rw [c_w] at e0 e1
    simp [Value.cells] at e0 e1
    obtain ⟨a, ha, hy0, hza⟩ := DataW.trod_int Try.underlying52 e0
    obtain ⟨b, hb, hy1, hzb⟩ := DataW.trod_int Try.underlying52 e1
    simp at ha hb hx
    subst ha hb hy0 hy1
    obtain ⟨rfl, rfl⟩ := hx
    exact ⟨a, b, rfl, rfl, by simp, hza, hzb⟩
theorem shut_w {b0 : Nat} {sp : Nat → Bool} {hd : Bool} {x y : Int} (hx : (Lit.int .u16 x).wf = true) (hy : (Lit.int .u16 y).wf = true) : DataW.Trod enc Try.prog W b0 sp hd 57 (.agg #[.int .u16 x, .int .u16 y]) (.agg [.lit (.int .u16 x), .lit (.int .u16 y)]) [] :=
  ⟨2, by simp [DataW.trod, Value.cells, Try.underlying57, Try.underlying52, c_ww, c_w, hx, hy, List.range, List.range.loop]⟩
theorem open_u (hval : Value.okWide Try.prog W .any base 54 v) (h : DataW.Trod enc Try.prog W 0 (fun _ => true) true 54 v d p) :
    ∃ (a : Option Addr) (L : List Int) (cap : Nat), v = .slice a L.length cap ∧ Us W a L ∧ L.length ≤ cap ∧ cap ≤ 9223372036854775807 ∧ ∀ x ∈ L, 0 ≤ x ∧ x ≤ 65535 := by
  obtain ⟨a1, len, cap, rfl⟩ := okWide_slice Try.underlying54 hval
  obtain ⟨fuel, hf⟩ := h
  rcases open_ints Try.underlying54 Try.underlying52 c_w hf with ⟨e, -⟩ | ⟨a, len', cap', zs, e, _, hl, hm, hz, -, hcell, hwz⟩
  · simp [Value.cells] at e
    obtain ⟨rfl, rfl, rfl⟩ := e
    exact ⟨none, [], 0, rfl, (fun h => absurd h (by simp)), by simp, by omega, (fun x hx => by cases hx)⟩
  · simp [Value.cells] at e
    obtain ⟨rfl, rfl, rfl⟩ := e
    simp only [if_true] at hz
    have hlen : (zs.take len).length = len := by simp; omega
    refine ⟨some a, zs.take len, cap, by rw [hlen], fun h0 => ?_, by rw [hlen]; exact hl, by unfold maxLen at hm; omega, fun x hx => bounds_u16 (hwz x (List.mem_of_mem_take hx))⟩
    rw [hlen] at h0
    obtain ⟨ab, ao, spot⟩ := a
    have hspot : spot = none := by simpa [Addr.add] using World.cell?_spot (hcell 0 (by omega))
    subst hspot
    refine ⟨ab, ao, rfl, ?_, fun j hj => ?_⟩
    · have := hcell 0 (by omega)
      have := Go.block_lt_of_cell this
      simpa [Addr.add] using this
    · rw [hlen] at hj
      have hcj := hcell j (by omega)
      rw [Addr.add_lit] at hcj
      rw [hcj]
      have e : zs.getD j 0 = zs[j]'(by omega) := by simp [List.getD, List.getElem?_eq_getElem (show j < zs.length by omega)]
      rw [e]
      simp
end

end Go.Proofs.Ytbcjgkedlapmhaa.StoL
