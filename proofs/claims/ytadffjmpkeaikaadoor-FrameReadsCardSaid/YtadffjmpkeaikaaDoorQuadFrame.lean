/-
  From the statements' reading of four numbers by value to what a walk asks; and back.
-/
import Derived.Test.YtadffjmpkeaikaaDoorRowsFrame
import Derived.OpenShut
namespace Go.Proofs.YtadffjmpkeaikaaDoor.QuadT
open Go.RowKit Kit
open Go.ChangeShapes Go.WideShapes
set_option linter.unusedVariables false
set_option maxRecDepth 100000

section
variable {H : Type} {enc : TypeId × Value → H} {W : World} {base : Nat} {v : Value} {d : DataW H} {p : List MemPlace}
theorem okWide_arr {P : Program} {t : TypeId} {n : Nat} {e : TypeId} (hu : P.underlying t = some (.array n e)) (h : Value.okWide P W .any base t v) : ∃ cs, v = .agg cs ∧ cs.size = P.cellsOf t := by
  unfold Value.okWide at h
  rw [hu] at h
  obtain ⟨cs, e, h1, _⟩ := h
  exact ⟨cs, e, h1⟩
theorem four_cells {cs : Array Value} (h : cs.size = 4) : ∃ a b c d, cs = #[a, b, c, d] := by
  obtain ⟨l⟩ := cs
  match l, h with
  | [a, b, c, d], _ => exact ⟨a, b, c, d, rfl⟩
theorem c_q : Tryd.prog.cellsOf 35 = 4 := by kernel_rfl
theorem c_u : Tryd.prog.cellsOf 34 = 1 := by kernel_rfl
theorem open_q (hval : Value.okWide Tryd.prog W .any base 35 v) (h : DataW.Trod enc Tryd.prog W 0 (fun _ => true) true 35 v d p) :
    ∃ x y z u : Int, v = .agg #[.int .u16 x, .int .u16 y, .int .u16 z, .int .u16 u] ∧ d = .agg [.lit (.int .u16 x), .lit (.int .u16 y), .lit (.int .u16 z), .lit (.int .u16 u)] ∧ p = [] ∧ (Lit.int .u16 x).wf = true ∧ (Lit.int .u16 y).wf = true ∧ (Lit.int .u16 z).wf = true ∧ (Lit.int .u16 u).wf = true := by
  obtain ⟨cs, rfl, hcs⟩ := okWide_arr Tryd.underlying35 hval
  rw [c_q] at hcs
  obtain ⟨v1, v2, v3, v4, rfl⟩ := four_cells hcs
  obtain ⟨fuel, hf⟩ := h
  obtain ⟨xs, m, _, hx, _, hl, hel⟩ := DataW.trod_array Tryd.underlying35 hf
  match xs, hl with
  | [y0, y1, y2, y3], _ =>
    have e0 := hel 0 (by decide)
    have e1 := hel 1 (by decide)
    have e2 := hel 2 (by decide)
    have e3 := hel 3 (by decide)
    rw [c_u] at e0 e1 e2 e3
    simp [Value.cells] at e0 e1 e2 e3
    obtain ⟨a, ha, hy0, hza⟩ := DataW.trod_int Tryd.underlying34 e0
    obtain ⟨b, hb, hy1, hzb⟩ := DataW.trod_int Tryd.underlying34 e1
    obtain ⟨c, hc, hy2, hzc⟩ := DataW.trod_int Tryd.underlying34 e2
    obtain ⟨g, hg, hy3, hzg⟩ := DataW.trod_int Tryd.underlying34 e3
    simp at ha hb hc hg hx
    subst ha hb hc hg hy0 hy1 hy2 hy3
    obtain ⟨rfl, rfl⟩ := hx
    exact ⟨a, b, c, g, rfl, rfl, by simp, hza, hzb, hzc, hzg⟩
theorem shut_q {b0 : Nat} {sp : Nat → Bool} {hd : Bool} {x y z u : Int} (hx : (Lit.int .u16 x).wf = true) (hy : (Lit.int .u16 y).wf = true) (hz : (Lit.int .u16 z).wf = true) (hu : (Lit.int .u16 u).wf = true) :
    DataW.Trod enc Tryd.prog W b0 sp hd 35 (.agg #[.int .u16 x, .int .u16 y, .int .u16 z, .int .u16 u]) (.agg [.lit (.int .u16 x), .lit (.int .u16 y), .lit (.int .u16 z), .lit (.int .u16 u)]) [] :=
  ⟨2, by simp [DataW.trod, Value.cells, Tryd.underlying35, Tryd.underlying34, c_q, c_u, hx, hy, hz, hu, List.range, List.range.loop]⟩
end

end Go.Proofs.YtadffjmpkeaikaaDoor.QuadT
