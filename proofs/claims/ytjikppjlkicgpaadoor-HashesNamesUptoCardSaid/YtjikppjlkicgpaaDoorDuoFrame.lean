/-
  From the statements' reading of two numbers by value to what a walk asks; and back.
-/
import Derived.Test.YtjikppjlkicgpaaDoorChecked
import Derived.Test.YtjikppjlkicgpaaDoorKit
import Derived.ProofKit
import Derived.OpenShut
import Derived.Carry
namespace Go.Proofs.YtjikppjlkicgpaaDoor.DuoT
open Go.RowKit Kit
open Go.ChangeShapes Go.WideShapes
set_option linter.unusedVariables false
set_option maxRecDepth 100000

section
variable {H : Type} {enc : TypeId × Value → H} {W : World} {base : Nat} {v : Value} {d : DataW H} {p : List MemPlace}
theorem okWide_arr {P : Program} {t : TypeId} {n : Nat} {e : TypeId} (hu : P.underlying t = some (.array n e)) (h : Value.okWide P W .any base t v) : ∃ cs, v = .agg cs ∧ cs.size = P.cellsOf t := by
  unfold Value.okWide at h
  rw [hu] at h
  obtain ⟨cs, e, h1, _⟩ := h
  exact ⟨cs, e, h1⟩
theorem two_cells {cs : Array Value} (h : cs.size = 2) : ∃ a b, cs = #[a, b] := by
  obtain ⟨l⟩ := cs
  match l, h with
  | [a, b], _ => exact ⟨a, b, rfl⟩
theorem c_q : Tryd.prog.cellsOf 42 = 2 := by kernel_rfl
theorem c_u : Tryd.prog.cellsOf 3 = 1 := by kernel_rfl
theorem open_i (hval : Value.okWide Tryd.prog W .any base 42 v) (h : DataW.Trod enc Tryd.prog W 0 (fun _ => true) true 42 v d p) :
    ∃ x y : Int, v = .agg #[.int .i64 x, .int .i64 y] ∧ d = .agg [.lit (.int .i64 x), .lit (.int .i64 y)] ∧ p = [] ∧ (Lit.int .i64 x).wf = true ∧ (Lit.int .i64 y).wf = true := by
  obtain ⟨cs, rfl, hcs⟩ := okWide_arr Tryd.underlying42 hval
  rw [c_q] at hcs
  obtain ⟨v1, v2, rfl⟩ := two_cells hcs
  obtain ⟨fuel, hf⟩ := h
  obtain ⟨xs, m, _, hx, _, hl, hel⟩ := DataW.trod_array Tryd.underlying42 hf
  match xs, hl with
  | [y0, y1], _ =>
    have e0 := hel 0 (by decide)
    have e1 := hel 1 (by decide)
    rw [c_u] at e0 e1
    simp [Value.cells] at e0 e1
    obtain ⟨a, ha, hy0, hza⟩ := DataW.trod_int Tryd.underlying3 e0
    obtain ⟨b, hb, hy1, hzb⟩ := DataW.trod_int Tryd.underlying3 e1
    simp at ha hb hx
    subst ha hb hy0 hy1
    obtain ⟨rfl, rfl⟩ := hx
    exact ⟨a, b, rfl, rfl, by simp, hza, hzb⟩
theorem shut_i {b0 : Nat} {sp : Nat → Bool} {hd : Bool} {x y : Int} (hx : (Lit.int .i64 x).wf = true) (hy : (Lit.int .i64 y).wf = true) :
    DataW.Trod enc Tryd.prog W b0 sp hd 42 (.agg #[.int .i64 x, .int .i64 y]) (.agg [.lit (.int .i64 x), .lit (.int .i64 y)]) [] :=
  ⟨2, by simp [DataW.trod, Value.cells, Tryd.underlying42, Tryd.underlying3, c_q, c_u, hx, hy, List.range, List.range.loop]⟩
end

end Go.Proofs.YtjikppjlkicgpaaDoor.DuoT
