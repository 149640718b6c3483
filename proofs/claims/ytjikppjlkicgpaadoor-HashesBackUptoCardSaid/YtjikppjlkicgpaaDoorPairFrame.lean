/-
  From the statements' reading of a pair of texts to what the walks ask; and back.
-/
import Derived.Test.YtjikppjlkicgpaaDoorChecked
import Derived.Test.YtjikppjlkicgpaaDoorKit
import Derived.ProofKit
import Derived.OpenShut
import Derived.SizedLaws
import Derived.ShutString
import Derived.Carry
namespace Go.Proofs.YtjikppjlkicgpaaDoor.PairT
open Go.RowKit Kit
open Go.ChangeShapes Go.WideShapes
set_option linter.unusedVariables false
set_option maxRecDepth 100000

section
variable {H : Type} {enc : TypeId × Value → H} {W : World} {base : Nat} {v : Value} {d : DataW H} {p : List MemPlace}
theorem okWide_arr {P : Program} {t : TypeId} {n : Nat} {e : TypeId} (hu : P.underlying t = some (.array n e)) (h : Value.okWide P W .any base t v) : ∃ cs, v = .agg cs ∧ cs.size = P.cellsOf t := by
  unfold Value.okWide at h
  rw [hu] at h
  obtain ⟨cs, e, h1, _⟩ := h
  exact ⟨cs, e, h1⟩
theorem two_cells {cs : Array Value} (h : cs.size = 2) : ∃ a b, cs = #[a, b] := by
  obtain ⟨l⟩ := cs
  match l, h with
  | [a, b], _ => exact ⟨a, b, rfl⟩
theorem c_ss : Tryd.prog.cellsOf 34 = 2 := by kernel_rfl
theorem c_s : Tryd.prog.cellsOf 9 = 1 := by kernel_rfl
theorem open_ss (hval : Value.okWide Tryd.prog W .any base 34 v) (h : DataW.Trod enc Tryd.prog W 0 (fun _ => true) true 34 v d p) :
    ∃ a b : ByteArray, v = .agg #[.string a, .string b] ∧ d = .agg [.lit (.string a.data.toList), .lit (.string b.data.toList)] ∧ p = [] ∧ a.size ≤ maxLen ∧ b.size ≤ maxLen := by
  obtain ⟨cs, rfl, hcs⟩ := okWide_arr Tryd.underlying34 hval
  rw [c_ss] at hcs
  obtain ⟨v1, v2, rfl⟩ := two_cells hcs
  obtain ⟨fuel, hf⟩ := h
  obtain ⟨xs, m, _, hx, _, hl, hel⟩ := DataW.trod_array Tryd.underlying34 hf
  match xs, hl with
  | [y0, y1], _ =>
    have e0 := hel 0 (by decide)
    have e1 := hel 1 (by decide)
    rw [c_s] at e0 e1
    simp [Value.cells] at e0 e1
    obtain ⟨a, ha, hy0, hza⟩ := DataW.trod_string Tryd.underlying9 e0
    obtain ⟨b, hb, hy1, hzb⟩ := DataW.trod_string Tryd.underlying9 e1
    simp at ha hb hx
    subst ha hb hy0 hy1
    obtain ⟨rfl, rfl⟩ := hx
    exact ⟨a, b, rfl, rfl, by simp, hza, hzb⟩
theorem shut_ss {b0 : Nat} {sp : Nat → Bool} {hd : Bool} {a b : ByteArray} (ha : a.size ≤ maxLen) (hb : b.size ≤ maxLen) : DataW.Trod enc Tryd.prog W b0 sp hd 34 (.agg #[.string a, .string b]) (.agg [.lit (.string a.data.toList), .lit (.string b.data.toList)]) [] :=
  ⟨2, by simp [DataW.trod, Value.cells, Tryd.underlying34, Tryd.underlying9, c_ss, c_s, ha, hb, List.range, List.range.loop]⟩
theorem size_ss {ts : List TypeId} {ds : List (DataW H)} (h : (DataW.weightsEach Tryd.prog ts ds).all (· ≤ reachBytes) = true) {a b : ByteArray} (j : Nat) (ht : ts[j]? = some 34) (hd : ds[j]? = some (.agg [.lit (.string a.data.toList), .lit (.string b.data.toList)])) : a.size ≤ 140737488351232 ∧ b.size ≤ 140737488351232 := by
  have h1 := List.all_eq_true.1 h _ (DataW.weights_mem_each ht hd a.data.toList.length (by simp [DataW.weights, DataW.weightsAll, Tryd.underlying34]))
  have h2 := List.all_eq_true.1 h _ (DataW.weights_mem_each ht hd b.data.toList.length (by simp [DataW.weights, DataW.weightsAll, Tryd.underlying34]))
  have e3 : reachBytes = 140737488351232 := by decide
  have ea : a.data.toList.length = a.size := by simp
  have eb : b.data.toList.length = b.size := by simp
  rw [decide_eq_true_eq, ea, e3] at h1
  rw [decide_eq_true_eq, eb, e3] at h2
  exact ⟨h1, h2⟩
end

end Go.Proofs.YtjikppjlkicgpaaDoor.PairT
