/-
  From the statements' reading of a pair of texts, a pair of bytes, and a number with a text, to what the walks ask; and back.
-/
import Derived.Test.YtjcohlpjlifolaaDoorShaFrameNil
import Derived.OpenShut
import Derived.SizedLaws
namespace Go.Proofs.YtjcohlpjlifolaaDoor.MacT
open Go.RowKit Kit
open Go.ChangeShapes Go.WideShapes
set_option linter.unusedVariables false
set_option maxRecDepth 100000

section
variable {H : Type} {enc : TypeId × Value → H} {W : World} {base : Nat} {v : Value} {d : DataW H} {p : List MemPlace}
theorem okWide_arr {P : Program} {t : TypeId} {n : Nat} {e : TypeId} (hu : P.underlying t = some (.array n e)) (h : Value.okWide P W .any base t v) : ∃ cs, v = .agg cs ∧ cs.size = P.cellsOf t := by
  unfold Value.okWide at h
  rw [hu] at h
  obtain ⟨cs, e, h1, _⟩ := h
  exact ⟨cs, e, h1⟩
theorem okWide_str {P : Program} {t : TypeId} {fs : Array Field} (hu : P.underlying t = some (.struct fs)) (h : Value.okWide P W .any base t v) : ∃ cs, v = .agg cs ∧ cs.size = P.cellsOf t := by
  unfold Value.okWide at h
  rw [hu] at h
  obtain ⟨cs, e, h1, _⟩ := h
  exact ⟨cs, e, h1⟩
theorem two_cells {cs : Array Value} (h : cs.size = 2) : ∃ a b, cs = #[a, b] := by
  obtain ⟨l⟩ := cs
  match l, h with
  | [a, b], _ => exact ⟨a, b, rfl⟩
theorem c_ss : Tryd.prog.cellsOf 37 = 2 := by kernel_rfl
theorem c_uu : Tryd.prog.cellsOf 38 = 2 := by kernel_rfl
theorem c_s : Tryd.prog.cellsOf 9 = 1 := by kernel_rfl
theorem c_u : Tryd.prog.cellsOf 5 = 1 := by kernel_rfl
theorem c_i : Tryd.prog.cellsOf 3 = 1 := by kernel_rfl
theorem c_case : Tryd.prog.cellsOf 31 = 2 := by kernel_rfl

theorem open_ss (hval : Value.okWide Tryd.prog W .any base 37 v) (h : DataW.Trod enc Tryd.prog W 0 (fun _ => true) true 37 v d p) :
    ∃ a b : ByteArray, v = .agg #[.string a, .string b] ∧ d = .agg [.lit (.string a.data.toList), .lit (.string b.data.toList)] ∧ p = [] ∧ a.size ≤ maxLen ∧ b.size ≤ maxLen := by
  obtain ⟨cs, rfl, hcs⟩ := okWide_arr Tryd.underlying37 hval
  rw [c_ss] at hcs
  obtain ⟨v1, v2, rfl⟩ := two_cells hcs
  obtain ⟨fuel, hf⟩ := h
  obtain ⟨xs, m, _, hx, _, hl, hel⟩ := DataW.trod_array Tryd.underlying37 hf
  match xs, hl with
  | [y0, y1], _ =>
    have e0 := hel 0 (by decide)
    have e1 := hel 1 (by decide)
    rw [c_s] at e0 e1
    simp [Value.cells] at e0 e1
    obtain ⟨a, ha, hy0, hza⟩ := DataW.trod_string Tryd.underlying9 e0
    obtain ⟨b, hb, hy1, hzb⟩ := DataW.trod_string Tryd.underlying9 e1
    simp at ha hb hx
    subst ha hb hy0 hy1
    obtain ⟨rfl, rfl⟩ := hx
    exact ⟨a, b, rfl, rfl, by simp, hza, hzb⟩
theorem shut_ss {b0 : Nat} {sp : Nat → Bool} {hd : Bool} {a b : ByteArray} (ha : a.size ≤ maxLen) (hb : b.size ≤ maxLen) : DataW.Trod enc Tryd.prog W b0 sp hd 37 (.agg #[.string a, .string b]) (.agg [.lit (.string a.data.toList), .lit (.string b.data.toList)]) [] :=
  ⟨2, by simp [DataW.trod, Value.cells, Tryd.underlying37, Tryd.underlying9, c_ss, c_s, ha, hb, List.range, List.range.loop]⟩
theorem size_ss {ts : List TypeId} {ds : List (DataW H)} (h : (DataW.weightsEach Tryd.prog ts ds).all (· ≤ reachBytes) = true) {a b : ByteArray} (j : Nat) (ht : ts[j]? = some 37) (hd : ds[j]? = some (.agg [.lit (.string a.data.toList), .lit (.string b.data.toList)])) : a.size ≤ 140737488351232 ∧ b.size ≤ 140737488351232 := by
  have h1 := List.all_eq_true.1 h _ (DataW.weights_mem_each ht hd a.data.toList.length (by simp [DataW.weights, DataW.weightsAll, Tryd.underlying37]))
  have h2 := List.all_eq_true.1 h _ (DataW.weights_mem_each ht hd b.data.toList.length (by simp [DataW.weights, DataW.weightsAll, Tryd.underlying37]))
  have e3 : reachBytes = 140737488351232 := by decide
  have ea : a.data.toList.length = a.size := by simp
  have eb : b.data.toList.length = b.size := by simp
  rw [decide_eq_true_eq, ea, e3] at h1
  rw [decide_eq_true_eq, eb, e3] at h2
  exact ⟨h1, h2⟩

theorem open_uu (hval : Value.okWide Tryd.prog W .any base 38 v) (h : DataW.Trod enc Tryd.prog W 0 (fun _ => true) true 38 v d p) :
    ∃ x y : Int, v = .agg #[.int .u8 x, .int .u8 y] ∧ d = .agg [.lit (.int .u8 x), .lit (.int .u8 y)] ∧ p = [] ∧ (Lit.int .u8 x).wf = true ∧ (Lit.int .u8 y).wf = true := by
  obtain ⟨cs, rfl, hcs⟩ := okWide_arr Tryd.underlying38 hval
  rw [c_uu] at hcs
  obtain ⟨v1, v2, rfl⟩ := two_cells hcs
  obtain ⟨fuel, hf⟩ := h
  obtain ⟨xs, m, _, hx, _, hl, hel⟩ := DataW.trod_array Tryd.underlying38 hf
  match xs, hl with
  | [y0, y1], _ =>
    have e0 := hel 0 (by decide)
    have e1 := hel 1 (by decide)
    rw [c_u] at e0 e1
    simp [Value.cells] at e0 e1
    obtain ⟨a, ha, hy0, hza⟩ := DataW.trod_int Tryd.underlying5 e0
    obtain ⟨b, hb, hy1, hzb⟩ := DataW.trod_int Tryd.underlying5 e1
    simp at ha hb hx
    subst ha hb hy0 hy1
    obtain ⟨rfl, rfl⟩ := hx
    exact ⟨a, b, rfl, rfl, by simp, hza, hzb⟩
theorem shut_uu {b0 : Nat} {sp : Nat → Bool} {hd : Bool} {x y : Int} (hx : (Lit.int .u8 x).wf = true) (hy : (Lit.int .u8 y).wf = true) : DataW.Trod enc Tryd.prog W b0 sp hd 38 (.agg #[.int .u8 x, .int .u8 y]) (.agg [.lit (.int .u8 x), .lit (.int .u8 y)]) [] :=
  ⟨2, by simp [DataW.trod, Value.cells, Tryd.underlying38, Tryd.underlying5, c_uu, c_u, hx, hy, List.range, List.range.loop]⟩

theorem open_case (hval : Value.okWide Tryd.prog W .any base 31 v) (h : DataW.Trod enc Tryd.prog W 0 (fun _ => true) true 31 v d p) :
    ∃ (n : Int) (s : ByteArray), v = .agg #[.int .i64 n, .string s] ∧ d = .agg [.lit (.int .i64 n), .lit (.string s.data.toList)] ∧ p = [] ∧ (Lit.int .i64 n).wf = true ∧ s.size ≤ maxLen := by
  obtain ⟨cs, rfl, hcs⟩ := okWide_str Tryd.underlying31 hval
  rw [c_case] at hcs
  obtain ⟨v1, v2, rfl⟩ := two_cells hcs
  obtain ⟨fuel, hf⟩ := h
  obtain ⟨y0, y1, m, hx, _, e0, e1⟩ := trod_struct2 Tryd.underlying31 hf
  simp only [c_i, c_s] at e0 e1
  simp [Value.cells] at e0 e1
  obtain ⟨n, hn, hy0, hw⟩ := DataW.trod_int Tryd.underlying3 e0
  obtain ⟨s, hs, hy1, hz⟩ := DataW.trod_string Tryd.underlying9 e1
  simp at hn hs hx
  subst hn hs hy0 hy1
  obtain ⟨rfl, rfl⟩ := hx
  exact ⟨n, s, rfl, rfl, by simp, hw, hz⟩
theorem shut_case {b0 : Nat} {sp : Nat → Bool} {hd : Bool} {n : Int} {s : ByteArray} (hw : (Lit.int .i64 n).wf = true) (hs : s.size ≤ maxLen) : DataW.Trod enc Tryd.prog W b0 sp hd 31 (.agg #[.int .i64 n, .string s]) (.agg [.lit (.int .i64 n), .lit (.string s.data.toList)]) [] :=
  ⟨2, by simp [DataW.trod, Value.cells, Tryd.underlying31, Tryd.underlying9, Tryd.underlying3, c_case, c_s, c_i, hw, hs]⟩
theorem size_case {ts : List TypeId} {ds : List (DataW H)} (h : (DataW.weightsEach Tryd.prog ts ds).all (· ≤ reachBytes) = true) {n : Int} {s : ByteArray} (j : Nat) (ht : ts[j]? = some 31) (hd : ds[j]? = some (.agg [.lit (.int .i64 n), .lit (.string s.data.toList)])) : s.size ≤ 140737488351232 := by
  have h1 := List.all_eq_true.1 h _ (DataW.weights_mem_each ht hd s.data.toList.length (by simp [DataW.weights, DataW.weightsEach, Tryd.underlying31]))
  have e3 : reachBytes = 140737488351232 := by decide
  have ea : s.data.toList.length = s.size := by simp
  rw [decide_eq_true_eq, ea, e3] at h1
  exact h1
end

end Go.Proofs.YtjcohlpjlifolaaDoor.MacT
