/-
  From the statements' reading of texts to what the walks from layer 8 on ask.
-/
import Derived.Test.YtodpocciimbjbaaDoorStrRowz
import Derived.ProofKit
import Derived.ShutString
import Derived.SliceStrings
import Derived.SizedLaws
import Derived.Deep.Strs
namespace Go.Proofs.YtodpocciimbjbaaDoor.StrT
open Go.RowKit Kit
open Go.ChangeShapes Go.WideShapes
set_option linter.unusedVariables false
set_option maxRecDepth 100000

theorem cells_str : Tryd.prog.cellsOf 9 = 1 := by kernel_rfl
section
variable {H : Type} {enc : TypeId × Value → H} {W : World} {base : Nat} {v : Value} {d : DataW H} {p : List MemPlace}
/-- What is said of each text that was read. -/
def TextsRead (L : List (List UInt8)) (d : DataW H) : Prop := (d = .nil ∧ L = []) ∨ ∃ sp, d = .slice (L.map fun l => .lit (.string l)) sp
theorem read_ss {fuel : Nat} {cs : List Value} {x : DataW H × List MemPlace} (hf : DataW.trod enc Tryd.prog W 0 (fun _ => true) true fuel 22 cs = some x) :
    ∃ (a : Option Addr) (L : List (List UInt8)) (cap : Nat), cs = [.slice a L.length cap] ∧ Ss W a L ∧ L.length ≤ cap ∧ cap ≤ 9223372036854775807 ∧ (a = none → cap = 0) ∧ TextsRead L x.1 := by
  rcases open_strings Tryd.underlying22 Tryd.underlying9 cells_str hf with ⟨rfl, rfl⟩ | ⟨a, len', cap', ss, rfl, _, hl, hm, hz, rfl, hcell, hsz⟩
  · exact ⟨none, [], 0, rfl, fun h => absurd h (by simp), by simp, by omega, fun _ => rfl, Or.inl ⟨rfl, rfl⟩⟩
  · simp only [if_true] at hz
    have hlen : ((ss.take len').map fun s => s.data.toList).length = len' := by simp; omega
    refine ⟨some a, (ss.take len').map fun s => s.data.toList, cap', by rw [hlen], fun h0 => ?_, by rw [hlen]; exact hl, by unfold maxLen at hm; omega, (fun h => absurd h (by simp)), Or.inr ⟨strs (ss.drop len'), ?_⟩⟩
    · rw [hlen] at h0
      obtain ⟨ab, ao, spot⟩ := a
      have hspot : spot = none := by simpa [Addr.add] using World.cell?_spot (hcell 0 (by omega))
      subst hspot
      refine ⟨ab, ao, rfl, ?_, fun j hj => ?_⟩
      · have := hcell 0 (by omega)
        have := Go.block_lt_of_cell this
        simpa [Addr.add] using this
      · rw [hlen] at hj
        have hcj := hcell j (by omega)
        rw [Addr.add_lit] at hcj
        rw [hcj]
        have e : ss.getD j ByteArray.empty = ss[j]'(by omega) := by simp [List.getD, List.getElem?_eq_getElem (show j < ss.length by omega)]
        rw [e]
        simp
    · show DataW.slice (strs (ss.take len')) (strs (ss.drop len')) = _
      congr 1
      unfold strs
      rw [List.map_map]
      rfl

theorem weights_all {P : Program} {e : TypeId} : ∀ (l : List (DataW H)) (x : DataW H), x ∈ l → ∀ n ∈ x.weights P e, n ∈ DataW.weightsAll P e l
  | [], _, h, _, _ => by simp at h
  | y :: l, x, h, n, hn => by
    rw [DataW.weightsAll, List.mem_append]
    rcases List.mem_cons.1 h with rfl | h
    · exact Or.inl hn
    · exact Or.inr (weights_all l x h n hn)
/-- Each text that was read is of a size that a machine holds. -/
theorem read_sizes {L : List (List UInt8)} {d : DataW H} (h : TextsRead L d) {ns : List Nat} (hn : ∀ n ∈ d.weights Tryd.prog 22, n ∈ ns) (hall : ns.all (· ≤ reachBytes) = true) : ∀ s ∈ L, s.length ≤ 140737488351232 := by
  intro s hs
  rcases h with ⟨-, rfl⟩ | ⟨sp, rfl⟩
  · simp at hs
  · have hm : s.length ∈ DataW.weights (H := H) Tryd.prog 22 (.slice (L.map fun l => .lit (.string l)) sp) := by
      have h1 := weights_all (P := Tryd.prog) (e := 9) (L.map fun l => (.lit (.string l) : DataW H)) (.lit (.string s)) (List.mem_map.2 ⟨s, hs, rfl⟩) s.length (by simp [DataW.weights])
      simp only [DataW.weights, Tryd.underlying22]
      exact List.mem_cons_of_mem _ (List.mem_append.2 (Or.inl h1))
    have h2 := List.all_eq_true.1 hall _ (hn _ hm)
    have e3 : reachBytes = 140737488351232 := by decide
    rw [decide_eq_true_eq, e3] at h2
    exact h2

theorem open_ss (hval : Value.okWide Tryd.prog W .any base 22 v) (h : DataW.Trod enc Tryd.prog W 0 (fun _ => true) true 22 v d p) :
    ∃ (a : Option Addr) (L : List (List UInt8)) (cap : Nat), v = .slice a L.length cap ∧ Ss W a L ∧ L.length ≤ cap ∧ cap ≤ 9223372036854775807 ∧ (a = none → cap = 0) ∧ TextsRead L d := by
  obtain ⟨a1, len, cap, rfl⟩ := okWide_slice Tryd.underlying22 hval
  obtain ⟨fuel, hf⟩ := h
  obtain ⟨a, l, c, hcs, h1⟩ := read_ss hf
  simp [Value.cells] at hcs
  obtain ⟨rfl, rfl, rfl⟩ := hcs
  exact ⟨_, l, _, rfl, h1⟩
theorem size_ss {ts : List TypeId} {ds : List (DataW H)} (h : (DataW.weightsEach Tryd.prog ts ds).all (· ≤ reachBytes) = true) {L : List (List UInt8)} {d : DataW H} (j : Nat) (ht : ts[j]? = some 22) (hd : ds[j]? = some d) (hr : TextsRead L d) : ∀ s ∈ L, s.length ≤ 140737488351232 :=
  read_sizes hr (fun n hn => DataW.weights_mem_each ht hd n hn) h

end

end Go.Proofs.YtodpocciimbjbaaDoor.StrT
