/-
  From the statements' reading of bytes, of texts, and of both in a struct, to what the walks of layer 5 ask.
-/
import Derived.Test.YteojijocoamohaaDoorReplyRows
import Derived.ProofKit
import Derived.ShutString
import Derived.SliceStrings
import Derived.SizedLaws
import Derived.Deep.Strs
namespace Go.Proofs.YteojijocoamohaaDoor.ReplyT
open Go.RowKit Kit BytesIn
open Go.ChangeShapes Go.WideShapes
set_option linter.unusedVariables false
set_option maxRecDepth 100000

theorem cells_u8 : Tryd.prog.cellsOf 5 = 1 := by kernel_rfl
theorem cells_str : Tryd.prog.cellsOf 9 = 1 := by kernel_rfl
section
variable {H : Type} {enc : TypeId × Value → H} {W : World} {base : Nat} {v : Value} {d : DataW H} {p : List MemPlace}
theorem read_bs {fuel : Nat} {cs : List Value} {x : DataW H × List MemPlace} (hf : DataW.trod enc Tryd.prog W 0 (fun _ => true) true fuel 23 cs = some x) :
    ∃ (a : Option Addr) (l : List UInt8) (cap : Nat), cs = [.slice a l.length cap] ∧ Bs W a l ∧ l.length ≤ cap ∧ cap ≤ 9223372036854775807 ∧ (a = none → cap = 0) ∧ ((x.1 = .nil ∧ l.length = 0) ∨ ∃ el sp, x.1 = .slice el sp ∧ el.length = l.length) := by
  rcases open_ints Tryd.underlying23 Tryd.underlying5 cells_u8 hf with ⟨rfl, rfl⟩ | ⟨a, len', cap', zs, rfl, _, hl, hm, hz, rfl, hcell, hwz⟩
  · exact ⟨none, [], 0, rfl, fun h => absurd h (by simp), by simp, by omega, fun _ => rfl, Or.inl ⟨rfl, rfl⟩⟩
  · simp only [if_true] at hz
    have hlen : ((zs.take len').map fun n => UInt8.ofNat n.toNat).length = len' := by simp; omega
    refine ⟨some a, (zs.take len').map fun n => UInt8.ofNat n.toNat, cap', by rw [hlen], fun h0 => ?_, by rw [hlen]; exact hl, by unfold maxLen at hm; omega, (fun h => absurd h (by simp)), Or.inr ⟨_, _, rfl, by rw [hlen]; simp [lits]; omega⟩⟩
    rw [hlen] at h0
    obtain ⟨ab, ao, spot⟩ := a
    have hspot : spot = none := by simpa [Addr.add] using World.cell?_spot (hcell 0 (by omega))
    subst hspot
    refine ⟨ab, ao, rfl, ?_, fun j hj => ?_⟩
    · have := hcell 0 (by omega)
      have := Go.block_lt_of_cell this
      simpa [Addr.add] using this
    · rw [hlen] at hj
      have hcj := hcell j (by omega)
      rw [Addr.add_lit] at hcj
      rw [hcj]
      have hb := range_u8 hwz j
      simp only [List.getElem_map, List.getElem_take]
      have e : zs.getD j 0 = zs[j]'(by omega) := by simp [List.getD, List.getElem?_eq_getElem (show j < zs.length by omega)]
      rw [List.getD_eq_getElem?_getD] at e
      rw [e] at hb
      rw [List.getD_eq_getElem?_getD, e]
      congr 2
      simp only [UInt8.toNat_ofNat']
      omega
/-- What is said of each text that was read. -/
def TextsRead (L : List (List UInt8)) (d : DataW H) : Prop := (d = .nil ∧ L = []) ∨ ∃ sp, d = .slice (L.map fun l => .lit (.string l)) sp
theorem read_ss {fuel : Nat} {cs : List Value} {x : DataW H × List MemPlace} (hf : DataW.trod enc Tryd.prog W 0 (fun _ => true) true fuel 22 cs = some x) :
    ∃ (a : Option Addr) (L : List (List UInt8)) (cap : Nat), cs = [.slice a L.length cap] ∧ Ss W a L ∧ L.length ≤ cap ∧ cap ≤ 9223372036854775807 ∧ (a = none → cap = 0) ∧ TextsRead L x.1 := by
  rcases open_strings Tryd.underlying22 Tryd.underlying9 cells_str hf with ⟨rfl, rfl⟩ | ⟨a, len', cap', ss, rfl, _, hl, hm, hz, rfl, hcell, hsz⟩
  · exact ⟨none, [], 0, rfl, fun h => absurd h (by simp), by simp, by omega, fun _ => rfl, Or.inl ⟨rfl, rfl⟩⟩
  · simp only [if_true] at hz
    have hlen : ((ss.take len').map fun s => s.data.toList).length = len' := by simp; omega
    refine ⟨some a, (ss.take len').map fun s => s.data.toList, cap', by rw [hlen], fun h0 => ?_, by rw [hlen]; exact hl, by unfold maxLen at hm; omega, (fun h => absurd h (by simp)), Or.inr ⟨strs (ss.drop len'), ?_⟩⟩
    · rw [hlen] at h0
      obtain ⟨ab, ao, spot⟩ := a
      have hspot : spot = none := by simpa [Addr.add] using World.cell?_spot (hcell 0 (by omega))
      subst hspot
      refine ⟨ab, ao, rfl, ?_, fun j hj => ?_⟩
      · have := hcell 0 (by omega)
        have := Go.block_lt_of_cell this
        simpa [Addr.add] using this
      · rw [hlen] at hj
        have hcj := hcell j (by omega)
        rw [Addr.add_lit] at hcj
        rw [hcj]
        have e : ss.getD j ByteArray.empty = ss[j]'(by omega) := by simp [List.getD, List.getElem?_eq_getElem (show j < ss.length by omega)]
        rw [e]
        simp
    · show DataW.slice (strs (ss.take len')) (strs (ss.drop len')) = _
      congr 1
      unfold strs
      rw [List.map_map]
      rfl

theorem weights_all {P : Program} {e : TypeId} : ∀ (l : List (DataW H)) (x : DataW H), x ∈ l → ∀ n ∈ x.weights P e, n ∈ DataW.weightsAll P e l
  | [], _, h, _, _ => by simp at h
  | y :: l, x, h, n, hn => by
    rw [DataW.weightsAll, List.mem_append]
    rcases List.mem_cons.1 h with rfl | h
    · exact Or.inl hn
    · exact Or.inr (weights_all l x h n hn)
/-- Each text that was read is of a size that a machine holds. -/
theorem read_sizes {L : List (List UInt8)} {d : DataW H} (h : TextsRead L d) {ns : List Nat} (hn : ∀ n ∈ d.weights Tryd.prog 22, n ∈ ns) (hall : ns.all (· ≤ reachBytes) = true) : ∀ s ∈ L, s.length ≤ 140737488351232 := by
  intro s hs
  rcases h with ⟨-, rfl⟩ | ⟨sp, rfl⟩
  · simp at hs
  · have hm : s.length ∈ DataW.weights (H := H) Tryd.prog 22 (.slice (L.map fun l => .lit (.string l)) sp) := by
      have h1 := weights_all (P := Tryd.prog) (e := 9) (L.map fun l => (.lit (.string l) : DataW H)) (.lit (.string s)) (List.mem_map.2 ⟨s, hs, rfl⟩) s.length (by simp [DataW.weights])
      simp only [DataW.weights, Tryd.underlying22]
      exact List.mem_cons_of_mem _ (List.mem_append.2 (Or.inl h1))
    have h2 := List.all_eq_true.1 hall _ (hn _ hm)
    have e3 : reachBytes = 140737488351232 := by decide
    rw [decide_eq_true_eq, e3] at h2
    exact h2

theorem open_bs (hval : Value.okWide Tryd.prog W .any base 23 v) (h : DataW.Trod enc Tryd.prog W 0 (fun _ => true) true 23 v d p) :
    ∃ (a : Option Addr) (l : List UInt8) (cap : Nat), v = .slice a l.length cap ∧ Bs W a l ∧ l.length ≤ cap ∧ cap ≤ 9223372036854775807 ∧ (a = none → cap = 0) ∧ ((d = .nil ∧ l.length = 0) ∨ ∃ el sp, d = .slice el sp ∧ el.length = l.length) := by
  obtain ⟨a1, len, cap, rfl⟩ := okWide_slice Tryd.underlying23 hval
  obtain ⟨fuel, hf⟩ := h
  obtain ⟨a, l, c, hcs, h1⟩ := read_bs hf
  simp [Value.cells] at hcs
  obtain ⟨rfl, rfl, rfl⟩ := hcs
  exact ⟨_, l, _, rfl, h1⟩
theorem open_ss (hval : Value.okWide Tryd.prog W .any base 22 v) (h : DataW.Trod enc Tryd.prog W 0 (fun _ => true) true 22 v d p) :
    ∃ (a : Option Addr) (L : List (List UInt8)) (cap : Nat), v = .slice a L.length cap ∧ Ss W a L ∧ L.length ≤ cap ∧ cap ≤ 9223372036854775807 ∧ (a = none → cap = 0) ∧ TextsRead L d := by
  obtain ⟨a1, len, cap, rfl⟩ := okWide_slice Tryd.underlying22 hval
  obtain ⟨fuel, hf⟩ := h
  obtain ⟨a, l, c, hcs, h1⟩ := read_ss hf
  simp [Value.cells] at hcs
  obtain ⟨rfl, rfl, rfl⟩ := hcs
  exact ⟨_, l, _, rfl, h1⟩
theorem size_ss {ts : List TypeId} {ds : List (DataW H)} (h : (DataW.weightsEach Tryd.prog ts ds).all (· ≤ reachBytes) = true) {L : List (List UInt8)} {d : DataW H} (j : Nat) (ht : ts[j]? = some 22) (hd : ds[j]? = some d) (hr : TextsRead L d) : ∀ s ∈ L, s.length ≤ 140737488351232 :=
  read_sizes hr (fun n hn => DataW.weights_mem_each ht hd n hn) h

theorem cells_ss : Tryd.prog.cellsOf 22 = 1 := by kernel_rfl
theorem cells_bs : Tryd.prog.cellsOf 23 = 1 := by kernel_rfl
theorem cells_case : Tryd.prog.cellsOf 25 = 2 := by kernel_rfl
theorem case_cells {cs : Array Value} (h : cs.size = 2) : ∃ a b, cs = #[a, b] := by
  obtain ⟨l⟩ := cs
  match l, h with
  | [a, b], _ => exact ⟨a, b, rfl⟩
theorem okWide_str {P : Program} {t : TypeId} {fs : Array Field} (hu : P.underlying t = some (.struct fs)) (h : Value.okWide P W .any base t v) : ∃ cs, v = .agg cs ∧ cs.size = P.cellsOf t := by
  unfold Value.okWide at h
  rw [hu] at h
  obtain ⟨cs, e, h1, _⟩ := h
  exact ⟨cs, e, h1⟩
theorem open_case (hval : Value.okWide Tryd.prog W .any base 25 v) (h : DataW.Trod enc Tryd.prog W 0 (fun _ => true) true 25 v d p) :
    ∃ (a : Option Addr) (L : List (List UInt8)) (c : Nat) (q : Option Addr) (l : List UInt8) (k : Nat) (dL dB : DataW H), v = .agg #[.slice a L.length c, .slice q l.length k] ∧ d = .agg [dL, dB] ∧
      (Ss W a L ∧ L.length ≤ c ∧ c ≤ 9223372036854775807 ∧ TextsRead L dL) ∧ (Bs W q l ∧ l.length ≤ k ∧ k ≤ 9223372036854775807 ∧ (q = none → k = 0)) := by
  obtain ⟨cs, rfl, hcs⟩ := okWide_str Tryd.underlying25 hval
  rw [cells_case] at hcs
  obtain ⟨v1, v2, rfl⟩ := case_cells hcs
  obtain ⟨fuel, hf⟩ := h
  obtain ⟨y0, y1, m, hx, _, e0, e1⟩ := trod_struct2 Tryd.underlying25 hf
  simp only [cells_ss, cells_bs] at e0 e1
  simp [Value.cells] at e0 e1
  obtain ⟨a, L, c, h1, hS, hc, hcm, -, hr⟩ := read_ss e0
  obtain ⟨q, l, k, h2, hB, hk, hkm, hn, -⟩ := read_bs e1
  simp at h1 h2 hx
  subst h1 h2
  obtain ⟨rfl, rfl⟩ := hx
  exact ⟨a, L, c, q, l, k, y0.1, y1.1, rfl, rfl, ⟨hS, hc, hcm, hr⟩, hB, hk, hkm, hn⟩
theorem size_case {ts : List TypeId} {ds : List (DataW H)} (h : (DataW.weightsEach Tryd.prog ts ds).all (· ≤ reachBytes) = true) {L : List (List UInt8)} {dL dB : DataW H} (j : Nat) (ht : ts[j]? = some 25) (hd : ds[j]? = some (.agg [dL, dB])) (hr : TextsRead L dL) : ∀ s ∈ L, s.length ≤ 140737488351232 :=
  read_sizes hr (fun n hn => DataW.weights_mem_each ht hd n (by
    simp only [DataW.weights, Tryd.underlying25]
    simp only [List.map_cons, DataW.weightsEach, List.mem_append]
    exact Or.inl hn)) h
end

end Go.Proofs.YteojijocoamohaaDoor.ReplyT
