/-
  What the bound of a statement's second form says of a value.
-/
import Derived.Test.YtodpocciimbjbaaDoorValFrame
import Derived.Test.YtodpocciimbjbaaDoorStrFrame
import Derived.Test.YtodpocciimbjbaaDoorRows
namespace Go.Proofs.YtodpocciimbjbaaDoor.StrU
open Go.RowKit StrT ValT
set_option linter.unusedVariables false
set_option maxRecDepth 100000

theorem part_le {H : Type} {d : DataW H} : ∀ {l : List (DataW H)}, d ∈ l → Rows.uptoBulk d ≤ Rows.uptoBulkAll l
  | x :: r, h => by
    rw [Rows.uptoBulkAll]
    rcases List.mem_cons.1 h with rfl | h
    · omega
    · have := part_le (l := r) h
      omega
theorem texts_eq {H : Type} : ∀ (L : List (List UInt8)), Rows.uptoBulkAll (L.map fun l => (.lit (.string l) : DataW H)) = L.flatten.length + L.length
  | [] => by simp [Rows.uptoBulkAll]
  | l :: L => by
    rw [List.map_cons, Rows.uptoBulkAll, texts_eq L, Rows.uptoBulk, List.flatten_cons, List.length_append, List.length_cons]
    omega
theorem upto_ss {H : Type} {ds : List (DataW H)} (hk : Rows.uptoSmall H ds = true) {L : List (List UInt8)} {d : DataW H} (j : Nat) (hd : ds[j]? = some d) (h : TextsRead L d) : L.flatten.length + L.length ≤ 1048576 := by
  have h1 : Rows.uptoBulkAll ds ≤ 1048576 := of_decide_eq_true hk
  have h2 := part_le (List.mem_of_getElem? hd)
  rcases h with ⟨-, rfl⟩ | ⟨sp, rfl⟩
  · simp
  · rw [Rows.uptoBulk, texts_eq] at h2
    omega
theorem upto_v {H : Type} {ds : List (DataW H)} (hk : Rows.uptoSmall H ds = true) {k : Int} {S : ByteArray} {dv : V} {dd : DataW H} (j : Nat) (hd : ds[j]? = some dd) (h : ReadV k S dv dd) : dv.l.flatten.length ≤ 1048576 := by
  have h1 : Rows.uptoBulkAll ds ≤ 1048576 := of_decide_eq_true hk
  have h2 := part_le (List.mem_of_getElem? hd)
  obtain ⟨dL, dH, dZ, rfl, hL, -, -⟩ := h
  rw [Rows.uptoBulk] at h2
  have h3 := part_le (d := dL) (l := [.lit (.int .u8 k), .lit (.string S.data.toList), dL, dH, dZ]) (by simp)
  rcases hL with ⟨-, h⟩ | ⟨sp, rfl⟩
  · rw [h]; simp
  · rw [Rows.uptoBulk, texts_eq] at h3
    omega

end Go.Proofs.YtodpocciimbjbaaDoor.StrU
