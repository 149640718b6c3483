/-
  From the statements' reading of a row of pairs to what a walk asks; what the bound of the second form says of it, and of a value's pairs.
-/
import Derived.Test.YtjikppjlkicgpaaDoorValFrame
import Derived.Test.YtjikppjlkicgpaaDoorRows
namespace Go.Proofs.YtjikppjlkicgpaaDoor.PrsT
open Go.RowKit Kit StrT RowG BOrd ValT
open Go.ChangeShapes Go.WideShapes
set_option linter.unusedVariables false
set_option maxRecDepth 100000

section
variable {H : Type} {enc : TypeId × Value → H} {W : World} {base : Nat} {v : Value} {d : DataW H} {p : List MemPlace}
theorem open_prs (hval : Value.okWide Tryd.prog W .any base 23 v) (h : DataW.Trod enc Tryd.prog W 0 (fun _ => true) true 23 v d p) :
    ∃ (a : Option Addr) (L : List Pr) (cap : Nat), v = .slice a L.length cap ∧ Rs prE W a L ∧ L.length ≤ cap ∧ cap ≤ 9223372036854775807 ∧ (a = none → cap = 0) ∧ RowRead pairD L d := by
  obtain ⟨a1, len, cap, rfl⟩ := okWide_slice Tryd.underlying23 hval
  obtain ⟨fuel, hf⟩ := h
  obtain ⟨a, l, c, hcs, h1⟩ := read_rows prE c_pair pairD one_pair hf
  simp [Value.cells] at hcs
  obtain ⟨rfl, rfl, rfl⟩ := hcs
  exact ⟨_, l, _, rfl, h1⟩
theorem size_prs {ts : List TypeId} {ds : List (DataW H)} (h : (DataW.weightsEach Tryd.prog ts ds).all (· ≤ reachBytes) = true) {L : List Pr} {dd : DataW H} (j : Nat) (ht : ts[j]? = some 23) (hd : ds[j]? = some dd) (hr : RowRead pairD L dd) : ∀ x ∈ L, x.name.length ≤ 140737488351232 ∧ x.val.length ≤ 140737488351232 := fun x hx =>
  ⟨weights_row (E := prE) (sz := fun a : Pr => a.name.length) hr (fun n hn => DataW.weights_mem_each ht hd n hn) h (fun a => by
    show a.name.length ∈ DataW.weights Tryd.prog 40 _
    simp [pairD, DataW.weights, DataW.weightsEach, Tryd.underlying40]) x hx,
   weights_row (E := prE) (sz := fun a : Pr => a.val.length) hr (fun n hn => DataW.weights_mem_each ht hd n hn) h (fun a => by
    show a.val.length ∈ DataW.weights Tryd.prog 40 _
    simp [pairD, DataW.weights, DataW.weightsEach, Tryd.underlying40]) x hx⟩
end
/-- All letters of a row of pairs. -/
def lettersP (L : List Pr) : Nat := ((L.map fun x => [x.name, x.val]).flatten).flatten.length
theorem bulk_prs {H : Type} : ∀ (L : List Pr), Rows.uptoBulkAll (L.map (pairD (H := H))) = lettersP L + 3 * L.length
  | [] => by simp [Rows.uptoBulkAll, lettersP]
  | x :: L => by
    have ih := bulk_prs (H := H) L
    unfold lettersP at ih ⊢
    rw [List.map_cons, Rows.uptoBulkAll, ih]
    unfold pairD
    simp [Rows.uptoBulk, Rows.uptoBulkAll]
    omega
theorem part_le {H : Type} {d : DataW H} : ∀ {l : List (DataW H)}, d ∈ l → Rows.uptoBulk d ≤ Rows.uptoBulkAll l
  | x :: r, h => by
    rw [Rows.uptoBulkAll]
    rcases List.mem_cons.1 h with rfl | h
    · omega
    · have := part_le (l := r) h
      omega
theorem row_prs {H : Type} {L : List Pr} {d : DataW H} (h : RowRead pairD L d) : lettersP L + L.length ≤ Rows.uptoBulk d := by
  rcases h with ⟨-, rfl⟩ | ⟨sp, rfl⟩
  · simp [lettersP]
  · rw [Rows.uptoBulk, bulk_prs]
    omega
theorem upto_prs {H : Type} {ds : List (DataW H)} (hk : Rows.uptoSmall H ds = true) {L : List Pr} {d : DataW H} (j : Nat) (hd : ds[j]? = some d) (h : RowRead pairD L d) : lettersP L + L.length ≤ 1048576 := by
  have h1 : Rows.uptoBulkAll ds ≤ 1048576 := of_decide_eq_true hk
  have h2 := part_le (List.mem_of_getElem? hd)
  have h3 := row_prs h
  omega
theorem upto_vh {H : Type} {ds : List (DataW H)} (hk : Rows.uptoSmall H ds = true) {k : Int} {S : ByteArray} {dv : V} {dd : DataW H} (j : Nat) (hd : ds[j]? = some dd) (h : ReadV k S dv dd) : lettersP dv.h + dv.h.length ≤ 1048576 := by
  have h1 : Rows.uptoBulkAll ds ≤ 1048576 := of_decide_eq_true hk
  have h2 := part_le (List.mem_of_getElem? hd)
  obtain ⟨dL, dH, dZ, rfl, -, hH, -⟩ := h
  rw [Rows.uptoBulk] at h2
  have h3 := part_le (d := dH) (l := [.lit (.int .u8 k), .lit (.string S.data.toList), dL, dH, dZ]) (by simp)
  have h4 := row_prs hH
  omega

end Go.Proofs.YtjikppjlkicgpaaDoor.PrsT
