/-
  From the statements' reading of a row of marks, of a row of numbers to what a walk asks; what the bound of the second form says of it, and of a value's marks; their numbers.
-/
import Derived.Test.YtodpocciimbjbaaDoorValFrame
import Derived.Test.YtodpocciimbjbaaDoorRows
namespace Go.Proofs.YtodpocciimbjbaaDoor.MksT
open Go.RowKit Kit StrT RowG BOrd ValT
open Go.ChangeShapes Go.WideShapes
set_option linter.unusedVariables false
set_option maxRecDepth 100000

section
variable {H : Type} {enc : TypeId × Value → H} {W : World} {base : Nat} {v : Value} {d : DataW H} {p : List MemPlace}
/-- A mark as it was read: its number is one. -/
theorem mark_n (fuel : Nat) (cs : List Value) (x : DataW H × List MemPlace) (hf : DataW.trod enc Tryd.prog W 0 (fun _ => true) true fuel mkE.ty cs = some x) (a : Mk) (ha : x.1 = markD a) : -9223372036854775808 ≤ a.n ∧ a.n ≤ 9223372036854775807 := by
  obtain ⟨y0, y1, m, hx, hl, e0, e1⟩ := trod_struct2 Tryd.underlying39 hf
  rw [c_mark] at hl
  obtain ⟨u, v, rfl⟩ := two_list hl
  simp only [c_str, c_int] at e0 e1
  simp at e0 e1
  obtain ⟨n, h1, rfl, hw⟩ := DataW.trod_int Tryd.underlying3 e1
  rw [hx] at ha
  simp [markD] at ha
  rw [← ha.2]
  exact bounds_i64 hw
theorem row_n {fuel : Nat} {cs : List Value} {x : DataW H × List MemPlace} (hf : DataW.trod enc Tryd.prog W 0 (fun _ => true) true fuel mkE.slt cs = some x) {L : List Mk} (hr : RowRead markD L x.1) : ∀ a ∈ L, -9223372036854775808 ≤ a.n ∧ a.n ≤ 9223372036854775807 := by
  intro b hb
  rcases hr with ⟨-, rfl⟩ | ⟨sp, hr⟩
  · cases hb
  · rcases DataW.trod_slice mkE.und hf with ⟨rfl, rfl⟩ | ⟨a, len, cap, elems, rest, n, _, rfl, rfl, hb1, hl, hm, hlen, hel, hsp, hns⟩
    · cases hr
    · have hE : elems.map (·.1) = L.map markD := by
        have h := hr
        injection h
      obtain ⟨i, hi, rfl⟩ := List.getElem_of_mem hb
      have hi2 : i < elems.length := by
        have := congrArg List.length hE
        simp at this
        omega
      have h1 := hel i (by omega)
      have h2 : elems[i]? = some (elems[i]'hi2) := List.getElem?_eq_getElem hi2
      rw [h2, Option.bind_eq_some_iff] at h1
      obtain ⟨cs', -, h4⟩ := h1
      refine mark_n _ _ _ h4 _ ?_
      have h5 : (elems.map (·.1))[i]? = (L.map markD)[i]? := by rw [hE]
      rw [List.getElem?_map, List.getElem?_map, h2, List.getElem?_eq_getElem hi] at h5
      simpa using h5
theorem open_mks (hval : Value.okWide Tryd.prog W .any base 24 v) (h : DataW.Trod enc Tryd.prog W 0 (fun _ => true) true 24 v d p) :
    ∃ (a : Option Addr) (L : List Mk) (cap : Nat), v = .slice a L.length cap ∧ Rs mkE W a L ∧ L.length ≤ cap ∧ cap ≤ 9223372036854775807 ∧ (a = none → cap = 0) ∧ (∀ x ∈ L, -9223372036854775808 ≤ x.n ∧ x.n ≤ 9223372036854775807) ∧ RowRead markD L d := by
  obtain ⟨a1, len, cap, rfl⟩ := okWide_slice Tryd.underlying24 hval
  obtain ⟨fuel, hf⟩ := h
  obtain ⟨a, l, c, hcs, h1, h2, h3, h4, h5⟩ := read_rows mkE c_mark markD one_mark hf
  have hn := row_n hf h5
  simp [Value.cells] at hcs
  obtain ⟨rfl, rfl, rfl⟩ := hcs
  exact ⟨_, l, _, rfl, h1, h2, h3, h4, hn, h5⟩
theorem size_mks {ts : List TypeId} {ds : List (DataW H)} (h : (DataW.weightsEach Tryd.prog ts ds).all (· ≤ reachBytes) = true) {L : List Mk} {dd : DataW H} (j : Nat) (ht : ts[j]? = some 24) (hd : ds[j]? = some dd) (hr : RowRead markD L dd) : ∀ x ∈ L, x.name.length ≤ 140737488351232 := fun x hx =>
  weights_row (E := mkE) (sz := fun a : Mk => a.name.length) hr (fun n hn => DataW.weights_mem_each ht hd n hn) h (fun a => by
    show a.name.length ∈ DataW.weights Tryd.prog 39 _
    simp [markD, DataW.weights, DataW.weightsEach, Tryd.underlying39]) x hx
/-- Of a value: its marks' numbers. -/
theorem in_vz (h : DataW.Trod enc Tryd.prog W 0 (fun _ => true) true 26 v d p) {k : Int} {S : ByteArray} {dv : V} (hr : ReadV k S dv d) : ∀ a ∈ dv.z, -9223372036854775808 ≤ a.n ∧ a.n ≤ 9223372036854775807 := by
  obtain ⟨fuel, hf⟩ := h
  obtain ⟨xs, m, -, hx, -, hl, hel⟩ := DataW.trod_struct Tryd.underlying26 hf
  obtain ⟨dL, dH, dZ, hd, -, -, hZ⟩ := hr
  match xs, hl with
  | [y0, y1, y2, y3, y4], _ =>
    have e4 := hel 4 _ rfl
    simp only [List.getElem_toArray, List.getElem_cons_zero, List.getElem_cons_succ, c_sz] at e4
    simp at hx
    rw [hd] at hx
    simp at hx
    rw [hx.1.2.2.2.2] at hZ
    exact row_n e4 hZ
end
theorem bulk_mks {H : Type} : ∀ (L : List Mk), (L.map (·.name)).flatten.length + L.length ≤ Rows.uptoBulkAll (L.map (markD (H := H)))
  | [] => by simp [Rows.uptoBulkAll]
  | x :: L => by
    have ih := bulk_mks (H := H) L
    rw [List.map_cons, List.map_cons, Rows.uptoBulkAll]
    unfold markD at ih ⊢
    simp [Rows.uptoBulk, Rows.uptoBulkAll] at ih ⊢
    omega
theorem part_le {H : Type} {d : DataW H} : ∀ {l : List (DataW H)}, d ∈ l → Rows.uptoBulk d ≤ Rows.uptoBulkAll l
  | x :: r, h => by
    rw [Rows.uptoBulkAll]
    rcases List.mem_cons.1 h with rfl | h
    · omega
    · have := part_le (l := r) h
      omega
theorem row_mks {H : Type} {L : List Mk} {d : DataW H} (h : RowRead markD L d) : (L.map (·.name)).flatten.length ≤ Rows.uptoBulk d := by
  rcases h with ⟨-, rfl⟩ | ⟨sp, rfl⟩
  · simp
  · have := bulk_mks (H := H) L
    rw [Rows.uptoBulk]
    omega
theorem upto_mks {H : Type} {ds : List (DataW H)} (hk : Rows.uptoSmall H ds = true) {L : List Mk} {d : DataW H} (j : Nat) (hd : ds[j]? = some d) (h : RowRead markD L d) : (L.map (·.name)).flatten.length ≤ 1048576 := by
  have h1 : Rows.uptoBulkAll ds ≤ 1048576 := of_decide_eq_true hk
  have h2 := part_le (List.mem_of_getElem? hd)
  have h3 := row_mks h
  omega
theorem upto_vz {H : Type} {ds : List (DataW H)} (hk : Rows.uptoSmall H ds = true) {k : Int} {S : ByteArray} {dv : V} {dd : DataW H} (j : Nat) (hd : ds[j]? = some dd) (h : ReadV k S dv dd) : (dv.z.map (·.name)).flatten.length ≤ 1048576 := by
  have h1 : Rows.uptoBulkAll ds ≤ 1048576 := of_decide_eq_true hk
  have h2 := part_le (List.mem_of_getElem? hd)
  obtain ⟨dL, dH, dZ, rfl, -, -, hZ⟩ := h
  rw [Rows.uptoBulk] at h2
  have h3 := part_le (d := dZ) (l := [.lit (.int .u8 k), .lit (.string S.data.toList), dL, dH, dZ]) (by simp)
  have h4 := row_mks hZ
  omega

end Go.Proofs.YtodpocciimbjbaaDoor.MksT
