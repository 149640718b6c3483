/-
  The keys of a request of many keys, and of none, as the document's own answers of layer 8 (package tipstaffref08) tell them.
-/
import Derived.Test.YtonoelpmmjnpeaaRefUses
import Derived.Test.YtonoelpmmjnpeaaUseNeed
import Derived.Deep.WholeRow
namespace Go.Proofs.Ytonoelpmmjnpeaa.RefU
open Go.RowKit Kit StrT UseT TableMath Low
set_option linter.unusedVariables false
set_option maxRecDepth 100000

/-- Names without keys. -/
def g0 : List (List UInt8) := [[107, 101, 121, 115], [100, 98, 115, 105, 122, 101], [102, 108, 117, 115, 104, 97, 108, 108], [112, 105, 110, 103], [101, 99, 104, 111], [97, 117, 116, 104], [113, 117, 105, 116], [109, 117, 108, 116, 105], [101, 120, 101, 99], [100, 105, 115, 99, 97, 114, 100], [117, 110, 119, 97, 116, 99, 104], [115, 117, 98, 115, 99, 114, 105, 98, 101], [117, 110, 115, 117, 98, 115, 99, 114, 105, 98, 101], [112, 117, 98, 108, 105, 115, 104], [97, 99, 108]]
theorem keys_g0 {name : List UInt8} (args : List (List UInt8)) (h : name ∈ g0) : keysL name args = [] := by
  have h1 : name ∉ g1 ∧ name ∉ g2 ∧ name ≠ nSet ∧ name ≠ nRename ∧ name ≠ nSmove ∧ name ∉ g3 ∧ name ≠ nMset := by
    have : ∀ x ∈ g0, x ∉ g1 ∧ x ∉ g2 ∧ x ≠ nSet ∧ x ≠ nRename ∧ x ≠ nSmove ∧ x ∉ g3 ∧ x ≠ nMset := by decide
    exact this name h
  exact keys_none args h1.1 h1.2.1 h1.2.2.1 h1.2.2.2.1 h1.2.2.2.2.1 h1.2.2.2.2.2.1 h1.2.2.2.2.2.2
theorem ans0 (w : World) : AnsU w.heap.size (w.alloc (.cells #[] 43)) (.slice (some ⟨w.heap.size, 0, none⟩) 0 0) [] := (OwnU.new w).ans

set_option maxHeartbeats 4000000 in
theorem rkeys_g0 (s : ByteArray) (q : Option Addr) (args : List (List UInt8)) (n c : Nat) (w : World) (hm : s.data.toList ∈ g0) :
    Calls Try.prog 29 #[.string s, .slice q n c] w (KeysP s.data.toList args w) := by
  have HK := Lib.hid (keys_g0 args hm)
  have HA := Lib.hid (ans0 w)
  have HB := Lib.hid (bel1 w (.cells #[] 43))
  have hs : s = ⟨s.data.toList.toArray⟩ := rfl
  obtain ⟨l, hl⟩ : ∃ l, l = s.data.toList := ⟨_, rfl⟩
  rw [← hl] at hs hm HK ⊢
  clear hl
  unfold g0 at hm
  simp only [List.mem_cons, List.not_mem_nil, or_false] at hm
  rcases hm with rfl | rfl | rfl | rfl | rfl | rfl | rfl | rfl | rfl | rfl | rfl | rfl | rfl | rfl | rfl
  all_goals
    subst hs
    go_enter Try.func29, Try.ntmps29
    go_wp2_with fail
    go_ret
    exact ⟨_, rfl, by rw [HK.out]; exact HA.out, HB.out⟩

theorem map_step (args : List (List UInt8)) (f : List UInt8 → U) (k : Nat) (h0 : 1 ≤ k) (h : k < args.length) : ((args.take (k + 1)).drop 1).map f = ((args.take k).drop 1).map f ++ [f (args.getD k [])] := by
  rw [List.take_succ_eq_append_getElem h, List.drop_append_of_le_length (by rw [List.length_take]; omega), List.map_append]
  simp [List.getD, h]
/-- A key as it lies in a block just made. -/
theorem one_use (W : World) (k : Nat) (A : ByteArray) (a : List UInt8) (r z : Bool) (hA : A = ⟨a.toArray⟩) (hk : k = W.heap.size) : ∀ j, j < 3 → (W.alloc (.cells #[.string A, .bool r, .bool z] 43)).cell? ⟨k, j, none⟩ = (uv ⟨a, r, z⟩)[j]? := fun j hj => by
  subst hA hk
  rw [cell_of_row _ _ _ _ 43 _ (heap_alloc_last W _)]
  match j, hj with
  | 0, _ => rfl
  | 1, _ => rfl
  | 2, _ => rfl

end Go.Proofs.Ytonoelpmmjnpeaa.RefU
