/-
  Rows of one's own in a known block, that are changed record by record.
-/
import Derived.Test.YteadjcligmmkmaaDoorGRow
namespace Go.Proofs.YteadjcligmmkmaaDoor.ValT
open Go.RowKit Kit RowG
set_option linter.unusedVariables false
set_option maxRecDepth 100000

theorem flat_set {α : Type} (E : Enc α) (a : α) (d : Nat) (u : Value) : ∀ (L : List α) (i : Nat) (h : i < L.length), E.enc a = (E.enc L[i]).set d u → d < E.sz → flat E (L.set i a) = (flat E L).set (i * E.sz + d) u
  | c :: L, 0, h, he, hd => by
    rw [List.set_cons_zero, flat_cons, flat_cons, Nat.zero_mul, Nat.zero_add, List.set_append_left _ _ (by rw [E.len]; exact hd)]
    rw [he]
    rfl
  | c :: L, i + 1, h, he, hd => by
    rw [List.set_cons_succ, flat_cons, flat_cons, List.set_append_right _ _ (by rw [E.len, Nat.succ_mul]; omega), show (i + 1) * E.sz + d - (E.enc c).length = i * E.sz + d by rw [E.len, Nat.succ_mul]; omega]
    rw [flat_set E a d u L i (by simpa using h) he hd]
/-- A row of one's own in a block that is known. -/
def OwnB {α : Type} (E : Enc α) (w : World) (g n cap : Nat) (L : List α) : Prop :=
  L.length = n ∧ n ≤ cap ∧ ∃ cur, w.heap[g]? = some (.cells cur E.ty (0, 0)) ∧ cap ≤ 9223372036854775807 ∧ cur.size = cap * E.sz ∧ cur.toList.take (n * E.sz) = flat E L
theorem OwnB.keep {α : Type} {E : Enc α} {w w' : World} {g n cap : Nat} {L : List α} (h : OwnB E w g n cap L) (hb : Below w.heap.size w w') : OwnB E w' g n cap L := by
  obtain ⟨h1, h2, cur, h3, h4⟩ := h
  exact ⟨h1, h2, cur, by rw [hb.block g (Array.getElem?_eq_some_iff.1 h3).1]; exact h3, h4⟩
theorem OwnB.lt {α : Type} {E : Enc α} {w : World} {g n cap : Nat} {L : List α} (h : OwnB E w g n cap L) : g < w.heap.size := by
  obtain ⟨h1, h2, cur, h3, h4⟩ := h
  exact (Array.getElem?_eq_some_iff.1 h3).1
theorem OwnB.frz {α : Type} {E : Enc α} {w : World} {g n cap : Nat} {L : List α} (h : OwnB E w g n cap L) (j : Nat) : w.frozen? ⟨g, j, none⟩ = false := by
  obtain ⟨h1, h2, cur, h3, h4⟩ := h
  exact frozen_of_row _ _ _ _ E.ty h3
theorem OwnB.cell {α : Type} {E : Enc α} {w : World} {g n cap : Nat} {L : List α} (h : OwnB E w g n cap L) (i d : Nat) (hi : i < L.length) (hd : d < E.sz) : w.cell? ⟨g, i * E.sz + d, none⟩ = (E.enc L[i])[d]? := by
  obtain ⟨h1, h2, cur, h3, h4, h5, h6⟩ := h
  rw [cell_of_row _ _ _ _ E.ty _ h3, ← flat_at E L i hi d hd, ← h6, List.getElem?_take, if_pos (mul_lt (by omega) hd)]
  simp
theorem OwnB.set {α : Type} {E : Enc α} {w : World} {g n cap : Nat} {L : List α} (h : OwnB E w g n cap L) (i d : Nat) (a : α) (u : Value) (hi : i < L.length) (hd : d < E.sz) (he : E.enc a = (E.enc L[i]).set d u) : OwnB E (w.setCell ⟨g, i * E.sz + d, none⟩ u) g n cap (L.set i a) := by
  obtain ⟨h1, h2, cur, h3, h4, h5, h6⟩ := h
  refine ⟨by rw [List.length_set]; exact h1, h2, _, heap_setCell_same _ _ _ _ _ _ h3, h4, by simpa using h5, ?_⟩
  rw [flat_set E a d u L i hi he hd, ← h6, Array.toList_setIfInBounds, List.take_set]
theorem OwnB.other {α : Type} {E : Enc α} {w : World} {g n cap : Nat} {L : List α} (h : OwnB E w g n cap L) (p : Addr) (u : Value) (hp : g ≠ p.block) : OwnB E (w.setCell p u) g n cap L := by
  obtain ⟨h1, h2, cur, h3, h4⟩ := h
  exact ⟨h1, h2, cur, by rw [heap_setCell_other _ _ _ _ hp]; exact h3, h4⟩
theorem OwnB.rs {α : Type} {E : Enc α} {w : World} {g n cap : Nat} {L : List α} (h : OwnB E w g n cap L) : Rs E w (some ⟨g, 0, none⟩) L := fun _ => by
  have hlt := h.lt
  obtain ⟨h1, h2, cur, h3, h4, h5, h6⟩ := h
  refine ⟨g, 0, rfl, hlt, fun j hj => ?_⟩
  rw [Nat.zero_add, cell_of_row _ _ _ _ E.ty _ h3, ← h6, List.getElem?_take, if_pos (by rw [← h1]; exact hj)]
  simp
/-- A row of an answer that nobody else has: an empty one of whatever kind. -/
def RowO {α : Type} (E : Enc α) (base : Nat) (w : World) (v : Value) (L : List α) : Prop :=
  ∃ q c, v = .slice q L.length c ∧ L.length ≤ c ∧ c ≤ 9223372036854775807 ∧ (q = none → c = 0) ∧ (L = [] ∨ ∃ g, q = some ⟨g, 0, none⟩ ∧ base ≤ g ∧ OwnB E w g L.length c L)
theorem OwnR.rowO {α : Type} {E : Enc α} {base : Nat} {w : World} {v : Value} {L : List α} (h : OwnR E base w v L) : RowO E base w v L := by
  rcases id h.2 with ⟨rfl, h0⟩ | ⟨g, cap, cur, rfl, hgb, hh, hc, hm, hsz, htake⟩
  · obtain rfl : L = [] := List.eq_nil_of_length_eq_zero h0
    exact ⟨none, 0, rfl, by simp, by omega, (fun _ => rfl), Or.inl rfl⟩
  · unfold maxLen at hm
    exact ⟨_, cap, rfl, hc, by omega, (fun h => by cases h), Or.inr ⟨g, rfl, hgb, rfl, hc, cur, hh, by omega, hsz, htake⟩⟩

end Go.Proofs.YteadjcligmmkmaaDoor.ValT
