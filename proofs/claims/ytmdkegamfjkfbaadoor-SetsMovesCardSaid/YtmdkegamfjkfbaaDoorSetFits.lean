/-
  What is made to fit: sets.
-/
import Derived.Test.YtmdkegamfjkfbaaDoorFitLen
import Derived.Test.YtmdkegamfjkfbaaDoorSetPure
namespace Go.Proofs.YtmdkegamfjkfbaaDoor.SetL
open BOrd ValT DoT SetT RefV
open Go.Op (bytesLess)
set_option linter.unusedVariables false
set_option maxRecDepth 100000

theorem ins_letters (s : List UInt8) : ∀ l : List (List UInt8), (insS l s).flatten.length ≤ l.flatten.length + s.length
  | [] => by simp [insS]
  | x :: l => by
    rw [insS]
    split
    · omega
    · split
      · simp only [List.flatten_cons, List.length_append]
        omega
      · have := ins_letters s l
        simp only [List.flatten_cons, List.length_append]
        omega
theorem add_letters : ∀ (ws l : List (List UInt8)), (addS l ws).flatten.length ≤ l.flatten.length + ws.flatten.length
  | [], l => by show l.flatten.length ≤ _; omega
  | s :: ws, l => by
    have h1 := add_letters ws (insS l s)
    have h2 := ins_letters s l
    rw [show addS l (s :: ws) = addS (insS l s) ws from rfl]
    simp only [List.flatten_cons, List.length_append]
    omega
theorem fitL_letters (l : List (List UInt8)) : (fitL l).flatten.length ≤ l.flatten.length := by
  rw [fitL_add]
  have h1 := add_letters (l.take 8) []
  have h2 : (l.take 8).flatten.length + (l.drop 8).flatten.length = l.flatten.length := by rw [← List.length_append, ← List.flatten_append, List.take_append_drop]
  simp only [List.flatten_nil, List.length_nil] at h1
  omega
theorem fitL_up (l : List (List UInt8)) : rises (fitL l) := by
  rw [fitL_add]
  exact add_up _ rises_nil
theorem fitL_some {l : List (List UInt8)} (h : l ≠ []) : 0 < (fitL l).length := by
  rw [fitL_add]
  cases l with
  | nil => exact absurd rfl h
  | cons x l =>
    have hm : x ∈ addS [] ((x :: l).take 8) := (add_mem x _ _).2 (Or.inl (by simp))
    exact List.length_pos_of_mem hm
theorem fit_cases4 (d : V) : fitV d = v0 ∨ (fitV d = ⟨4, [], fitL d.l, [], []⟩ ∧ d.l ≠ []) ∨ ((fitV d).kind ≠ 0 ∧ (fitV d).kind ≠ 4) := by
  obtain ⟨x, hx⟩ : ∃ x, x = fitV d := ⟨_, rfl⟩
  rw [← hx]
  unfold fitV at hx
  (repeat' split at hx) <;> subst hx <;> first
    | exact Or.inl rfl
    | exact Or.inr (Or.inl ⟨rfl, by assumption⟩)
    | exact Or.inr (Or.inr ⟨by decide, by decide⟩)
    | exact Or.inr (Or.inr ⟨by simp, by simp⟩)
/-- What is made to fit, of none or a set, is texts as a set, rising. -/
theorem fit_set (d : V) (hk : (fitV d).kind = 0 ∨ (fitV d).kind = 4) : fitV d = setV (fitV d).l ∧ rises (fitV d).l ∧ (fitV d).l.length ≤ 8 ∧ (fitV d).l.flatten.length ≤ d.l.flatten.length := by
  rcases fit_cases4 d with h | ⟨h, h0⟩ | h
  · rw [h]; exact ⟨rfl, rises_nil, by decide, Nat.zero_le _⟩
  · rw [h]
    exact ⟨(setV_some (fitL_some h0)).symm, fitL_up _, fitL_len d.l, fitL_letters _⟩
  · omega
/-- Texts made to fit. -/
theorem fit_texts (L : List (List UInt8)) : fitV ⟨4, [], L, [], []⟩ = setV (fitL L) := by
  by_cases h : L = []
  · subst h; rfl
  · rw [setV_some (fitL_some h)]
    unfold fitV
    simp [h]

end Go.Proofs.YtmdkegamfjkfbaaDoor.SetL
