/-
  The order of texts, byte by byte, as the machine compares them: pure.
-/
import Derived.Test.YtodpocciimbjbaaDoorKit
namespace Go.Proofs.YtodpocciimbjbaaDoor.BOrd
set_option linter.unusedVariables false
open Go.Op (bytesLess)

theorem less_cons (a b : UInt8) (x y : List UInt8) : bytesLess (a :: x) (b :: y) = true ↔ a < b ∨ (a = b ∧ bytesLess x y = true) := by
  simp [bytesLess]
theorem less_irrefl : ∀ x : List UInt8, bytesLess x x = false
  | [] => rfl
  | a :: x => by
    have ih := less_irrefl x
    cases h : bytesLess (a :: x) (a :: x) with
    | false => rfl
    | true =>
      rcases (less_cons a a x x).1 h with h | ⟨-, h⟩
      · exact absurd h (UInt8.lt_irrefl a)
      · rw [ih] at h; cases h
theorem less_trans : ∀ x y z : List UInt8, bytesLess x y = true → bytesLess y z = true → bytesLess x z = true
  | _, _, [], _, h => by simp [bytesLess] at h
  | _, [], _ :: _, h, _ => by
    rename_i x _ _
    cases x <;> simp [bytesLess] at h
  | [], _ :: _, _ :: _, _, _ => by simp [bytesLess]
  | a :: x, b :: y, c :: z, h1, h2 => by
    rw [less_cons] at h1 h2 ⊢
    rcases h1 with h1 | ⟨rfl, h1⟩
    · rcases h2 with h2 | ⟨rfl, h2⟩
      · exact Or.inl (UInt8.lt_trans h1 h2)
      · exact Or.inl h1
    · rcases h2 with h2 | ⟨rfl, h2⟩
      · exact Or.inl h2
      · exact Or.inr ⟨rfl, less_trans x y z h1 h2⟩
theorem less_total : ∀ x y : List UInt8, bytesLess x y = true ∨ x = y ∨ bytesLess y x = true
  | [], [] => Or.inr (Or.inl rfl)
  | [], _ :: _ => Or.inl (by simp [bytesLess])
  | _ :: _, [] => Or.inr (Or.inr (by simp [bytesLess]))
  | a :: x, b :: y => by
    rw [less_cons, less_cons]
    rcases UInt8.lt_or_lt_of_ne (a := a) (b := b) |> fun h => (Classical.em (a = b)).elim Or.inl (fun hn => Or.inr (h hn)) with rfl | h | h
    · rcases less_total x y with h | rfl | h
      · exact Or.inl (Or.inr ⟨rfl, h⟩)
      · exact Or.inr (Or.inl rfl)
      · exact Or.inr (Or.inr (Or.inr ⟨rfl, h⟩))
    · exact Or.inl (Or.inl h)
    · exact Or.inr (Or.inr (Or.inl h))
theorem less_asymm {x y : List UInt8} (h : bytesLess x y = true) : bytesLess y x = false := by
  cases h2 : bytesLess y x with
  | false => rfl
  | true =>
    have h3 := less_trans x y x h h2
    rw [less_irrefl] at h3
    cases h3
theorem less_ne {x y : List UInt8} (h : bytesLess x y = true) : x ≠ y := fun e => by
  rw [e, less_irrefl] at h
  cases h
/-- 'x > y' as the machine reckons it. -/
def more (x y : List UInt8) : Bool := !(bytesLess x y || x == y)
theorem more_iff (x y : List UInt8) : more x y = true ↔ bytesLess y x = true := by
  unfold more
  rcases less_total x y with h | rfl | h
  · rw [h, less_asymm h]; simp
  · rw [less_irrefl]; simp
  · rw [h, less_asymm h]
    simp [Ne.symm (less_ne h)]
theorem more_eq (x y : List UInt8) : more x y = bytesLess y x := by
  rw [Bool.eq_iff_iff]
  exact more_iff x y
theorem geq_iff (x y : List UInt8) : bytesLess x y = false ↔ y = x ∨ bytesLess y x = true := by
  rcases less_total x y with h | rfl | h
  · rw [h, less_asymm h]
    simp [Ne.symm (less_ne h)]
  · simp [less_irrefl]
  · rw [less_asymm h, h]
    simp

end Go.Proofs.YtodpocciimbjbaaDoor.BOrd
