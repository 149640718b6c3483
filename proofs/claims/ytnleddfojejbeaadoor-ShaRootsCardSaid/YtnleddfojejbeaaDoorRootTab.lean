/-
  What the walks ask of the primes and of the roots.
-/
import Derived.Test.YtnleddfojejbeaaDoorRootEval
namespace Go.Proofs.YtnleddfojejbeaaDoor.RootM
open Kit ShaMath

theorem ok_at (p : Nat) (h : p < 312) : okAt p = true := List.all_eq_true.1 ok_all p (List.mem_range.2 h)
theorem cnt_prime (p : Nat) (h2 : 2 ≤ p) (h : p < 312) (hp : isPr p p = true) : primeAt (cnt p) = p ∧ cnt (p + 1) = cnt p + 1 := by
  have := ok_at p h
  unfold okAt at this
  have hb : Nat.blt p 2 = false := by rw [Bool.eq_false_iff, ne_eq, Nat.blt_eq]; omega
  rw [hb, hp] at this
  simpa [beq_same] using this
theorem cnt_not (p : Nat) (h2 : 2 ≤ p) (h : p < 312) (hp : isPr p p = false) : cnt (p + 1) = cnt p := by
  have := ok_at p h
  unfold okAt at this
  have hb : Nat.blt p 2 = false := by rw [Bool.eq_false_iff, ne_eq, Nat.blt_eq]; omega
  rw [hb, hp] at this
  simpa [beq_same] using this
theorem tab_at (i : Nat) (h : i < 64) : kAt i = rootOf (primeAt i) 3 % 4294967296 ∧ primeAt i < 65536 ∧ (i < 8 → H0.get i = rootOf (primeAt i) 2 % 4294967296) := by
  have := List.all_eq_true.1 tab_all i (List.mem_range.2 h)
  unfold tabOk at this
  simp only [Bool.and_eq_true, Bool.or_eq_true, Nat.beq_eq, Nat.ble_eq, Nat.blt_eq] at this
  obtain ⟨⟨h1, h2⟩, h3⟩ := this
  exact ⟨h1, h2, fun h8 => by rcases h3 with h3 | h3; omega; exact h3⟩

end Go.Proofs.YtnleddfojejbeaaDoor.RootM
