/-
  What is so of any request's need, as the document's layer 8 says it: pure.
-/
import Derived.Test.YtonoelpmmjnpeaaRefUses5
namespace Go.Proofs.Ytonoelpmmjnpeaa.UseT
open Go.RowKit Kit StrT TableMath Low
open RefU (g0 keys_g0 group_of find_name fits_abs asks_of)
set_option linter.unusedVariables false
set_option maxRecDepth 100000

theorem more_all : (List.range 56).all (fun k => decide ((((cmdAt k).name ∈ g3 ∨ (cmdAt k).name = nMset) → 2 ≤ (cmdAt k).ar.natAbs))) = true := by decide +kernel
theorem more_of {s : List UInt8} {n : Nat} (h : findB s = true) (hf : okL s n = true) (hm : s ∈ g3 ∨ s = nMset) : 2 ≤ n := by
  obtain ⟨hk, hn⟩ := find_name h
  have h1 := List.all_eq_true.1 more_all _ (List.mem_range.2 hk)
  have h2 := of_decide_eq_true h1
  rw [hn] at h2
  unfold okL at hf
  rw [Bool.and_eq_true] at hf
  exact Nat.le_trans (h2 hm) (fits_abs hk hf.1)
theorem odds_pos {l : List (List UInt8)} (h : 0 < l.length) : 0 < (odds l).length := by
  match l, h with
  | [a], _ => simp [odds]
  | a :: _ :: r, _ => simp [odds]
theorem g0_not {s : List UInt8} (h : s ∈ g0) : s ∉ g1 ∧ s ∉ g2 ∧ s ≠ nSet ∧ s ≠ nRename ∧ s ≠ nSmove ∧ s ∉ g3 ∧ s ≠ nMset := by
  have : ∀ x ∈ g0, x ∉ g1 ∧ x ∉ g2 ∧ x ≠ nSet ∧ x ≠ nRename ∧ x ≠ nSmove ∧ x ∉ g3 ∧ x ≠ nMset := by decide
  exact this s h
theorem keys_pos {s : List UInt8} {args : List (List UInt8)} (h : findB s = true) (hf : okL s args.length = true) : (0 < (keysL s args).length) ↔ s ∉ g0 := by
  constructor
  · intro hp h0
    rw [keys_g0 args h0] at hp
    exact absurd hp (by simp)
  · intro h0
    rcases group_of h with h1 | h1 | h1 | h1 | h1 | h1 | h1
    · rw [keys_g1 args h1]; simp
    · rw [keys_g2 args h1]; simp
    · rw [h1, keys_set]; simp
    · rcases h1 with h1 | h1
      · rw [h1, keys_rename]; simp
      · rw [h1, keys_smove]; simp
    · rw [keys_g3 args h1, List.length_map, List.length_drop]
      have := more_of h hf (Or.inl h1)
      omega
    · have := more_of h hf (Or.inr h1)
      rw [h1, keys_mset]
      exact odds_pos (by rw [List.length_drop]; omega)
    · exact absurd h1 h0
theorem chans_pos {s : List UInt8} {args : List (List UInt8)} (h : findB s = true) (hf : okL s args.length = true) : (0 < (chansL s args).length) ↔ (s = nSub ∨ s = nPub) := by
  have ha := asks_of h hf
  unfold chansL
  constructor
  · intro hp
    split at hp
    · rename_i h1; exact Or.inl h1
    · split at hp
      · rename_i h1; exact Or.inr h1
      · exact absurd hp (by simp)
  · rintro (h1 | h1)
    · rw [if_pos h1, List.length_drop]
      have := ha.2.2.2 (Or.inr h1)
      omega
    · rw [if_neg (by rw [h1]; decide), if_pos h1]
      simp
/-- Where each stands in the row. -/
theorem places_all : (List.range 56).all (fun k => decide (((cmdAt k).name ∉ g0 ↔ ((k < 43 ∧ k ≠ 40 ∧ k ≠ 41 ∧ k ≠ 42) ∨ k = 50)) ∧ (((cmdAt k).name = nKeys ∨ (cmdAt k).name = nDbsize) ↔ (k = 40 ∨ k = 41)) ∧ ((cmdAt k).name = nFlush ↔ k = 42) ∧ (((cmdAt k).name = nSub ∨ (cmdAt k).name = nPub) ↔ (k = 52 ∨ k = 54)) ∧ findK (cmdAt k).name = k ∧ findB (cmdAt k).name = true ∧ lowL (cmdAt k).name = (cmdAt k).name)) = true := by decide +kernel
theorem places {k : Nat} (h : k < 56) : ((cmdAt k).name ∉ g0 ↔ ((k < 43 ∧ k ≠ 40 ∧ k ≠ 41 ∧ k ≠ 42) ∨ k = 50)) ∧ (((cmdAt k).name = nKeys ∨ (cmdAt k).name = nDbsize) ↔ (k = 40 ∨ k = 41)) ∧ ((cmdAt k).name = nFlush ↔ k = 42) ∧ (((cmdAt k).name = nSub ∨ (cmdAt k).name = nPub) ↔ (k = 52 ∨ k = 54)) ∧ findK (cmdAt k).name = k ∧ findB (cmdAt k).name = true ∧ lowL (cmdAt k).name = (cmdAt k).name :=
  of_decide_eq_true (List.all_eq_true.1 places_all k (List.mem_range.2 h))
/-- What a request of a command needs, and how much. -/
theorem need_of {k : Nat} (h : k < 56) {L : List (List UInt8)} (h1 : L.getD 0 [] = (cmdAt k).name) (h2 : okL (cmdAt k).name L.length = true) :
    ofE L = 0 ∧ ofN L = needL (cmdAt k).name L ∧ (ofN L).cmd = (k : Int) ∧ (0 < (ofN L).keys.length ↔ ((k < 43 ∧ k ≠ 40 ∧ k ≠ 41 ∧ k ≠ 42) ∨ k = 50)) ∧ ((ofN L).ar = true ↔ (k = 40 ∨ k = 41)) ∧ ((ofN L).aw = true ↔ k = 42) ∧ (0 < (ofN L).ch.length ↔ (k = 52 ∨ k = 54)) := by
  obtain ⟨p1, p2, p3, p4, p5, p6, p7⟩ := places h
  have hn : nameL L = (cmdAt k).name := by unfold nameL; rw [h1, p7]
  have h0 : L ≠ [] := fun e => by
    rw [e] at h1
    have : ∀ j, j < 56 → (cmdAt j).name ≠ [] := by decide +kernel
    exact this k h h1.symm
  have ho := of_ok h0 (by rw [hn]; exact p6) (by rw [hn]; exact h2)
  rw [hn] at ho
  refine ⟨ho.2, ho.1, ?_, ?_, ?_, ?_, ?_⟩
  · rw [ho.1]; show (findK (cmdAt k).name : Int) = k; rw [p5]
  · rw [ho.1]; exact (keys_pos p6 h2).trans p1
  · rw [ho.1]; show decide _ = true ↔ _; rw [decide_eq_true_eq]; exact p2
  · rw [ho.1]; show decide _ = true ↔ _; rw [decide_eq_true_eq]; exact p3
  · rw [ho.1]; exact (chans_pos p6 h2).trans p4

end Go.Proofs.Ytonoelpmmjnpeaa.UseT
