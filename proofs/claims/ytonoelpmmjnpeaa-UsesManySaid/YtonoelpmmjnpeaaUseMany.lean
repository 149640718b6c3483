/-
  Requests of many keys: pure.
-/
import Derived.Test.YtonoelpmmjnpeaaUseFacts
namespace Go.Proofs.Ytonoelpmmjnpeaa.UseT
open Go.RowKit Kit StrT TableMath Low
set_option linter.unusedVariables false
set_option maxRecDepth 100000

theorem g3_all : ∀ x ∈ g3, findB x = true ∧ lowL x = x ∧ x ≠ nMset ∧ findK x < 56 ∧ (cmdAt (findK x)).ar = -2 ∧ chansL x [] = [] ∧ x ≠ nSub ∧ x ≠ nPub := by decide +kernel
theorem many_of {x : List UInt8} (h : x ∈ g3) (M : List (List UInt8)) (hM : 0 < M.length) :
    ofE (x :: M) = 0 ∧ (ofN (x :: M)).keys = M.map (fun a => ⟨a, true, decide (x = nDel)⟩) ∧ (ofN (x :: M)).ch = [] := by
  obtain ⟨h1, h2, h3, h4, h5, -, h6, h7⟩ := g3_all x h
  have hn : nameL (x :: M) = x := by unfold nameL; rw [List.getD_cons_zero, h2]
  have hk : okL x (x :: M).length = true := by
    unfold okL
    rw [Bool.and_eq_true]
    refine ⟨?_, by simp [h3]⟩
    unfold fitsB
    have hv : atV (findK x : Int) = cmdAt (findK x) := if_pos ⟨by omega, by omega⟩
    rw [hv, show atB (findK x : Int) = true from decide_eq_true (by omega), Bool.true_and, if_pos (by rw [h5]; decide), h5]
    exact decide_eq_true (by rw [List.length_cons]; omega)
  have ho := of_ok (args := x :: M) (by simp) (by rw [hn]; exact h1) (by rw [hn]; exact hk)
  rw [hn] at ho
  refine ⟨ho.2, ?_, ?_⟩
  · rw [ho.1]
    show keysL x (x :: M) = _
    rw [keys_g3 _ h]
    rfl
  · rw [ho.1]
    show chansL x (x :: M) = _
    unfold chansL
    rw [if_neg h6, if_neg h7]
theorem reads_map (M : List (List UInt8)) (b : Bool) : readsL (M.map (fun a => (⟨a, true, b⟩ : U))) = M := by
  induction M with
  | nil => rfl
  | cons a r ih =>
    unfold readsL at ih ⊢
    simp only [List.map_cons, List.filter_cons, if_true]
    rw [ih]
theorem writes_map (M : List (List UInt8)) (c : Bool) : writesL (M.map (fun a => (⟨a, c, true⟩ : U))) = M := by
  induction M with
  | nil => rfl
  | cons a r ih =>
    unfold writesL at ih ⊢
    simp only [List.map_cons, List.filter_cons, if_true]
    rw [ih]
theorem writes_none (M : List (List UInt8)) (c : Bool) : writesL (M.map (fun a => (⟨a, c, false⟩ : U))) = [] := by
  induction M with
  | nil => rfl
  | cons a r ih =>
    unfold writesL at ih ⊢
    simp only [List.map_cons, List.filter_cons]
    exact ih
theorem reads_none (M : List (List UInt8)) (c : Bool) : readsL (M.map (fun a => (⟨a, false, c⟩ : U))) = [] := by
  induction M with
  | nil => rfl
  | cons a r ih =>
    unfold readsL at ih ⊢
    simp only [List.map_cons, List.filter_cons]
    exact ih
/-- Texts that are set: a request of each, and what is set. -/
def prs : List (List UInt8) → List (List UInt8)
  | [] => []
  | a :: r => a :: [118] :: prs r
theorem prs_len : ∀ M : List (List UInt8), (prs M).length = 2 * M.length
  | [] => rfl
  | a :: r => by
    have := prs_len r
    simp only [prs, List.length_cons]
    omega
theorem prs_snoc : ∀ (M : List (List UInt8)) (a : List UInt8), prs (M ++ [a]) = prs M ++ [a, [118]]
  | [], a => rfl
  | b :: r, a => by simp only [List.cons_append, prs, prs_snoc r a]
theorem odds_prs : ∀ M : List (List UInt8), odds (prs M) = M.map (fun a => (⟨a, false, true⟩ : U))
  | [] => rfl
  | a :: r => by simp only [prs, odds, odds_prs r, List.map_cons]
theorem mset_facts : findB nMset = true ∧ lowL nMset = nMset ∧ findK nMset = 8 ∧ (cmdAt 8).ar = -3 ∧ nMset ≠ nSub ∧ nMset ≠ nPub := by decide +kernel
theorem mset_ok (n : Nat) : okL nMset n = (decide (3 ≤ n) && !decide (n % 2 = 0)) := by
  obtain ⟨h1, h2, h3, h4, -, -⟩ := mset_facts
  unfold okL fitsB
  rw [h3]
  have hv : atV ((8 : Nat) : Int) = cmdAt 8 := if_pos ⟨by omega, by omega⟩
  rw [hv, h4, show atB ((8 : Nat) : Int) = true from rfl, if_pos (by decide), Bool.true_and, decide_eq_true (rfl : nMset = nMset), Bool.true_and]
  congr 1
  rw [Bool.eq_iff_iff, decide_eq_true_eq, decide_eq_true_eq]
  omega
theorem set_of (M : List (List UInt8)) (hM : 0 < M.length) :
    ofE (nMset :: prs M) = 0 ∧ (ofN (nMset :: prs M)).keys = M.map (fun a => ⟨a, false, true⟩) ∧ (ofN (nMset :: prs M)).ch = [] := by
  obtain ⟨h1, h2, h3, h4, h6, h7⟩ := mset_facts
  have hn : nameL (nMset :: prs M) = nMset := by unfold nameL; rw [List.getD_cons_zero, h2]
  have hl := prs_len M
  have hk : okL nMset (nMset :: prs M).length = true := by
    rw [mset_ok, Bool.and_eq_true]
    refine ⟨decide_eq_true (by rw [List.length_cons]; omega), ?_⟩
    rw [List.length_cons, decide_eq_false (by omega)]
    rfl
  have ho := of_ok (args := nMset :: prs M) (by simp) (by rw [hn]; exact h1) (by rw [hn]; exact hk)
  rw [hn] at ho
  refine ⟨ho.2, ?_, ?_⟩
  · rw [ho.1]
    show keysL nMset (nMset :: prs M) = _
    rw [keys_mset]
    exact odds_prs M
  · rw [ho.1]
    show chansL nMset (nMset :: prs M) = _
    unfold chansL
    rw [if_neg h6, if_neg h7]
theorem set_less (M : List (List UInt8)) (hM : 0 < M.length) : ofE ((nMset :: prs M).take (2 * M.length)) = 1 := by
  obtain ⟨h1, h2, -, -, -, -⟩ := mset_facts
  have hl := prs_len M
  obtain ⟨j, hj⟩ : ∃ j, 2 * M.length = j + 1 := ⟨2 * M.length - 1, by omega⟩
  rw [hj, List.take_succ_cons]
  have hn : nameL (nMset :: (prs M).take j) = nMset := by unfold nameL; rw [List.getD_cons_zero, h2]
  have hln : (nMset :: (prs M).take j).length = 2 * M.length := by rw [List.length_cons, List.length_take]; omega
  exact (of_bad (args := nMset :: (prs M).take j) (by simp) (by rw [hn]; exact h1) (by rw [hn, hln, mset_ok, decide_eq_true (show 2 * M.length % 2 = 0 by omega)]; simp)).2

end Go.Proofs.Ytonoelpmmjnpeaa.UseT
