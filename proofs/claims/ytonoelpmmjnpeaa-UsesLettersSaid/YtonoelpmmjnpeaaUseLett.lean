/-
  On what a request's need hangs: pure.
-/
import Derived.Test.YtonoelpmmjnpeaaUseFacts
namespace Go.Proofs.Ytonoelpmmjnpeaa.UseT
open Go.RowKit Kit StrT TableMath Low
set_option linter.unusedVariables false
set_option maxRecDepth 100000

theorem getD_drop1 (A : List (List UInt8)) (k : Nat) : A.getD (k + 1) [] = (A.drop 1).getD k [] := by
  rw [List.getD_eq_getElem?_getD, List.getD_eq_getElem?_getD, List.getElem?_drop, Nat.add_comm 1 k]
theorem keys_congr (name : List UInt8) {A B : List (List UInt8)} (hd : A.drop 1 = B.drop 1) (hl : A.length = B.length) : keysL name A = keysL name B := by
  unfold keysL
  rw [getD_drop1 A 0, getD_drop1 B 0, getD_drop1 A 1, getD_drop1 B 1, hd, hl]
theorem chans_congr (name : List UInt8) {A B : List (List UInt8)} (hd : A.drop 1 = B.drop 1) : chansL name A = chansL name B := by
  unfold chansL
  rw [getD_drop1 A 0, getD_drop1 B 0, hd]
theorem of_congr {A B : List (List UInt8)} (hA : A ≠ []) (hB : B ≠ []) (hn : nameL A = nameL B) (hd : A.drop 1 = B.drop 1) (hl : A.length = B.length) : ofN A = ofN B ∧ ofE A = ofE B := by
  unfold ofN ofE needL
  rw [hn, hl, keys_congr _ hd hl, chans_congr _ hd]
  simp [hA, hB]
theorem lowByte_idem (c : UInt8) : lowByte (lowByte c) = lowByte c := by
  unfold lowByte
  by_cases h : 65 ≤ c.toNat ∧ c.toNat ≤ 90
  · rw [if_pos h]
    have h2 : (c + 32).toNat = c.toNat + 32 := by
      rw [UInt8.toNat_add]
      have : (32 : UInt8).toNat = 32 := rfl
      omega
    rw [if_neg (by rw [h2]; omega)]
  · rw [if_neg h, if_neg h]
theorem lowL_idem (l : List UInt8) : lowL (lowL l) = lowL l := by
  unfold lowL
  rw [List.map_map]
  apply List.map_congr_left
  intro c _
  exact lowByte_idem c
theorem of_low {M : List (List UInt8)} (h : M ≠ []) : ofN (M.set 0 (lowL (M.getD 0 []))) = ofN M ∧ ofE (M.set 0 (lowL (M.getD 0 []))) = ofE M := by
  cases M with
  | nil => exact absurd rfl h
  | cons a r =>
    rw [List.set_cons_zero, List.getD_cons_zero]
    refine of_congr (by simp) (by simp) ?_ rfl rfl
    unfold nameL
    rw [List.getD_cons_zero, List.getD_cons_zero, lowL_idem]
def six : List (List UInt8) := [[103, 101, 116], [115, 101, 116], [108, 114, 97, 110, 103, 101], [104, 115, 101, 116], [122, 97, 100, 100], [115, 97, 100, 100]]
theorem six_all : ∀ x ∈ six, (x ∈ g1 ∨ x ∈ g2 ∨ x = nSet) ∧ x ≠ nSub ∧ x ≠ nPub := by decide
theorem of_last_e {M : List (List UInt8)} (h : M ≠ []) (x y : List UInt8) : ofE (M ++ [x]) = ofE (M ++ [y]) := by
  have hn : nameL (M ++ [x]) = nameL (M ++ [y]) := by
    cases M with
    | nil => exact absurd rfl h
    | cons a r => rfl
  unfold ofE
  rw [hn, List.length_append, List.length_append]
  simp [h]
theorem of_last_n {M : List (List UInt8)} (h : 2 ≤ M.length) (x y : List UInt8) (h6 : nameL M ∈ six) : ofN (M ++ [x]) = ofN (M ++ [y]) := by
  match M, h with
  | a :: b :: r, _ =>
    have hn : nameL (a :: b :: r ++ [x]) = nameL (a :: b :: r ++ [y]) := rfl
    have hn2 : nameL (a :: b :: r ++ [y]) = nameL (a :: b :: r) := rfl
    obtain ⟨hg, hs, hp⟩ := six_all _ h6
    have hk : keysL (nameL (a :: b :: r)) (a :: b :: r ++ [x]) = keysL (nameL (a :: b :: r)) (a :: b :: r ++ [y]) := by
      rcases hg with hg | hg | hg
      · rw [keys_g1 _ hg, keys_g1 _ hg]; rfl
      · rw [keys_g2 _ hg, keys_g2 _ hg]; rfl
      · rw [hg, keys_set, keys_set, List.length_append, List.length_append]; rfl
    have hc : ∀ A, chansL (nameL (a :: b :: r)) A = [] := fun A => by unfold chansL; rw [if_neg hs, if_neg hp]
    unfold ofN needL
    rw [hn, hn2, hk, hc, hc, List.length_append, List.length_append]
    simp

end Go.Proofs.Ytonoelpmmjnpeaa.UseT
