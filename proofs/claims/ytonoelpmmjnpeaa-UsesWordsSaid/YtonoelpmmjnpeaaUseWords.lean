/-
  Keys and channels are words of the request; each is read or written: pure.
-/
import Derived.Test.YtonoelpmmjnpeaaUseFacts
namespace Go.Proofs.Ytonoelpmmjnpeaa.UseT
open Go.RowKit Kit StrT TableMath Low
open RefU (g0 keys_g0 group_of find_name fits_abs asks_of)
set_option linter.unusedVariables false
set_option maxRecDepth 100000

theorem getD_mem (A : List (List UInt8)) (k : Nat) (h : k + 1 < A.length) : A.getD (k + 1) [] ∈ A.drop 1 := by
  have hl : k < (A.drop 1).length := by rw [List.length_drop]; omega
  have e : A.getD (k + 1) [] = (A.drop 1)[k] := by
    rw [List.getElem_drop, List.getD_eq_getElem?_getD, List.getElem?_eq_getElem h, Option.getD_some]
    congr 1
    omega
  rw [e]
  exact List.getElem_mem hl
theorem odds_mem : ∀ (l : List (List UInt8)) (u : U), u ∈ odds l → u.key ∈ l ∧ u.r = false ∧ u.w = true
  | [], u, h => by simp [odds] at h
  | [a], u, h => by
    simp [odds] at h
    subst h
    simp
  | a :: b :: r, u, h => by
    simp only [odds, List.mem_cons] at h
    rcases h with rfl | h
    · simp
    · obtain ⟨h1, h2⟩ := odds_mem r u h
      exact ⟨List.mem_cons_of_mem _ (List.mem_cons_of_mem _ h1), h2⟩
/-- Which commands only read, and which write: by the groups of their keys. -/
theorem kinds_all : (List.range 56).all (fun k => decide (((cmdAt k).ct % 2 = 1 → ((cmdAt k).name ∈ g1 ∨ (cmdAt k).name ∈ g0 ∨ ((cmdAt k).name ∈ g3 ∧ (cmdAt k).name ≠ nDel))) ∧
    ((cmdAt k).ct / 2 % 2 = 1 → ((cmdAt k).name ∈ g2 ∨ (cmdAt k).name = nSet ∨ (cmdAt k).name = nRename ∨ (cmdAt k).name = nSmove ∨ (cmdAt k).name = nDel ∨ (cmdAt k).name = nMset ∨ k = 42)) ∧
    ((cmdAt k).ct % 4 ≠ 0 ↔ k < 43) ∧ ((cmdAt k).name = [119, 97, 116, 99, 104] ↔ k = 50) ∧ ((cmdAt k).name = nSub ↔ k = 52) ∧ ((cmdAt k).name = nPub ↔ k = 54) ∧ ((cmdAt k).name = nMset ↔ k = 8))) = true := by decide +kernel
theorem kinds {k : Nat} (h : k < 56) : ((cmdAt k).ct % 2 = 1 → ((cmdAt k).name ∈ g1 ∨ (cmdAt k).name ∈ g0 ∨ ((cmdAt k).name ∈ g3 ∧ (cmdAt k).name ≠ nDel))) ∧
    ((cmdAt k).ct / 2 % 2 = 1 → ((cmdAt k).name ∈ g2 ∨ (cmdAt k).name = nSet ∨ (cmdAt k).name = nRename ∨ (cmdAt k).name = nSmove ∨ (cmdAt k).name = nDel ∨ (cmdAt k).name = nMset ∨ k = 42)) ∧
    ((cmdAt k).ct % 4 ≠ 0 ↔ k < 43) ∧ ((cmdAt k).name = [119, 97, 116, 99, 104] ↔ k = 50) ∧ ((cmdAt k).name = nSub ↔ k = 52) ∧ ((cmdAt k).name = nPub ↔ k = 54) ∧ ((cmdAt k).name = nMset ↔ k = 8) :=
  of_decide_eq_true (List.all_eq_true.1 kinds_all k (List.mem_range.2 h))
theorem keys_words {s : List UInt8} {args : List (List UInt8)} (h : findB s = true) (hf : okL s args.length = true) (u : U) (hu : u ∈ keysL s args) : u.key ∈ args.drop 1 ∧ (u.r = true ∨ u.w = true) := by
  obtain ⟨a1, a2, a3, -⟩ := asks_of h hf
  rcases group_of h with h1 | h1 | h1 | h1 | h1 | h1 | h1
  · rw [keys_g1 args h1] at hu
    obtain rfl := List.mem_singleton.1 hu
    exact ⟨getD_mem args 0 (by have := a1 (Or.inl h1); omega), Or.inl rfl⟩
  · rw [keys_g2 args h1] at hu
    obtain rfl := List.mem_singleton.1 hu
    exact ⟨getD_mem args 0 (by have := a1 (Or.inr (Or.inl h1)); omega), Or.inl rfl⟩
  · rw [h1, keys_set] at hu
    obtain rfl := List.mem_singleton.1 hu
    exact ⟨getD_mem args 0 (by have := a1 (Or.inr (Or.inr h1)); omega), Or.inr rfl⟩
  · have h3 := a2 h1
    rcases h1 with h1 | h1
    · rw [h1, keys_rename] at hu
      simp only [List.mem_cons, List.not_mem_nil, or_false] at hu
      rcases hu with rfl | rfl
      · exact ⟨getD_mem args 0 (by omega), Or.inl rfl⟩
      · exact ⟨getD_mem args 1 (by omega), Or.inr rfl⟩
    · rw [h1, keys_smove] at hu
      simp only [List.mem_cons, List.not_mem_nil, or_false] at hu
      rcases hu with rfl | rfl
      · exact ⟨getD_mem args 0 (by omega), Or.inl rfl⟩
      · exact ⟨getD_mem args 1 (by omega), Or.inl rfl⟩
  · rw [keys_g3 args h1] at hu
    obtain ⟨a, ha, rfl⟩ := List.mem_map.1 hu
    exact ⟨ha, Or.inl rfl⟩
  · rw [h1, keys_mset] at hu
    obtain ⟨h2, -, h3⟩ := odds_mem _ u hu
    exact ⟨h2, Or.inr h3⟩
  · rw [keys_g0 args h1] at hu
    exact absurd hu (by simp)
theorem keys_read {k : Nat} (hk : k < 56) {args : List (List UInt8)} (hc : (cmdAt k).ct % 2 = 1) (u : U) (hu : u ∈ keysL (cmdAt k).name args) : u.w = false := by
  rcases (kinds hk).1 hc with h1 | h1 | ⟨h1, h2⟩
  · rw [keys_g1 args h1] at hu
    obtain rfl := List.mem_singleton.1 hu
    rfl
  · rw [keys_g0 args h1] at hu
    exact absurd hu (by simp)
  · rw [keys_g3 args h1, decide_eq_false h2] at hu
    obtain ⟨a, ha, rfl⟩ := List.mem_map.1 hu
    rfl
theorem chans_words {s : List UInt8} {args : List (List UInt8)} (h : findB s = true) (hf : okL s args.length = true) (x : List UInt8) (hx : x ∈ chansL s args) : x ∈ args.drop 1 := by
  have ha := asks_of h hf
  unfold chansL at hx
  split at hx
  · exact hx
  · split at hx
    · rename_i h1 h2
      obtain rfl := List.mem_singleton.1 hx
      exact getD_mem args 0 (by have := ha.2.2.2 (Or.inl h2); omega)
    · exact absurd hx (by simp)
theorem writes_of {L : List U} {u : U} (hu : u ∈ L) (hw : u.w = true) : 0 < (writesL L).length := by
  unfold writesL
  rw [List.length_map]
  exact List.length_pos_of_mem (List.mem_filter.2 ⟨hu, hw⟩)
theorem keys_write {k : Nat} (hk : k < 56) {args : List (List UInt8)} (hf : okL (cmdAt k).name args.length = true) (hc : (cmdAt k).ct / 2 % 2 = 1) (h42 : k ≠ 42) : 0 < (writesL (keysL (cmdAt k).name args)).length := by
  have hb := (places hk).2.2.2.2.2.1
  rcases (kinds hk).2.1 hc with h1 | h1 | h1 | h1 | h1 | h1 | h1
  · rw [keys_g2 args h1]
    exact writes_of (List.mem_singleton.2 rfl) rfl
  · rw [h1, keys_set]
    exact writes_of (List.mem_singleton.2 rfl) rfl
  · rw [h1, keys_rename]
    exact writes_of (List.mem_cons_self) rfl
  · rw [h1, keys_smove]
    exact writes_of (List.mem_cons_self) rfl
  · have hg : (cmdAt k).name ∈ g3 := by rw [h1]; decide
    have hm := more_of hb hf (Or.inl hg)
    rw [keys_g3 args hg, decide_eq_true h1]
    match args, hm with
    | a :: b :: r, _ => exact writes_of (u := ⟨b, true, true⟩) (by simp) rfl
  · have hm := more_of hb hf (Or.inr h1)
    rw [h1, keys_mset]
    match args, hm with
    | [a, b], _ => exact writes_of (u := ⟨b, false, true⟩) (by simp [odds]) rfl
    | a :: b :: c :: r, _ => exact writes_of (u := ⟨b, false, true⟩) (by simp [odds]) rfl
  · exact absurd h1 h42

end Go.Proofs.Ytonoelpmmjnpeaa.UseT
