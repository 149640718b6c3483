/-
  Plain facts on decimal numerals, as num.Text tells them and num.Parse takes them. No program is imported: numbers and lists of bytes alone.
-/
import Derived.Lib.AtoiAll
import Derived.Lib.ItoaNum
import Derived.Lib.AtoiAllCases
namespace Go.Proofs.YtioleajmfgglhaaDoor.NumMath
open Go.Lib

/-- A byte that is a digit. -/
def isDig (c : UInt8) : Prop := 48 ≤ c.toNat ∧ c.toNat ≤ 57

theorem dig_toNat {d : Nat} (h : d < 10) : (UInt8.ofNat (48 + d)).toNat = 48 + d := by
  rw [UInt8.toNat_ofNat']; omega

theorem parseUint10_append : ∀ (l r : List UInt8) (acc a : Nat), parseUint10 acc l = .ok a → parseUint10 acc (l ++ r) = parseUint10 a r
  | [], r, acc, a, h => by
    simp only [parseUint10] at h
    injection h with h
    subst h
    rfl
  | c :: l, r, acc, a, h => by
    simp only [parseUint10, List.cons_append] at h ⊢
    split at h
    · rename_i hd
      rw [if_pos hd]
      split at h
      · cases h
      · rename_i h1
        rw [if_neg h1]
        split at h
        · cases h
        · rename_i h2
          rw [if_neg h2]
          exact parseUint10_append l r _ a h
    · cases h

theorem parseUint10_one (acc d : Nat) (hd : d < 10) (h : acc * 10 + d < 18446744073709551616) : parseUint10 acc [UInt8.ofNat (48 + d)] = .ok (acc * 10 + d) := by
  simp only [parseUint10, dig_toNat hd]
  rw [if_pos (by omega), if_neg (by omega), if_neg (by omega)]
  congr 2
  omega

theorem parse_decDigits (u : Nat) (h : u < 18446744073709551616) : parseUint10 0 (decDigits u) = .ok u := by
  induction u using Nat.strongRecOn with
  | _ u ih =>
    by_cases hu : u < 10
    · rw [decDigits_one hu, parseUint10_one 0 u hu (by omega)]
      simp
    · rw [decDigits, dif_neg hu, parseUint10_append _ _ _ _ (ih (u / 10) (by omega) (by omega)), parseUint10_one _ _ (by omega) (by omega)]
      congr 1
      omega

theorem decDigits_dig (u : Nat) : ∀ c ∈ decDigits u, isDig c := by
  induction u using Nat.strongRecOn with
  | _ u ih =>
    intro c hc
    by_cases hu : u < 10
    · rw [decDigits_one hu] at hc
      rw [List.mem_singleton.1 hc]
      unfold isDig
      rw [dig_toNat hu]
      omega
    · rw [decDigits, dif_neg hu] at hc
      rcases List.mem_append.1 hc with hc | hc
      · exact ih (u / 10) (by omega) c hc
      · rw [List.mem_singleton.1 hc]
        unfold isDig
        rw [dig_toNat (by omega)]
        omega

theorem decDigits_ne (u : Nat) : decDigits u ≠ [] := by
  intro h
  have := decDigits_length u
  have := nDigits_pos u
  rw [h] at *
  simp at *
  omega

/-- The first digit: 0 of 0 alone. -/
theorem decDigits_head (u : Nat) (hu : 1 ≤ u) : ∃ c r, decDigits u = c :: r ∧ 49 ≤ c.toNat ∧ c.toNat ≤ 57 := by
  induction u using Nat.strongRecOn with
  | _ u ih =>
    by_cases h : u < 10
    · exact ⟨_, [], decDigits_one h, by rw [dig_toNat h]; omega, by rw [dig_toNat h]; omega⟩
    · obtain ⟨c, r, e, h1, h2⟩ := ih (u / 10) (by omega) (by omega)
      rw [decDigits, dif_neg h, e]
      exact ⟨c, _, rfl, h1, h2⟩

/-- atoiAll takes what itoa tells. -/
theorem atoi_itoa (n : Int) (h0 : -9223372036854775808 ≤ n) (h1 : n ≤ 9223372036854775807) : atoiAll (itoa n) = .ok n := by
  unfold itoa
  by_cases hn : n < 0
  · rw [if_pos hn]
    simp only [atoiAll]
    have e45 : (45 : UInt8).toNat = 45 := rfl
    rw [e45, if_pos (Or.inr rfl)]
    unfold parseMag
    rw [if_neg (decDigits_ne _), parse_decDigits _ (by omega)]
    simp only
    rw [if_neg (by simp), if_neg (by omega)]
    congr 1
    simp
    omega
  · rw [if_neg hn]
    rcases hd : decDigits n.toNat with _ | ⟨c, r⟩
    · exact absurd hd (decDigits_ne _)
    · have hc : isDig c := decDigits_dig n.toNat c (by rw [hd]; exact List.mem_cons_self)
      unfold isDig at hc
      simp only [atoiAll]
      rw [if_neg (by omega)]
      rw [← hd]
      unfold parseMag
      rw [if_neg (decDigits_ne _), parse_decDigits _ (by omega)]
      simp only
      rw [if_neg (by omega), if_neg (by omega)]
      congr 1
      rw [if_neg (by omega)]
      omega

/-- num.Parse: the number whose text this is. -/
def parse (l : List UInt8) : Option Int :=
  match atoiAll l with
  | .ok n => if itoa n = l then some n else none
  | _ => none

theorem parse_itoa (n : Int) (h0 : -9223372036854775808 ≤ n) (h1 : n ≤ 9223372036854775807) : parse (itoa n) = some n := by
  unfold parse
  rw [atoi_itoa n h0 h1]
  simp

theorem parse_some {l : List UInt8} {n : Int} (h : parse l = some n) : itoa n = l ∧ -9223372036854775808 ≤ n ∧ n ≤ 9223372036854775807 := by
  unfold parse at h
  split at h
  · rename_i m hm
    split at h
    · rename_i e
      injection h with h
      subst h
      exact ⟨e, atoiAll_bounds hm⟩
    · cases h
  · cases h

theorem parse_none {l : List UInt8} (h : parse l = none) (n : Int) (h0 : -9223372036854775808 ≤ n) (h1 : n ≤ 9223372036854775807) : itoa n ≠ l := by
  intro e
  rw [← e, parse_itoa n h0 h1] at h
  cases h

theorem itoa_inj {a b : Int} (ha : -9223372036854775808 ≤ a ∧ a ≤ 9223372036854775807) (hb : -9223372036854775808 ≤ b ∧ b ≤ 9223372036854775807) (h : itoa a = itoa b) : a = b := by
  have h1 := parse_itoa a ha.1 ha.2
  have h2 := parse_itoa b hb.1 hb.2
  rw [h, h2] at h1
  injection h1 with h1
  exact h1.symm

end Go.Proofs.YtioleajmfgglhaaDoor.NumMath
