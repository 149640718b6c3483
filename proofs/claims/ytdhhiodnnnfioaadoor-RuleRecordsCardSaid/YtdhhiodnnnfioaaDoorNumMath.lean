/-
  Plain facts on decimal numerals, as num.Text tells them and num.Parse takes them. No program is imported: numbers and lists of bytes alone.
-/
import Derived.Lib.AtoiAll
import Derived.Lib.ItoaNum
import Derived.Lib.AtoiAllCases
namespace Go.Proofs.YtdhhiodnnnfioaaDoor.NumMath
open Go.Lib

/-- A byte that is a digit. -/
def isDig (c : UInt8) : Prop := 48 ≤ c.toNat ∧ c.toNat ≤ 57

theorem dig_toNat {d : Nat} (h : d < 10) : (UInt8.ofNat (48 + d)).toNat = 48 + d := by
  rw [UInt8.toNat_ofNat']; omega

theorem parseUint10_append : ∀ (l r : List UInt8) (acc a : Nat), parseUint10 acc l = .ok a → parseUint10 acc (l ++ r) = parseUint10 a r
  | [], r, acc, a, h => by
    simp only [parseUint10] at h
    injection h with h
    subst h
    rfl
  | c :: l, r, acc, a, h => by
    simp only [parseUint10, List.cons_append] at h ⊢
    split at h
    · rename_i hd
      rw [if_pos hd]
      split at h
      · cases h
      · rename_i h1
        rw [if_neg h1]
        split at h
        · cases h
        · rename_i h2
          rw [if_neg h2]
          exact parseUint10_append l r _ a h
    · cases h

theorem parseUint10_one (acc d : Nat) (hd : d < 10) (h : acc * 10 + d < 18446744073709551616) : parseUint10 acc [UInt8.ofNat (48 + d)] = .ok (acc * 10 + d) := by
  simp only [parseUint10, dig_toNat hd]
  rw [if_pos (by omega), if_neg (by omega), if_neg (by omega)]
  congr 2
  omega

theorem parse_decDigits (u : Nat) (h : u < 18446744073709551616) : parseUint10 0 (decDigits u) = .ok u := by
  induction u using Nat.strongRecOn with
  | _ u ih =>
    by_cases hu : u < 10
    · rw [decDigits_one hu, parseUint10_one 0 u hu (by omega)]
      simp
    · rw [decDigits, dif_neg hu, parseUint10_append _ _ _ _ (ih (u / 10) (by omega) (by omega)), parseUint10_one _ _ (by omega) (by omega)]
      congr 1
      omega

theorem decDigits_dig (u : Nat) : ∀ c ∈ decDigits u, isDig c := by
  induction u using Nat.strongRecOn with
  | _ u ih =>
    intro c hc
    by_cases hu : u < 10
    · rw [decDigits_one hu] at hc
      rw [List.mem_singleton.1 hc]
      unfold isDig
      rw [dig_toNat hu]
      omega
    · rw [decDigits, dif_neg hu] at hc
      rcases List.mem_append.1 hc with hc | hc
      · exact ih (u / 10) (by omega) c hc
      · rw [List.mem_singleton.1 hc]
        unfold isDig
        rw [dig_toNat (by omega)]
        omega

theorem decDigits_ne (u : Nat) : decDigits u ≠ [] := by
  intro h
  have := decDigits_length u
  have := nDigits_pos u
  rw [h] at *
  simp at *
  omega

/-- The first digit: 0 of 0 alone. -/
theorem decDigits_head (u : Nat) (hu : 1 ≤ u) : ∃ c r, decDigits u = c :: r ∧ 49 ≤ c.toNat ∧ c.toNat ≤ 57 := by
  induction u using Nat.strongRecOn with
  | _ u ih =>
    by_cases h : u < 10
    · exact ⟨_, [], decDigits_one h, by rw [dig_toNat h]; omega, by rw [dig_toNat h]; omega⟩
    · obtain ⟨c, r, e, h1, h2⟩ := ih (u / 10) (by omega) (by omega)
      rw [decDigits, dif_neg h, e]
      exact ⟨c, _, rfl, h1, h2⟩

/-- atoiAll takes what itoa tells. -/
theorem atoi_itoa (n : Int) (h0 : -9223372036854775808 ≤ n) (h1 : n ≤ 9223372036854775807) : atoiAll (itoa n) = .ok n := by
  unfold itoa
  by_cases hn : n < 0
  · rw [if_pos hn]
    simp only [atoiAll]
    have e45 : (45 : UInt8).toNat = 45 := rfl
    rw [e45, if_pos (Or.inr rfl)]
    unfold parseMag
    rw [if_neg (decDigits_ne _), parse_decDigits _ (by omega)]
    simp only
    rw [if_neg (by simp), if_neg (by omega)]
    congr 1
    simp
    omega
  · rw [if_neg hn]
    rcases hd : decDigits n.toNat with _ | ⟨c, r⟩
    · exact absurd hd (decDigits_ne _)
    · have hc : isDig c := decDigits_dig n.toNat c (by rw [hd]; exact List.mem_cons_self)
      unfold isDig at hc
      simp only [atoiAll]
      rw [if_neg (by omega)]
      rw [← hd]
      unfold parseMag
      rw [if_neg (decDigits_ne _), parse_decDigits _ (by omega)]
      simp only
      rw [if_neg (by omega), if_neg (by omega)]
      congr 1
      rw [if_neg (by omega)]
      omega

/-- num.Parse: the number whose text this is. -/
def parse (l : List UInt8) : Option Int :=
  match atoiAll l with
  | .ok n => if itoa n = l then some n else none
  | _ => none

theorem parse_itoa (n : Int) (h0 : -9223372036854775808 ≤ n) (h1 : n ≤ 9223372036854775807) : parse (itoa n) = some n := by
  unfold parse
  rw [atoi_itoa n h0 h1]
  simp

theorem parse_some {l : List UInt8} {n : Int} (h : parse l = some n) : itoa n = l ∧ -9223372036854775808 ≤ n ∧ n ≤ 9223372036854775807 := by
  unfold parse at h
  split at h
  · rename_i m hm
    split at h
    · rename_i e
      injection h with h
      subst h
      exact ⟨e, atoiAll_bounds hm⟩
    · cases h
  · cases h

theorem parse_none {l : List UInt8} (h : parse l = none) (n : Int) (h0 : -9223372036854775808 ≤ n) (h1 : n ≤ 9223372036854775807) : itoa n ≠ l := by
  intro e
  rw [← e, parse_itoa n h0 h1] at h
  cases h

theorem itoa_inj {a b : Int} (ha : -9223372036854775808 ≤ a ∧ a ≤ 9223372036854775807) (hb : -9223372036854775808 ≤ b ∧ b ≤ 9223372036854775807) (h : itoa a = itoa b) : a = b := by
  have h1 := parse_itoa a ha.1 ha.2
  have h2 := parse_itoa b hb.1 hb.2
  rw [h, h2] at h1
  injection h1 with h1
  exact h1.symm

/-- A byte of a numeral: a digit, or the sign at its head. -/
theorem itoa_mem (n : Int) : ∀ c ∈ itoa n, c = 45 ∨ isDig c := by
  intro c hc
  unfold itoa at hc
  split at hc
  · rcases List.mem_cons.1 hc with h | h
    · exact .inl h
    · exact .inr (decDigits_dig _ c h)
  · exact .inr (decDigits_dig _ c hc)
theorem itoa_ne (n : Int) : itoa n ≠ [] := by
  unfold itoa
  split
  · simp
  · exact decDigits_ne _
theorem itoa_zero : itoa 0 = [48] := by decide +kernel
theorem itoa_head_zero {m : Int} {l : List UInt8} (h : itoa m = 48 :: l) : l = [] := by
  by_cases hm : m < 0
  · unfold itoa at h
    rw [if_pos hm] at h
    injection h with h _
    exact absurd h (by decide)
  · by_cases h0 : m = 0
    · subst h0
      rw [itoa_zero] at h
      injection h with _ h
      exact h.symm
    · unfold itoa at h
      rw [if_neg hm] at h
      obtain ⟨c, r, e, h1, h2⟩ := decDigits_head m.toNat (by omega)
      rw [e] at h
      injection h with h _
      subst h
      exact absurd h1 (by decide)
theorem parse_zero_more (n : Int) : parse (48 :: itoa n) = none := by
  cases h : parse (48 :: itoa n) with
  | none => rfl
  | some m => exact absurd (itoa_head_zero (parse_some h).1) (itoa_ne n)
theorem parse_plus (l : List UInt8) : parse (43 :: l) = none := by
  cases h : parse (43 :: l) with
  | none => rfl
  | some m =>
    have := itoa_mem m 43 (by rw [(parse_some h).1]; exact List.mem_cons_self)
    rcases this with h | h
    · exact absurd h (by decide)
    · exact absurd h.1 (by decide)
theorem parse_blank (l r : List UInt8) : parse (l ++ 32 :: r) = none := by
  cases h : parse (l ++ 32 :: r) with
  | none => rfl
  | some m =>
    have := itoa_mem m 32 (by rw [(parse_some h).1]; simp)
    rcases this with h | h
    · exact absurd h (by decide)
    · exact absurd h.1 (by decide)
theorem nDigits_le (u : Nat) (h : u < 10000000000000000000) : nDigits u ≤ 19 := by
  rcases Nat.lt_or_ge 19 (nDigits u) with h19 | h19
  · have : ∀ k u : Nat, k < nDigits u → 10 ^ k ≤ u ∨ k = 0 := by
      intro k
      induction k with
      | zero => intro u _; exact .inr rfl
      | succ k ih =>
        intro u hu
        left
        by_cases h10 : u < 10
        · rw [nDigits_small h10] at hu; omega
        · rw [nDigits_big h10] at hu
          rw [Nat.pow_succ]
          rcases ih (u / 10) (by omega) with h | h
          · omega
          · subst h; simp; omega
    rcases this 19 u h19 with h' | h'
    · have e : (10 : Nat) ^ 19 = 10000000000000000000 := by decide
      omega
    · omega
  · exact h19
theorem itoa_len (n : Int) (h0 : -9223372036854775808 ≤ n) (h1 : n ≤ 9223372036854775807) : (itoa n).length ≤ 20 := by
  unfold itoa
  split
  · rw [List.length_cons, decDigits_length]
    have := nDigits_le n.natAbs (by omega)
    omega
  · rw [decDigits_length]
    have := nDigits_le n.toNat (by omega)
    omega
theorem itoa_len_pos (n : Int) : 1 ≤ (itoa n).length := List.length_pos_iff.2 (itoa_ne n)
theorem itoa_head_neg (n : Int) : (itoa n).head? = some 45 ↔ n < 0 := by
  constructor
  · intro h
    by_cases hn : n < 0
    · exact hn
    · exfalso
      unfold itoa at h
      rw [if_neg hn] at h
      have hm := decDigits_dig n.toNat 45 (List.mem_of_mem_head? h)
      exact absurd hm.1 (by decide)
  · intro h
    unfold itoa
    rw [if_pos h]
    rfl
theorem decDigits_ten (u : Nat) (h : 1 ≤ u) : decDigits (u * 10) = decDigits u ++ [48] := by
  rw [decDigits, dif_neg (by omega), show u * 10 / 10 = u by omega, show u * 10 % 10 = 0 by omega]
  rfl
theorem itoa_ten (n : Int) (h : n ≠ 0) : itoa (n * 10) = itoa n ++ [48] := by
  unfold itoa
  by_cases hn : n < 0
  · rw [if_pos hn, if_pos (by omega), show (n * 10).natAbs = n.natAbs * 10 by omega, decDigits_ten _ (by omega)]
    rfl
  · rw [if_neg hn, if_neg (by omega), show (n * 10).toNat = n.toNat * 10 by omega, decDigits_ten _ (by omega)]
theorem itoa_minus (n : Int) (h : n < 0) : itoa (-n) = (itoa n).tail := by
  unfold itoa
  rw [if_pos h, if_neg (by omega), show (-n).toNat = n.natAbs by omega]
  rfl

end Go.Proofs.YtdhhiodnnnfioaaDoor.NumMath
