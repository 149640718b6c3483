/-
  The kinds of commands by where their keys and channels stand: pure; and the map that the landed code of layer 8 makes of them.
-/
import Derived.Test.YtonoelpmmjnpeaaMapLit
import Derived.Test.YtonoelpmmjnpeaaRefUses5
namespace Go.Proofs.Ytonoelpmmjnpeaa.UseM
open Go.RowKit Kit StrT UseT TableMath Low MapT RefU
set_option linter.unusedVariables false
set_option maxRecDepth 100000

def kindN (m : List UInt8) : Nat :=
  if m ∈ g1 then 0 else if m ∈ g2 then 2 else if m = nSet then 1 else if m = nRename then 7 else if m = nSmove then 5 else if m ∈ g3 then (if m = nDel then 6 else 3) else if m = nMset then 4
  else if m = nKeys ∨ m = nDbsize then 8 else if m = nFlush then 9 else if m = nSub then 10 else if m = nPub then 11 else 12
def keysK (k : Nat) (args : List (List UInt8)) : List U :=
  if k = 0 then [⟨args.getD 1 [], true, false⟩] else if k = 1 then [⟨args.getD 1 [], decide (3 < args.length), true⟩] else if k = 2 then [⟨args.getD 1 [], true, true⟩]
  else if k = 3 then (args.drop 1).map fun a => ⟨a, true, false⟩ else if k = 4 then odds (args.drop 1) else if k = 5 then [⟨args.getD 1 [], true, true⟩, ⟨args.getD 2 [], true, true⟩]
  else if k = 6 then (args.drop 1).map fun a => ⟨a, true, true⟩ else if k = 7 then [⟨args.getD 1 [], true, true⟩, ⟨args.getD 2 [], false, true⟩] else []
def chansK (k : Nat) (args : List (List UInt8)) : List (List UInt8) := if k = 10 then args.drop 1 else if k = 11 then [args.getD 1 []] else []
theorem keys_kind (m : List UInt8) (args : List (List UInt8)) : keysL m args = keysK (kindN m) args := by
  unfold keysL kindN
  split
  · rfl
  split
  · rfl
  split
  · rfl
  split
  · rfl
  split
  · rfl
  split
  · split
    · rename_i h
      simp [keysK, h]
    · rename_i h
      simp [keysK, h]
  split
  · rfl
  split
  · rfl
  split
  · rfl
  split
  · rfl
  split
  · rfl
  · rfl
theorem kind_all : (List.range 56).all (fun k => decide (((cmdAt k).name = nSub ↔ kindN (cmdAt k).name = 10) ∧ ((cmdAt k).name = nPub ↔ kindN (cmdAt k).name = 11) ∧ (((cmdAt k).name = nKeys ∨ (cmdAt k).name = nDbsize) ↔ kindN (cmdAt k).name = 8) ∧ ((cmdAt k).name = nFlush ↔ kindN (cmdAt k).name = 9))) = true := by decide +kernel
theorem kind_of {m : List UInt8} (h : findB m = true) : (m = nSub ↔ kindN m = 10) ∧ (m = nPub ↔ kindN m = 11) ∧ ((m = nKeys ∨ m = nDbsize) ↔ kindN m = 8) ∧ (m = nFlush ↔ kindN m = 9) := by
  obtain ⟨h1, h2⟩ := find_name h
  have := List.all_eq_true.1 kind_all (findK m) (List.mem_range.2 h1)
  rw [h2] at this
  exact of_decide_eq_true this
theorem chans_kind {m : List UInt8} (h : findB m = true) (args : List (List UInt8)) : chansL m args = chansK (kindN m) args := by
  obtain ⟨h1, h2, -, -⟩ := kind_of h
  unfold chansL chansK
  by_cases e1 : m = nSub
  · rw [if_pos e1, if_pos (h1.1 e1)]
  · rw [if_neg e1, if_neg (fun e => e1 (h1.2 e))]
    by_cases e2 : m = nPub
    · rw [if_pos e2, if_pos (h2.1 e2)]
    · rw [if_neg e2, if_neg (fun e => e2 (h2.2 e))]
/-- What a kind asks of the words. -/
theorem kind_asks {m : List UInt8} {n : Nat} (h : findB m = true) (hf : okL m n = true) : (kindN m ≤ 2 ∨ kindN m = 10 ∨ kindN m = 11 → 2 ≤ n) ∧ (kindN m = 5 ∨ kindN m = 7 → 3 ≤ n) ∧ 1 ≤ n := by
  obtain ⟨a1, a2, a3, a4⟩ := asks_of h hf
  obtain ⟨k1, k2, k3, k4⟩ := kind_of h
  refine ⟨fun hk => ?_, fun hk => ?_, a3⟩
  · rcases hk with hk | hk | hk
    · refine a1 ?_
      by_cases e1 : m ∈ g1
      · exact Or.inl e1
      by_cases e2 : m ∈ g2
      · exact Or.inr (Or.inl e2)
      by_cases e3 : m = nSet
      · exact Or.inr (Or.inr e3)
      exfalso
      unfold kindN at hk
      rw [if_neg e1, if_neg e2, if_neg e3] at hk
      split at hk
      · omega
      split at hk
      · omega
      split at hk
      · split at hk <;> omega
      split at hk
      · omega
      split at hk
      · omega
      split at hk
      · omega
      split at hk
      · omega
      split at hk <;> omega
    · exact a4 (Or.inr (k1.2 hk))
    · exact a4 (Or.inl (k2.2 hk))
  · refine a2 ?_
    by_cases e1 : m = nRename
    · exact Or.inl e1
    by_cases e2 : m = nSmove
    · exact Or.inr e2
    exfalso
    unfold kindN at hk
    split at hk
    · omega
    split at hk
    · omega
    split at hk
    · omega

    split at hk
    · split at hk <;> omega
    split at hk
    · omega
    split at hk
    · omega
    split at hk
    · omega
    split at hk
    · omega
    split at hk <;> omega
theorem kind_le (m : List UInt8) : kindN m ≤ 12 := by
  unfold kindN
  repeat' split
  all_goals omega

def fnV (f : FuncId) : Value := .func (.func f) #[] #[]
/-- What stands in the map for each kind. -/
def shOf : Nat → Value
  | 0 => .agg #[fnV 36, .bool false, .bool false, .nilFunc]
  | 1 => .agg #[fnV 37, .bool false, .bool false, .nilFunc]
  | 2 => .agg #[fnV 38, .bool false, .bool false, .nilFunc]
  | 3 => .agg #[fnV 39, .bool false, .bool false, .nilFunc]
  | 4 => .agg #[fnV 40, .bool false, .bool false, .nilFunc]
  | 5 => .agg #[fnV 41, .bool false, .bool false, .nilFunc]
  | 6 => .agg #[fnV 42, .bool false, .bool false, .nilFunc]
  | 7 => .agg #[fnV 43, .bool false, .bool false, .nilFunc]
  | 8 => .agg #[.nilFunc, .bool true, .bool false, .nilFunc]
  | 9 => .agg #[.nilFunc, .bool false, .bool true, .nilFunc]
  | 10 => .agg #[.nilFunc, .bool false, .bool false, fnV 44]
  | 11 => .agg #[.nilFunc, .bool false, .bool false, fnV 45]
  | _ => .agg #[.nilFunc, .bool false, .bool false, .nilFunc]
def kindsL : List (List UInt8 × Nat) := [([103, 101, 116], 0), ([115, 101, 116], 1), ([97, 112, 112, 101, 110, 100], 2), ([115, 116, 114, 108, 101, 110], 0), ([105, 110, 99, 114, 98, 121], 2), ([105, 110, 99, 114], 2), ([103, 101, 116, 100, 101, 108], 2), ([109, 103, 101, 116], 3), ([109, 115, 101, 116], 4), ([108, 112, 117, 115, 104], 2), ([114, 112, 117, 115, 104], 2), ([108, 112, 111, 112], 2), ([114, 112, 111, 112], 2), ([108, 108, 101, 110], 0), ([108, 114, 97, 110, 103, 101], 0), ([104, 115, 101, 116], 2), ([104, 103, 101, 116], 0), ([104, 100, 101, 108], 2), ([104, 108, 101, 110], 0), ([104, 103, 101, 116, 97, 108, 108], 0), ([104, 105, 110, 99, 114, 98, 121], 2), ([115, 97, 100, 100], 2), ([115, 114, 101, 109], 2), ([115, 105, 115, 109, 101, 109, 98, 101, 114], 0), ([115, 109, 101, 109, 98, 101, 114, 115], 0), ([115, 99, 97, 114, 100], 0), ([115, 109, 111, 118, 101], 5), ([122, 97, 100, 100], 2), ([122, 114, 101, 109], 2), ([122, 115, 99, 111, 114, 101], 0), ([122, 114, 97, 110, 103, 101], 0), ([122, 99, 97, 114, 100], 0), ([122, 105, 110, 99, 114, 98, 121], 2), ([100, 101, 108], 6), ([101, 120, 105, 115, 116, 115], 3), ([116, 121, 112, 101], 0), ([101, 120, 112, 105, 114, 101], 2), ([116, 116, 108], 0), ([112, 101, 114, 115, 105, 115, 116], 2), ([114, 101, 110, 97, 109, 101], 7), ([107, 101, 121, 115], 8), ([100, 98, 115, 105, 122, 101], 8), ([102, 108, 117, 115, 104, 97, 108, 108], 9), ([119, 97, 116, 99, 104], 3), ([115, 117, 98, 115, 99, 114, 105, 98, 101], 10), ([112, 117, 98, 108, 105, 115, 104], 11)]
def shapesL : List (List UInt8 × Value) := kindsL.map fun p => (p.1, shOf p.2)
def getK (L : List (List UInt8 × Nat)) (k : List UInt8) (z : Nat) : Nat := match L.find? (fun p => decide (p.1 = k)) with | some p => p.2 | none => z
theorem get_map (k : List UInt8) (z : Nat) : ∀ L : List (List UInt8 × Nat), getM (L.map fun p => (p.1, shOf p.2)) k (shOf z) = shOf (getK L k z)
  | [] => rfl
  | p :: L => by
    have ih := get_map k z L
    unfold getM getK at ih ⊢
    rw [List.map_cons, List.find?_cons, List.find?_cons]
    by_cases e : p.1 = k
    · simp [e]
    · simp only [e, decide_false]
      exact ih
theorem get_all : (List.range 56).all (fun k => decide (getK kindsL (cmdAt k).name 12 = kindN (cmdAt k).name)) = true := by decide +kernel
theorem get_kind {m : List UInt8} (h : findB m = true) : getM shapesL m (shOf 12) = shOf (kindN m) := by
  obtain ⟨h1, h2⟩ := find_name h
  have := List.all_eq_true.1 get_all (findK m) (List.mem_range.2 h1)
  rw [h2] at this
  unfold shapesL
  rw [get_map, of_decide_eq_true this]
theorem keys_nodup : (kindsL.map (·.1)).Nodup := by decide +kernel
theorem shapes_nodup : (shapesL.map (·.1)).Nodup := by
  unfold shapesL
  rw [List.map_map]
  exact keys_nodup
theorem shapes_zero (w : World) : (zeroValue 52).run Try.prog w = .ok (shOf 12) w := by kernel_rfl

end Go.Proofs.Ytonoelpmmjnpeaa.UseM
