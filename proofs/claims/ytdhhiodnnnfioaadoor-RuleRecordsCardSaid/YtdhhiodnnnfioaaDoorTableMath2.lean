/-
  The categories' bits: what is asked of them by the laws of layer 7: pure.
-/
import Derived.Test.YtdhhiodnnnfioaaDoorTableMath
import Derived.Test.YtdhhiodnnnfioaaDoorLow
namespace Go.Proofs.YtdhhiodnnnfioaaDoor.TableMath
open Go.RowKit Kit Low
set_option linter.unusedVariables false
set_option maxRecDepth 100000

def mk (k : Nat) : Nat := maskK k 56
def catAt (k : Nat) : List UInt8 := cats.getD k []
theorem catAt_get (k : Nat) (h : k < 12) : catAt k = cats[k]'(by rw [cats_len]; exact h) := by
  unfold catAt
  rw [List.getD_eq_getElem?_getD, List.getElem?_eq_getElem (by rw [cats_len]; exact h)]
  rfl
theorem cat_all : (List.range 12).all (fun k => decide (catV (catAt k) = mk k ∧ catB (catAt k) = true)) = true := by decide +kernel
theorem cat_at (k : Nat) (h : k < 12) : catV (catAt k) = mk k ∧ catB (catAt k) = true := by
  have := List.all_eq_true.1 cat_all k (List.mem_range.2 h)
  simpa using this
theorem mk_lt (k : Nat) : mk k < 2 ^ 56 := maskK_lt k 56
/-- One command's bit. -/
def bitN (m id : Nat) : Nat := m / 2 ^ id % 2
/-- In how many categories behind the first two it is, of so many. -/
def sumB (id : Nat) : Nat → Nat
  | 0 => 0
  | i + 1 => if i < 2 then 0 else sumB id i + bitN (mk i) id
theorem sum_all : (List.range 56).all (fun id => decide (sumB id 12 = 1)) = true := by decide +kernel
theorem sum_one (id : Nat) (h : id < 56) : sumB id 12 = 1 := by
  have := List.all_eq_true.1 sum_all id (List.mem_range.2 h)
  simpa using this
theorem sum_step (id i : Nat) (h : 2 ≤ i) : sumB id (i + 1) = sumB id i + bitN (mk i) id := by
  rw [sumB, if_neg (by omega)]
theorem sum_le (id : Nat) : ∀ i, sumB id i ≤ i
  | 0 => by simp [sumB]
  | i + 1 => by
    have := sum_le id i
    rw [sumB]
    split
    · omega
    · unfold bitN; omega
def rw : Nat := mk 0 ||| mk 1
theorem rw_all : (List.range 56).all (fun id => decide ((bitN (mk 0 ||| mk 1) id = 1) = (id < 43))) = true := by decide +kernel
theorem rw_at (id : Nat) (h : id < 56) : (bitN (mk 0 ||| mk 1) id = 1) = (id < 43) := by
  have := List.all_eq_true.1 rw_all id (List.mem_range.2 h)
  simpa using this
theorem rw_apart : mk 0 &&& mk 1 = 0 := by decide +kernel

/-- What so many categories behind the first two come to together. -/
def orK : Nat → Nat
  | 0 => 0
  | i + 1 => if i < 2 then 0 else orK i ||| mk i
theorem or_step (i : Nat) (h : 2 ≤ i) : orK (i + 1) = orK i ||| mk i := by rw [orK, if_neg (by omega)]
theorem orK_lt : ∀ i, orK i < 2 ^ 56
  | 0 => by simp [orK]
  | i + 1 => by
    rw [orK]
    split
    · decide
    · exact Nat.or_lt_two_pow (orK_lt i) (mk_lt i)
theorem or_all : orK 12 = 72057594037927935 := by decide +kernel
theorem mk_some_all : (List.range 12).all (fun k => decide (mk k ≠ 0)) = true := by decide +kernel
theorem mk_some (k : Nat) (h : k < 12) : mk k ≠ 0 := by
  have := List.all_eq_true.1 mk_some_all k (List.mem_range.2 h)
  simpa using this
theorem apart_all : (List.range 12).all (fun i => (List.range 12).all fun j => decide (i < 2 ∨ j < 2 ∨ i = j ∨ mk i &&& mk j = 0)) = true := by decide +kernel
theorem apart (i j : Nat) (hi : i < 12) (hj : j < 12) (h2i : 2 ≤ i) (h2j : 2 ≤ j) (h : i ≠ j) : mk i &&& mk j = 0 := by
  have := List.all_eq_true.1 apart_all i (List.mem_range.2 hi)
  have := List.all_eq_true.1 this j (List.mem_range.2 hj)
  have := of_decide_eq_true this
  omega
theorem pair_all : (List.range 12).all (fun i => (List.range 12).all fun j => decide (catB (catAt i ++ catAt j) = false)) = true := by decide +kernel
theorem pair_none (i j : Nat) (hi : i < 12) (hj : j < 12) : catB (catAt i ++ catAt j) = false := by
  have := List.all_eq_true.1 pair_all i (List.mem_range.2 hi)
  have := List.all_eq_true.1 this j (List.mem_range.2 hj)
  exact of_decide_eq_true this
theorem catAt_len (k : Nat) (h : k < 12) : (catAt k).length ≤ 100 := by
  have hall : ∀ x ∈ cats, x.length ≤ 100 := by decide
  rw [catAt_get k h]
  exact hall _ (List.getElem_mem _)

/-- Names are of small letters. -/
theorem name_letters (i : Nat) (h : i < 56) : (cmdAt i).name ≠ [] ∧ (cmdAt i).name.length ≤ 20 ∧ ∀ c ∈ (cmdAt i).name, 97 ≤ c.toNat ∧ c.toNat ≤ 122 := by
  have hall : cmds.all (fun c => decide (c.name ≠ []) && decide (c.name.length ≤ 20) && c.name.all fun x => decide (97 ≤ x.toNat) && decide (x.toNat ≤ 122)) = true := by decide +kernel
  rw [cmdAt_get i h]
  have := List.all_eq_true.1 hall _ (List.getElem_mem (by rw [cmds_len]; exact h))
  simp only [Bool.and_eq_true, decide_eq_true_eq, List.all_eq_true] at this
  exact ⟨this.1.1, this.1.2, this.2⟩
theorem findK_all : (List.range 56).all (fun i => decide (findK (cmdAt i).name = i)) = true := by decide +kernel
theorem findK_name (i : Nat) (h : i < 56) : findK (cmdAt i).name = i := by
  have := List.all_eq_true.1 findK_all i (List.mem_range.2 h)
  simpa using this
theorem find_name (i : Nat) (h : i < 56) : findV (cmdAt i).name = (i : Int) ∧ findB (cmdAt i).name = true := findV_at h (findK_name i h)
theorem found_name {l : List UInt8} (h : findK l < 56) : (cmdAt (findK l)).name = l := by
  rw [cmdAt_get _ h]
  have h2 := List.findIdx_getElem (xs := cmds) (p := fun c => decide (c.name = l)) (w := by rw [cmds_len]; exact h)
  have h3 : (cmds[List.findIdx (fun c => decide (c.name = l)) cmds]'(by rw [cmds_len]; exact h)).name = l := by simpa using h2
  exact h3
/-- A letter made big is made small again. -/
theorem low_of_big (c : UInt8) (h : 97 ≤ c.toNat ∧ c.toNat ≤ 122) : lowByte (c - 32) = c ∧ ((c - 32).toNat : Int) = (c.toNat : Int) - 32 := by
  have h32 : (32 : UInt8).toNat = 32 := rfl
  have e : (c - 32).toNat = c.toNat - 32 := by
    rw [UInt8.toNat_sub_of_le _ _ (by rw [UInt8.le_iff_toNat_le, h32]; omega), h32]
  refine ⟨?_, by omega⟩
  unfold lowByte
  rw [if_pos (by omega)]
  apply UInt8.toNat_inj.1
  rw [UInt8.toNat_add, e, h32]
  omega
/-- A row that is a name but for big letters, so far. -/
structure Mixed (N R : List UInt8) (k : Nat) : Prop where
  len : R.length = N.length
  low : lowL R = N
  rest : ∀ j, k ≤ j → R[j]? = N[j]?
theorem lowL_small {N : List UInt8} (h : ∀ c ∈ N, 97 ≤ c.toNat ∧ c.toNat ≤ 122) : lowL N = N := by
  unfold lowL
  conv => rhs; rw [← List.map_id N]
  refine List.map_congr_left fun c hc => ?_
  have := h c hc
  exact if_neg (by omega)
theorem Mixed.new {N : List UInt8} (h : ∀ c ∈ N, 97 ≤ c.toNat ∧ c.toNat ≤ 122) : Mixed N N 0 := ⟨rfl, lowL_small h, fun _ _ => rfl⟩
theorem Mixed.skip {N R : List UInt8} {k : Nat} (h : Mixed N R k) : Mixed N R (k + 1) := ⟨h.len, h.low, fun j hj => h.rest j (by omega)⟩
theorem Mixed.big {N R : List UInt8} {k : Nat} (h : Mixed N R k) (hk : k < N.length) (hl : 97 ≤ (N[k]).toNat ∧ (N[k]).toNat ≤ 122) : Mixed N (R.set k (N[k] - 32)) (k + 1) := by
  refine ⟨by rw [List.length_set, h.len], ?_, fun j hj => ?_⟩
  · have e : lowL (R.set k (N[k] - 32)) = (lowL R).set k (lowByte (N[k] - 32)) := by unfold lowL; rw [List.map_set]
    rw [e, h.low, (low_of_big _ hl).1, List.set_getElem_self]
  · rw [List.getElem?_set_ne (by omega)]
    exact h.rest j (by omega)
theorem at_beyond {id : Int} (h : ¬ (0 ≤ id ∧ id < 56)) : atB id = false := decide_eq_false h

theorem apart_names_all : (List.range 56).all (fun i => (List.range 56).all fun j => decide (i = j ∨ (cmdAt i).name ≠ (cmdAt j).name)) = true := by decide +kernel
theorem apart_names (i j : Nat) (hi : i < 56) (hj : j < 56) (h : i ≠ j) : (cmdAt i).name ≠ (cmdAt j).name := by
  have := List.all_eq_true.1 apart_names_all i (List.mem_range.2 hi)
  have := List.all_eq_true.1 this j (List.mem_range.2 hj)
  have := of_decide_eq_true this
  rcases this with h' | h'
  · exact absurd h' h
  · exact h'
theorem ar_some_all : (List.range 56).all (fun i => decide ((cmdAt i).ar ≠ 0 ∧ -3 ≤ (cmdAt i).ar ∧ (cmdAt i).ar ≤ 4)) = true := by decide +kernel
theorem ar_some (i : Nat) (hi : i < 56) : (cmdAt i).ar ≠ 0 ∧ -3 ≤ (cmdAt i).ar ∧ (cmdAt i).ar ≤ 4 := by
  have := List.all_eq_true.1 ar_some_all i (List.mem_range.2 hi)
  exact of_decide_eq_true this
theorem bits_same_all : (List.range 56).all (fun i => (List.range 12).all fun k => decide (bitN (mk k) i = (cmdAt i).ct / 2 ^ k % 2)) = true := by decide +kernel
theorem bits_same (i k : Nat) (hi : i < 56) (hk : k < 12) : bitN (mk k) i = (cmdAt i).ct / 2 ^ k % 2 := by
  have := List.all_eq_true.1 bits_same_all i (List.mem_range.2 hi)
  have := List.all_eq_true.1 this k (List.mem_range.2 hk)
  exact of_decide_eq_true this
theorem cat_whole : catV [97, 108, 108] = 72057594037927935 ∧ catB [97, 108, 108] = true := by decide +kernel
/-- How many words a command has at least. -/
theorem fits_least (i : Nat) (hi : i < 56) (r : Int) (hr : r = (cmdAt i).ar) (k : Int) : fitsB (i : Int) k = if r < 0 then decide (-r ≤ k) else decide (k = r) := by
  have h1 : atB (i : Int) = true := decide_eq_true (by omega)
  have h2 : atV (i : Int) = cmdAt i := if_pos (by omega)
  unfold fitsB
  rw [h1, h2, ← hr, Bool.true_and]

end Go.Proofs.YtdhhiodnnnfioaaDoor.TableMath
