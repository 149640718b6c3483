/-
  The commands of the document's layer 7, and what is asked of them: pure.
-/
import Derived.Test.YtdhhiodnnnfioaaDoorKit
namespace Go.Proofs.YtdhhiodnnnfioaaDoor.TableMath
open Go.RowKit Kit
set_option linter.unusedVariables false
set_option maxRecDepth 100000

/-- A command: its name, its arity, its categories. -/
structure Cmd where
  name : List UInt8
  ar : Int
  ct : Nat
def cmds : List Cmd := [
  ⟨[103, 101, 116], 2, 9⟩,
  ⟨[115, 101, 116], -3, 10⟩,
  ⟨[97, 112, 112, 101, 110, 100], 3, 10⟩,
  ⟨[115, 116, 114, 108, 101, 110], 2, 9⟩,
  ⟨[105, 110, 99, 114, 98, 121], 3, 10⟩,
  ⟨[105, 110, 99, 114], 2, 10⟩,
  ⟨[103, 101, 116, 100, 101, 108], 2, 10⟩,
  ⟨[109, 103, 101, 116], -2, 9⟩,
  ⟨[109, 115, 101, 116], -3, 10⟩,
  ⟨[108, 112, 117, 115, 104], -3, 18⟩,
  ⟨[114, 112, 117, 115, 104], -3, 18⟩,
  ⟨[108, 112, 111, 112], 2, 18⟩,
  ⟨[114, 112, 111, 112], 2, 18⟩,
  ⟨[108, 108, 101, 110], 2, 17⟩,
  ⟨[108, 114, 97, 110, 103, 101], 4, 17⟩,
  ⟨[104, 115, 101, 116], 4, 34⟩,
  ⟨[104, 103, 101, 116], 3, 33⟩,
  ⟨[104, 100, 101, 108], -3, 34⟩,
  ⟨[104, 108, 101, 110], 2, 33⟩,
  ⟨[104, 103, 101, 116, 97, 108, 108], 2, 33⟩,
  ⟨[104, 105, 110, 99, 114, 98, 121], 4, 34⟩,
  ⟨[115, 97, 100, 100], -3, 66⟩,
  ⟨[115, 114, 101, 109], -3, 66⟩,
  ⟨[115, 105, 115, 109, 101, 109, 98, 101, 114], 3, 65⟩,
  ⟨[115, 109, 101, 109, 98, 101, 114, 115], 2, 65⟩,
  ⟨[115, 99, 97, 114, 100], 2, 65⟩,
  ⟨[115, 109, 111, 118, 101], 4, 66⟩,
  ⟨[122, 97, 100, 100], 4, 130⟩,
  ⟨[122, 114, 101, 109], -3, 130⟩,
  ⟨[122, 115, 99, 111, 114, 101], 3, 129⟩,
  ⟨[122, 114, 97, 110, 103, 101], 4, 129⟩,
  ⟨[122, 99, 97, 114, 100], 2, 129⟩,
  ⟨[122, 105, 110, 99, 114, 98, 121], 4, 130⟩,
  ⟨[100, 101, 108], -2, 6⟩,
  ⟨[101, 120, 105, 115, 116, 115], -2, 5⟩,
  ⟨[116, 121, 112, 101], 2, 5⟩,
  ⟨[101, 120, 112, 105, 114, 101], 3, 6⟩,
  ⟨[116, 116, 108], 2, 5⟩,
  ⟨[112, 101, 114, 115, 105, 115, 116], 2, 6⟩,
  ⟨[114, 101, 110, 97, 109, 101], 3, 6⟩,
  ⟨[107, 101, 121, 115], 2, 5⟩,
  ⟨[100, 98, 115, 105, 122, 101], 1, 5⟩,
  ⟨[102, 108, 117, 115, 104, 97, 108, 108], 1, 6⟩,
  ⟨[112, 105, 110, 103], 1, 512⟩,
  ⟨[101, 99, 104, 111], 2, 512⟩,
  ⟨[97, 117, 116, 104], -2, 512⟩,
  ⟨[113, 117, 105, 116], 1, 512⟩,
  ⟨[109, 117, 108, 116, 105], 1, 1024⟩,
  ⟨[101, 120, 101, 99], 1, 1024⟩,
  ⟨[100, 105, 115, 99, 97, 114, 100], 1, 1024⟩,
  ⟨[119, 97, 116, 99, 104], -2, 1024⟩,
  ⟨[117, 110, 119, 97, 116, 99, 104], 1, 1024⟩,
  ⟨[115, 117, 98, 115, 99, 114, 105, 98, 101], -2, 256⟩,
  ⟨[117, 110, 115, 117, 98, 115, 99, 114, 105, 98, 101], -1, 256⟩,
  ⟨[112, 117, 98, 108, 105, 115, 104], 3, 256⟩,
  ⟨[97, 99, 108], -2, 2048⟩]
theorem cmds_len : cmds.length = 56 := by decide
/-- Beyond the row: nothing. -/
def nil : Cmd := ⟨[], 0, 0⟩
def cmdAt (i : Nat) : Cmd := cmds.getD i nil
theorem cmdAt_get (i : Nat) (h : i < 56) : cmdAt i = cmds[i]'(by rw [cmds_len]; exact h) := by
  unfold cmdAt
  rw [List.getD_eq_getElem?_getD, List.getElem?_eq_getElem (by rw [cmds_len]; exact h)]
  rfl
def cmdV (c : Cmd) : List Value := [.string ⟨c.name.toArray⟩, .int .i64 c.ar, .int .u16 (c.ct : Int)]
def aggV (c : Cmd) : Value := .agg #[.string ⟨c.name.toArray⟩, .int .i64 c.ar, .int .u16 (c.ct : Int)]
def flatV (L : List Cmd) : List Value := (L.map cmdV).flatten
theorem flatV_len : ∀ L : List Cmd, (flatV L).length = L.length * 3
  | [] => rfl
  | c :: L => by
    have ih := flatV_len L
    unfold flatV at ih ⊢
    rw [List.map_cons, List.flatten_cons, List.length_append, ih, List.length_cons]
    show 3 + L.length * 3 = _
    omega
theorem flatV_at : ∀ (L : List Cmd) (i : Nat) (h : i < L.length) (d : Nat), d < 3 → (flatV L)[3 * i + d]? = (cmdV L[i])[d]?
  | c :: L, 0, _, d, hd => by
    show (cmdV c ++ (L.map cmdV).flatten)[3 * 0 + d]? = _
    rw [Nat.mul_zero, Nat.zero_add, List.getElem?_append_left (show d < (cmdV c).length from hd)]
    rfl
  | c :: L, i + 1, h, d, hd => by
    show (cmdV c ++ (L.map cmdV).flatten)[3 * (i + 1) + d]? = _
    rw [List.getElem?_append_right (show (cmdV c).length ≤ 3 * (i + 1) + d by show 3 ≤ _; omega), show 3 * (i + 1) + d - (cmdV c).length = 3 * i + d by show 3 * (i + 1) + d - 3 = _; omega]
    exact flatV_at L i (by simpa using h) d hd
/-- A block that holds the row of commands. -/
def Tab (w : World) (b : Nat) : Prop := b < w.heap.size ∧ ∀ j, j < 168 → w.cell? ⟨b, j, none⟩ = (flatV cmds)[j]?
theorem Tab.keep {w w' : World} {b : Nat} (h : Tab w b) (hb : Below w.heap.size w w') : Tab w' b :=
  ⟨Nat.lt_of_lt_of_le h.1 hb.size, fun j hj => by rw [hb.cell (p := ⟨b, j, none⟩) h.1]; exact h.2 j hj⟩
theorem Tab.at_ {w : World} {b : Nat} (h : Tab w b) (i : Nat) (hi : i < 56) (d : Nat) (hd : d < 3) : w.cell? ⟨b, i * 3 + d, none⟩ = (cmdV (cmdAt i))[d]? := by
  rw [Nat.mul_comm i 3, h.2 _ (by omega), flatV_at cmds i (by rw [cmds_len]; exact hi) d hd, cmdAt_get i hi]
theorem Tab.name {w : World} {b : Nat} (h : Tab w b) (i : Nat) (hi : i < 56) : w.cell? ⟨b, i * 3, none⟩ = some (.string ⟨(cmdAt i).name.toArray⟩) := h.at_ i hi 0 (by decide)
theorem Tab.ar {w : World} {b : Nat} (h : Tab w b) (i : Nat) (hi : i < 56) : w.cell? ⟨b, i * 3 + 1, none⟩ = some (.int .i64 (cmdAt i).ar) := h.at_ i hi 1 (by decide)
theorem Tab.ct {w : World} {b : Nat} (h : Tab w b) (i : Nat) (hi : i < 56) : w.cell? ⟨b, i * 3 + 2, none⟩ = some (.int .u16 ((cmdAt i).ct : Int)) := h.at_ i hi 2 (by decide)

/-- The command of an id. -/
def atV (id : Int) : Cmd := if 0 ≤ id ∧ id < 56 then cmdAt id.toNat else nil
def atB (id : Int) : Bool := decide (0 ≤ id ∧ id < 56)
/-- Whether so many words may be. -/
def fitsB (id words : Int) : Bool := atB id && (if (atV id).ar < 0 then decide (-(atV id).ar ≤ words) else decide (words = (atV id).ar))
/-- The id of a name that is small. -/
def findK (s : List UInt8) : Nat := cmds.findIdx fun c => decide (c.name = s)
theorem findK_le (s : List UInt8) : findK s ≤ 56 := by
  have := List.findIdx_le_length (xs := cmds) (p := fun c => decide (c.name = s))
  rwa [cmds_len] at this
theorem findK_at {s : List UInt8} {k : Nat} (hk : k < 56) (hle : k ≤ findK s) (h : (cmdAt k).name = s) : findK s = k := by
  unfold findK at hle ⊢
  apply Nat.le_antisymm
  · refine Nat.le_of_not_lt fun hlt => ?_
    have := List.not_of_lt_findIdx hlt
    rw [← cmdAt_get k hk] at this
    simp [h] at this
  · exact hle
theorem findK_next {s : List UInt8} {k : Nat} (hk : k < 56) (hle : k ≤ findK s) (h : (cmdAt k).name ≠ s) : k + 1 ≤ findK s := by
  refine Nat.succ_le_of_lt (Nat.lt_of_le_of_ne hle fun e => ?_)
  unfold findK at e
  have hlt : List.findIdx (fun c => decide (c.name = s)) cmds < cmds.length := by rw [← e, cmds_len]; exact hk
  have h2 := List.findIdx_getElem (w := hlt)
  simp only [← e] at h2
  rw [← cmdAt_get k hk] at h2
  exact h (by simpa using h2)
/-- What is told of a small name. -/
def findV (s : List UInt8) : Int := if findK s < 56 then (findK s : Int) else -1
def findB (s : List UInt8) : Bool := decide (findK s < 56)
theorem findV_at {s : List UInt8} {k : Nat} (hk : k < 56) (h : findK s = k) : findV s = (k : Int) ∧ findB s = true := by
  unfold findV findB
  rw [h, if_pos hk]
  exact ⟨rfl, decide_eq_true hk⟩
theorem findV_none {s : List UInt8} (h : 56 ≤ findK s) : findV s = -1 ∧ findB s = false := by
  unfold findV findB
  rw [if_neg (by omega)]
  exact ⟨rfl, decide_eq_false (by omega)⟩
/-- The categories' names. -/
def cats : List (List UInt8) := [[114, 101, 97, 100], [119, 114, 105, 116, 101], [107, 101, 121, 115, 112, 97, 99, 101], [115, 116, 114, 105, 110, 103], [108, 105, 115, 116], [104, 97, 115, 104], [115, 101, 116], [115, 111, 114, 116, 101, 100, 115, 101, 116], [112, 117, 98, 115, 117, 98], [99, 111, 110, 110, 101, 99, 116, 105, 111, 110], [116, 114, 97, 110, 115, 97, 99, 116, 105, 111, 110], [97, 100, 109, 105, 110]]
def allN : List UInt8 := [97, 108, 108]
/-- So many commands' part of a category's bits (12: of all). -/
def maskK (k : Nat) : Nat → Nat
  | 0 => 0
  | i + 1 => if k = 12 ∨ (cmdAt i).ct >>> k % 2 = 1 then maskK k i + 2 ^ i else maskK k i
theorem maskK_lt (k : Nat) : ∀ i, maskK k i < 2 ^ i
  | 0 => by simp [maskK]
  | i + 1 => by
    have := maskK_lt k i
    rw [maskK, Nat.pow_succ]
    split <;> omega
/-- Which category a name is: 12 for all, 13 for none. -/
def catK (s : List UInt8) : Nat := (cats ++ [allN]).findIdx fun c => decide (c = s)
def catV (s : List UInt8) : Nat := if catK s < 13 then maskK (catK s) 56 else 0
def catB (s : List UInt8) : Bool := decide (catK s < 13)

theorem cats_len : cats.length = 12 := by decide
def names : List (List UInt8) := cats ++ [allN]
theorem names_len : names.length = 13 := by decide
theorem catK_le (s : List UInt8) : catK s ≤ 13 := by
  have := List.findIdx_le_length (xs := cats ++ [allN]) (p := fun c => decide (c = s))
  exact this
theorem catK_at {s : List UInt8} {k : Nat} (hk : k < 13) (hle : k ≤ catK s) (h : names[k]'(by rw [names_len]; exact hk) = s) : catK s = k := by
  unfold catK at hle ⊢
  apply Nat.le_antisymm
  · refine Nat.le_of_not_lt fun hlt => ?_
    have := List.not_of_lt_findIdx hlt
    have h' : (cats ++ [allN])[k]'(show k < (cats ++ [allN]).length from hk) = s := h
    exact absurd h' (by simpa using this)
  · exact hle
theorem catK_next {s : List UInt8} {k : Nat} (hk : k < 13) (hle : k ≤ catK s) (h : names[k]'(by rw [names_len]; exact hk) ≠ s) : k + 1 ≤ catK s := by
  refine Nat.succ_le_of_lt (Nat.lt_of_le_of_ne hle fun e => ?_)
  unfold catK at e
  have hlt : List.findIdx (fun c => decide (c = s)) (cats ++ [allN]) < (cats ++ [allN]).length := by rw [← e]; exact hk
  have h2 := List.findIdx_getElem (w := hlt)
  simp only [← e] at h2
  have h3 : (cats ++ [allN])[k]'(show k < (cats ++ [allN]).length from hk) = s := by simpa using h2
  exact h h3
theorem catV_at {s : List UInt8} {k : Nat} (hk : k < 13) (h : catK s = k) : catV s = maskK k 56 ∧ catB s = true := by
  unfold catV catB
  rw [h, if_pos hk]
  exact ⟨rfl, decide_eq_true hk⟩
theorem catV_none {s : List UInt8} (h : 13 ≤ catK s) : catV s = 0 ∧ catB s = false := by
  unfold catV catB
  rw [if_neg (by omega)]
  exact ⟨rfl, decide_eq_false (by omega)⟩
theorem maskK_yes (k i : Nat) (h : k = 12 ∨ (cmdAt i).ct >>> k % 2 = 1) : maskK k (i + 1) = maskK k i + 2 ^ i := if_pos h
theorem maskK_no (k i : Nat) (h : ¬ (k = 12 ∨ (cmdAt i).ct >>> k % 2 = 1)) : maskK k (i + 1) = maskK k i := if_neg h
theorem ct_small (i : Nat) (h : i < 56) : (cmdAt i).ct < 4096 := by
  have hall : ∀ c ∈ cmds, c.ct < 4096 := by decide
  rw [cmdAt_get i h]
  exact hall _ (List.getElem_mem _)

end Go.Proofs.YtdhhiodnnnfioaaDoor.TableMath
