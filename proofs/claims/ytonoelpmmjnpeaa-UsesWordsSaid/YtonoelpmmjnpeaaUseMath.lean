/-
  What a request needs, as the document's layer 8 says it: pure.
-/
import Derived.Test.YtonoelpmmjnpeaaUseRows
namespace Go.Proofs.Ytonoelpmmjnpeaa.UseT
open Go.RowKit Kit StrT
set_option linter.unusedVariables false
set_option maxRecDepth 100000

/-- Whose second word is read; read and written; all whose words are read. -/
def g1 : List (List UInt8) := [[103, 101, 116], [115, 116, 114, 108, 101, 110], [108, 108, 101, 110], [108, 114, 97, 110, 103, 101], [104, 103, 101, 116], [104, 108, 101, 110], [104, 103, 101, 116, 97, 108, 108], [115, 105, 115, 109, 101, 109, 98, 101, 114], [115, 109, 101, 109, 98, 101, 114, 115], [115, 99, 97, 114, 100], [122, 115, 99, 111, 114, 101], [122, 114, 97, 110, 103, 101], [122, 99, 97, 114, 100], [116, 121, 112, 101], [116, 116, 108]]
def g2 : List (List UInt8) := [[97, 112, 112, 101, 110, 100], [105, 110, 99, 114, 98, 121], [105, 110, 99, 114], [103, 101, 116, 100, 101, 108], [108, 112, 117, 115, 104], [114, 112, 117, 115, 104], [108, 112, 111, 112], [114, 112, 111, 112], [104, 115, 101, 116], [104, 100, 101, 108], [104, 105, 110, 99, 114, 98, 121], [115, 97, 100, 100], [115, 114, 101, 109], [122, 97, 100, 100], [122, 114, 101, 109], [122, 105, 110, 99, 114, 98, 121], [101, 120, 112, 105, 114, 101], [112, 101, 114, 115, 105, 115, 116]]
def g3 : List (List UInt8) := [[109, 103, 101, 116], [101, 120, 105, 115, 116, 115], [119, 97, 116, 99, 104], [100, 101, 108]]
def nSet : List UInt8 := [115, 101, 116]
def nRename : List UInt8 := [114, 101, 110, 97, 109, 101]
def nSmove : List UInt8 := [115, 109, 111, 118, 101]
def nMset : List UInt8 := [109, 115, 101, 116]
def nDel : List UInt8 := [100, 101, 108]
/-- Each second one of some words. -/
def odds : List (List UInt8) → List U
  | [] => []
  | [a] => [⟨a, false, true⟩]
  | a :: _ :: r => ⟨a, false, true⟩ :: odds r
def keysL (name : List UInt8) (args : List (List UInt8)) : List U :=
  if name ∈ g1 then [⟨args.getD 1 [], true, false⟩]
  else if name ∈ g2 then [⟨args.getD 1 [], true, true⟩]
  else if name = nSet then [⟨args.getD 1 [], decide (3 < args.length), true⟩]
  else if name = nRename then [⟨args.getD 1 [], true, true⟩, ⟨args.getD 2 [], false, true⟩]
  else if name = nSmove then [⟨args.getD 1 [], true, true⟩, ⟨args.getD 2 [], true, true⟩]
  else if name ∈ g3 then (args.drop 1).map fun a => ⟨a, true, decide (name = nDel)⟩
  else if name = nMset then odds (args.drop 1)
  else []
theorem keys_g1 {name : List UInt8} (args : List (List UInt8)) (h : name ∈ g1) : keysL name args = [⟨args.getD 1 [], true, false⟩] := if_pos h
theorem keys_g2 {name : List UInt8} (args : List (List UInt8)) (h : name ∈ g2) : keysL name args = [⟨args.getD 1 [], true, true⟩] := by
  have h1 : name ∉ g1 := fun h1 => by
    have : ∀ x ∈ g2, x ∉ g1 := by decide
    exact this name h h1
  unfold keysL
  rw [if_neg h1, if_pos h]
theorem keys_set (args : List (List UInt8)) : keysL nSet args = [⟨args.getD 1 [], decide (3 < args.length), true⟩] := by
  unfold keysL
  rw [if_neg (by decide), if_neg (by decide), if_pos rfl]
theorem keys_rename (args : List (List UInt8)) : keysL nRename args = [⟨args.getD 1 [], true, true⟩, ⟨args.getD 2 [], false, true⟩] := by
  unfold keysL
  rw [if_neg (by decide), if_neg (by decide), if_neg (by decide), if_pos rfl]
theorem keys_smove (args : List (List UInt8)) : keysL nSmove args = [⟨args.getD 1 [], true, true⟩, ⟨args.getD 2 [], true, true⟩] := by
  unfold keysL
  rw [if_neg (by decide), if_neg (by decide), if_neg (by decide), if_neg (by decide), if_pos rfl]
theorem keys_g3 {name : List UInt8} (args : List (List UInt8)) (h : name ∈ g3) : keysL name args = (args.drop 1).map fun a => ⟨a, true, decide (name = nDel)⟩ := by
  have h1 : name ∉ g1 ∧ name ∉ g2 ∧ name ≠ nSet ∧ name ≠ nRename ∧ name ≠ nSmove := by
    have : ∀ x ∈ g3, x ∉ g1 ∧ x ∉ g2 ∧ x ≠ nSet ∧ x ≠ nRename ∧ x ≠ nSmove := by decide
    exact this name h
  unfold keysL
  rw [if_neg h1.1, if_neg h1.2.1, if_neg h1.2.2.1, if_neg h1.2.2.2.1, if_neg h1.2.2.2.2, if_pos h]
theorem keys_mset (args : List (List UInt8)) : keysL nMset args = odds (args.drop 1) := by
  unfold keysL
  rw [if_neg (by decide), if_neg (by decide), if_neg (by decide), if_neg (by decide), if_neg (by decide), if_neg (by decide), if_pos rfl]
theorem keys_none {name : List UInt8} (args : List (List UInt8)) (h1 : name ∉ g1) (h2 : name ∉ g2) (h3 : name ≠ nSet) (h4 : name ≠ nRename) (h5 : name ≠ nSmove) (h6 : name ∉ g3) (h7 : name ≠ nMset) : keysL name args = [] := by
  unfold keysL
  rw [if_neg h1, if_neg h2, if_neg h3, if_neg h4, if_neg h5, if_neg h6, if_neg h7]
/-- How many words a name's keys ask for. -/
def askL (name : List UInt8) : Nat := if name = nRename ∨ name = nSmove then 3 else if name ∈ g1 ∨ name ∈ g2 ∨ name = nSet then 2 else 0
theorem odds_step (l : List (List UInt8)) (k : Nat) (h : k < l.length) : odds (l.drop k) = ⟨l[k], false, true⟩ :: odds (l.drop (k + 2)) := by
  rw [List.drop_eq_getElem_cons h]
  rcases Nat.lt_or_ge (k + 1) l.length with h' | h'
  · rw [List.drop_eq_getElem_cons h', odds]
  · rw [List.drop_eq_nil_of_le h', List.drop_eq_nil_of_le (by omega), odds, odds]

end Go.Proofs.Ytonoelpmmjnpeaa.UseT
