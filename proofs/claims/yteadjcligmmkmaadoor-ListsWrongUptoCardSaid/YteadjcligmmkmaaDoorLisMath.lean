/-
  What is done with a list, as the document's layer 12 says it: pure.
-/
import Derived.Test.YteadjcligmmkmaaDoorDoMath
import Derived.Test.YteadjcligmmkmaaDoorNumPart
namespace Go.Proofs.YteadjcligmmkmaaDoor.LisT
open ValT ReplyMath Low DoT NumL NumW
open Go.Lib (itoa)
set_option linter.unusedVariables false
set_option maxRecDepth 100000

def nLpush : List UInt8 := [108, 112, 117, 115, 104]
def nRpush : List UInt8 := [114, 112, 117, 115, 104]
def nLpop : List UInt8 := [108, 112, 111, 112]
def nRpop : List UInt8 := [114, 112, 111, 112]
def nLlen : List UInt8 := [108, 108, 101, 110]
def nLrange : List UInt8 := [108, 114, 97, 110, 103, 101]
/-- Texts as a list: none of them is none. -/
def listV (L : List (List UInt8)) : V := if L = [] then v0 else ⟨2, [], L, [], []⟩
/-- The part of a row that num.Part tells. -/
def partL (L : List (List UInt8)) (a b : List UInt8) : List (List UInt8) := (L.take (partV (L.length : Int) a b).2.1.toNat).drop (partV (L.length : Int) a b).1.toNat
def partB (L : List (List UInt8)) (a b : List UInt8) : Bool := (partV (L.length : Int) a b).2.2
def popR (L : List (List UInt8)) (j : Nat) : List UInt8 := if L = [] then null else bulk (wd L j)
/-- What the k-th command makes of a row, with the words from the third on. -/
def rowD (k : Nat) (L A : List (List UInt8)) : List (List UInt8) × List UInt8 :=
  match k with
  | 0 => (A.reverse ++ L, int ((A.length + L.length : Nat) : Int))
  | 1 => (L ++ A, int ((L.length + A.length : Nat) : Int))
  | 2 => (L.drop 1, popR L 0)
  | 3 => (L.take (L.length - 1), popR L (L.length - 1))
  | 4 => (L, int (L.length : Int))
  | _ => (L, if partB L (wd A 0) (wd A 1) = true then texts (partL L (wd A 0) (wd A 1)) else eInt)
/-- How long rows and texts may be. -/
def Tame (k : Nat) (L A : List (List UInt8)) : Prop :=
  match k with
  | 0 => A.length + L.length ≤ 1048576
  | 1 => A.length + L.length ≤ 1048576
  | 2 => ∀ s ∈ L, s.length ≤ 1048576
  | 3 => ∀ s ∈ L, s.length ≤ 1048576
  | 4 => True
  | _ => 2 ≤ A.length ∧ L.length ≤ 4096 ∧ L.flatten.length ≤ 1048576 ∧ (wd A 0).length ≤ 281474976710656 ∧ (wd A 1).length ≤ 281474976710656
/-- What a request of the k-th command comes to. -/
def doD (k : Nat) (d : V) (L : List (List UInt8)) : V × List UInt8 := if d.kind = 0 ∨ d.kind = 2 then (listV (rowD k d.l (L.drop 2)).1, (rowD k d.l (L.drop 2)).2) else (d, eWrong)
def nameD (k : Nat) : List UInt8 :=
  match k with
  | 0 => nLpush
  | 1 => nRpush
  | 2 => nLpop
  | 3 => nRpop
  | 4 => nLlen
  | _ => nLrange
/-- How many words it must have. -/
def needD (k : Nat) : Nat :=
  match k with
  | 0 => 3
  | 1 => 3
  | 2 => 2
  | 3 => 2
  | 4 => 2
  | _ => 4
theorem doD_wrong {i : Nat} {d : V} {L : List (List UInt8)} (h : d.kind ≠ 0 ∧ d.kind ≠ 2) : doD i d L = (d, eWrong) := if_neg (by omega)
theorem doD_right {i : Nat} {d : V} {L : List (List UInt8)} (h : d.kind = 0 ∨ d.kind = 2) : doD i d L = (listV (rowD i d.l (L.drop 2)).1, (rowD i d.l (L.drop 2)).2) := if_pos h
theorem listV_nil : listV [] = v0 := rfl
theorem listV_some {L : List (List UInt8)} (h : 0 < L.length) : listV L = ⟨2, [], L, [], []⟩ := if_neg (by intro e; rw [e] at h; simp at h)
theorem listV_l (L : List (List UInt8)) : (listV L).l = L := by
  unfold listV
  split
  · rename_i h
    rw [h]
    rfl
  · rfl
theorem listV_kind (L : List (List UInt8)) : (listV L).kind = 0 ∨ (listV L).kind = 2 := by
  unfold listV
  split
  · exact Or.inl rfl
  · exact Or.inr rfl
theorem listV_s (L : List (List UInt8)) : (listV L).s = [] := by
  unfold listV
  split <;> rfl
theorem listV_rest (L : List (List UInt8)) : (listV L).h = [] ∧ (listV L).z = [] := by
  unfold listV
  split <;> exact ⟨rfl, rfl⟩
/-- A row half turned: the first i and the last i have changed places. -/
def Turned (A R : List (List UInt8)) (i : Nat) : Prop := R.length = A.length ∧ ∀ k, k < A.length → R[k]? = if k < i ∨ A.length - 1 - k < i then A[A.length - 1 - k]? else A[k]?
theorem turned_zero (A : List (List UInt8)) : Turned A A 0 := ⟨rfl, fun k hk => by simp⟩
theorem turned_end {A R : List (List UInt8)} {i : Nat} (h : Turned A R i) (hi : A.length ≤ 2 * i + 1) : R = A.reverse := by
  refine List.ext_getElem? fun k => ?_
  rcases Nat.lt_or_ge k A.length with hk | hk
  · rw [h.2 k hk, List.getElem?_reverse hk]
    split
    · rfl
    · rw [show A.length - 1 - k = k by omega]
  · rw [List.getElem?_eq_none (by rw [h.1]; exact hk), List.getElem?_eq_none (by simpa using hk)]
theorem turned_next {A R : List (List UInt8)} {i j : Nat} (h : Turned A R i) (hj : j = A.length - 1 - i) (hij : i < j) (a b : List UInt8) (ha : R[i]? = some a) (hb : R[j]? = some b) : Turned A ((R.set i b).set j a) (i + 1) := by
  have hl := h.1
  have hin : i < A.length := by omega
  have hjn : j < A.length := by omega
  have e1 := h.2 i hin
  rw [if_neg (by omega), ha] at e1
  have e2 := h.2 j hjn
  rw [if_neg (by omega), hb] at e2
  refine ⟨by simp [hl], fun k hk => ?_⟩
  rw [List.getElem?_set, List.getElem?_set]
  by_cases h1 : j = k
  · subst h1
    rw [if_pos rfl, if_pos (by simp; omega), if_pos (Or.inr (by omega)), show A.length - 1 - j = i by omega, ← e1]
  · rw [if_neg h1]
    by_cases h2 : i = k
    · subst h2
      rw [if_pos rfl, if_pos (by omega), if_pos (Or.inl (by omega)), ← hj, ← e2]
    · rw [if_neg h2, h.2 k hk]
      by_cases h3 : k < i ∨ A.length - 1 - k < i
      · rw [if_pos h3, if_pos (by omega)]
      · rw [if_neg h3, if_neg (by omega)]

theorem flat_part (L : List (List UInt8)) (x y : Nat) : ((L.take y).drop x).flatten.length ≤ L.flatten.length := by
  have h1 : (L.take y).flatten.length + (L.drop y).flatten.length = L.flatten.length := by rw [← List.length_append, ← List.flatten_append, List.take_append_drop]
  have h2 : ((L.take y).take x).flatten.length + ((L.take y).drop x).flatten.length = (L.take y).flatten.length := by rw [← List.length_append, ← List.flatten_append, List.take_append_drop]
  omega
theorem partV_in (n : Nat) (a b : List UInt8) : ∃ x y : Nat, (partV (n : Int) a b).1 = (x : Int) ∧ (partV (n : Int) a b).2.1 = (y : Int) ∧ x ≤ y ∧ y ≤ n := by
  have hz : ∃ x y : Nat, (0 : Int) = (x : Int) ∧ (0 : Int) = (y : Int) ∧ x ≤ y ∧ y ≤ n := ⟨0, 0, rfl, rfl, Nat.le_refl _, Nat.zero_le _⟩
  unfold partV partR
  split
  · split
    · exact hz
    · obtain ⟨h1, h2, h3⟩ := boundsI_lt (n : Int) (pV a) (pV b)
      exact ⟨(boundsI (n : Int) (pV a) (pV b)).1.toNat, (boundsI (n : Int) (pV a) (pV b)).2.toNat, by show (boundsI (n : Int) (pV a) (pV b)).1 = _; omega, by show (boundsI (n : Int) (pV a) (pV b)).2 = _; omega, by omega, by omega⟩
  · exact hz

end Go.Proofs.YteadjcligmmkmaaDoor.LisT
