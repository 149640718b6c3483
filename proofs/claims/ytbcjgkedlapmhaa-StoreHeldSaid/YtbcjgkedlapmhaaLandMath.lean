/-
  What the landed code of layer 9 asks of its comparisons, against what the document asks: pure.
-/
import Derived.Test.YtbcjgkedlapmhaaValMath
import Derived.Lib.Bytealg
import Derived.Lib.Small
import Derived.Sort.Walk0
namespace Go.Proofs.Ytbcjgkedlapmhaa.ValM
open BOrd ValT
open Go.Op (bytesLess)
set_option linter.unusedVariables false
set_option maxRecDepth 100000

theorem cmp_ways : ∀ x y : List UInt8, (Lib.compareBytes x y = -1 ∧ bytesLess x y = true) ∨ (Lib.compareBytes x y = 0 ∧ x = y) ∨ (Lib.compareBytes x y = 1 ∧ bytesLess y x = true)
  | [], [] => Or.inr (Or.inl ⟨rfl, rfl⟩)
  | [], _ :: _ => Or.inl ⟨rfl, by simp [bytesLess]⟩
  | _ :: _, [] => Or.inr (Or.inr ⟨rfl, by simp [bytesLess]⟩)
  | a :: x, b :: y => by
    rw [less_cons, less_cons]
    unfold Lib.compareBytes
    by_cases h1 : a < b
    · rw [if_pos h1]
      exact Or.inl ⟨rfl, Or.inl h1⟩
    · rw [if_neg h1]
      by_cases h2 : b < a
      · rw [if_pos h2]
        exact Or.inr (Or.inr ⟨rfl, Or.inl h2⟩)
      · rw [if_neg h2]
        have e : a = b := UInt8.le_antisymm (UInt8.not_lt.1 h2) (UInt8.not_lt.1 h1)
        subst e
        rcases cmp_ways x y with ⟨h3, h4⟩ | ⟨h3, rfl⟩ | ⟨h3, h4⟩
        · exact Or.inl ⟨h3, Or.inr ⟨rfl, h4⟩⟩
        · exact Or.inr (Or.inl ⟨h3, rfl⟩)
        · exact Or.inr (Or.inr ⟨h3, Or.inr ⟨rfl, h4⟩⟩)
theorem cmp_neg (x y : List UInt8) : Lib.compareBytes x y < 0 ↔ bytesLess x y = true := by
  rcases cmp_ways x y with ⟨h1, h2⟩ | ⟨h1, rfl⟩ | ⟨h1, h2⟩
  · rw [h1, h2]; decide
  · rw [h1, less_irrefl]; decide
  · rw [h1, less_asymm h2]; decide
theorem cmp_nought (x y : List UInt8) : Lib.compareBytes x y = 0 ↔ x = y := by
  rcases cmp_ways x y with ⟨h1, h2⟩ | ⟨h1, rfl⟩ | ⟨h1, h2⟩
  · rw [h1]
    exact ⟨fun h => absurd h (by decide), fun h => absurd h (less_ne h2)⟩
  · simp [h1]
  · rw [h1]
    exact ⟨fun h => absurd h (by decide), fun h => absurd h.symm (less_ne h2)⟩
theorem cmp_bound (x y : List UInt8) : -1 ≤ Lib.compareBytes x y ∧ Lib.compareBytes x y ≤ 1 := by
  rcases cmp_ways x y with ⟨h1, h2⟩ | ⟨h1, rfl⟩ | ⟨h1, h2⟩ <;> (rw [h1]; decide)

/-- How the landed code compares two pairs, two marks. -/
def cmpS (x y : List UInt8) : Int := Lib.compareBytes x y
def cmpP (x y : Pr) : Int := Lib.compareBytes x.name y.name
def cmpM (x y : Mk) : Int := if Lib.compareInt x.n y.n = 0 then Lib.compareBytes x.name y.name else Lib.compareInt x.n y.n
theorem cmpM_neg (x y : Mk) : cmpM x y < 0 ↔ x.n < y.n ∨ (x.n = y.n ∧ bytesLess x.name y.name = true) := by
  unfold cmpM Lib.compareInt
  rw [← cmp_neg]
  split <;> rename_i h <;> (repeat' split at h) <;> (repeat' split) <;> omega
theorem cmpM_bound (x y : Mk) : -1 ≤ cmpM x y ∧ cmpM x y ≤ 1 := by
  have := cmp_bound x.name y.name
  unfold cmpM Lib.compareInt
  split <;> (repeat' split) <;> omega

/-- A row in which each is less than the next one. -/
def chain {α : Type} (f : α → α → Int) (L : List α) : Prop := ∀ i (h : i + 1 < L.length), f L[i] L[i + 1] < 0
noncomputable def chainB {α : Type} (f : α → α → Int) (L : List α) : Bool := @decide (chain f L) (Classical.propDecidable _)
theorem chainB_true {α : Type} {f : α → α → Int} {L : List α} (h : chain f L) : chainB f L = true := @decide_eq_true _ (Classical.propDecidable _) h
theorem chainB_false {α : Type} {f : α → α → Int} {L : List α} (h : ¬ chain f L) : chainB f L = false := @decide_eq_false _ (Classical.propDecidable _) h
theorem chainB_iff {α : Type} {f : α → α → Int} {L : List α} : chainB f L = true ↔ chain f L := @decide_eq_true_iff _ (Classical.propDecidable _)
theorem chain_pair {α : Type} {f : α → α → Int} {L : List α} (ht : ∀ x y z, f x y < 0 → f y z < 0 → f x z < 0) (h : chain f L) : L.Pairwise fun x y => f x y < 0 := by
  refine List.pairwise_iff_getElem.2 fun i j hi hj hij => ?_
  obtain ⟨d, rfl⟩ : ∃ d, j = i + 1 + d := ⟨j - i - 1, by omega⟩
  induction d with
  | zero => exact h i hj
  | succ d ih => exact ht _ _ _ (ih (by omega) (by omega)) (h (i + 1 + d) (by omega))
theorem chain_of {α : Type} {f : α → α → Int} {L : List α} (h : L.Pairwise fun x y => f x y < 0) : chain f L := fun i hi => List.pairwise_iff_getElem.1 h i (i + 1) (by omega) hi (by omega)
theorem chain_S (L : List (List UInt8)) : chainB cmpS L = decide (rises L) := by
  have h : chain cmpS L ↔ rises L := by
    unfold rises
    constructor
    · intro h
      exact (chain_pair (f := cmpS) (fun x y z h1 h2 => (cmp_neg x z).2 (less_trans _ _ _ ((cmp_neg _ _).1 h1) ((cmp_neg _ _).1 h2))) h).imp fun h => (cmp_neg _ _).1 h
    · intro h
      exact chain_of (h.imp fun h => (cmp_neg _ _).2 h)
  rw [Bool.eq_iff_iff, decide_eq_true_iff]
  exact chainB_iff.trans h
theorem chain_P (L : List Pr) : chainB cmpP L = decide (rises (names L)) := by
  have h : chain cmpP L ↔ rises (names L) := by
    unfold rises names
    rw [List.pairwise_map]
    constructor
    · intro h
      exact (chain_pair (f := cmpP) (fun x y z h1 h2 => (cmp_neg x.name z.name).2 (less_trans _ _ _ ((cmp_neg _ _).1 h1) ((cmp_neg _ _).1 h2))) h).imp fun h => (cmp_neg _ _).1 h
    · intro h
      exact chain_of (h.imp fun h => (cmp_neg _ _).2 h)
  rw [Bool.eq_iff_iff, decide_eq_true_iff]
  exact chainB_iff.trans h

/-- A row of texts, put in order. -/
def sortedT (L : List (List UInt8)) : List (List UInt8) := L.mergeSort fun x y => decide (x ≤ y)
theorem sorted_len (L : List (List UInt8)) : (sortedT L).length = L.length := (List.mergeSort_perm L _).length_eq
theorem le_less (x y : List UInt8) : (x ≤ y) ↔ bytesLess y x = false := by
  rw [bytesLess_eq, decide_eq_false_iff_not]
  exact Iff.rfl
theorem chain_sorted (L : List (List UInt8)) : chain cmpS (sortedT L) ↔ L.Nodup := by
  have hp : (sortedT L).Perm L := List.mergeSort_perm L _
  constructor
  · intro h
    refine hp.nodup_iff.1 ?_
    exact (chain_pair (f := cmpS) (fun x y z h1 h2 => (cmp_neg _ _).2 (less_trans _ _ _ ((cmp_neg _ _).1 h1) ((cmp_neg _ _).1 h2))) h).imp fun h => less_ne ((cmp_neg _ _).1 h)
  · intro h
    have hs : (sortedT L).Pairwise fun x y => decide (x ≤ y) = true := by
      refine List.pairwise_mergeSort (fun x y z h1 h2 => ?_) (fun x y => ?_) L
      · rw [decide_eq_true_iff, le_less] at h1 h2 ⊢
        rcases (geq_iff _ _).1 h1 with rfl | h1
        · exact h2
        · rcases (geq_iff _ _).1 h2 with rfl | h2
          · exact less_asymm h1
          · exact less_asymm (less_trans _ _ _ h1 h2)
      · rw [Bool.or_eq_true, decide_eq_true_iff, decide_eq_true_iff, le_less, le_less]
        rcases less_total x y with h | rfl | h
        · exact Or.inl (less_asymm h)
        · exact Or.inl (less_irrefl _)
        · exact Or.inr (less_asymm h)
    refine chain_of ?_
    refine (hs.and (hp.nodup_iff.2 h)).imp fun ⟨h1, h2⟩ => (cmp_neg _ _).2 ?_
    rw [decide_eq_true_iff, le_less] at h1
    rcases (geq_iff _ _).1 h1 with rfl | h1
    · exact absurd rfl h2
    · exact h1
def mnames (L : List Mk) : List (List UInt8) := L.map (·.name)
theorem chain_M (L : List Mk) : (chainB cmpM L && chainB cmpS (sortedT (mnames L))) = decide (marks L) := by
  have h : (chain cmpM L ∧ chain cmpS (sortedT (mnames L))) ↔ marks L := by
    rw [chain_sorted]
    unfold mnames marks List.Nodup
    rw [List.pairwise_map]
    constructor
    · rintro ⟨h1, h2⟩
      have h3 := chain_pair (f := cmpM) (fun x y z h1 h2 => by
        rw [cmpM_neg] at h1 h2 ⊢
        rcases h1 with h1 | ⟨h1, h3⟩
        · rcases h2 with h2 | ⟨h2, h4⟩
          · exact Or.inl (by omega)
          · exact Or.inl (by omega)
        · rcases h2 with h2 | ⟨h2, h4⟩
          · exact Or.inl (by omega)
          · exact Or.inr ⟨by omega, less_trans _ _ _ h3 h4⟩) h1
      refine (h3.and h2).imp fun {x y} h => ?_
      obtain ⟨h4, h5⟩ := h
      rw [cmpM_neg] at h4
      refine ⟨h5, ?_, ?_⟩
      · rcases h4 with h4 | ⟨h4, -⟩ <;> omega
      · rintro ⟨h6, h7⟩
        rcases h4 with h4 | ⟨-, h4⟩
        · omega
        · rw [less_asymm h4] at h7
          cases h7
    · intro h
      refine ⟨chain_of (h.imp fun {x y} h => ?_), h.imp fun h => h.1⟩
      obtain ⟨h1, h2, h3⟩ := h
      rw [cmpM_neg]
      rcases Int.lt_trichotomy x.n y.n with h4 | h4 | h4
      · exact Or.inl h4
      · refine Or.inr ⟨h4, ?_⟩
        rcases less_total x.name y.name with h5 | h5 | h5
        · exact h5
        · exact absurd h5 h1
        · exact absurd ⟨h4, h5⟩ h3
      · exact absurd h4 h2
  rw [Bool.eq_iff_iff, decide_eq_true_iff, Bool.and_eq_true]
  exact (and_congr chainB_iff chainB_iff).trans h

end Go.Proofs.Ytbcjgkedlapmhaa.ValM
