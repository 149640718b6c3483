/-
  The first request with words of a reader's bytes, and what all of them are by it.
-/
import Derived.Test.YtadffjmpkeaikaaDoorFrameRd
namespace Go.Proofs.YtadffjmpkeaikaaDoor.FrameT
open Go.RowKit Kit BytesIn ReplyMath ReplyT FrameMath
set_option linter.unusedVariables false
set_option maxRecDepth 100000

/-- The first request with words, what is left, and whether that is none. -/
inductive First : List UInt8 → Option (List (List UInt8)) → List UInt8 → Bool → Prop
  | bad {l : List UInt8} (h : nextL l = .bad) : First l none l true
  | part {l : List UInt8} (h : nextL l = .part) : First l none l false
  | skip {l t : List UInt8} {k : Nat} {o : Option (List (List UInt8))} {b : Bool} (h : nextL l = .is [] k) (hs : First (l.drop k) o t b) : First l o t b
  | some {l : List UInt8} {w : List UInt8} {ws : List (List UInt8)} {k : Nat} (h : nextL l = .is (w :: ws) k) : First l (some (w :: ws)) (l.drop k) false
/-- The same of a reader that may have met none already. -/
def FirstB (bad : Bool) (l : List UInt8) (o : Option (List (List UInt8))) (t : List UInt8) (b : Bool) : Prop := if bad = true then o = none ∧ t = l ∧ b = true else First l o t b
def ReadsB (bad : Bool) (l : List UInt8) (R : List (List (List UInt8))) (t : List UInt8) (b : Bool) : Prop := if bad = true then R = [] ∧ t = l ∧ b = true else Reads l R t b
theorem First.len {l t : List UInt8} {o : Option (List (List UInt8))} {b : Bool} (h : First l o t b) : t.length ≤ l.length := by
  induction h with
  | bad h => exact Nat.le_refl _
  | part h => exact Nat.le_refl _
  | skip h hs ih => rw [List.length_drop] at ih; omega
  | some h => rw [List.length_drop]; omega
theorem FirstB.len {bad : Bool} {l t : List UInt8} {o : Option (List (List UInt8))} {b : Bool} (h : FirstB bad l o t b) : t.length ≤ l.length := by
  unfold FirstB at h
  split at h
  · rw [h.2.1]; exact Nat.le_refl _
  · exact h.len
theorem first_of {l t : List UInt8} {R : List (List (List UInt8))} {b : Bool} (h : Reads l R t b) : (R = [] ∧ First l none t b) ∨ ∃ r R' l', R = r :: R' ∧ First l (some r) l' false ∧ Reads l' R' t b := by
  induction h with
  | bad h => exact Or.inl ⟨rfl, First.bad h⟩
  | part h => exact Or.inl ⟨rfl, First.part h⟩
  | skip h hs ih =>
    rcases ih with ⟨h1, h2⟩ | ⟨r, R', l', h1, h2, h3⟩
    · exact Or.inl ⟨h1, First.skip h h2⟩
    · exact Or.inr ⟨r, R', l', h1, First.skip h h2, h3⟩
  | some h hs ih => exact Or.inr ⟨_, _, _, rfl, First.some h, hs⟩
theorem firstB_of {bad : Bool} {l t : List UInt8} {R : List (List (List UInt8))} {b : Bool} (h : ReadsB bad l R t b) : (R = [] ∧ FirstB bad l none t b) ∨ ∃ r R' l', R = r :: R' ∧ FirstB bad l (some r) l' false ∧ ReadsB false l' R' t b := by
  unfold ReadsB at h
  split at h
  · rename_i hb
    obtain ⟨h1, h2, h3⟩ := h
    refine Or.inl ⟨h1, ?_⟩
    unfold FirstB
    rw [if_pos hb]
    exact ⟨rfl, h2, h3⟩
  · rename_i hb
    rcases first_of h with ⟨h1, h2⟩ | ⟨r, R', l', h1, h2, h3⟩
    · refine Or.inl ⟨h1, ?_⟩
      unfold FirstB
      rw [if_neg hb]
      exact h2
    · refine Or.inr ⟨r, R', l', h1, ?_, ?_⟩
      · unfold FirstB
        rw [if_neg hb]
        exact h2
      · unfold ReadsB
        rw [if_neg (by decide)]
        exact h3

end Go.Proofs.YtadffjmpkeaikaaDoor.FrameT
