/-
  What is made to fit: lengths.
-/
import Derived.Test.YtodpocciimbjbaaDoorRefVals
namespace Go.Proofs.YtodpocciimbjbaaDoor.ValT
open BOrd RefV
open Go.Op (bytesLess)
set_option linter.unusedVariables false
set_option maxRecDepth 100000

theorem foldL_len : ∀ (l o : List (List UInt8)), rises o → (l.foldl putL o).length ≤ o.length + l.length
  | [], o, _ => by simp
  | x :: l, o, h => by
    have h1 := foldL_len l (putL o x) (putL_rises x h)
    have h2 := putL_len x h
    simp only [List.foldl_cons, List.length_cons]
    omega
theorem foldP_len : ∀ (l o : List Pr), rises (names o) → (l.foldl putP o).length ≤ o.length + l.length
  | [], o, _ => by simp
  | x :: l, o, h => by
    have h1 := foldP_len l (putP o x) (putP_inv x h)
    have h2 := putP_len x h
    simp only [List.foldl_cons, List.length_cons]
    omega
theorem foldM_len : ∀ (l o : List Mk), marks o → (l.foldl putM o).length ≤ o.length + l.length
  | [], o, _ => by simp
  | x :: l, o, h => by
    have h1 := foldM_len l (putM o x) (putM_marks x h).1
    have h2 := putM_len x h
    simp only [List.foldl_cons, List.length_cons]
    omega
theorem take8_len {α : Type} (l : List α) : (l.take 8).length ≤ 8 := by rw [List.length_take]; omega
theorem fitL_len (l : List (List UInt8)) : (fitL l).length ≤ 8 := by
  have h := foldL_len (l.take 8) [] List.Pairwise.nil
  have := take8_len l
  unfold fitL
  simp only [List.length_nil] at h
  omega
theorem fitH_len (l : List Pr) : (fitH l).length ≤ 8 := by
  have h := foldP_len (l.take 8) [] List.Pairwise.nil
  have := take8_len l
  unfold fitH
  simp only [List.length_nil] at h
  omega
theorem fitZ_len (l : List Mk) : (fitZ l).length ≤ 8 := by
  have h := foldM_len (l.take 8) [] List.Pairwise.nil
  have := take8_len l
  unfold fitZ
  simp only [List.length_nil] at h
  omega
theorem fit_len8 (d : V) : (fitV d).l.length ≤ 8 ∧ (fitV d).h.length ≤ 8 ∧ (fitV d).z.length ≤ 8 := by
  unfold fitV
  have h1 := take8_len d.l
  have h2 := fitL_len d.l
  have h3 := fitH_len d.h
  have h4 := fitZ_len d.z
  (repeat' split) <;> simp [v0, h2, h3, h4] <;> omega
theorem fit_len (d : V) : (fitV d).l.length ≤ 1048576 ∧ (fitV d).h.length ≤ 1048576 ∧ (fitV d).z.length ≤ 1048576 := by
  have := fit_len8 d
  omega
theorem right_kind {d : V} (h : right d) : d.kind ≤ 5 := by
  rcases h with h | h | h | h | h | h <;> omega

end Go.Proofs.YtodpocciimbjbaaDoor.ValT
