/-
  The words that FrameLines puts on a line, and how the line is read.
-/
import Derived.Test.YtadffjmpkeaikaaDoorFrameRead0
import Derived.Test.YtadffjmpkeaikaaDoorFrameTold
namespace Go.Proofs.YtadffjmpkeaikaaDoor.FrameL
open Go.RowKit Kit BytesIn ReplyMath ReplyT FrameMath FrameT
set_option linter.unusedVariables false
set_option maxRecDepth 100000

/-- No blank, no line's end. -/
def okB (c : UInt8) : Bool := c != 32 && c != 13 && c != 10
def plainL (s : List UInt8) : List UInt8 := (s.filter okB).take 15
def plainK (s : List UInt8) (k : Nat) : List UInt8 := (s.take k).filter okB
theorem plainK_yes (s : List UInt8) (k : Nat) (h : k < s.length) (hc : okB s[k] = true) : plainK s (k + 1) = plainK s k ++ [s[k]] := by
  unfold plainK
  rw [List.take_succ_eq_append_getElem h, List.filter_append]
  simp [List.filter, hc]
theorem plainK_no (s : List UInt8) (k : Nat) (h : k < s.length) (hc : okB s[k] = false) : plainK s (k + 1) = plainK s k := by
  unfold plainK
  rw [List.take_succ_eq_append_getElem h, List.filter_append]
  simp [List.filter, hc]
theorem plainK_end (s : List UInt8) (k : Nat) (hl : (plainK s k).length ≤ 15) (h : s.length ≤ k ∨ 15 ≤ (plainK s k).length) : plainK s k = plainL s := by
  unfold plainL
  have e : s.filter okB = plainK s k ++ (s.drop k).filter okB := by
    unfold plainK
    rw [← List.filter_append, List.take_append_drop]
  rcases h with h | h
  · have e2 : plainK s k = s.filter okB := by unfold plainK; rw [List.take_of_length_le h]
    rw [← e2, List.take_of_length_le hl]
  · rw [e, List.take_append_of_le_length h, List.take_of_length_le hl]
theorem plainL_len (s : List UInt8) : (plainL s).length ≤ 15 := by unfold plainL; rw [List.length_take]; omega
theorem plainL_ok (s : List UInt8) : ∀ c ∈ plainL s, c ≠ 32 ∧ c ≠ 13 ∧ c ≠ 10 := fun c hc => by
  have h := (List.mem_filter.1 (List.mem_of_mem_take hc)).2
  simpa [okB, and_assoc] using h

/-- The words that are taken of so many texts. -/
def pick (l : List (List UInt8)) : Nat → List (List UInt8)
  | 0 => []
  | k + 1 => if plainL (l.getD k []) = [] ∨ (pick l k = [] ∧ (plainL (l.getD k [])).head? = some 42) then pick l k else pick l k ++ [plainL (l.getD k [])]
theorem pick_out (l : List (List UInt8)) (k : Nat) (s : List UInt8) (hs : s = plainL (l.getD k [])) (h : s = [] ∨ (pick l k = [] ∧ s.head? = some 42)) : pick l (k + 1) = pick l k := by
  rw [pick, ← hs, if_pos h]
theorem pick_in (l : List (List UInt8)) (k : Nat) (s : List UInt8) (hs : s = plainL (l.getD k [])) (h1 : s ≠ []) (h2 : ¬ (pick l k = [] ∧ s.head? = some 42)) : pick l (k + 1) = pick l k ++ [s] := by
  rw [pick, ← hs, if_neg (by rintro (h | h); exact h1 h; exact h2 h)]
theorem pick_len (l : List (List UInt8)) : ∀ k, (pick l k).length ≤ k
  | 0 => by simp [pick]
  | k + 1 => by
    have := pick_len l k
    rw [pick]
    split
    · omega
    · simp; omega
theorem pick_ok (l : List (List UInt8)) : ∀ k, ∀ s ∈ pick l k, s ≠ [] ∧ s.length ≤ 15 ∧ ∀ c ∈ s, c ≠ 32 ∧ c ≠ 13 ∧ c ≠ 10
  | 0 => by simp [pick]
  | k + 1 => by
    have ih := pick_ok l k
    rw [pick]
    split
    · exact ih
    · rename_i hn
      intro s hs
      rcases List.mem_append.1 hs with h | h
      · exact ih s h
      · simp at h
        subst h
        exact ⟨fun e => hn (Or.inl e), plainL_len _, plainL_ok _⟩
theorem pick_head (l : List (List UInt8)) : ∀ k, (pick l k).head?.bind List.head? ≠ some 42
  | 0 => by simp [pick]
  | k + 1 => by
    have ih := pick_head l k
    rw [pick]
    split
    · exact ih
    · rename_i hn
      cases hp : pick l k with
      | nil =>
        intro h
        exact hn (Or.inr ⟨hp, by simpa using h⟩)
      | cons a r => rw [hp] at ih; simpa using ih

/-- A line of such words. -/
structure LineOk (m : Nat) (w : List (List UInt8)) : Prop where
  many : w.length ≤ 32
  each : ∀ s ∈ w, s ≠ [] ∧ s.length ≤ 15 ∧ ∀ c ∈ s, c ≠ 32 ∧ c ≠ 13 ∧ c ≠ 10
  ahead : w.head?.bind List.head? ≠ some 42
  few : m ≤ 2
theorem LineOk.len {m : Nat} {w : List (List UInt8)} (h : LineOk m w) : (spread m w).length ≤ 576 := by
  have h1 := spread_len m w (fun s hs => (h.each s hs).2.1)
  have h2 := h.many
  have h3 := h.few
  have h4 : (16 + m) * w.length ≤ 18 * 32 := Nat.mul_le_mul (by omega) h2
  omega
theorem spread_mem {m : Nat} {w : List (List UInt8)} {c : UInt8} (h : c ∈ spread m w) : c = 32 ∨ ∃ s ∈ w, c ∈ s := by
  unfold spread at h
  obtain ⟨x, hx, hc⟩ := List.mem_flatten.1 h
  obtain ⟨s, hs, rfl⟩ := List.mem_map.1 hx
  rcases List.mem_append.1 hc with h' | h'
  · exact Or.inr ⟨s, hs, h'⟩
  · exact Or.inl (List.eq_of_mem_replicate h')
theorem LineOk.no10 {m : Nat} {w : List (List UInt8)} (h : LineOk m w) : ∀ c ∈ spread m w, c ≠ 10 ∧ c ≠ 13 := fun c hc => by
  rcases spread_mem hc with rfl | ⟨s, hs, h'⟩
  · decide
  · have := (h.each s hs).2.2 c h'
    exact ⟨this.2.2, this.2.1⟩
theorem LineOk.no42 {m : Nat} {w : List (List UInt8)} (h : LineOk m w) : (spread m w).head? ≠ some 42 := by
  obtain _ | ⟨s, w⟩ := w
  · simp [spread]
  · have h1 := (h.each s (by simp)).1
    have h2 := h.ahead
    obtain _ | ⟨c, s⟩ := s
    · exact absurd rfl h1
    · simpa [spread] using h2
theorem LineOk.words {m : Nat} {w : List (List UInt8)} (h : LineOk m w) : wordsL (spread m w) = w := wordsL_spread m w (fun s hs => ⟨(h.each s hs).1, fun c hc => ((h.each s hs).2.2 c hc).1⟩)
theorem LineOk.next {m : Nat} {w : List (List UInt8)} (h : LineOk m w) (both : Bool) (z : List UInt8) : nextL (spread m w ++ lineEnd both ++ z) = .is w ((spread m w).length + (lineEnd both).length) := by
  have h1 := next_line (spread m w) z both (fun c hc => (h.no10 c hc).1) h.no42 (fun e => by
    have := List.mem_of_getLast? e
    exact (h.no10 _ this).2 rfl) (by have := h.len; omega) (by rw [h.words]; exact h.many)
  rwa [h.words] at h1
theorem LineOk.next0 {m : Nat} {w : List (List UInt8)} (h : LineOk m w) (both : Bool) : nextL (spread m w ++ lineEnd both) = .is w ((spread m w).length + (lineEnd both).length) := by
  have := h.next both []
  rwa [List.append_nil] at this
theorem lineEnd_len (both : Bool) : (lineEnd both).length ≤ 2 := by cases both <;> decide
/-- What the reader is fed: an empty line, one of blanks, and the line. -/
def fedL (m : Nat) (w : List (List UInt8)) (both : Bool) : List UInt8 := lineEnd both ++ [32, 32] ++ lineEnd both ++ spread m w ++ lineEnd both
theorem LineOk.fed {m : Nat} {w : List (List UInt8)} (h : LineOk m w) (both : Bool) : ∃ o : Option (List (List UInt8)), FirstB false (fedL m w both) o [] false ∧ o.getD [] = w ∧ o.isSome = decide (0 < w.length) := by
  have e1 : fedL m w both = [] ++ lineEnd both ++ ([32, 32] ++ lineEnd both ++ (spread m w ++ lineEnd both)) := by simp [fedL]
  have n1 := next_line [] ([32, 32] ++ lineEnd both ++ (spread m w ++ lineEnd both)) both (by simp) (by simp) (by simp) (by decide) (by decide)
  have n2 := next_line [32, 32] (spread m w ++ lineEnd both) both (by simp) (by simp) (by simp) (by decide) (by decide)
  have n3 := h.next0 both
  have w1 : wordsL ([] : List UInt8) = [] := by decide
  have w2 : wordsL ([32, 32] : List UInt8) = [] := by decide
  rw [w1] at n1
  rw [w2] at n2
  rw [← e1] at n1
  have d1 : (fedL m w both).drop (([] : List UInt8).length + (lineEnd both).length) = [32, 32] ++ lineEnd both ++ (spread m w ++ lineEnd both) := by
    rw [e1, ← List.length_append, List.drop_left]
  have d2 : ([32, 32] ++ lineEnd both ++ (spread m w ++ lineEnd both)).drop (([32, 32] : List UInt8).length + (lineEnd both).length) = spread m w ++ lineEnd both := by
    rw [← List.length_append, List.drop_left]
  have d3 : (spread m w ++ lineEnd both).drop ((spread m w).length + (lineEnd both).length) = [] := by
    rw [← List.length_append, List.drop_length]
  have hskip : ∀ o, First (spread m w ++ lineEnd both) o [] false → FirstB false (fedL m w both) o [] false := fun o ho => by
    unfold FirstB
    rw [if_neg (by decide)]
    refine First.skip n1 ?_
    rw [d1]
    refine First.skip n2 ?_
    rw [d2]
    exact ho
  obtain _ | ⟨a, r⟩ := w
  · refine ⟨none, hskip _ ?_, rfl, rfl⟩
    refine First.skip n3 ?_
    rw [d3]
    exact First.part rfl
  · refine ⟨some (a :: r), hskip _ ?_, rfl, by simp⟩
    have := First.some n3
    rwa [d3] at this
theorem lineOk_of (l : List (List UInt8)) (k m : Nat) (hk : k ≤ 32) (hm : m ≤ 2) : LineOk m (pick l k) := ⟨Nat.le_trans (pick_len l k) hk, pick_ok l k, pick_head l k, hm⟩
theorem pick_all (l : List (List UInt8)) : ∀ j k, l.length ≤ k → pick l (k + j) = pick l k
  | 0, _, _ => rfl
  | j + 1, k, h => by
    rw [← Nat.add_assoc, pick_out l (k + j) [] (by
      have e : l.getD (k + j) [] = [] := by simp [List.getD, List.getElem?_eq_none (show l.length ≤ k + j by omega)]
      rw [e]
      rfl) (Or.inl rfl)]
    exact pick_all l j k h
theorem fedL_len {m : Nat} {w : List (List UInt8)} (h : LineOk m w) (both : Bool) : (fedL m w both).length ≤ 600 := by
  have h1 := h.len
  have h2 := lineEnd_len both
  simp only [fedL, List.length_append, List.length_cons, List.length_nil]
  omega

end Go.Proofs.YtadffjmpkeaikaaDoor.FrameL
