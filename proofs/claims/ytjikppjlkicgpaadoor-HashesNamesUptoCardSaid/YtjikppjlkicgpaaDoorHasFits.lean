/-
  What is made to fit: lengths; hashes.
-/
import Derived.Test.YtjikppjlkicgpaaDoorRefVals
import Derived.Test.YtjikppjlkicgpaaDoorHasPure
namespace Go.Proofs.YtjikppjlkicgpaaDoor.ValT
open BOrd RefV
open Go.Op (bytesLess)
set_option linter.unusedVariables false
set_option maxRecDepth 100000

theorem foldL_len : ∀ (l o : List (List UInt8)), rises o → (l.foldl putL o).length ≤ o.length + l.length
  | [], o, _ => by simp
  | x :: l, o, h => by
    have h1 := foldL_len l (putL o x) (putL_rises x h)
    have h2 := putL_len x h
    simp only [List.foldl_cons, List.length_cons]
    omega
theorem foldP_len : ∀ (l o : List Pr), rises (names o) → (l.foldl putP o).length ≤ o.length + l.length
  | [], o, _ => by simp
  | x :: l, o, h => by
    have h1 := foldP_len l (putP o x) (putP_inv x h)
    have h2 := putP_len x h
    simp only [List.foldl_cons, List.length_cons]
    omega
theorem foldM_len : ∀ (l o : List Mk), marks o → (l.foldl putM o).length ≤ o.length + l.length
  | [], o, _ => by simp
  | x :: l, o, h => by
    have h1 := foldM_len l (putM o x) (putM_marks x h).1
    have h2 := putM_len x h
    simp only [List.foldl_cons, List.length_cons]
    omega
theorem take8_len {α : Type} (l : List α) : (l.take 8).length ≤ 8 := by rw [List.length_take]; omega
theorem fitL_len (l : List (List UInt8)) : (fitL l).length ≤ 8 := by
  have h := foldL_len (l.take 8) [] List.Pairwise.nil
  have := take8_len l
  unfold fitL
  simp only [List.length_nil] at h
  omega
theorem fitH_len (l : List Pr) : (fitH l).length ≤ 8 := by
  have h := foldP_len (l.take 8) [] List.Pairwise.nil
  have := take8_len l
  unfold fitH
  simp only [List.length_nil] at h
  omega
theorem fitZ_len (l : List Mk) : (fitZ l).length ≤ 8 := by
  have h := foldM_len (l.take 8) [] List.Pairwise.nil
  have := take8_len l
  unfold fitZ
  simp only [List.length_nil] at h
  omega
theorem fit_len8 (d : V) : (fitV d).l.length ≤ 8 ∧ (fitV d).h.length ≤ 8 ∧ (fitV d).z.length ≤ 8 := by
  unfold fitV
  have h1 := take8_len d.l
  have h2 := fitL_len d.l
  have h3 := fitH_len d.h
  have h4 := fitZ_len d.z
  (repeat' split) <;> simp [v0, h2, h3, h4] <;> omega
theorem fit_len (d : V) : (fitV d).l.length ≤ 1048576 ∧ (fitV d).h.length ≤ 1048576 ∧ (fitV d).z.length ≤ 1048576 := by
  have := fit_len8 d
  omega
theorem right_kind {d : V} (h : right d) : d.kind ≤ 5 := by
  rcases h with h | h | h | h | h | h <;> omega

end Go.Proofs.YtjikppjlkicgpaaDoor.ValT
namespace Go.Proofs.YtjikppjlkicgpaaDoor.HasL
open BOrd ValT DoT HasT RefV
open Go.Op (bytesLess)
set_option linter.unusedVariables false
set_option maxRecDepth 100000

theorem val_le {H : List Pr} {x : Pr} (h : x ∈ H) : x.val.length ≤ (allP H).flatten.length := by
  induction H with
  | nil => cases h
  | cons y H ih =>
    have e : (allP (y :: H)).flatten.length = y.name.length + y.val.length + (allP H).flatten.length := by simp [allP]; omega
    rcases List.mem_cons.1 h with rfl | h
    · omega
    · have := ih h
      omega
def ltP (H : List Pr) : Nat := (allP H).flatten.length
theorem lt_nil : ltP [] = 0 := rfl
theorem lt_cons (x : Pr) (H : List Pr) : ltP (x :: H) = x.name.length + x.val.length + ltP H := by unfold ltP; simp [allP]; omega
theorem lt_app (G H : List Pr) : ltP (G ++ H) = ltP G + ltP H := by unfold ltP; simp [allP]
theorem put_stays (s : Pr) : ∀ (l o : List Pr), (l.foldl (putPS s) (o, true)).2 = true
  | [], o => rfl
  | y :: l, o => by
    rw [List.foldl_cons]
    have : putPS s (o, true) y = ((putPS s (o, true) y).1, true) := by
      unfold putPS
      by_cases hy : y.name = s.name <;> simp [hy]
    rw [this]
    exact put_stays s l _
theorem putPS_letters (s x : Pr) (o : List Pr) (b : Bool) : ltP (putPS s (o, b) x).1 ≤ ltP o + (x.name.length + x.val.length) + (if b = true ∨ (putPS s (o, b) x).2 = false then 0 else s.name.length + s.val.length) ∧ (b = true → (putPS s (o, b) x).2 = true) := by
  cases b with
  | true =>
    unfold putPS
    by_cases h2 : x.name = s.name
    · simp [h2]
    · simp [h2, lt_app, lt_cons, lt_nil]
  | false =>
    unfold putPS
    by_cases h1 : bytesLess x.name s.name = false
    · by_cases h2 : x.name = s.name
      · simp [h2, lt_app, lt_cons, lt_nil, less_irrefl]
      · simp [h1, h2, lt_app, lt_cons, lt_nil]
        omega
    · by_cases h2 : x.name = s.name
      · exact absurd (by rw [h2]; exact less_irrefl _) h1
      · simp [h1, h2, lt_app, lt_cons, lt_nil]
theorem fold_letters (s : Pr) : ∀ (l o : List Pr) (b : Bool), ltP (l.foldl (putPS s) (o, b)).1 ≤ ltP o + ltP l + (if b = true ∨ (l.foldl (putPS s) (o, b)).2 = false then 0 else s.name.length + s.val.length)
  | [], o, b => by
    show ltP o ≤ _
    omega
  | x :: l, o, b => by
    rw [List.foldl_cons, lt_cons]
    obtain ⟨h1, h2⟩ := putPS_letters s x o b
    obtain ⟨o', b', h⟩ : ∃ o' b', putPS s (o, b) x = (o', b') := ⟨_, _, rfl⟩
    rw [h] at h1 h2 ⊢
    have h3 := fold_letters s l o' b'
    cases b with
    | true =>
      have hb : b' = true := h2 rfl
      subst hb
      simp at h1 h3 ⊢
      omega
    | false =>
      cases b' with
      | true =>
        rw [put_stays]
        simp at h1 h3 ⊢
        omega
      | false =>
        simp at h1
        split at h3 <;> split <;> first | omega | simp_all
theorem put_letters (l : List Pr) (s : Pr) : ltP (putP l s) ≤ ltP l + (s.name.length + s.val.length) := by
  have h1 := fold_letters s l [] false
  rw [lt_nil] at h1
  unfold putP putPE
  split
  · split at h1 <;> omega
  · rename_i h
    rw [lt_app, lt_cons, lt_nil]
    rw [if_pos (Or.inr (by simpa using h))] at h1
    omega
theorem foldP_letters : ∀ (l o : List Pr), ltP (l.foldl putP o) ≤ ltP o + ltP l
  | [], o => by show ltP o ≤ _; omega
  | x :: l, o => by
    rw [List.foldl_cons, lt_cons]
    have h1 := foldP_letters l (putP o x)
    have h2 := put_letters o x
    omega
theorem fit_cases (d : V) : fitV d = v0 ∨ (fitV d = ⟨3, [], [], fitH d.h, []⟩ ∧ d.h ≠ []) ∨ ((fitV d).kind ≠ 0 ∧ (fitV d).kind ≠ 3) := by
  obtain ⟨x, hx⟩ : ∃ x, x = fitV d := ⟨_, rfl⟩
  rw [← hx]
  unfold fitV at hx
  (repeat' split at hx) <;> subst hx <;> first
    | exact Or.inl rfl
    | exact Or.inr (Or.inl ⟨rfl, by assumption⟩)
    | exact Or.inr (Or.inr ⟨by decide, by decide⟩)
    | exact Or.inr (Or.inr ⟨by simp, by simp⟩)
theorem fitH_facts (h : List Pr) (h0 : h ≠ []) : Up (fitH h) ∧ fitH h ≠ [] ∧ (allP (fitH h)).flatten.length ≤ (allP h).flatten.length := by
  obtain ⟨h1, h2⟩ := foldP_rises (h.take 8) [] List.Pairwise.nil
  refine ⟨h1, h2 (Or.inl (by intro e; rw [List.take_eq_nil_iff] at e; rcases e with e | e; cases e; exact h0 e)), ?_⟩
  have h3 := foldP_letters (h.take 8) []
  have h4 : ltP (h.take 8) + ltP (h.drop 8) = ltP h := by rw [← lt_app, List.take_append_drop]
  rw [lt_nil] at h3
  show ltP ((h.take 8).foldl putP []) ≤ ltP h
  omega
/-- What is made to fit, of none or a hash, is pairs as a hash, names rising. -/
theorem fit_hash (d : V) (hf : (allP d.h).flatten.length ≤ 1048576) (hk : (fitV d).kind = 0 ∨ (fitV d).kind = 3) : fitV d = hashV (fitV d).h ∧ Up (fitV d).h ∧ (fitV d).h.length ≤ 8 ∧ (allP (fitV d).h).flatten.length ≤ 1048576 := by
  rcases fit_cases d with h | ⟨h, h0⟩ | h
  · rw [h]; exact ⟨rfl, up_nil, by decide, by decide⟩
  · obtain ⟨h1, h2, h3⟩ := fitH_facts d.h h0
    rw [h]
    exact ⟨(hashV_some (List.length_pos_iff.2 h2)).symm, h1, fitH_len d.h, Nat.le_trans h3 hf⟩
  · omega

/-- Pairs made to fit. -/
theorem fit_pairs (L : List Pr) (hf : (allP L).flatten.length ≤ 1048576) : ∃ H, fitV ⟨3, [], [], L, []⟩ = hashV H ∧ Up H ∧ H.length ≤ 8 ∧ (allP H).flatten.length ≤ 1048576 := by
  have h := fit_hash ⟨3, [], [], L, []⟩ hf (by
    by_cases h : L = []
    · subst h; exact Or.inl rfl
    · exact Or.inr (by
        obtain h1 | ⟨h1, -⟩ | h1 := fit_cases ⟨3, [], [], L, []⟩
        · exfalso
          have : fitV ⟨3, [], [], L, []⟩ = ⟨3, [], [], fitH L, []⟩ := by unfold fitV; simp [h]
          rw [this] at h1
          cases h1
        · rw [h1]
        · have : fitV ⟨3, [], [], L, []⟩ = ⟨3, [], [], fitH L, []⟩ := by unfold fitV; simp [h]
          rw [this]))
  exact ⟨_, h.1, h.2.1, h.2.2.1, h.2.2.2⟩

end Go.Proofs.YtjikppjlkicgpaaDoor.HasL
