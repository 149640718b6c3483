/-
  Sets: rows of texts that rise: what is put in and taken out, what each command makes of them, as the document's layer 14 says it; where a text stands: pure.
-/
import Derived.Test.YtmdkegamfjkfbaaDoorDoMath
namespace Go.Proofs.YtmdkegamfjkfbaaDoor.SetT
open BOrd ValT ReplyMath Low DoT
open Go.Op (bytesLess)
set_option linter.unusedVariables false
set_option maxRecDepth 100000

/-- A text put in, where it belongs. -/
def insS : List (List UInt8) → List UInt8 → List (List UInt8)
  | [], s => [s]
  | x :: l, s => if x = s then x :: l else if bytesLess s x = true then s :: x :: l else x :: insS l s
def addS (l : List (List UInt8)) (ws : List (List UInt8)) : List (List UInt8) := ws.foldl insS l
def remS (l : List (List UInt8)) (ws : List (List UInt8)) : List (List UInt8) := l.filter fun x => decide (x ∉ ws)
theorem rises_cons {x : List UInt8} {l : List (List UInt8)} : rises (x :: l) ↔ (∀ y ∈ l, bytesLess x y = true) ∧ rises l := by
  unfold rises
  rw [List.pairwise_cons]
theorem rises_nil : rises [] := List.Pairwise.nil
theorem ins_mem (s y : List UInt8) : ∀ l : List (List UInt8), y ∈ insS l s ↔ y = s ∨ y ∈ l
  | [] => by simp [insS]
  | x :: l => by
    rw [insS]
    split
    · rename_i e
      subst e
      simp
    · split
      · simp
      · rw [List.mem_cons, ins_mem s y l, List.mem_cons]
        constructor
        · rintro (h | h | h)
          · exact Or.inr (Or.inl h)
          · exact Or.inl h
          · exact Or.inr (Or.inr h)
        · rintro (h | h | h)
          · exact Or.inr (Or.inl h)
          · exact Or.inl h
          · exact Or.inr (Or.inr h)
theorem ins_up (s : List UInt8) : ∀ {l : List (List UInt8)}, rises l → rises (insS l s)
  | [], _ => rises_cons.2 ⟨by simp, rises_nil⟩
  | x :: l, h => by
    obtain ⟨h1, h2⟩ := rises_cons.1 h
    rw [insS]
    split
    · exact h
    · rename_i e
      split
      · rename_i hl
        refine rises_cons.2 ⟨fun y hy => ?_, h⟩
        rcases List.mem_cons.1 hy with rfl | hy
        · exact hl
        · exact less_trans _ _ _ hl (h1 y hy)
      · rename_i hl
        refine rises_cons.2 ⟨fun y hy => ?_, ins_up s h2⟩
        rcases (ins_mem s y l).1 hy with rfl | hy
        · rcases less_total x y with h3 | h3 | h3
          · exact h3
          · exact absurd h3 e
          · exact absurd h3 hl
        · exact h1 y hy
theorem ins_in {s : List UInt8} : ∀ {l : List (List UInt8)}, rises l → s ∈ l → insS l s = l
  | x :: l, h, hs => by
    obtain ⟨h1, h2⟩ := rises_cons.1 h
    rw [insS]
    split
    · rfl
    · rename_i e
      have hl : s ∈ l := by
        rcases List.mem_cons.1 hs with h | h
        · exact absurd h.symm e
        · exact h
      rw [if_neg (by rw [less_asymm (h1 s hl)]; decide), ins_in h2 hl]
theorem ins_len {s : List UInt8} : ∀ {l : List (List UInt8)}, s ∉ l → (insS l s).length = l.length + 1
  | [], _ => rfl
  | x :: l, hs => by
    rw [insS, if_neg (by intro e; exact hs (by rw [e]; exact List.mem_cons_self))]
    split
    · rfl
    · rw [List.length_cons, ins_len (fun h => hs (List.mem_cons_of_mem _ h)), List.length_cons]
theorem ins_le (l : List (List UInt8)) (s : List UInt8) (h : rises l) : l.length ≤ (insS l s).length ∧ (insS l s).length ≤ l.length + 1 := by
  by_cases hs : s ∈ l
  · rw [ins_in h hs]
    omega
  · rw [ins_len hs]
    omega
/-- Two rows that rise are the same, if they have the same texts. -/
theorem rises_ext : ∀ {l r : List (List UInt8)}, rises l → rises r → (∀ s, s ∈ l ↔ s ∈ r) → l = r
  | [], [], _, _, _ => rfl
  | [], y :: r, _, _, h => by
    have := (h y).2 List.mem_cons_self
    cases this
  | x :: l, [], _, _, h => by
    have := (h x).1 List.mem_cons_self
    cases this
  | x :: l, y :: r, hl, hr, h => by
    obtain ⟨l1, l2⟩ := rises_cons.1 hl
    obtain ⟨r1, r2⟩ := rises_cons.1 hr
    have e : x = y := by
      rcases less_total x y with h3 | h3 | h3
      · rcases List.mem_cons.1 ((h x).1 List.mem_cons_self) with h5 | h5
        · exact h5
        · have h6 := less_trans _ _ _ h3 (r1 _ h5)
          rw [less_irrefl] at h6
          cases h6
      · exact h3
      · rcases List.mem_cons.1 ((h y).2 List.mem_cons_self) with h5 | h5
        · exact h5.symm
        · have h6 := less_trans _ _ _ h3 (l1 _ h5)
          rw [less_irrefl] at h6
          cases h6
    subst e
    rw [rises_ext l2 r2 fun s => ?_]
    constructor
    · intro hs
      rcases List.mem_cons.1 ((h s).1 (List.mem_cons_of_mem _ hs)) with e | hs2
      · have := l1 s hs
        rw [e, less_irrefl] at this
        cases this
      · exact hs2
    · intro hs
      rcases List.mem_cons.1 ((h s).2 (List.mem_cons_of_mem _ hs)) with e | hs2
      · have := r1 s hs
        rw [e, less_irrefl] at this
        cases this
      · exact hs2
theorem add_mem (y : List UInt8) : ∀ (ws l : List (List UInt8)), y ∈ addS l ws ↔ y ∈ ws ∨ y ∈ l
  | [], l => by simp [addS]
  | s :: ws, l => by
    have h := add_mem y ws (insS l s)
    rw [show addS l (s :: ws) = addS (insS l s) ws from rfl, h, ins_mem, List.mem_cons]
    constructor
    · rintro (h | h | h)
      · exact Or.inl (Or.inr h)
      · exact Or.inl (Or.inl h)
      · exact Or.inr h
    · rintro ((h | h) | h)
      · exact Or.inr (Or.inl h)
      · exact Or.inl h
      · exact Or.inr (Or.inr h)
theorem add_up : ∀ (ws : List (List UInt8)) {l : List (List UInt8)}, rises l → rises (addS l ws)
  | [], _, h => h
  | s :: ws, _, h => add_up ws (ins_up s h)
theorem add_le : ∀ (ws : List (List UInt8)) {l : List (List UInt8)}, rises l → l.length ≤ (addS l ws).length ∧ (addS l ws).length ≤ l.length + ws.length
  | [], l, _ => ⟨Nat.le_refl _, Nat.le_refl _⟩
  | s :: ws, l, h => by
    have h1 := add_le ws (ins_up s h)
    have h2 := ins_le l s h
    rw [show addS l (s :: ws) = addS (insS l s) ws from rfl, List.length_cons]
    omega
theorem add_snoc (l ws : List (List UInt8)) (s : List UInt8) : addS l (ws ++ [s]) = insS (addS l ws) s := by
  unfold addS
  rw [List.foldl_append]
  rfl
theorem rem_up {l : List (List UInt8)} (ws : List (List UInt8)) (h : rises l) : rises (remS l ws) := by
  unfold rises remS at *
  exact h.filter _
theorem rem_mem (l ws : List (List UInt8)) (y : List UInt8) : y ∈ remS l ws ↔ y ∈ l ∧ y ∉ ws := by
  unfold remS
  rw [List.mem_filter, decide_eq_true_eq]
theorem rem_le (l ws : List (List UInt8)) : (remS l ws).length ≤ l.length := List.length_filter_le _ _
theorem rem_snoc (l ws : List (List UInt8)) (s : List UInt8) : remS l (ws ++ [s]) = remS (remS l ws) [s] := by
  unfold remS
  rw [List.filter_filter]
  refine List.filter_congr fun x _ => ?_
  rw [Bool.eq_iff_iff]
  simp [not_or, and_comm]
theorem rem_nil (l : List (List UInt8)) : remS l [] = l := by
  unfold remS
  exact List.filter_eq_self.2 fun x _ => by simp
theorem rem_not {l : List (List UInt8)} {s : List UInt8} (h : s ∉ l) : remS l [s] = l := by
  unfold remS
  refine List.filter_eq_self.2 fun x hx => decide_eq_true fun hm => ?_
  rw [List.mem_singleton.1 hm] at hx
  exact h hx
theorem rem_all {l ws : List (List UInt8)} (h : ∀ x ∈ l, x ∈ ws) : remS l ws = [] := by
  unfold remS
  refine List.filter_eq_nil_iff.2 fun x hx => ?_
  simpa using h x hx
/-- One text that is there is taken out. -/
theorem rem_one : ∀ {l : List (List UInt8)} (_ : rises l) (s : List UInt8) (_ : s ∈ l) (ws : List (List UInt8)) (_ : ∀ m, m ∈ ws ↔ m = s), (remS l ws).length + 1 = l.length
  | x :: l, h, s, hs, ws, hw => by
    obtain ⟨h1, h2⟩ := rises_cons.1 h
    have ih := rem_one (l := l) h2 s
    unfold remS at ih ⊢
    by_cases hx : x = s
    · subst hx
      have hl : ∀ y ∈ l, decide (y ∉ ws) = true := fun y hy => decide_eq_true (fun hm => by
        have h3 := h1 y hy
        rw [(hw _).1 hm, less_irrefl] at h3
        cases h3)
      rw [List.filter_cons_of_neg (by simpa using (hw _).2 rfl), List.filter_eq_self.2 hl]
      rfl
    · have hl : s ∈ l := by
        rcases List.mem_cons.1 hs with e | e
        · exact absurd e.symm hx
        · exact e
      rw [List.filter_cons_of_pos (by simpa using fun hm => hx ((hw _).1 hm)), List.length_cons, List.length_cons, ih hl ws hw]
/-- How many texts are less: where a text stands, or would stand. -/
def posS : List (List UInt8) → List UInt8 → Nat
  | [], _ => 0
  | x :: l, s => if bytesLess x s = true then posS l s + 1 else 0
theorem posS_le (s : List UInt8) : ∀ l : List (List UInt8), posS l s ≤ l.length
  | [] => Nat.le_refl _
  | x :: l => by
    rw [posS]
    split
    · have := posS_le s l
      rw [List.length_cons]
      omega
    · exact Nat.zero_le _
theorem lt_posS (s : List UInt8) : ∀ {l : List (List UInt8)}, rises l → ∀ k (hk : k < l.length), (bytesLess l[k] s = true ↔ k < posS l s)
  | x :: l, h, 0, _ => by
    rw [posS]
    show bytesLess x s = true ↔ _
    split
    · rename_i e
      simp [e]
    · rename_i e
      simp [e]
  | x :: l, h, k + 1, hk => by
    obtain ⟨h1, h2⟩ := rises_cons.1 h
    have hk' : k < l.length := by simpa using hk
    have ih := lt_posS s h2 k hk'
    rw [posS]
    show bytesLess l[k] s = true ↔ _
    split
    · rw [ih]
      omega
    · rename_i e
      constructor
      · intro h3
        exact absurd (less_trans _ _ _ (h1 _ (List.getElem_mem hk')) h3) e
      · intro h3
        omega
def hasS (l : List (List UInt8)) (s : List UInt8) : Bool := decide (s ∈ l)
theorem pos_has (s : List UInt8) : ∀ {l : List (List UInt8)}, rises l → (hasS l s = true ∧ s ∈ l ∧ ∃ h : posS l s < l.length, l[posS l s] = s) ∨ (hasS l s = false ∧ s ∉ l ∧ ∀ h : posS l s < l.length, l[posS l s] ≠ s)
  | [], _ => Or.inr ⟨rfl, by simp, fun h => absurd h (by simp)⟩
  | x :: l, h => by
    obtain ⟨h1, h2⟩ := rises_cons.1 h
    by_cases hx : bytesLess x s = true
    · have hne : x ≠ s := less_ne hx
      have e : posS (x :: l) s = posS l s + 1 := by rw [posS, if_pos hx]
      have em : s ∈ x :: l ↔ s ∈ l := by
        rw [List.mem_cons]
        exact ⟨fun h => h.resolve_left (fun e => hne e.symm), Or.inr⟩
      rcases pos_has s h2 with ⟨h3, h4, h5, h6⟩ | ⟨h3, h4, h5⟩
      · have h7 : posS (x :: l) s < (x :: l).length := by rw [e, List.length_cons]; omega
        have h8 : (x :: l)[posS (x :: l) s]'h7 = l[posS l s]'h5 := by simp only [e]; rfl
        exact Or.inl ⟨decide_eq_true (em.2 h4), em.2 h4, h7, by rw [h8]; exact h6⟩
      · refine Or.inr ⟨decide_eq_false (fun h => h4 (em.1 h)), fun h => h4 (em.1 h), fun h7 => ?_⟩
        have h9 : posS l s < l.length := by rw [e, List.length_cons] at h7; omega
        have h8 : (x :: l)[posS (x :: l) s]'h7 = l[posS l s]'h9 := by simp only [e]; rfl
        rw [h8]
        exact h5 h9
    · have e : posS (x :: l) s = 0 := by rw [posS, if_neg hx]
      by_cases hn : x = s
      · have h7 : posS (x :: l) s < (x :: l).length := by rw [e, List.length_cons]; omega
        have h8 : (x :: l)[posS (x :: l) s]'h7 = x := by simp only [e]; rfl
        have hm : s ∈ x :: l := by rw [hn]; exact List.mem_cons_self
        exact Or.inl ⟨decide_eq_true hm, hm, h7, by rw [h8]; exact hn⟩
      · have hm : s ∉ x :: l := fun hm => by
          rcases List.mem_cons.1 hm with h3 | h3
          · exact hn h3.symm
          · exact hx (h1 s h3)
        refine Or.inr ⟨decide_eq_false hm, hm, fun h7 => ?_⟩
        have h8 : (x :: l)[posS (x :: l) s]'h7 = x := by simp only [e]; rfl
        rw [h8]
        exact hn
theorem ins_new (s : List UInt8) : ∀ {l : List (List UInt8)}, rises l → s ∉ l → insS l s = l.take (posS l s) ++ s :: l.drop (posS l s)
  | [], _, _ => rfl
  | x :: l, h, hs => by
    obtain ⟨h1, h2⟩ := rises_cons.1 h
    have e : x ≠ s := fun e => hs (by rw [e]; exact List.mem_cons_self)
    have hl : s ∉ l := fun h => hs (List.mem_cons_of_mem _ h)
    rw [insS, posS, if_neg e]
    split
    · rename_i hx
      rw [if_neg (by rw [less_asymm hx]; decide)]
      rfl
    · rename_i hx
      have hx2 : bytesLess x s = true := by
        rcases less_total x s with h3 | h3 | h3
        · exact h3
        · exact absurd h3 e
        · exact absurd h3 hx
      rw [if_pos hx2, List.take_succ_cons, List.drop_succ_cons, List.cons_append, ins_new s h2 hl]
theorem rem_there (s : List UInt8) : ∀ {l : List (List UInt8)}, rises l → s ∈ l → remS l [s] = l.take (posS l s) ++ l.drop (posS l s + 1)
  | x :: l, h, hs => by
    obtain ⟨h1, h2⟩ := rises_cons.1 h
    by_cases e : x = s
    · subst e
      rw [posS, if_neg (by rw [less_irrefl]; decide)]
      have hl : ∀ y ∈ l, decide (y ∉ [x]) = true := fun y hy => decide_eq_true (fun hm => by
        have h3 := h1 y hy
        rw [List.mem_singleton.1 hm, less_irrefl] at h3
        cases h3)
      unfold remS
      rw [List.filter_cons_of_neg (by simp), List.filter_eq_self.2 hl]
      rfl
    · have hl : s ∈ l := by
        rcases List.mem_cons.1 hs with h3 | h3
        · exact absurd h3.symm e
        · exact h3
      have hx : bytesLess x s = true := h1 s hl
      have ih := rem_there s h2 hl
      rw [posS, if_pos hx, List.take_succ_cons, List.drop_succ_cons, List.cons_append, ← ih]
      unfold remS
      rw [List.filter_cons_of_pos (by simp [e])]
/-- A set as a value; none of no texts. -/
def setV (l : List (List UInt8)) : V := if l = [] then v0 else ⟨4, [], l, [], []⟩
theorem setV_some {l : List (List UInt8)} (h : 0 < l.length) : setV l = ⟨4, [], l, [], []⟩ := if_neg (by intro e; rw [e] at h; simp at h)
theorem setV_l (l : List (List UInt8)) : (setV l).l = l := by
  unfold setV
  split
  · rename_i e
    rw [e]
    rfl
  · rfl
theorem setV_kind (l : List (List UInt8)) : (setV l).kind = 0 ∨ (setV l).kind = 4 := by
  unfold setV
  split
  · exact Or.inl rfl
  · exact Or.inr rfl
theorem setV_s (l : List (List UInt8)) : (setV l).s = [] := by
  unfold setV
  split <;> rfl
/-- What the k-th command (sadd srem sismember smembers scard) makes of a set, with the words from the third on. -/
def rowD (k : Nat) (L : List (List UInt8)) (A : List (List UInt8)) : List (List UInt8) × List UInt8 :=
  match k with
  | 0 => (addS L A, int (((addS L A).length : Int) - (L.length : Int)))
  | 1 => (remS L A, int ((L.length : Int) - ((remS L A).length : Int)))
  | 2 => (L, int (if wd A 0 ∈ L then 1 else 0))
  | 3 => (L, texts L)
  | _ => (L, int (L.length : Int))
/-- What a set may be, and how long its texts and the words. -/
def Tame (k : Nat) (L : List (List UInt8)) (A : List (List UInt8)) : Prop :=
  rises L ∧ match k with
  | 0 => L.length + A.length ≤ 1048576
  | 1 => A.length ≤ 1048576
  | 2 => 1 ≤ A.length
  | 3 => L.length ≤ 4096 ∧ L.flatten.length ≤ 1048576
  | _ => True
def doD (k : Nat) (d : V) (L : List (List UInt8)) : V × List UInt8 := if d.kind = 0 ∨ d.kind = 4 then (setV (rowD k d.l (L.drop 2)).1, (rowD k d.l (L.drop 2)).2) else (d, eWrong)
/-- A text moved from one value to another. -/
def moveD (f t : V) (s : List UInt8) : V × V × List UInt8 :=
  if (f.kind = 0 ∨ f.kind = 4) ∧ (t.kind = 0 ∨ t.kind = 4) then
    if s ∈ f.l then (setV (remS f.l [s]), setV (insS t.l s), int 1) else (f, t, int 0)
  else (f, t, eWrong)
theorem doD_wrong {i : Nat} {d : V} {L : List (List UInt8)} (h : d.kind ≠ 0 ∧ d.kind ≠ 4) : doD i d L = (d, eWrong) := if_neg (by omega)
theorem doD_right {i : Nat} {d : V} {L : List (List UInt8)} (h : d.kind = 0 ∨ d.kind = 4) : doD i d L = (setV (rowD i d.l (L.drop 2)).1, (rowD i d.l (L.drop 2)).2) := if_pos h
theorem kinds (d : V) : (d.kind = 0 ∨ d.kind = 4) ∨ (d.kind ≠ 0 ∧ d.kind ≠ 4) := by omega
def nSadd : List UInt8 := [115, 97, 100, 100]
def nSrem : List UInt8 := [115, 114, 101, 109]
def nSismember : List UInt8 := [115, 105, 115, 109, 101, 109, 98, 101, 114]
def nSmembers : List UInt8 := [115, 109, 101, 109, 98, 101, 114, 115]
def nScard : List UInt8 := [115, 99, 97, 114, 100]
def nameD (k : Nat) : List UInt8 :=
  match k with
  | 0 => nSadd
  | 1 => nSrem
  | 2 => nSismember
  | 3 => nSmembers
  | _ => nScard
def needD (k : Nat) : Nat :=
  match k with
  | 0 => 3
  | 1 => 3
  | 2 => 3
  | 3 => 2
  | _ => 2
theorem row_up (k : Nat) {L : List (List UInt8)} (A : List (List UInt8)) (h : rises L) : rises (rowD k L A).1 := by
  match k with
  | 0 => exact add_up A h
  | 1 => exact rem_up A h
  | 2 => exact h
  | 3 => exact h
  | k + 4 => exact h
theorem tame0 {L A : List (List UInt8)} (h : rises L) (h1 : L.length + A.length ≤ 1048576) : Tame 0 L A := ⟨h, h1⟩
theorem tame1 {L A : List (List UInt8)} (h : rises L) (h1 : A.length ≤ 1048576) : Tame 1 L A := ⟨h, h1⟩
theorem tame2 {L A : List (List UInt8)} (h : rises L) (h1 : 1 ≤ A.length) : Tame 2 L A := ⟨h, h1⟩
theorem tame3 {L A : List (List UInt8)} (h : rises L) (h1 : L.length ≤ 4096) (h2 : L.flatten.length ≤ 1048576) : Tame 3 L A := ⟨h, h1, h2⟩
theorem tame4 {L A : List (List UInt8)} (h : rises L) : Tame 4 L A := ⟨h, trivial⟩
/-- What is put in is told by its texts alone, in whichever order, however often. -/
theorem add_same {ws vs l r : List (List UInt8)} (hl : rises l) (hr : rises r) (h : ∀ s, (s ∈ ws ∨ s ∈ l) ↔ (s ∈ vs ∨ s ∈ r)) : addS l ws = addS r vs :=
  rises_ext (add_up ws hl) (add_up vs hr) fun s => by rw [add_mem, add_mem]; exact h s
/-- What the reference's way of putting in makes, of a row that rises. -/
theorem putL_ins {l : List (List UInt8)} (s : List UInt8) (h : rises l) : putL l s = insS l s := by
  refine rises_ext (putL_rises s h) (ins_up s h) fun y => ?_
  obtain ⟨l1, l2, e, a1, a2, a3⟩ := putL_shape s h
  rw [ins_mem, a3, e]
  by_cases hy : y = s
  · simp [hy]
  · simp [hy]
theorem foldL_add : ∀ (ws : List (List UInt8)) {l : List (List UInt8)}, rises l → ws.foldl putL l = addS l ws
  | [], _, _ => rfl
  | s :: ws, l, h => by
    rw [List.foldl_cons, putL_ins s h]
    exact foldL_add ws (ins_up s h)
theorem fitL_add (l : List (List UInt8)) : fitL l = addS [] (l.take 8) := foldL_add _ rises_nil

end Go.Proofs.YtmdkegamfjkfbaaDoor.SetT
