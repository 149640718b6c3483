/-
  Plain facts on replies as rows of bytes: how each is told, which one a row begins with, and that what was told is taken. No program is imported.
-/
import Derived.Test.YtdhhiodnnnfioaaDoorNumMath
namespace Go.Proofs.YtdhhiodnnnfioaaDoor.ReplyMath
open Go.Lib NumMath
set_option linter.unusedVariables false

/-- A byte of a line's end is told as a blank. -/
def fl (c : UInt8) : UInt8 := if c = 13 ∨ c = 10 then 32 else c
def flat (s : List UInt8) : List UInt8 := s.map fl
def simple (s : List UInt8) : List UInt8 := 43 :: (flat s ++ [13, 10])
def err (s : List UInt8) : List UInt8 := 45 :: (flat s ++ [13, 10])
def int (n : Int) : List UInt8 := 58 :: (itoa n ++ [13, 10])
def bulk (s : List UInt8) : List UInt8 := 36 :: (itoa (s.length : Int) ++ 13 :: 10 :: (s ++ [13, 10]))
def null : List UInt8 := [36, 45, 49, 13, 10]
def noArray : List UInt8 := [42, 45, 49, 13, 10]
def array (ls : List (List UInt8)) : List UInt8 := 42 :: (itoa (ls.length : Int) ++ 13 :: 10 :: ls.flatten)
def texts (l : List (List UInt8)) : List UInt8 := array (l.map bulk)

/-- The line that a row begins with, and what is behind its end. -/
def cutE : List UInt8 → Option (List UInt8 × List UInt8)
  | [] => none
  | c :: r => if c = 13 ∧ r.head? = some 10 then some ([], r.tail) else (cutE r).map fun p => (c :: p.1, p.2)
def clean (s : List UInt8) : Bool := s.all fun c => c != 13 && c != 10

/-- What a text of so many bytes with an end leaves. -/
def bulkOf (n : Int) (r : List UInt8) : Option (List UInt8 × Nat) :=
  if n = -1 then some (r, 0) else if 0 ≤ n ∧ (r.drop n.toNat).take 2 = [13, 10] then some (r.drop (n.toNat + 2), 0) else none
def arrOf (n : Int) (r : List UInt8) : Option (List UInt8 × Nat) :=
  if n = -1 then some (r, 0) else if 0 ≤ n then some (r, n.toNat) else none
/-- By a line's first byte, what is behind it in the line, and what is behind its end. -/
def kind (k : UInt8) (s r : List UInt8) : Option (List UInt8 × Nat) :=
  if k = 43 ∨ k = 45 then (if clean s = true then some (r, 0) else none)
  else if k = 58 then (if (parse s).isSome = true then some (r, 0) else none)
  else if k = 36 then (parse s).bind fun n => bulkOf n r
  else if k = 42 then (parse s).bind fun n => arrOf n r
  else none
/-- What the reply's beginning leaves of a row, and how many replies more belong to it. -/
def one (l : List UInt8) : Option (List UInt8 × Nat) :=
  (cutE l).bind fun p => p.1.head?.bind fun k => kind k p.1.tail p.2

theorem cutE_some : ∀ (l a r : List UInt8), cutE l = some (a, r) → l = a ++ 13 :: 10 :: r ∧ ∀ z, cutE (a ++ 13 :: 10 :: z) = some (a, z)
  | [], a, r, h => by simp [cutE] at h
  | c :: l, a, r, h => by
    rw [cutE] at h
    split at h
    · rename_i hc
      obtain ⟨rfl, h10⟩ := hc
      simp at h
      obtain ⟨rfl, rfl⟩ := h
      match l, h10 with
      | d :: l', h10 =>
        simp at h10
        subst h10
        exact ⟨rfl, fun z => by simp [cutE]⟩
    · rename_i hc
      cases hl : cutE l with
      | none => rw [hl] at h; simp at h
      | some p =>
        obtain ⟨a', r'⟩ := p
        rw [hl] at h
        simp at h
        obtain ⟨rfl, rfl⟩ := h
        obtain ⟨e, hz⟩ := cutE_some l a' r' hl
        refine ⟨by rw [e]; rfl, fun z => ?_⟩
        show cutE (c :: (a' ++ 13 :: 10 :: z)) = _
        have hh : (a' ++ 13 :: 10 :: z).head? = l.head? := by
          rw [e]
          cases a' <;> rfl
        rw [cutE, hh, if_neg hc, hz]
        rfl
theorem cutE_plain : ∀ (a r : List UInt8), (∀ c ∈ a, c ≠ 13) → cutE (a ++ 13 :: 10 :: r) = some (a, r)
  | [], r, _ => by simp [cutE]
  | c :: a, r, h => by
    have h1 : c ≠ 13 := h c (by simp)
    show cutE (c :: (a ++ 13 :: 10 :: r)) = _
    rw [cutE, if_neg (by intro hh; exact h1 hh.1), cutE_plain a r (fun d hd => h d (by simp [hd]))]
    rfl

theorem one_line {k : UInt8} {s r : List UInt8} (h : cutE (k :: s ++ 13 :: 10 :: r) = some (k :: s, r)) : one (k :: s ++ 13 :: 10 :: r) = kind k s r := by
  unfold one
  rw [h]
  rfl
theorem kind_split {k : UInt8} {s r t : List UInt8} {m : Nat} (h : kind k s r = some (t, m)) : ∃ x, r = x ++ t ∧ ∀ z, kind k s (x ++ z) = some (z, m) := by
  unfold kind at h ⊢
  by_cases h1 : k = 43 ∨ k = 45
  · rw [if_pos h1] at h
    split at h
    · rename_i hc
      injection h with h
      injection h with e1 e2
      subst e1 e2
      exact ⟨[], rfl, fun z => by rw [if_pos h1, if_pos hc]; rfl⟩
    · cases h
  rw [if_neg h1] at h
  simp only [if_neg h1]
  by_cases h2 : k = 58
  · rw [if_pos h2] at h
    split at h
    · rename_i hc
      injection h with h
      injection h with e1 e2
      subst e1 e2
      exact ⟨[], rfl, fun z => by rw [if_pos h2, if_pos hc]; rfl⟩
    · cases h
  rw [if_neg h2] at h
  simp only [if_neg h2]
  by_cases h3 : k = 36
  · rw [if_pos h3] at h
    simp only [if_pos h3]
    cases hp : parse s with
    | none => rw [hp] at h; cases h
    | some n =>
      rw [hp] at h
      have h : bulkOf n r = some (t, m) := h
      show ∃ x, r = x ++ t ∧ ∀ z, bulkOf n (x ++ z) = some (z, m)
      unfold bulkOf at h ⊢
      by_cases hn : n = -1
      · rw [if_pos hn] at h
        injection h with h
        injection h with e1 e2
        subst e1 e2
        exact ⟨[], rfl, fun z => by rw [if_pos hn]; rfl⟩
      · rw [if_neg hn] at h
        simp only [if_neg hn]
        split at h
        · rename_i hc
          injection h with h
          injection h with e1 e2
          subst e1 e2
          have hlen : n.toNat + 2 ≤ r.length := by
            have := congrArg List.length hc.2
            rw [List.length_take, List.length_drop] at this
            simp at this
            omega
          refine ⟨r.take (n.toNat + 2), (List.take_append_drop _ _).symm, fun z => ?_⟩
          have hl : (r.take (n.toNat + 2)).length = n.toNat + 2 := by rw [List.length_take]; omega
          have h2 : ((r.take (n.toNat + 2) ++ z).drop n.toNat).take 2 = [13, 10] := by
            rw [List.drop_append_of_le_length (by omega), List.drop_take, show n.toNat + 2 - n.toNat = 2 by omega, hc.2]
            rfl
          rw [if_pos ⟨hc.1, h2⟩, List.drop_left' hl]
        · cases h
  rw [if_neg h3] at h
  simp only [if_neg h3]
  by_cases h4 : k = 42
  · rw [if_pos h4] at h
    simp only [if_pos h4]
    cases hp : parse s with
    | none => rw [hp] at h; cases h
    | some n =>
      rw [hp] at h
      have h : arrOf n r = some (t, m) := h
      show ∃ x, r = x ++ t ∧ ∀ z, arrOf n (x ++ z) = some (z, m)
      unfold arrOf at h ⊢
      split at h
      · rename_i hn
        injection h with h
        injection h with e1 e2
        subst e1 e2
        exact ⟨[], rfl, fun z => by rw [if_pos hn]; rfl⟩
      · rename_i hn
        split at h
        · rename_i hc
          injection h with h
          injection h with e1 e2
          subst e1 e2
          exact ⟨[], rfl, fun z => by rw [if_neg hn, if_pos hc]; rfl⟩
        · cases h
  rw [if_neg h4] at h
  cases h

theorem one_split {l r : List UInt8} {m : Nat} (h : one l = some (r, m)) : ∃ x, l = x ++ r ∧ 3 ≤ x.length ∧ ∀ z, one (x ++ z) = some (z, m) := by
  unfold one at h
  cases hc : cutE l with
  | none => rw [hc] at h; cases h
  | some p =>
    obtain ⟨a, t⟩ := p
    rw [hc] at h
    match a, h, hc with
    | k :: s, h, hc =>
      have h : kind k s t = some (r, m) := h
      obtain ⟨e, hz⟩ := cutE_some l _ _ hc
      obtain ⟨x, hx, hk⟩ := kind_split h
      refine ⟨k :: s ++ 13 :: 10 :: x, by rw [e, hx]; simp, by simp; omega, fun z => ?_⟩
      have : k :: s ++ 13 :: 10 :: x ++ z = k :: s ++ 13 :: 10 :: (x ++ z) := by simp
      rw [this, one_line (hz _), hk]

/-- So many replies, one behind the other, and what is behind them. -/
inductive Skips : Nat → List UInt8 → List UInt8 → Prop
  | none (l : List UInt8) : Skips 0 l l
  | more {n m : Nat} {l r t : List UInt8} (h : one l = some (r, m)) (hs : Skips (n + m) r t) : Skips (n + 1) l t

theorem Skips.det {n : Nat} {l r r' : List UInt8} (h : Skips n l r) (h' : Skips n l r') : r = r' := by
  induction h generalizing r' with
  | none l => cases h'; rfl
  | more h hs ih =>
    cases h' with
    | more h2 hs2 =>
      rw [h] at h2
      injection h2 with h2
      injection h2 with e1 e2
      subst e1 e2
      exact ih hs2
theorem Skips.split {n : Nat} {l r : List UInt8} (h : Skips n l r) : ∃ x, l = x ++ r ∧ 3 * n ≤ x.length ∧ ∀ z, Skips n (x ++ z) z := by
  induction h with
  | none l => exact ⟨[], rfl, Nat.zero_le _, fun z => Skips.none z⟩
  | more h hs ih =>
    obtain ⟨y, rfl, hy, hz⟩ := ih
    obtain ⟨x, rfl, hx, hx'⟩ := one_split h
    refine ⟨x ++ y, by simp, by rw [List.length_append]; omega, fun z => ?_⟩
    rw [List.append_assoc]
    exact Skips.more (hx' _) (hz z)
theorem Skips.add {n m : Nat} {l r t : List UInt8} (h : Skips n l r) (h' : Skips m r t) : Skips (n + m) l t := by
  induction h with
  | none l => rw [Nat.zero_add]; exact h'
  | @more n k l r _ h hs ih =>
    rw [show n + 1 + m = n + m + 1 by omega]
    refine Skips.more h ?_
    rw [show n + m + k = n + k + m by omega]
    exact ih h'
theorem skips_one_iff {n m : Nat} {l r : List UInt8} (h : one l = some (r, m)) (t : List UInt8) : Skips (n + 1) l t ↔ Skips (n + m) r t := by
  constructor
  · intro hs
    cases hs with
    | more h2 hs =>
      rw [h] at h2
      injection h2 with h2
      injection h2 with e1 e2
      subst e1 e2
      exact hs
  · exact Skips.more h
theorem skips_no {n : Nat} {l t : List UInt8} (h : one l = none) : ¬ Skips (n + 1) l t := by
  intro hs
  cases hs with
  | more h2 _ => rw [h] at h2; cases h2
theorem skips_zero {l t : List UInt8} : Skips 0 l t ↔ t = l := by
  constructor
  · intro h; cases h; rfl
  · rintro rfl; exact Skips.none _

/-- One whole reply. -/
def Reply (x : List UInt8) : Prop := ∀ z, Skips 1 (x ++ z) z
theorem Reply.of_one {x : List UInt8} (h : ∀ z, one (x ++ z) = some (z, 0)) : Reply x := fun z => Skips.more (h z) (Skips.none z)
theorem Reply.self {x : List UInt8} (h : Reply x) : Skips 1 x [] := by have := h []; rwa [List.append_nil] at this
/-- What a row begins with. -/
theorem skips_reply {l r : List UInt8} (h : Skips 1 l r) : ∃ x, l = x ++ r ∧ 3 ≤ x.length ∧ Reply x := by
  obtain ⟨x, e, hl, hz⟩ := h.split
  exact ⟨x, e, by omega, hz⟩
/-- Of a part of a reply none is taken. -/
theorem part_none {x p t : List UInt8} (h : Reply x) (e : x = p ++ t) (ht : t ≠ []) (r : List UInt8) : ¬ Skips 1 p r := by
  intro hs
  obtain ⟨y, hy, -, hz⟩ := skips_reply hs
  have h1 : Skips 1 x (r ++ t) := by
    rw [e, hy, List.append_assoc]
    exact hz _
  have := h1.det h.self
  simp at this
  exact ht this.2
theorem skips_all : ∀ (ls : List (List UInt8)), (∀ x ∈ ls, Reply x) → ∀ z, Skips ls.length (ls.flatten ++ z) z
  | [], _, z => Skips.none z
  | x :: ls, h, z => by
    rw [List.flatten_cons, List.append_assoc, List.length_cons, Nat.add_comm]
    exact (h x (by simp) _).add (skips_all ls (fun y hy => h y (by simp [hy])) z)

theorem clean_ne {s : List UInt8} (h : clean s = true) : ∀ c ∈ s, c ≠ 13 := by
  intro c hc
  have := List.all_eq_true.1 h c hc
  simp at this
  exact this.1
theorem fl_clean (c : UInt8) : (fl c != 13 && fl c != 10) = true := by
  unfold fl
  split
  · decide
  · rename_i h
    simp only [not_or] at h
    simp [h.1, h.2]
theorem flat_clean (s : List UInt8) : clean (flat s) = true := by
  unfold clean flat
  rw [List.all_eq_true]
  intro c hc
  obtain ⟨d, _, rfl⟩ := List.mem_map.1 hc
  exact fl_clean d
theorem itoa_clean (n : Int) : ∀ c ∈ itoa n, c ≠ 13 := by
  intro c hc
  rcases itoa_mem n c hc with h | h
  · rw [h]; decide
  · rintro rfl
    exact absurd h.1 (by decide)
theorem line_one (k : UInt8) (hk : k ≠ 13) (s r : List UInt8) (h : ∀ c ∈ s, c ≠ 13) : one (k :: s ++ 13 :: 10 :: r) = kind k s r :=
  one_line (cutE_plain (k :: s) r (by intro c hc; rcases List.mem_cons.1 hc with rfl | hc; exact hk; exact h c hc))

theorem reply_simple (s : List UInt8) : Reply (simple s) := Reply.of_one fun z => by
  have : simple s ++ z = 43 :: flat s ++ 13 :: 10 :: z := by simp [simple]
  rw [this, line_one 43 (by decide) _ _ (clean_ne (flat_clean s))]
  simp [kind, flat_clean]
theorem reply_err (s : List UInt8) : Reply (err s) := Reply.of_one fun z => by
  have : err s ++ z = 45 :: flat s ++ 13 :: 10 :: z := by simp [err]
  rw [this, line_one 45 (by decide) _ _ (clean_ne (flat_clean s))]
  simp [kind, flat_clean]
theorem reply_int (n : Int) (h0 : -9223372036854775808 ≤ n) (h1 : n ≤ 9223372036854775807) : Reply (int n) := Reply.of_one fun z => by
  have : int n ++ z = 58 :: itoa n ++ 13 :: 10 :: z := by simp [int]
  rw [this, line_one 58 (by decide) _ _ (itoa_clean n)]
  simp [kind, parse_itoa n h0 h1]
theorem reply_bulk (s : List UInt8) (h : s.length ≤ 9223372036854775807) : Reply (bulk s) := Reply.of_one fun z => by
  have : bulk s ++ z = 36 :: itoa (s.length : Int) ++ 13 :: 10 :: (s ++ 13 :: 10 :: z) := by simp [bulk]
  rw [this, line_one 36 (by decide) _ _ (itoa_clean _)]
  have hb : bulkOf (s.length : Int) (s ++ 13 :: 10 :: z) = some (z, 0) := by
    unfold bulkOf
    rw [if_neg (by omega), if_pos ⟨by omega, by rw [Int.toNat_natCast, List.drop_left]; rfl⟩, Int.toNat_natCast, ← List.drop_drop, List.drop_left]
    rfl
  simp [kind, parse_itoa (s.length : Int) (by omega) (by omega), hb]
theorem itoa_minus1 : itoa (-1) = [45, 49] := by decide +kernel
theorem reply_null : Reply null := Reply.of_one fun z => by
  have : null ++ z = 36 :: itoa (-1) ++ 13 :: 10 :: z := by rw [itoa_minus1]; rfl
  rw [this, line_one 36 (by decide) _ _ (itoa_clean _)]
  have hb : bulkOf (-1) z = some (z, 0) := by unfold bulkOf; rw [if_pos rfl]
  simp [kind, parse_itoa (-1) (by decide) (by decide), hb]
theorem reply_noArray : Reply noArray := Reply.of_one fun z => by
  have : noArray ++ z = 42 :: itoa (-1) ++ 13 :: 10 :: z := by rw [itoa_minus1]; rfl
  rw [this, line_one 42 (by decide) _ _ (itoa_clean _)]
  have hb : arrOf (-1) z = some (z, 0) := by unfold arrOf; rw [if_pos rfl]
  simp [kind, parse_itoa (-1) (by decide) (by decide), hb]
theorem reply_array (ls : List (List UInt8)) (hn : ls.length ≤ 9223372036854775807) (h : ∀ x ∈ ls, Reply x) : Reply (array ls) := by
  intro z
  have : array ls ++ z = 42 :: itoa (ls.length : Int) ++ 13 :: 10 :: (ls.flatten ++ z) := by simp [array]
  rw [this]
  refine Skips.more (m := ls.length) (r := ls.flatten ++ z) ?_ ?_
  · rw [line_one 42 (by decide) _ _ (itoa_clean _)]
    have hb : arrOf (ls.length : Int) (ls.flatten ++ z) = some (ls.flatten ++ z, ls.length) := by
      unfold arrOf
      rw [if_neg (by omega), if_pos (by omega), Int.toNat_natCast]
    simp [kind, parse_itoa (ls.length : Int) (by omega) (by omega), hb]
  · rw [Nat.zero_add]
    exact skips_all ls h z
theorem reply_texts (l : List (List UInt8)) (hn : l.length ≤ 9223372036854775807) (h : ∀ s ∈ l, s.length ≤ 9223372036854775807) : Reply (texts l) :=
  reply_array _ (by simpa using hn) fun x hx => by
    obtain ⟨s, hs, rfl⟩ := List.mem_map.1 hx
    exact reply_bulk s (h s hs)
/-- What begins with a byte of no kind begins with no reply. -/
theorem odd_none (c : UInt8) (hc : c ≠ 13 ∧ c ≠ 43 ∧ c ≠ 45 ∧ c ≠ 58 ∧ c ≠ 36 ∧ c ≠ 42) (l r : List UInt8) : ¬ Skips 1 (c :: l) r := by
  refine skips_no ?_
  unfold one
  rw [cutE, if_neg (fun h => hc.1 h.1)]
  cases cutE l with
  | none => rfl
  | some p =>
    show kind c p.1 p.2 = none
    simp [kind, hc]

end Go.Proofs.YtdhhiodnnnfioaaDoor.ReplyMath
