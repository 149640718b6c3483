/-
  Sorted sets, pure; the landed code of layer 15: where a mark belongs, where a name's mark stands; a mark taken out, put in; what each command does with a row of marks; the map of what is done, Do.
-/
import Derived.Test.YtodpocciimbjbaaDoorDoMath
import Derived.Test.YtodpocciimbjbaaDoorNumParse
import Derived.Test.YtodpocciimbjbaaDoorNumPart
import Derived.Test.YtodpocciimbjbaaDoorNumAdd
import Derived.Test.YtodpocciimbjbaaDoorReplyT
import Derived.Test.YtodpocciimbjbaaDoorShelf
import Derived.Test.YtodpocciimbjbaaDoorValRowz
import Derived.Test.YtodpocciimbjbaaDoorOwnIn
import Derived.Test.YtodpocciimbjbaaDoorQuietTail
import Derived.Test.YtodpocciimbjbaaDoorReplyNull
import Derived.Test.YtodpocciimbjbaaDoorDoRows
import Derived.Test.YtodpocciimbjbaaDoorLawKit
import Derived.Test.YtodpocciimbjbaaDoorReplyJoin
import Derived.Test.YtodpocciimbjbaaDoorReplyLine
import Derived.Test.YtodpocciimbjbaaDoorStrRowz
import Derived.Test.YtodpocciimbjbaaDoorRefTabs
import Derived.Test.YtodpocciimbjbaaDoorMapLits
import Derived.Test.YtodpocciimbjbaaDoorLowNum
import Derived.StillTailTactics
import Derived.Deep.QuietTactic
import Derived.BigQuiet
import Derived.Deep.RegionLaw
import Derived.Shelf.Spec.SlicesInsert
import Derived.Lib.Hide
import Derived.Deep.DeepCutAuto
import Derived.Lib.QuietBelow
import Derived.Deep.RegionWith
import Derived.Laws.EntriesVeiled
namespace Go.Proofs.YtodpocciimbjbaaDoor.SrtT
open BOrd ValT ReplyMath Low DoT NumL NumW ValM
open Go.Op (bytesLess)
open Go.Lib (itoa)
set_option linter.unusedVariables false
set_option maxRecDepth 100000

/-- A mark ahead of another: by their numbers, then by their names. -/
def ltM (x y : Mk) : Prop := x.n < y.n ∨ (x.n = y.n ∧ bytesLess x.name y.name = true)
instance (a b : Mk) : Decidable (ltM a b) := by unfold ltM; infer_instance
theorem ltM_cmp (x y : Mk) : cmpM x y < 0 ↔ ltM x y := cmpM_neg x y
theorem ltM_trans {x y z : Mk} (h1 : ltM x y) (h2 : ltM y z) : ltM x z := by
  unfold ltM at *
  rcases h1 with h1 | ⟨e1, h1⟩
  · rcases h2 with h2 | ⟨e2, h2⟩
    · exact Or.inl (by omega)
    · exact Or.inl (by omega)
  · rcases h2 with h2 | ⟨e2, h2⟩
    · exact Or.inl (by omega)
    · exact Or.inr ⟨by omega, less_trans _ _ _ h1 h2⟩
theorem ltM_irrefl (x : Mk) : ¬ ltM x x := by
  unfold ltM
  rintro (h | ⟨-, h⟩)
  · omega
  · rw [less_irrefl] at h
    cases h
theorem ltM_total {x y : Mk} (h : x.name ≠ y.name) : ltM x y ∨ ltM y x := by
  unfold ltM
  rcases Int.lt_trichotomy x.n y.n with h1 | h1 | h1
  · exact Or.inl (Or.inl h1)
  · rcases less_total x.name y.name with h2 | h2 | h2
    · exact Or.inl (Or.inr ⟨h1, h2⟩)
    · exact absurd h2 h
    · exact Or.inr (Or.inr ⟨h1.symm, h2⟩)
  · exact Or.inr (Or.inl h1)
theorem okM_iff (x y : Mk) : okM x y ↔ x.name ≠ y.name ∧ ltM x y := by
  unfold okM
  constructor
  · rintro ⟨h1, h2, h3⟩
    refine ⟨h1, ?_⟩
    rcases ltM_total h1 with h | h
    · exact h
    · unfold ltM at h
      rcases h with h | ⟨e, h⟩
      · exact absurd h h2
      · exact absurd ⟨e.symm, h⟩ h3
  · rintro ⟨h1, h2⟩
    unfold ltM at h2
    refine ⟨h1, ?_, ?_⟩
    · rcases h2 with h2 | ⟨e, -⟩ <;> omega
    · rintro ⟨e, h3⟩
      rcases h2 with h2 | ⟨-, h2⟩
      · omega
      · rw [less_asymm h2] at h3
        cases h3
theorem marks_cons {x : Mk} {l : List Mk} : marks (x :: l) ↔ (∀ y ∈ l, x.name ≠ y.name ∧ ltM x y) ∧ marks l := by
  unfold marks
  rw [List.pairwise_cons]
  constructor
  · rintro ⟨h1, h2⟩
    exact ⟨fun y hy => (okM_iff x y).1 (h1 y hy), h2⟩
  · rintro ⟨h1, h2⟩
    exact ⟨fun y hy => (okM_iff x y).2 (h1 y hy), h2⟩
theorem marks_nil : marks [] := List.Pairwise.nil
/-- Two rows in order are the same, if they have the same marks. -/
theorem marks_ext : ∀ {l r : List Mk}, marks l → marks r → (∀ s, s ∈ l ↔ s ∈ r) → l = r
  | [], [], _, _, _ => rfl
  | [], y :: r, _, _, h => by
    have := (h y).2 List.mem_cons_self
    cases this
  | x :: l, [], _, _, h => by
    have := (h x).1 List.mem_cons_self
    cases this
  | x :: l, y :: r, hl, hr, h => by
    obtain ⟨l1, l2⟩ := marks_cons.1 hl
    obtain ⟨r1, r2⟩ := marks_cons.1 hr
    have e : x = y := by
      rcases List.mem_cons.1 ((h x).1 List.mem_cons_self) with h5 | h5
      · exact h5
      · rcases List.mem_cons.1 ((h y).2 List.mem_cons_self) with h6 | h6
        · exact h6.symm
        · exact absurd (ltM_trans (r1 x h5).2 (l1 y h6).2) (ltM_irrefl y)
    subst e
    rw [marks_ext l2 r2 fun s => ?_]
    constructor
    · intro hs
      rcases List.mem_cons.1 ((h s).1 (List.mem_cons_of_mem _ hs)) with e | hs2
      · exact absurd (l1 s hs).2 (by rw [e]; exact ltM_irrefl x)
      · exact hs2
    · intro hs
      rcases List.mem_cons.1 ((h s).2 (List.mem_cons_of_mem _ hs)) with e | hs2
      · exact absurd (r1 s hs).2 (by rw [e]; exact ltM_irrefl x)
      · exact hs2
/-- How many marks stand ahead of one. -/
def posM : List Mk → Mk → Nat
  | [], _ => 0
  | x :: l, m => if ltM x m then posM l m + 1 else 0
def insM (l : List Mk) (m : Mk) : List Mk := l.take (posM l m) ++ m :: l.drop (posM l m)
theorem pos_le (m : Mk) : ∀ l : List Mk, posM l m ≤ l.length
  | [] => Nat.le_refl _
  | x :: l => by
    rw [posM]
    split
    · have := pos_le m l
      rw [List.length_cons]
      omega
    · exact Nat.zero_le _
theorem lt_pos (m : Mk) : ∀ {l : List Mk}, marks l → ∀ k (hk : k < l.length), (ltM l[k] m ↔ k < posM l m)
  | x :: l, h, 0, _ => by
    rw [posM]
    show ltM x m ↔ _
    split
    · rename_i e
      simp [e]
    · rename_i e
      simp [e]
  | x :: l, h, k + 1, hk => by
    obtain ⟨h1, h2⟩ := marks_cons.1 h
    have hk' : k < l.length := by simpa using hk
    have ih := lt_pos m h2 k hk'
    rw [posM]
    show ltM l[k] m ↔ _
    split
    · rw [ih]
      omega
    · rename_i e
      constructor
      · intro h3
        exact absurd (ltM_trans (h1 _ (List.getElem_mem hk')).2 h3) e
      · intro h3
        omega
theorem ins_cons (x m : Mk) (l : List Mk) : insM (x :: l) m = if ltM x m then x :: insM l m else m :: x :: l := by
  unfold insM
  rw [posM]
  split
  · rw [List.take_succ_cons, List.drop_succ_cons, List.cons_append]
  · rfl
theorem ins_mem (m y : Mk) (l : List Mk) : y ∈ insM l m ↔ y = m ∨ y ∈ l := by
  unfold insM
  rw [List.mem_append, List.mem_cons]
  constructor
  · rintro (h | h | h)
    · exact Or.inr (List.mem_of_mem_take h)
    · exact Or.inl h
    · exact Or.inr (List.mem_of_mem_drop h)
  · rintro (h | h)
    · exact Or.inr (Or.inl h)
    · have h2 : y ∈ l.take (posM l m) ++ l.drop (posM l m) := by rw [List.take_append_drop]; exact h
      rcases List.mem_append.1 h2 with h3 | h3
      · exact Or.inl h3
      · exact Or.inr (Or.inr h3)
theorem ins_len (m : Mk) (l : List Mk) : (insM l m).length = l.length + 1 := by
  have := pos_le m l
  unfold insM
  rw [List.length_append, List.length_cons, List.length_take, List.length_drop]
  omega
theorem ins_up {m : Mk} : ∀ {l : List Mk}, marks l → (∀ x ∈ l, x.name ≠ m.name) → marks (insM l m)
  | [], _, _ => marks_cons.2 ⟨by simp, marks_nil⟩
  | x :: l, h, hn => by
    obtain ⟨h1, h2⟩ := marks_cons.1 h
    rw [ins_cons]
    split
    · rename_i hx
      refine marks_cons.2 ⟨fun y hy => ?_, ins_up h2 fun z hz => hn z (List.mem_cons_of_mem _ hz)⟩
      rcases (ins_mem m y l).1 hy with rfl | hy
      · exact ⟨hn x List.mem_cons_self, hx⟩
      · exact h1 y hy
    · rename_i hx
      have hm : ltM m x := (ltM_total (hn x List.mem_cons_self)).resolve_left hx
      refine marks_cons.2 ⟨fun y hy => ?_, h⟩
      rcases List.mem_cons.1 hy with rfl | hy2
      · exact ⟨(hn y List.mem_cons_self).symm, hm⟩
      · exact ⟨(hn y hy).symm, ltM_trans hm (h1 y hy2).2⟩
/-- A name's mark taken out. -/
def remM (l : List Mk) (s : List UInt8) : List Mk := l.filter fun x => decide (x.name ≠ s)
theorem rem_mem (l : List Mk) (s : List UInt8) (y : Mk) : y ∈ remM l s ↔ y ∈ l ∧ y.name ≠ s := by
  unfold remM
  rw [List.mem_filter, decide_eq_true_eq]
theorem rem_up {l : List Mk} (s : List UInt8) (h : marks l) : marks (remM l s) := by
  unfold marks remM at *
  exact h.filter _
theorem rem_le (l : List Mk) (s : List UInt8) : (remM l s).length ≤ l.length := List.length_filter_le _ _
/-- Where a name's mark stands, its number (0: none), and whether there is one. -/
def placeM : List Mk → List UInt8 → Nat
  | [], _ => 0
  | x :: l, s => if x.name = s then 0 else placeM l s + 1
def numM : List Mk → List UInt8 → Int
  | [], _ => 0
  | x :: l, s => if x.name = s then x.n else numM l s
def hasM (l : List Mk) (s : List UInt8) : Bool := decide (s ∈ mnames l)
theorem has_iff {l : List Mk} {s : List UInt8} : hasM l s = true ↔ ∃ x ∈ l, x.name = s := by
  unfold hasM mnames
  rw [decide_eq_true_eq, List.mem_map]
theorem has_not {l : List Mk} {s : List UInt8} : hasM l s = false ↔ ∀ x ∈ l, x.name ≠ s := by
  rw [← Bool.not_eq_true, has_iff]
  exact ⟨fun h x hx e => h ⟨x, hx, e⟩, fun h ⟨x, hx, e⟩ => h x hx e⟩
theorem place_there {s : List UInt8} : ∀ {l : List Mk}, hasM l s = true → ∃ h : placeM l s < l.length, l[placeM l s].name = s ∧ l[placeM l s].n = numM l s
  | [], h => by obtain ⟨x, hx, -⟩ := has_iff.1 h; cases hx
  | x :: l, h => by
    by_cases e : x.name = s
    · refine ⟨by rw [placeM, if_pos e]; simp, ?_⟩
      simp only [placeM, numM, if_pos e]
      exact ⟨e, rfl⟩
    · have h2 : hasM l s = true := by
        obtain ⟨y, hy, ey⟩ := has_iff.1 h
        rcases List.mem_cons.1 hy with rfl | hy
        · exact absurd ey e
        · exact has_iff.2 ⟨y, hy, ey⟩
      obtain ⟨h3, h4, h5⟩ := place_there h2
      refine ⟨by rw [placeM, if_neg e, List.length_cons]; omega, ?_⟩
      simp only [placeM, numM, if_neg e]
      exact ⟨h4, h5⟩
theorem place_ahead {s : List UInt8} : ∀ {l : List Mk} (k : Nat) (hk : k < l.length), k < placeM l s → l[k].name ≠ s
  | x :: l, 0, _, h => by
    intro e
    have e' : x.name = s := e
    rw [placeM, if_pos e'] at h
    omega
  | x :: l, k + 1, hk, h => by
    rw [placeM] at h
    split at h
    · omega
    · exact place_ahead (l := l) k (by simpa using hk) (by omega)
theorem num_none {l : List Mk} {s : List UInt8} (h : hasM l s = false) : numM l s = 0 := by
  have h2 := has_not.1 h
  clear h
  induction l with
  | nil => rfl
  | cons x l ih =>
    rw [numM, if_neg (h2 x List.mem_cons_self)]
    exact ih fun y hy => h2 y (List.mem_cons_of_mem _ hy)
theorem num_of {l : List Mk} (h : marks l) : ∀ {x : Mk}, x ∈ l → numM l x.name = x.n := by
  induction l with
  | nil => intro x hx; cases hx
  | cons y l ih =>
    intro x hx
    obtain ⟨h1, h2⟩ := marks_cons.1 h
    rw [numM]
    rcases List.mem_cons.1 hx with rfl | hx
    · rw [if_pos rfl]
    · rw [if_neg (h1 x hx).1, ih h2 hx]
theorem num_mem {l : List Mk} {s : List UInt8} (h : hasM l s = true) : ⟨s, numM l s⟩ ∈ l := by
  obtain ⟨h1, h2, h3⟩ := place_there h
  have := List.getElem_mem h1
  generalize l[placeM l s] = z at this h2 h3
  obtain ⟨a, b⟩ := z
  dsimp only at h2 h3
  subst h2 h3
  exact this
theorem num_in {l : List Mk} (h : ∀ x ∈ l, inI x.n) (s : List UInt8) : inI (numM l s) := by
  cases hh : hasM l s
  · rw [num_none hh]
    unfold inI
    omega
  · exact h _ (num_mem hh)
theorem rem_not {l : List Mk} {s : List UInt8} (h : hasM l s = false) : remM l s = l := by
  unfold remM
  exact List.filter_eq_self.2 fun x hx => decide_eq_true (has_not.1 h x hx)
theorem rem_there {s : List UInt8} : ∀ {l : List Mk}, marks l → hasM l s = true → remM l s = l.take (placeM l s) ++ l.drop (placeM l s + 1)
  | [], _, h => by obtain ⟨x, hx, -⟩ := has_iff.1 h; cases hx
  | x :: l, h, hs => by
    obtain ⟨h1, h2⟩ := marks_cons.1 h
    by_cases e : x.name = s
    · subst e
      rw [placeM, if_pos rfl]
      unfold remM
      rw [List.filter_cons_of_neg (by simp), List.filter_eq_self.2 fun y hy => decide_eq_true (h1 y hy).1.symm]
      rfl
    · have h3 : hasM l s = true := by
        obtain ⟨y, hy, ey⟩ := has_iff.1 hs
        rcases List.mem_cons.1 hy with rfl | hy
        · exact absurd ey e
        · exact has_iff.2 ⟨y, hy, ey⟩
      have ih := rem_there h2 h3
      rw [placeM, if_neg e, List.take_succ_cons, List.drop_succ_cons, List.cons_append, ← ih]
      unfold remM
      rw [List.filter_cons_of_pos (by simp [e])]
theorem rem_len {l : List Mk} {s : List UInt8} (h : marks l) (hs : hasM l s = true) : (remM l s).length + 1 = l.length := by
  obtain ⟨h1, -⟩ := place_there hs
  rw [rem_there h hs, List.length_append, List.length_take, List.length_drop]
  omega
theorem rem_has (l : List Mk) (s : List UInt8) : hasM (remM l s) s = false := has_not.2 fun x hx => ((rem_mem l s x).1 hx).2
theorem rem_other {l : List Mk} {s t : List UInt8} (h : t ≠ s) : hasM (remM l s) t = hasM l t := by
  rw [Bool.eq_iff_iff, has_iff, has_iff]
  constructor
  · rintro ⟨x, hx, e⟩
    exact ⟨x, ((rem_mem l s x).1 hx).1, e⟩
  · rintro ⟨x, hx, e⟩
    exact ⟨x, (rem_mem l s x).2 ⟨hx, by rw [e]; exact h⟩, e⟩
/-- A name's mark with a number. -/
def putZ (l : List Mk) (s : List UInt8) (n : Int) : List Mk := insM (remM l s) ⟨s, n⟩
theorem put_mem (l : List Mk) (s : List UInt8) (n : Int) (y : Mk) : y ∈ putZ l s n ↔ y = ⟨s, n⟩ ∨ (y ∈ l ∧ y.name ≠ s) := by
  unfold putZ
  rw [ins_mem, rem_mem]
theorem put_up {l : List Mk} (s : List UInt8) (n : Int) (h : marks l) : marks (putZ l s n) := ins_up (rem_up s h) fun x hx => ((rem_mem l s x).1 hx).2
theorem put_len {l : List Mk} (s : List UInt8) (n : Int) (h : marks l) : (putZ l s n).length = if hasM l s = true then l.length else l.length + 1 := by
  unfold putZ
  rw [ins_len]
  split
  · rename_i e
    rw [rem_len h e]
  · rename_i e
    rw [rem_not (by simpa using e)]
theorem put_le {l : List Mk} (s : List UInt8) (n : Int) (h : marks l) : l.length ≤ (putZ l s n).length ∧ (putZ l s n).length ≤ l.length + 1 ∧ 1 ≤ (putZ l s n).length := by
  have h1 := put_len s n h
  have h2 : 1 ≤ (putZ l s n).length := by
    unfold putZ
    rw [ins_len]
    omega
  split at h1 <;> omega
theorem put_has (l : List Mk) (s : List UInt8) (n : Int) (t : List UInt8) : hasM (putZ l s n) t = (decide (t = s) || hasM l t) := by
  rw [Bool.eq_iff_iff, has_iff, Bool.or_eq_true, decide_eq_true_eq, has_iff]
  constructor
  · rintro ⟨x, hx, e⟩
    rcases (put_mem l s n x).1 hx with rfl | ⟨h1, h2⟩
    · exact Or.inl e.symm
    · exact Or.inr ⟨x, h1, e⟩
  · rintro (e | ⟨x, hx, e⟩)
    · exact ⟨⟨s, n⟩, (put_mem l s n _).2 (Or.inl rfl), e.symm⟩
    · by_cases h : x.name = s
      · exact ⟨⟨s, n⟩, (put_mem l s n _).2 (Or.inl rfl), by rw [← e]; exact h.symm⟩
      · exact ⟨x, (put_mem l s n x).2 (Or.inr ⟨hx, h⟩), e⟩
theorem put_num {l : List Mk} (s : List UInt8) (n : Int) (h : marks l) : numM (putZ l s n) s = n := num_of (put_up s n h) (x := ⟨s, n⟩) ((put_mem l s n _).2 (Or.inl rfl))
theorem put_num_other {l : List Mk} {s t : List UInt8} (n : Int) (h : marks l) (ht : t ≠ s) : numM (putZ l s n) t = numM l t := by
  cases hh : hasM l t
  · rw [num_none hh]
    exact num_none (by rw [put_has, hh]; simpa using ht)
  · exact num_of (put_up s n h) (x := ⟨t, numM l t⟩) ((put_mem l s n _).2 (Or.inr ⟨num_mem hh, ht⟩))
theorem put_in {l : List Mk} (s : List UInt8) {n : Int} (h : ∀ x ∈ l, inI x.n) (hn : inI n) : ∀ x ∈ putZ l s n, inI x.n := fun x hx => by
  rcases (put_mem l s n x).1 hx with rfl | ⟨h1, -⟩
  · exact hn
  · exact h x h1
/-- Several names' marks taken out. -/
def remA (l : List Mk) (ws : List (List UInt8)) : List Mk := ws.foldl remM l
theorem remA_mem (y : Mk) : ∀ (ws : List (List UInt8)) (l : List Mk), y ∈ remA l ws ↔ y ∈ l ∧ y.name ∉ ws
  | [], l => by simp [remA]
  | s :: ws, l => by
    show y ∈ remA (remM l s) ws ↔ _
    rw [remA_mem y ws, rem_mem, List.mem_cons, not_or]
    constructor
    · rintro ⟨⟨h1, h2⟩, h3⟩
      exact ⟨h1, h2, h3⟩
    · rintro ⟨h1, h2, h3⟩
      exact ⟨⟨h1, h2⟩, h3⟩
theorem remA_up : ∀ (ws : List (List UInt8)) {l : List Mk}, marks l → marks (remA l ws)
  | [], _, h => h
  | s :: ws, _, h => remA_up ws (rem_up s h)
theorem remA_le : ∀ (ws : List (List UInt8)) (l : List Mk), (remA l ws).length ≤ l.length
  | [], l => Nat.le_refl _
  | s :: ws, l => Nat.le_trans (remA_le ws (remM l s)) (rem_le l s)
theorem remA_take (l : List Mk) (ws : List (List UInt8)) (k : Nat) (hk : k < ws.length) : remA l (ws.take (k + 1)) = remM (remA l (ws.take k)) ws[k] := by
  unfold remA
  rw [List.take_add_one, List.foldl_append, List.getElem?_eq_getElem hk]
  rfl
/-- A sorted set as a value; none of no marks. -/
def zV (l : List Mk) : V := if l = [] then v0 else ⟨5, [], [], [], l⟩
theorem zV_some {l : List Mk} (h : 0 < l.length) : zV l = ⟨5, [], [], [], l⟩ := if_neg (by intro e; rw [e] at h; simp at h)
theorem zV_z (l : List Mk) : (zV l).z = l := by
  unfold zV
  split
  · rename_i e
    rw [e]
    rfl
  · rfl
theorem zV_kind (l : List Mk) : (zV l).kind = 0 ∨ (zV l).kind = 5 := by
  unfold zV
  split
  · exact Or.inl rfl
  · exact Or.inr rfl
theorem zV_s (l : List Mk) : (zV l).s = [] := by
  unfold zV
  split <;> rfl
theorem zV_right {l : List Mk} (h : marks l) : right (zV l) := by
  unfold zV
  split
  · exact Or.inl ⟨rfl, rfl, rfl, rfl, rfl⟩
  · rename_i e
    exact Or.inr (Or.inr (Or.inr (Or.inr (Or.inr ⟨rfl, rfl, rfl, rfl, e, h⟩))))
def nZadd : List UInt8 := [122, 97, 100, 100]
def nZrem : List UInt8 := [122, 114, 101, 109]
def nZscore : List UInt8 := [122, 115, 99, 111, 114, 101]
def nZrange : List UInt8 := [122, 114, 97, 110, 103, 101]
def nZcard : List UInt8 := [122, 99, 97, 114, 100]
def nZincrby : List UInt8 := [122, 105, 110, 99, 114, 98, 121]
def nameD (k : Nat) : List UInt8 :=
  match k with
  | 0 => nZadd
  | 1 => nZrem
  | 2 => nZscore
  | 3 => nZrange
  | 4 => nZcard
  | _ => nZincrby
def needD (k : Nat) : Nat :=
  match k with
  | 0 => 4
  | 1 => 3
  | 2 => 3
  | 3 => 4
  | 4 => 2
  | _ => 4
/-- The part of a row that num.Part tells. -/
def partM (L : List Mk) (a b : List UInt8) : List Mk := (L.take (partV (L.length : Int) a b).2.1.toNat).drop (partV (L.length : Int) a b).1.toNat
def partB (L : List Mk) (a b : List UInt8) : Bool := (partV (L.length : Int) a b).2.2
/-- What the k-th command (zadd zrem zscore zrange zcard zincrby) makes of a sorted set, with the words from the third on. -/
def rowD (k : Nat) (L : List Mk) (A : List (List UInt8)) : List Mk × List UInt8 :=
  match k with
  | 0 => if pB (wd A 0) = true then (putZ L (wd A 1) (pV (wd A 0)), int (((putZ L (wd A 1) (pV (wd A 0))).length : Int) - (L.length : Int))) else (L, eInt)
  | 1 => (remA L A, int ((L.length : Int) - ((remA L A).length : Int)))
  | 2 => (L, if hasM L (wd A 0) = true then bulk (itoa (numM L (wd A 0))) else null)
  | 3 => (L, if partB L (wd A 0) (wd A 1) = true then texts (mnames (partM L (wd A 0) (wd A 1))) else eInt)
  | 4 => (L, int (L.length : Int))
  | _ => if pB (wd A 0) = true then (if addB (numM L (wd A 1)) (pV (wd A 0)) = true then (putZ L (wd A 1) (addV (numM L (wd A 1)) (pV (wd A 0))), bulk (itoa (addV (numM L (wd A 1)) (pV (wd A 0))))) else (L, eOver)) else (L, eInt)
/-- What a sorted set may be, and how long its names and the words. -/
def Tame (k : Nat) (L : List Mk) (A : List (List UInt8)) : Prop :=
  marks L ∧ (∀ x ∈ L, inI x.n) ∧ L.length + 1 ≤ 1048576 ∧ match k with
  | 0 => 2 ≤ A.length ∧ (wd A 0).length ≤ 281474976710656
  | 1 => A.length ≤ 1048576
  | 2 => 1 ≤ A.length
  | 3 => 2 ≤ A.length ∧ L.length ≤ 4096 ∧ (mnames L).flatten.length ≤ 1048576 ∧ (wd A 0).length ≤ 281474976710656 ∧ (wd A 1).length ≤ 281474976710656
  | 4 => True
  | _ => 2 ≤ A.length ∧ (wd A 0).length ≤ 281474976710656
def doD (k : Nat) (d : V) (L : List (List UInt8)) : V × List UInt8 := if d.kind = 0 ∨ d.kind = 5 then (zV (rowD k d.z (L.drop 2)).1, (rowD k d.z (L.drop 2)).2) else (d, eWrong)
theorem doD_wrong {i : Nat} {d : V} {L : List (List UInt8)} (h : d.kind ≠ 0 ∧ d.kind ≠ 5) : doD i d L = (d, eWrong) := if_neg (by omega)
theorem doD_right {i : Nat} {d : V} {L : List (List UInt8)} (h : d.kind = 0 ∨ d.kind = 5) : doD i d L = (zV (rowD i d.z (L.drop 2)).1, (rowD i d.z (L.drop 2)).2) := if_pos h
theorem kinds (d : V) : (d.kind = 0 ∨ d.kind = 5) ∨ (d.kind ≠ 0 ∧ d.kind ≠ 5) := by omega
theorem row_up (k : Nat) {L : List Mk} (A : List (List UInt8)) (h : marks L) : marks (rowD k L A).1 := by
  match k with
  | 0 =>
    simp only [rowD]
    split
    · exact put_up _ _ h
    · exact h
  | 1 => exact remA_up A h
  | 2 => exact h
  | 3 => exact h
  | 4 => exact h
  | k + 5 =>
    simp only [rowD]
    split
    · split
      · exact put_up _ _ h
      · exact h
    · exact h
theorem row_len (k : Nat) {L : List Mk} (A : List (List UInt8)) (h : marks L) : (rowD k L A).1.length ≤ L.length + 1 := by
  match k with
  | 0 =>
    simp only [rowD]
    split
    · exact (put_le _ _ h).2.1
    · exact Nat.le_succ _
  | 1 => exact Nat.le_succ_of_le (remA_le A L)
  | 2 => exact Nat.le_succ _
  | 3 => exact Nat.le_succ _
  | 4 => exact Nat.le_succ _
  | k + 5 =>
    simp only [rowD]
    split
    · split
      · exact (put_le _ _ h).2.1
      · exact Nat.le_succ _
    · exact Nat.le_succ _
theorem add_in (a b : Int) (ha : inI a) (hb : inI b) : inI (addV a b) := by
  unfold addV
  split
  · assumption
  · unfold inI
    omega
theorem row_in (k : Nat) {L : List Mk} (A : List (List UInt8)) (h : ∀ x ∈ L, inI x.n) : ∀ x ∈ (rowD k L A).1, inI x.n := by
  have hp : inI (pV (wd A 0)) := pV_bounds _
  match k with
  | 0 =>
    simp only [rowD]
    split
    · exact put_in _ h hp
    · exact h
  | 1 => exact fun x hx => h x ((remA_mem x A L).1 hx).1
  | 2 => exact h
  | 3 => exact h
  | 4 => exact h
  | k + 5 =>
    simp only [rowD]
    split
    · split
      · exact put_in _ h (add_in _ _ (num_in h _) hp)
      · exact h
    · exact h
/-- The document's own way of putting a mark in. -/
theorem putM_is {l : List Mk} (m : Mk) (h : marks l) : putM l m = putZ l m.name m.n := by
  refine marks_ext (putM_marks m h).1 (put_up _ _ h) fun y => ?_
  obtain ⟨l1, l2, e, a1, a2, a3⟩ := putMS_false m l [] h
  have e3 : putM l m = l1.filter (fun x => decide (x.name ≠ m.name)) ++ [m] ++ l2.filter (fun x => decide (x.name ≠ m.name)) := by
    unfold putM
    rw [a3]
    simp
  rw [e3, put_mem, e]
  simp only [List.mem_append, List.mem_filter, List.mem_singleton, decide_eq_true_eq]
  constructor
  · rintro ((⟨h1, h2⟩ | h1) | ⟨h1, h2⟩)
    · exact Or.inr ⟨Or.inl h1, h2⟩
    · exact Or.inl h1
    · exact Or.inr ⟨Or.inr h1, h2⟩
  · rintro (h1 | ⟨h1 | h1, h2⟩)
    · exact Or.inl (Or.inr h1)
    · exact Or.inl (Or.inl ⟨h1, h2⟩)
    · exact Or.inr ⟨h1, h2⟩
theorem part_flat (L : List Mk) (x y : Nat) : (mnames ((L.take y).drop x)).flatten.length ≤ (mnames L).flatten.length := by
  have h1 : (mnames (L.take y)).flatten.length + (mnames (L.drop y)).flatten.length = (mnames L).flatten.length := by
    rw [← List.length_append, ← List.flatten_append]
    unfold mnames
    rw [← List.map_append, List.take_append_drop]
  have h2 : (mnames ((L.take y).take x)).flatten.length + (mnames ((L.take y).drop x)).flatten.length = (mnames (L.take y)).flatten.length := by
    rw [← List.length_append, ← List.flatten_append]
    unfold mnames
    rw [← List.map_append, List.take_append_drop]
  omega
theorem partV_in (n : Nat) (a b : List UInt8) : ∃ x y : Nat, (partV (n : Int) a b).1 = (x : Int) ∧ (partV (n : Int) a b).2.1 = (y : Int) ∧ x ≤ y ∧ y ≤ n := by
  have hz : ∃ x y : Nat, (0 : Int) = (x : Int) ∧ (0 : Int) = (y : Int) ∧ x ≤ y ∧ y ≤ n := ⟨0, 0, rfl, rfl, Nat.le_refl _, Nat.zero_le _⟩
  unfold partV partR
  split
  · split
    · exact hz
    · obtain ⟨h1, h2, h3⟩ := boundsI_lt (n : Int) (pV a) (pV b)
      exact ⟨(boundsI (n : Int) (pV a) (pV b)).1.toNat, (boundsI (n : Int) (pV a) (pV b)).2.toNat, by show (boundsI (n : Int) (pV a) (pV b)).1 = _; omega, by show (boundsI (n : Int) (pV a) (pV b)).2 = _; omega, by omega, by omega⟩
  · exact hz

end Go.Proofs.YtodpocciimbjbaaDoor.SrtT
namespace Go.Proofs.YtodpocciimbjbaaDoor.SrtM
open Go.RowKit Kit StrT RowG BOrd ValT ReplyMath Low DoT SrtT ValM RefV
open Go.Op (bytesLess)
set_option linter.unusedVariables false
set_option maxRecDepth 100000

set_option maxHeartbeats 2000000 in
theorem or_any (g : Nat) (a b : Int) (w : World) (h0 : w.cell? ⟨g, 0, none⟩ = some (.int .i64 a)) (h1 : w.cell? ⟨g, 1, none⟩ = some (.int .i64 b)) :
    Calls Tryd.prog 78 #[.slice (some ⟨g, 0, none⟩) 2 2] w fun e w' => e = .returned (.int .i64 (if a = 0 then b else a)) ∧ w' = w := by
  by_cases ha : a = 0
  · rw [if_pos ha]
    subst ha
    by_cases hb : b = 0
    · subst hb
      go_enter Tryd.func78, Tryd.ntmps78
      go_wp2_with fail
      go_loopw [8] (fun i wr => ∃ k : Nat, k ≤ 2 ∧ i = .int .i64 (k : Int) ∧ wr = w) (fun i _ => 2 - (intOf i).toNat)
      case atStart => exact ⟨0, by omega, rfl, rfl⟩
      case round =>
        obtain ⟨k, hk, rfl, rfl⟩ := hrel
        rcases (by omega : k = 0 ∨ k = 1 ∨ k = 2) with rfl | rfl | rfl
        · go_wp2_with fail
          go_roundw
          case rel => exact ⟨1, by omega, by first | rfl | trivial, by first | rfl | trivial⟩
          case measure => simp [intOf]
        · go_wp2_with fail
          go_roundw
          case rel => exact ⟨2, by omega, by first | rfl | trivial, by first | rfl | trivial⟩
          case measure => simp [intOf]
        · go_wp2_with fail
          go_ret
          exact ⟨rfl, rfl⟩
    · have e1 : (b != 0) = true := by simpa using hb
      go_enter Tryd.func78, Tryd.ntmps78
      go_wp2_with fail
      go_loopw [8] (fun i wr => ∃ k : Nat, k ≤ 1 ∧ i = .int .i64 (k : Int) ∧ wr = w) (fun i _ => 2 - (intOf i).toNat)
      case atStart => exact ⟨0, by omega, rfl, rfl⟩
      case round =>
        obtain ⟨k, hk, rfl, rfl⟩ := hrel
        rcases (by omega : k = 0 ∨ k = 1) with rfl | rfl
        · go_wp2_with fail
          go_roundw
          case rel => exact ⟨1, by omega, by first | rfl | trivial, by first | rfl | trivial⟩
          case measure => simp [intOf]
        · go_wp2_with fail
          go_ret
          exact ⟨rfl, rfl⟩
  · rw [if_neg ha]
    have e1 : (a != 0) = true := by simpa using ha
    go_enter Tryd.func78, Tryd.ntmps78
    go_wp2_with fail
    go_loopw [8] (fun i wr => i = .int .i64 0 ∧ wr = w) (fun i _ => 2 - (intOf i).toNat)
    case atStart => exact ⟨rfl, rfl⟩
    case round =>
      obtain ⟨rfl, rfl⟩ := hrel
      go_wp2_with fail
      go_ret
      exact ⟨rfl, rfl⟩
theorem or_cmp (x y : Int) (A C : List UInt8) : (if Lib.compareInt x y = 0 then Lib.compareBytes A C else Lib.compareInt x y) = cmpM ⟨A, x⟩ ⟨C, y⟩ := rfl
theorem two_cells (W : World) (a b : Value) (k : Nat) (hk : k = W.heap.size) : (W.alloc (.cells #[a, b] 3)).cell? ⟨k, 0, none⟩ = some a ∧ (W.alloc (.cells #[a, b] 3)).cell? ⟨k, 1, none⟩ = some b := by
  subst hk
  constructor <;> (rw [cell_of_row _ _ _ _ 3 _ (heap_alloc_last W _)]; rfl)

set_option maxHeartbeats 4000000 in
theorem inOrder_any (A C : ByteArray) (x y : Int) (w : World) :
    Calls Tryd.prog 69 #[.agg #[.string A, .int .i64 x], .agg #[.string C, .int .i64 y]] w fun e w' => e = .returned (.int .i64 (cmpM ⟨A.data.toList, x⟩ ⟨C.data.toList, y⟩)) ∧ Below w.heap.size w w' := by
  have c0 : ((w.alloc (.cells #[.string A, .int .i64 x] 39)).alloc (.cells #[.string C, .int .i64 y] 39)).cell? ⟨w.heap.size, 0, none⟩ = some (.string A) := by
    rw [cell_of_row _ _ _ _ 39 _ (heap_alloc2_old w _ _)]
    rfl
  have c1 : ((w.alloc (.cells #[.string A, .int .i64 x] 39)).alloc (.cells #[.string C, .int .i64 y] 39)).cell? ⟨w.heap.size, 1, none⟩ = some (.int .i64 x) := by
    rw [cell_of_row _ _ _ _ 39 _ (heap_alloc2_old w _ _)]
    rfl
  have d0 : ((w.alloc (.cells #[.string A, .int .i64 x] 39)).alloc (.cells #[.string C, .int .i64 y] 39)).cell? ⟨w.heap.size + 1, 0, none⟩ = some (.string C) := by
    rw [cell_of_row _ _ _ _ 39 _ (heap_alloc2_new w _ _)]
    rfl
  have d1 : ((w.alloc (.cells #[.string A, .int .i64 x] 39)).alloc (.cells #[.string C, .int .i64 y] 39)).cell? ⟨w.heap.size + 1, 1, none⟩ = some (.int .i64 y) := by
    rw [cell_of_row _ _ _ _ 39 _ (heap_alloc2_new w _ _)]
    rfl
  have HB := Lib.hid (show Below w.heap.size w ((w.alloc (.cells #[.string A, .int .i64 x] 39)).alloc (.cells #[.string C, .int .i64 y] 39)) from ((Below.refl _ _).alloc (Nat.le_refl _) _).alloc (by simp) _)
  have HO := Lib.hid (or_cmp x y A.data.toList C.data.toList)
  have CC := Lib.hid (fun W => Tryd.strings_Compare A C W)
  have CN := Lib.hid (fun W => Tryd.cmp_Compare_int x y W)
  obtain ⟨U, hU⟩ : ∃ U, U = Lib.compareInt x y := ⟨_, rfl⟩
  obtain ⟨V, hV⟩ : ∃ V, V = Lib.compareBytes A.data.toList C.data.toList := ⟨_, rfl⟩
  rw [← hU] at CN HO
  rw [← hV] at CC HO
  clear hU hV
  go_enter Tryd.func69, Tryd.ntmps69
  go_wp2_with fail
  refine wp_region_quiet_tail_lit 10 (by kernel_rfl) (by kernel_rfl) ?_
  simp only [List.take_succ_cons, List.take_zero, List.drop_succ_cons, List.drop_zero]
  repeat (go_big_quiet_step (first | (go_at_call 80; with_reducible exact Calls.quiet_of_same (CC.out _)) | (go_at_call 79; with_reducible exact Calls.quiet_of_same (CN.out _))))
  refine wpQuiet_nil ?_
  rintro _ ⟨nq, rfl⟩
  have HBq := Lib.hid (drewN_below HB.out nq)
  clear c0 c1 d0 d1
  generalize World.drewN _ nq = w5 at HBq ⊢
  obtain ⟨e0, e1⟩ := two_cells w5 (.int .i64 U) (.int .i64 V) w5.heap.size rfl
  have HB6 := Lib.hid (HBq.out.alloc HBq.out.size (.cells #[.int .i64 U, .int .i64 V] 3))
  have CO := Lib.hid (or_any w5.heap.size U V _ e0 e1)
  obtain ⟨Z, hZ⟩ : ∃ Z, Z = if U = 0 then V else U := ⟨_, rfl⟩
  rw [← hZ] at CO HO
  clear hZ e0 e1
  go_wp2_with (go_at_call 78; with_reducible refine CO.out.mono ?_; rintro e w6 ⟨rfl, rfl⟩)
  go_ret
  exact ⟨ret_int HO.out, HB6.out⟩
theorem str_of (l : List UInt8) : ∃ S : ByteArray, S.data.toList = l ∧ (⟨l.toArray⟩ : ByteArray) = S := ⟨⟨l.toArray⟩, rfl, rfl⟩

/-- What is told of where a name's mark stands. -/
def placeI (L : List Mk) (s : List UInt8) : Int := if hasM L s = true then (placeM L s : Int) else 0
theorem place_is {L : List Mk} {s : List UInt8} {k : Nat} (hk : k < L.length) (h : ∀ j (hj : j < L.length), j < k → L[j].name ≠ s) (he : L[k].name = s) : placeI L s = (k : Int) ∧ hasM L s = true := by
  have h1 : hasM L s = true := has_iff.2 ⟨_, List.getElem_mem hk, he⟩
  obtain ⟨h2, h3, -⟩ := place_there h1
  have h4 : placeM L s = k := by
    rcases Nat.lt_trichotomy (placeM L s) k with h5 | h5 | h5
    · exact absurd h3 (h _ h2 h5)
    · exact h5
    · exact absurd he (place_ahead k hk h5)
  exact ⟨by unfold placeI; rw [if_pos h1, h4], h1⟩
theorem place_not {L : List Mk} {s : List UInt8} (h : ∀ j (hj : j < L.length), L[j].name ≠ s) : placeI L s = 0 ∧ hasM L s = false := by
  have h1 : hasM L s = false := has_not.2 fun x hx => by
    obtain ⟨j, hj, e⟩ := List.getElem_of_mem hx
    rw [← e]
    exact h j hj
  exact ⟨by unfold placeI; rw [h1]; rfl, h1⟩

set_option maxHeartbeats 4000000 in
theorem place_any (q : Option Addr) (L : List Mk) (n c : Nat) (S : ByteArray) (w : World) (hn : L.length = n) (hR : Rs mkE w q L) (hz : n ≤ 1048576) :
    Calls Tryd.prog 62 #[.slice q n c, .string S] w fun e w' => e = .returned (.tuple #[.int .i64 (placeI L S.data.toList), .bool (hasM L S.data.toList)]) ∧ Below w.heap.size w w' := by
  have HS := Lib.hid hR
  have HN := Lib.hid hn
  obtain ⟨s, hs⟩ : ∃ s, s = S.data.toList := ⟨_, rfl⟩
  rw [← hs]
  have HSd := Lib.hid hs
  clear hn hR hs
  go_enter Tryd.func62, Tryd.ntmps62
  go_wp2_with fail
  go_loopw [10] (fun i wr => ∃ k : Nat, k ≤ n ∧ i = .int .i64 (k : Int) ∧ Hid (∀ j (hj : j < L.length), j < k → L[j].name ≠ s) ∧ Hid (Below w.heap.size w wr)) (fun i _ => n - (intOf i).toNat)
  case atStart => exact ⟨0, Nat.zero_le _, rfl, Lib.hid (fun j _ h => absurd h (by omega)), Lib.hid (Below.refl _ _)⟩
  case round =>
    obtain ⟨k, hk, rfl, HF, HB⟩ := hrel
    rename World => wr
    by_cases hlt : k < n
    · have d1 : decide ((k : Int) < (n : Int)) = true := decide_eq_true (by omega)
      have hk0 : (0 : Int) ≤ (k : Int) := by omega
      have hkn : (k : Int) < (n : Int) := by omega
      obtain ⟨b, off, e1, hbl, u0, u1⟩ := mark_cells (HS.out.keep HB.out) k (by rw [HN.out]; exact hlt)
      obtain ⟨x, hx⟩ : ∃ x, x = (L[k]'(by rw [HN.out]; exact hlt)).n := ⟨_, rfl⟩
      obtain ⟨T, hT, hT2⟩ := str_of (L[k]'(by rw [HN.out]; exact hlt)).name
      rw [hT2] at u0
      rw [← hx] at u1
      subst e1
      have HA := Lib.hid (HB.out.trans ((ReplyT.below1 wr (.cells #[.string T, .int .i64 x] 39)).mono HB.out.size))
      have v0 : (wr.alloc (.cells #[.string T, .int .i64 x] 39)).cell? ⟨wr.heap.size, 0, none⟩ = some (.string T) := by
        rw [cell_of_row _ _ _ _ 39 _ (heap_alloc_last wr _)]
        rfl
      by_cases hname : (L[k]'(by rw [HN.out]; exact hlt)).name = s
      · have hE : (T.toList == S.toList) = true := by rw [ByteArray.toList_eq, ByteArray.toList_eq, hT, ← HSd.out, hname]; simp
        have HE := Lib.hid (place_is (by rw [HN.out]; exact hlt) HF.out hname)
        clear hx hT hT2 hname hbl
        go_wp2_with fail
        go_ret2
        rw [HE.out.1, HE.out.2]
        exact ⟨rfl, HA.out⟩
      · have hE : (T.toList == S.toList) = false := by
          rw [ByteArray.toList_eq, ByteArray.toList_eq, hT, ← HSd.out]
          simpa using hname
        have HF2 := Lib.hid (show ∀ j (hj : j < L.length), j < k + 1 → L[j].name ≠ s from fun j hj h => by
          rcases Nat.lt_or_ge j k with h1 | h1
          · exact HF.out j hj h1
          · obtain rfl : j = k := by omega
            exact hname)
        clear hx hT hT2 hname hbl HF
        go_wp2_with fail
        go_roundw
        case rel => exact ⟨k + 1, by omega, by first | rfl | trivial, HF2, HA⟩
        case measure => simp [intOf]; omega
    · have d1 : decide ((k : Int) < (n : Int)) = false := decide_eq_false (by omega)
      have HE := Lib.hid (place_not (L := L) (s := s) fun j hj => HF.out j hj (by have := HN.out; omega))
      go_wp2_with fail
      go_ret2
      rw [HE.out.1, HE.out.2]
      exact ⟨rfl, HB.out⟩

set_option maxHeartbeats 4000000 in
theorem number_any (q : Option Addr) (L : List Mk) (n c : Nat) (S : ByteArray) (w : World) (hn : L.length = n) (hR : Rs mkE w q L) (hz : n ≤ 1048576) :
    Calls Tryd.prog 51 #[.slice q n c, .string S] w fun e w' => e = .returned (.tuple #[.int .i64 (numM L S.data.toList), .bool (hasM L S.data.toList)]) ∧ Below w.heap.size w w' := by
  have C := Lib.hid (place_any q L n c S w hn hR hz)
  cases hh : hasM L S.data.toList
  · have HZ := Lib.hid (num_none hh)
    have hp : placeI L S.data.toList = 0 := by unfold placeI; rw [hh]; rfl
    rw [hh, hp] at C
    generalize numM L S.data.toList = Z at HZ ⊢
    clear hn hR hz hh hp
    go_enter Tryd.func51, Tryd.ntmps51
    go_wp2_with fail
    with_reducible refine C.out.mono ?_
    rintro e w1 ⟨rfl, hb⟩
    go_wp2_with fail
    go_ret2
    rw [HZ.out]
    exact ⟨rfl, hb⟩
  · obtain ⟨h1, h2, h3⟩ := place_there hh
    have hp : placeI L S.data.toList = (placeM L S.data.toList : Int) := by unfold placeI; rw [if_pos hh]
    rw [hh, hp] at C
    obtain ⟨b, off, e1, hbl, u0, u1⟩ := mark_cells hR (placeM L S.data.toList) h1
    rw [h3] at u1
    generalize numM L S.data.toList = Z at u1 ⊢
    generalize placeM L S.data.toList = k at C u1 h1
    subst e1
    have HU := Lib.hid (fun W (hb : Below w.heap.size w W) => (hb.cell (p := ⟨b, off + k * 2 + 1, none⟩) hbl).trans u1)
    have hk0 : (0 : Int) ≤ (k : Int) := by omega
    have hkn : (k : Int) < (n : Int) := by omega
    clear hn hR hz hh hp u0 u1 h2 h3
    go_enter Tryd.func51, Tryd.ntmps51
    go_wp2_with fail
    with_reducible refine C.out.mono ?_
    rintro e w1 ⟨rfl, hb⟩
    have u1 := HU.out _ hb
    go_wp2_with fail
    go_ret2
    exact ⟨rfl, hb⟩

end Go.Proofs.YtodpocciimbjbaaDoor.SrtM
namespace Go.Proofs.YtodpocciimbjbaaDoor.SrtM
open Go.RowKit Kit StrT RowG BOrd ValT ReplyMath Low DoT SrtT ValM RefV
open Go.Op (bytesLess)
set_option linter.unusedVariables false
set_option maxRecDepth 100000

set_option maxHeartbeats 8000000 in
theorem search_any (q : Option Addr) (L : List Mk) (n c : Nat) (S : ByteArray) (N : Int) (w : World) (hn : L.length = n) (hR : Rs mkE w q L) (hU : marks L) (hz : n ≤ 1048576) :
    Calls Tryd.prog 68 #[.slice q n c, .agg #[.string S, .int .i64 N], .func (.func 69) #[] #[]] w fun e w' => (∃ t, e = .returned (.tuple #[.int .i64 (posM L ⟨S.data.toList, N⟩ : Nat), .bool t])) ∧ Below w.heap.size w w' := by
  have HS := Lib.hid (hR.keep (ReplyT.below1 w (.cells #[.string S, .int .i64 N] 39)))
  have HN := Lib.hid hn
  have hp : posM L ⟨S.data.toList, N⟩ ≤ n := by rw [← hn]; exact pos_le _ _
  have HL := Lib.hid (fun k hk => lt_pos ⟨S.data.toList, N⟩ hU k hk)
  have g0 : (w.alloc (.cells #[.string S, .int .i64 N] 39)).cell? ⟨w.heap.size, 0, none⟩ = some (.string S) := by
    rw [cell_of_row _ _ _ _ 39 _ (heap_alloc_last w _)]
    rfl
  have g1 : (w.alloc (.cells #[.string S, .int .i64 N] 39)).cell? ⟨w.heap.size, 1, none⟩ = some (.int .i64 N) := by
    rw [cell_of_row _ _ _ _ 39 _ (heap_alloc_last w _)]
    rfl
  have HG := Lib.hid (fun W (h : Below (w.alloc (.cells #[.string S, .int .i64 N] 39)).heap.size (w.alloc (.cells #[.string S, .int .i64 N] 39)) W) => (⟨(h.cell (p := ⟨w.heap.size, 0, none⟩) (by simp)).trans g0, (h.cell (p := ⟨w.heap.size, 1, none⟩) (by simp)).trans g1⟩ : W.cell? ⟨w.heap.size, 0, none⟩ = some (.string S) ∧ W.cell? ⟨w.heap.size, 1, none⟩ = some (.int .i64 N)))
  have HB0 := Lib.hid (ReplyT.below1 w (.cells #[.string S, .int .i64 N] 39))
  obtain ⟨p, hpe⟩ : ∃ p, p = posM L ⟨S.data.toList, N⟩ := ⟨_, rfl⟩
  rw [← hpe]
  rw [← hpe] at hp HL
  clear hn hR hU hpe g0 g1
  go_enter Tryd.func68, Tryd.ntmps68
  go_wp2_with fail
  generalize w.alloc (.cells #[.string S, .int .i64 N] 39) = w1 at HS HG HB0 ⊢
  go_loopw [9, 10] (fun i j wr => ∃ lo hi : Nat, i = .int .i64 (lo : Int) ∧ j = .int .i64 (hi : Int) ∧ lo ≤ p ∧ p ≤ hi ∧ hi ≤ n ∧ Hid (Below w1.heap.size w1 wr)) (fun i j _ => (intOf j - intOf i).toNat)
  case atStart => exact ⟨0, n, rfl, rfl, Nat.zero_le _, hp, Nat.le_refl _, Lib.hid (Below.refl _ _)⟩
  case round =>
    obtain ⟨lo, hi, rfl, rfl, h1, h2, h3, HB⟩ := hrel
    rename World => wr
    obtain ⟨g0, g1⟩ := HG.out _ HB.out
    by_cases hlt : lo < hi
    · obtain ⟨b, off, rfl, hbl, u0, u1⟩ := mark_cells (HS.out.keep HB.out) ((lo + hi) / 2) (by rw [HN.out]; omega)
      have hL := HL.out ((lo + hi) / 2) (by rw [HN.out]; omega)
      obtain ⟨A, hA, hA2⟩ := str_of (L[(lo + hi) / 2]'(by rw [HN.out]; omega)).name
      obtain ⟨x, hx⟩ : ∃ x, x = (L[(lo + hi) / 2]'(by rw [HN.out]; omega)).n := ⟨_, rfl⟩
      rw [hA2] at u0
      rw [← hx] at u1
      rw [show L[(lo + hi) / 2]'(by rw [HN.out]; omega) = ⟨A.data.toList, x⟩ by rw [hA, hx]] at hL
      have CF := Lib.hid (fun W => inOrder_any A S x N W)
      rw [← ltM_cmp] at hL
      obtain ⟨V, hV⟩ : ∃ V, V = cmpM ⟨A.data.toList, x⟩ ⟨S.data.toList, N⟩ := ⟨_, rfl⟩
      rw [← hV] at hL CF
      have m0 : (0 : Int) ≤ ((lo : Int) + (hi : Int)) / 2 := by omega
      have m1 : ((lo : Int) + (hi : Int)) / 2 < (n : Int) := by omega
      clear hA hA2 hx hV hbl hp
      have x0 := fun d os => cell_regrown u0 d os
      have x1 := fun d os => cell_regrown u1 d os
      have y0 := fun d os => cell_regrown g0 d os
      have y1 := fun d os => cell_regrown g1 d os
      by_cases hc : V < 0
      · have hlp : (lo + hi) / 2 < p := hL.1 hc
        have hd : decide (V < 0) = true := decide_eq_true hc
        clear hL
        go_wp2_with fail
        refine wp_region_quiet_below (by kernel_rfl) (by kernel_rfl) ?_
        repeat (any_goals (go_big_quiet_step ((go_at_call 69; with_reducible exact Calls.regrown_of (CF.out _)))))
        refine wpQuiet_nil ?_
        intro _ hw'
        obtain ⟨⟨dq, osq⟩, hw''⟩ := hw'
        subst hw''
        have hbq := Lib.hid (HB.out.trans ((below_regrown wr dq osq).mono HB.out.size))
        clear u0 u1 x0 x1 y0 y1 g0 g1
        generalize Go.Sort.grow (redrawn wr dq) osq = wq at hbq ⊢
        go_wp2_with fail
        go_roundw
        case rel => exact ⟨(lo + hi) / 2 + 1, hi, by rw [show ((lo : Int) + (hi : Int)) / 2 + 1 = (((lo + hi) / 2 + 1 : Nat) : Int) by omega], rfl, by omega, h2, h3, hbq⟩
        case measure => simp [intOf]; omega
      · have hlp : p ≤ (lo + hi) / 2 := by
          rcases Nat.lt_or_ge ((lo + hi) / 2) p with h | h
          · exact absurd (hL.2 h) hc
          · exact h
        have hd : decide (V < 0) = false := decide_eq_false hc
        clear hL
        go_wp2_with fail
        refine wp_region_quiet_below (by kernel_rfl) (by kernel_rfl) ?_
        repeat (any_goals (go_big_quiet_step ((go_at_call 69; with_reducible exact Calls.regrown_of (CF.out _)))))
        refine wpQuiet_nil ?_
        intro _ hw'
        obtain ⟨⟨dq, osq⟩, hw''⟩ := hw'
        subst hw''
        have hbq := Lib.hid (HB.out.trans ((below_regrown wr dq osq).mono HB.out.size))
        clear u0 u1 x0 x1 y0 y1 g0 g1
        generalize Go.Sort.grow (redrawn wr dq) osq = wq at hbq ⊢
        go_wp2_with fail
        go_roundw
        case rel => exact ⟨lo, (lo + hi) / 2, rfl, by rw [show ((lo : Int) + (hi : Int)) / 2 = (((lo + hi) / 2 : Nat) : Int) by omega], h1, by omega, by omega, hbq⟩
        case measure => simp [intOf]; omega
    · obtain rfl : p = lo := by omega
      obtain rfl : p = hi := by omega
      have hd0 : decide ((p : Int) < (p : Int)) = false := decide_eq_false (by omega)
      by_cases hpl : p < n
      · obtain ⟨b, off, rfl, hbl, u0, u1⟩ := mark_cells (HS.out.keep HB.out) p (by rw [HN.out]; exact hpl)
        obtain ⟨A, hA, hA2⟩ := str_of (L[p]'(by rw [HN.out]; exact hpl)).name
        obtain ⟨x, hx⟩ : ∃ x, x = (L[p]'(by rw [HN.out]; exact hpl)).n := ⟨_, rfl⟩
        rw [hA2] at u0
        rw [← hx] at u1
        have CF := Lib.hid (fun W => inOrder_any A S x N W)
        obtain ⟨V, hV⟩ : ∃ V, V = cmpM ⟨A.data.toList, x⟩ ⟨S.data.toList, N⟩ := ⟨_, rfl⟩
        rw [← hV] at CF
        have hpI : (p : Int) < (n : Int) := by omega
        have hd : decide ((p : Int) < (n : Int)) = true := decide_eq_true hpI
        have hp0 : (0 : Int) ≤ (p : Int) := by omega
        obtain ⟨tv, htv⟩ : ∃ tv, (V == 0) = tv := ⟨_, rfl⟩
        clear hA hA2 hx hV hbl hp h1 h2 h3 hlt
        have x0 := fun d os => cell_regrown u0 d os
        have x1 := fun d os => cell_regrown u1 d os
        have y0 := fun d os => cell_regrown g0 d os
        have y1 := fun d os => cell_regrown g1 d os
        go_wp2_with fail
        refine wp_region_quiet_below (by kernel_rfl) (by kernel_rfl) ?_
        repeat (any_goals (go_big_quiet_step ((go_at_call 69; with_reducible exact Calls.regrown_of (CF.out _)))))
        refine wpQuiet_nil ?_
        intro _ hw'
        obtain ⟨⟨dq, osq⟩, hw''⟩ := hw'
        subst hw''
        have hbq := Lib.hid (HB.out.trans ((below_regrown wr dq osq).mono HB.out.size))
        clear u0 u1 x0 x1 y0 y1 g0 g1
        generalize Go.Sort.grow (redrawn wr dq) osq = wq at hbq ⊢
        go_wp2_with fail
        go_ret2
        exact ⟨⟨_, rfl⟩, HB0.out.trans (hbq.out.mono HB0.out.size)⟩
      · have hd : decide ((p : Int) < (n : Int)) = false := decide_eq_false (by omega)
        clear hp h1 h2 h3 hlt g0 g1
        go_wp2_with fail
        refine wp_region_quiet_below (by kernel_rfl) (by kernel_rfl) ?_
        repeat (any_goals (go_big_quiet_step (fail)))
        refine wpQuiet_nil ?_
        intro _ hw'
        obtain ⟨⟨dq, osq⟩, hw''⟩ := hw'
        subst hw''
        have hbq := Lib.hid (HB.out.trans ((below_regrown wr dq osq).mono HB.out.size))
        generalize Go.Sort.grow (redrawn wr dq) osq = wq at hbq ⊢
        go_wp2_with fail
        go_ret2
        exact ⟨⟨_, rfl⟩, HB0.out.trans (hbq.out.mono HB0.out.size)⟩

end Go.Proofs.YtodpocciimbjbaaDoor.SrtM
namespace Go.Proofs.YtodpocciimbjbaaDoor.SrtM
open Go.RowKit Kit StrT RowG BOrd ValT ReplyMath Low DoT SrtT ValM RefV
set_option linter.unusedVariables false
set_option maxRecDepth 100000

section
variable {α : Type} {E : Enc α} {w : World} {g n cap : Nat} {L : List α}
theorem made_own (h : Made E w g cap) : OwnB E w g 0 cap [] := by
  obtain ⟨cur, h1, h2, h3⟩ := h
  exact ⟨rfl, Nat.zero_le _, cur, h1, by unfold maxLen at h2; omega, h3, by simp [RowG.flat]⟩
theorem wpList_make_i (E : Enc α) {w : World} {ops : Array Oper} {rest : List Oper} {o : Oper} {a : Act} {Q : Exit → Act → World → Prop} (hgd : o.guard = none) (l c : Operand) (hop : o.op = Op.makeSlice E.slt l c) (N : Int) (n : Nat) (hN : N = (n : Int)) (hl : a.eval l = .int .i64 N) (hc : a.eval c = .int .i64 N) (hn : n ≤ 1048576)
    (hK : ∀ w', Made E w' w.heap.size n → Below w.heap.size w w' → wpList Tryd.prog ops Q rest (a.put o.dst (.slice (some ⟨w.heap.size, 0, none⟩) n n)) w') : wpList Tryd.prog ops Q (o :: rest) a w := by
  subst hN
  exact wpList_make_r E hgd l c hop n hl hc hn hK
/-- A copy behind what stands, of whatever row, nil let in. -/
theorem run_copy_q (ty : TypeId) (h : OwnB E w g n cap L) (da : Addr) (q : Option Addr) (M : List α) (m c dn dc : Nat) (hda : m ≠ 0 → da = ⟨g, n * E.sz, none⟩) (hm : M.length = m) (hM : Rs E w q M) (hroom : n + m ≤ cap) (hdn : m ≤ dn) :
    ∃ w', (Builtin.copy_ #[E.slt, E.slt] ty #[.slice (some da) dn dc, .slice q m c]).run Tryd.prog w = .ok (goInt m) w' ∧ InB E w w' g (n + m) cap (L ++ M) := by
  rcases Nat.eq_zero_or_pos m with h0 | h0
  · subst h0
    obtain rfl : M = [] := List.eq_nil_of_length_eq_zero hm
    obtain ⟨i0, hi0, hz0, hz1, hzb⟩ := info_parts E.info
    refine ⟨w, ?_, by rw [List.append_nil]; exact h, fun B w0 hb _ => hb, fun k _ => rfl, rfl⟩
    cases q with
    | none => simp [Builtin.copy_, run_underlying E.und, Builtin.lenOf, Builtin.firstCells, sizeOf, typeInfo, hi0, storeCells]
    | some ad => simp [Builtin.copy_, run_underlying E.und, Builtin.lenOf, Builtin.firstCells, sizeOf, typeInfo, hi0, storeCells, loadCells, loadCellsFrom]
  · obtain ⟨b, off, rfl, hlt, hc⟩ := hM (by omega)
    rw [hda (by omega)]
    exact run_copy_in ty h ⟨b, off, none⟩ M m c dn dc _ rfl hm hM hroom hdn
/-- A record stored behind what stands. -/
theorem run_storeVar_rec (h : OwnB E w g n cap L) (x : α) (hroom : n < cap) : ∃ w', (storeVar E.ty ⟨g, n * E.sz, none⟩ (.agg (E.enc x).toArray)).run Tryd.prog w = .ok () w' ∧ InB E w w' g (n + 1) cap (L ++ [x]) := by
  obtain ⟨i0, hi0, hz0, hz1, hzb⟩ := info_parts E.info
  obtain ⟨h1, h2, cur, h3, h4, h5, h6⟩ := h
  have hfl : (RowG.flat E [x]).length = E.sz := by rw [flat_len]; simp
  have hfe : RowG.flat E [x] = E.enc x := flat_one1 E x
  have hfL : (RowG.flat E L).length = n * E.sz := by rw [flat_len, h1]
  have hadd : n * E.sz + E.sz = (n + 1) * E.sz := (Nat.succ_mul _ _).symm
  have hle : (n + 1) * E.sz ≤ cap * E.sz := Nat.mul_le_mul_right _ hroom
  have hst := run_storeCells_at Tryd.prog g (n * E.sz) E.ty (RowG.flat E [x]) 0 cur w h3 (by rw [hfl, h5]; omega) (flat_one E [x])
  rw [hfl, hfe] at hst
  refine ⟨_, by simp [storeVar, Value.cells, sizeOf, typeInfo, hi0, hz1, E.len, hst]; rfl, ⟨by rw [List.length_append, h1]; rfl, by omega, _, setRow_heap w g cur _ E.ty _ h3, h4, ?_, ?_⟩, fun B w0 hb hB => below_setRow hb hB _, fun k hk => setRow_other w g k _ hk, by simp⟩
  · simp only [List.size_toArray, List.length_append, List.length_take, List.length_drop, Array.length_toList, E.len]
    omega
  · rw [← hadd, flat_app, hfe]
    have := take_splice (y := E.sz) (M := E.enc x) h6 hfL (E.len x)
    simpa [List.append_assoc] using this
theorem wpList_store_run {ops : Array Oper} {rest : List Oper} {o : Oper} {a : Act} {w w' : World} {Q : Exit → Act → World → Prop} (hgd : o.guard = none) (ty : TypeId) (x y : Operand) (ho : o.op = .store ty x y)
    (ad : Addr) (v : Value) (hx : a.eval x = .pointer (some ad)) (hy : a.eval y = v) (hr : (storeVar ty ad v).run Tryd.prog w = .ok () w')
    (h : wpList Tryd.prog ops Q rest (a.put o.dst undef) w') : wpList Tryd.prog ops Q (o :: rest) a w :=
  wpList_plain hgd fun _ hK => by
    unfold Oper.wp execOp
    simp only [ho, hx, hy, Instr.storeAt, Instr.sureAddr, Sem.run_bind, Sem.run_pure, Result.andThen_ok, hr]
    exact hK _ _ h
theorem at_some (E : Enc α) (g c lo : Nat) : ∃ ad : Addr, RowG.partAt E (some ⟨g, 0, none⟩) c lo = some ad ∧ (c ≠ lo → ad = ⟨g, lo * E.sz, none⟩) := by
  unfold RowG.partAt
  split
  · rename_i e
    exact ⟨_, rfl, fun h => absurd e h⟩
  · refine ⟨Addr.add ⟨g, 0, none⟩ (lo * E.sz), rfl, fun _ => ?_⟩
    rw [Addr.add_lit, Nat.zero_add]
end

/-- A row of marks that nothing writes into: the call's own, or one that lay in its place before. -/
structure RowI (w0 w : World) (q : Option Addr) (n c : Nat) (L : List Mk) : Prop where
  bl : Below w0.heap.size w0 w
  rs : Rs mkE w q L
  ge : 0 < n → ∀ a, q = some a → w0.heap.size ≤ a.block
  ln : L.length = n
  nc : n ≤ c
  cm : c ≤ 9223372036854775807
  nl : q = none → c = 0
  up : marks L
theorem RowI.keep {w0 w w' : World} {q : Option Addr} {n c : Nat} {L : List Mk} (h : RowI w0 w q n c L) (hb : Below w.heap.size w w') : RowI w0 w' q n c L :=
  ⟨h.bl.trans (hb.mono h.bl.size), h.rs.keep hb, h.ge, h.ln, h.nc, h.cm, h.nl, h.up⟩
theorem RowI.own {w0 w : World} {g n : Nat} {L : List Mk} (h : OwnB mkE w g n n L) (hb : Below w0.heap.size w0 w) (hg : w0.heap.size ≤ g) (hm : marks L) : RowI w0 w (some ⟨g, 0, none⟩) n n L :=
  ⟨hb, h.rs, fun _ a e => by injection e with e; subst e; exact hg, h.1, Nat.le_refl _, by obtain ⟨-, -, cur, -, h4, -⟩ := h; exact h4, (fun e => by cases e), hm⟩
def RowP (w0 : World) (L : List Mk) (e : Ending) (w' : World) : Prop := ∃ q n c, e = .returned (.slice q n c) ∧ RowI w0 w' q n c L

set_option maxHeartbeats 8000000 in
theorem without_any (w0 w : World) (q : Option Addr) (n c : Nat) (L : List Mk) (S : ByteArray) (h : RowI w0 w q n c L) (hz : n ≤ 1048576) :
    Calls Tryd.prog 55 #[.slice q n c, .string S] w (RowP w0 (remM L S.data.toList)) := by
  have C := Lib.hid (place_any q L n c S w h.ln h.rs hz)
  have HI := Lib.hid h
  cases hh : hasM L S.data.toList
  · have HE := Lib.hid (rem_not hh)
    have hp : placeI L S.data.toList = 0 := by unfold placeI; rw [hh]; rfl
    rw [hh, hp] at C
    generalize remM L S.data.toList = R at HE ⊢
    clear h hz hh hp
    go_enter Tryd.func55, Tryd.ntmps55
    go_wp2_with fail
    with_reducible refine C.out.mono ?_
    rintro e w1 ⟨rfl, hb⟩
    go_wp2_with fail
    go_ret
    rw [HE.out]
    exact ⟨q, n, c, rfl, HI.out.keep hb⟩
  · obtain ⟨hk, -, -⟩ := place_there hh
    have hp : placeI L S.data.toList = (placeM L S.data.toList : Int) := by unfold placeI; rw [if_pos hh]
    have HE := Lib.hid (rem_there h.up hh)
    have HM := Lib.hid (rem_up S.data.toList h.up)
    rw [hh, hp] at C
    rw [h.ln] at hk
    generalize remM L S.data.toList = R at HE HM ⊢
    generalize placeM L S.data.toList = k at C HE hk
    have HLn := Lib.hid h.ln
    have hnc := h.nc
    obtain ⟨m, rfl⟩ : ∃ m, n = m + 1 := ⟨n - 1, by omega⟩
    clear h hh hp
    go_enter Tryd.func55, Tryd.ntmps55
    go_wp2_with fail
    with_reducible refine C.out.mono ?_
    rintro e w1 ⟨rfl, hb⟩
    have HI1 := Lib.hid (HI.out.keep hb)
    clear hb HI C
    go_upto_region 5 with (with_reducible refine wpList_make_i mkE rfl (.tmp 19) (.tmp 19) rfl _ m (by first | rfl | omega) rfl rfl (by omega) ?_; intro w2 hM2 hb2)
    have HO2 := Lib.hid (made_own hM2)
    have HI2 := Lib.hid (HI1.out.keep hb2)
    have HG := Lib.hid HI1.out.bl.size
    have HQ := Lib.hid (show ∀ b off, q = some ⟨b, off, none⟩ → 0 < L.length → b ≠ w1.heap.size from fun b off e h0 => by
      obtain ⟨b', off', e', hlt, -⟩ := HI1.out.rs h0
      rw [e] at e'
      injection e' with e'
      injection e' with e1 e2
      omega)
    generalize w1.heap.size = g at HO2 HG HQ ⊢
    clear hM2 hb2 HI1
    obtain ⟨w3, hr3, hI3⟩ := run_copy_q (E := mkE) 3 HO2.out ⟨g, 0, none⟩ q (L.take k) k c m m (fun _ => by rw [Nat.zero_mul]) (by rw [List.length_take, HLn.out]; omega) (HI2.out.rs.take k) (by omega) (by omega)
    have hB3 : Below w0.heap.size w0 w3 := hI3.bl _ _ HI2.out.bl HG.out
    have hR3 : Rs mkE w3.drew q L := fun h0 => by
      obtain ⟨b, off, e, hlt, hc⟩ := HI2.out.rs h0
      refine ⟨b, off, e, by show b < w3.heap.size; rw [hI3.sz]; exact hlt, fun j hj => ?_⟩
      rw [← hc j hj]
      have hbg : b ≠ g := HQ.out b off e h0
      have e3 : w3.drew.heap[b]? = w2.heap[b]? := hI3.ot b hbg
      simp only [World.cell?, e3]
    obtain ⟨ad, had, hadg⟩ := at_some mkE g m k
    obtain ⟨w4, hr4, hI4⟩ := run_copy_q (E := mkE) (w := w3.drew) 3 hI3.ow ad (RowG.partAt mkE q c (k + 1)) (L.drop (k + 1)) (m - k) (c - (k + 1)) (m - k) (m - k) (fun h => by rw [Nat.zero_add]; exact hadg (by omega)) (by rw [List.length_drop, HLn.out]; omega) (hR3.drop (k + 1) (by rw [HLn.out]; omega) c (by rw [HLn.out]; omega)) (by omega) (Nat.le_refl _)
    have HE4 := Lib.hid (show RowI w0 w4 (some ⟨g, 0, none⟩) m m R from by
      refine RowI.own ?_ (hI4.bl _ _ hB3.drew HG.out) HG.out HM.out
      have h := hI4.ow
      rw [Nat.zero_add, show k + (m - k) = m by omega, List.nil_append, ← HE.out] at h
      exact h)
    have s1 : ∀ W, (Instr.slice 24 (.slice q (m + 1) c) none (some (.int .i64 (k : Int))) none).run Tryd.prog W = .ok (.slice q k c) W := fun W => sl_upto mkE q (m + 1) c k (by omega) W
    have s2 : ∀ W, (Instr.slice 24 (.slice (some ⟨g, 0, none⟩) m m) (some (.int .i64 (k : Int))) none none).run Tryd.prog W = .ok (.slice (some ad) (m - k) (m - k)) W := fun W => by
      have := sl_from mkE (some ⟨g, 0, none⟩) m m k (by omega) (Nat.le_refl _) W
      rw [had] at this
      exact this
    have s3 : ∀ W, (Instr.slice 24 (.slice q (m + 1) c) (some (.int .i64 ((k : Int) + 1))) none none).run Tryd.prog W = .ok (.slice (RowG.partAt mkE q c (k + 1)) (m - k) (c - (k + 1))) W := fun W => by
      have := sl_from mkE q (m + 1) c (k + 1) (by omega) hnc W
      rw [show m + 1 - (k + 1) = m - k by omega] at this
      exact this
    have H3 := Lib.hid (show ∀ ty, (Builtin.copy_ #[24, 24] ty #[.slice (some ⟨g, 0, none⟩) m m, .slice q k c]).run Tryd.prog w2 = .ok (goInt k) w3 from fun ty => hr3)
    have H4 := Lib.hid (show ∀ ty, (Builtin.copy_ #[24, 24] ty #[.slice (some ad) (m - k) (m - k), .slice (RowG.partAt mkE q c (k + 1)) (m - k) (c - (k + 1))]).run Tryd.prog w3.drew = .ok (goInt ((m - k : Nat) : Int)) w4 from fun ty => hr4)
    have HW := Lib.hid (show IntKind.i64.wrap ((k : Int) + 1) = (k : Int) + 1 from IntWalk.i64_in _ (by omega))
    generalize RowG.partAt mkE q c (k + 1) = qd at s3 H4
    obtain ⟨mk, hmk⟩ : ∃ o, o = m - k := ⟨_, rfl⟩
    obtain ⟨ck, hck⟩ : ∃ o, o = c - (k + 1) := ⟨_, rfl⟩
    rw [← hmk] at s2 s3 H4
    rw [← hck] at s3 H4
    clear hr3 hr4 hI3 hI4 hB3 hR3 had hadg hmk hck HE HM HQ HLn HI2 HG HO2
    go_wp2_with (with_reducible refine wpList_copy_runI _ rfl (.tmp 21) (.tmp 24) 24 24 rfl _ _ rfl rfl (H3.out _) ?_)
    have hw := HW.out
    go_region_law (refine step_copy_runI rfl _ _ 24 24 rfl (.slice (some ad) mk mk) (.slice qd mk ck) (by simp [Act.eval, Act.put]) (by simp [Act.eval, Act.put]) (H4.out 3) ?_)
    clear hw
    go_wp2_with fail
    go_ret
    exact ⟨_, _, _, rfl, HE4.out⟩

set_option maxHeartbeats 8000000 in
theorem with_any (w0 w : World) (q : Option Addr) (n c : Nat) (L : List Mk) (S : ByteArray) (N : Int) (h : RowI w0 w q n c L) (hf : ∀ x ∈ L, x.name ≠ S.data.toList) (hz : n + 1 ≤ 1048576) :
    Calls Tryd.prog 61 #[.slice q n c, .agg #[.string S, .int .i64 N]] w (RowP w0 (insM L ⟨S.data.toList, N⟩)) := by
  have HM := Lib.hid (ins_up (m := ⟨S.data.toList, N⟩) h.up hf)
  have hk : posM L ⟨S.data.toList, N⟩ ≤ n := by rw [← h.ln]; exact pos_le _ _
  have C := Lib.hid (fun W (hb : Below w.heap.size w W) => search_any q L n c S N W h.ln (h.rs.keep hb) h.up (by omega))
  have HI := Lib.hid (h.keep (ReplyT.below1 w (.cells #[.string S, .int .i64 N] 39)))
  have HLn := Lib.hid h.ln
  have hnc := h.nc
  have HSe := Lib.hid (show (mkE.enc ⟨S.data.toList, N⟩).toArray = #[.string S, .int .i64 N] from by
    show #[Value.string ⟨S.data.toList.toArray⟩, Value.int .i64 N] = _
    cases S
    simp)
  have g0 : (w.alloc (.cells #[.string S, .int .i64 N] 39)).cell? ⟨w.heap.size, 0, none⟩ = some (.string S) := by
    rw [cell_of_row _ _ _ _ 39 _ (heap_alloc_last w _)]
    rfl
  have g1 : (w.alloc (.cells #[.string S, .int .i64 N] 39)).cell? ⟨w.heap.size, 1, none⟩ = some (.int .i64 N) := by
    rw [cell_of_row _ _ _ _ 39 _ (heap_alloc_last w _)]
    rfl
  have HG := Lib.hid (fun W (h : Below (w.alloc (.cells #[.string S, .int .i64 N] 39)).heap.size (w.alloc (.cells #[.string S, .int .i64 N] 39)) W) => (⟨(h.cell (p := ⟨w.heap.size, 0, none⟩) (by simp)).trans g0, (h.cell (p := ⟨w.heap.size, 1, none⟩) (by simp)).trans g1, Nat.lt_of_lt_of_le (by simp) h.size⟩ : W.cell? ⟨w.heap.size, 0, none⟩ = some (.string S) ∧ W.cell? ⟨w.heap.size, 1, none⟩ = some (.int .i64 N) ∧ w.heap.size < W.heap.size))
  have HB := Lib.hid (ReplyT.below1 w (.cells #[.string S, .int .i64 N] 39))
  obtain ⟨R, hR⟩ : ∃ R, R = insM L ⟨S.data.toList, N⟩ := ⟨_, rfl⟩
  have HE := Lib.hid (show R = L.take (posM L ⟨S.data.toList, N⟩) ++ ⟨S.data.toList, N⟩ :: L.drop (posM L ⟨S.data.toList, N⟩) from hR)
  rw [← hR] at HM ⊢
  generalize posM L ⟨S.data.toList, N⟩ = k at C HE hk
  clear h g0 g1 hR hf
  go_enter Tryd.func61, Tryd.ntmps61
  go_wp2_with fail
  generalize w.alloc (.cells #[.string S, .int .i64 N] 39) = w1 at HI HG HB ⊢
  with_reducible refine (C.out _ HB.out).mono ?_
  rintro e w2 ⟨⟨tb, rfl⟩, hb⟩
  have HI1 := Lib.hid (HI.out.keep hb)
  have HG1 := Lib.hid (HG.out w2 hb)
  clear hb HI C HG HB
  go_upto_region 3 with (with_reducible refine wpList_make_i mkE rfl (.tmp 16) (.tmp 16) rfl _ (n + 1) (by first | rfl | omega) rfl rfl (by omega) ?_; intro w3 hM2 hb2)
  have HO2 := Lib.hid (made_own hM2)
  have HI2 := Lib.hid (HI1.out.keep hb2)
  have HG2 := Lib.hid (show w3.cell? ⟨w.heap.size, 0, none⟩ = some (.string S) ∧ w3.cell? ⟨w.heap.size, 1, none⟩ = some (.int .i64 N) ∧ w.heap.size < w2.heap.size from ⟨(hb2.cell (p := ⟨w.heap.size, 0, none⟩) HG1.out.2.2).trans HG1.out.1, (hb2.cell (p := ⟨w.heap.size, 1, none⟩) HG1.out.2.2).trans HG1.out.2.1, HG1.out.2.2⟩)
  have HGs := Lib.hid HI1.out.bl.size
  have HQ := Lib.hid (show ∀ b off, q = some ⟨b, off, none⟩ → 0 < L.length → b ≠ w2.heap.size from fun b off e h0 => by
    obtain ⟨b', off', e', hlt, -⟩ := HI1.out.rs h0
    rw [e] at e'
    injection e' with e'
    injection e' with e1 e2
    omega)
  generalize w2.heap.size = g at HO2 HGs HQ HG2 ⊢
  clear hM2 hb2 HI1 HG1
  generalize w.heap.size = gm at HG2 ⊢
  obtain ⟨w4, hr3, hI3⟩ := run_copy_q (E := mkE) 3 HO2.out ⟨g, 0, none⟩ q (L.take k) k c (n + 1) (n + 1) (fun _ => by rw [Nat.zero_mul]) (by rw [List.length_take, HLn.out]; omega) (HI2.out.rs.take k) (by omega) (by omega)
  have hB3 : Below w0.heap.size w0 w4 := hI3.bl _ _ HI2.out.bl HGs.out
  rw [Nat.zero_add, List.nil_append] at hI3
  have hc : w4.cell? ⟨gm, 0, none⟩ = some (.string S) ∧ w4.cell? ⟨gm, 1, none⟩ = some (.int .i64 N) := by
    have e3 : w4.heap[gm]? = w3.heap[gm]? := hI3.ot gm (by have := HG2.out.2.2; omega)
    have h1 := HG2.out.1
    have h2 := HG2.out.2.1
    simp only [World.cell?, e3] at h1 h2 ⊢
    exact ⟨h1, h2⟩
  obtain ⟨c0, c1⟩ := hc
  obtain ⟨w5, hr5, hI5⟩ := run_storeVar_rec (E := mkE) hI3.ow ⟨S.data.toList, N⟩ (by omega)
  rw [HSe.out] at hr5
  have hB5 : Below w0.heap.size w0 w5 := hI5.bl _ _ hB3 HGs.out
  have hR3 : Rs mkE w5.drew q L := fun h0 => by
    obtain ⟨b, off, e, hlt, hc⟩ := HI2.out.rs h0
    refine ⟨b, off, e, by show b < w5.heap.size; rw [hI5.sz, hI3.sz]; exact hlt, fun j hj => ?_⟩
    rw [← hc j hj]
    have hbg : b ≠ g := HQ.out b off e h0
    have e3 : w5.drew.heap[b]? = w3.heap[b]? := (hI5.ot b hbg).trans (hI3.ot b hbg)
    simp only [World.cell?, e3]
  obtain ⟨ad, had, hadg⟩ := at_some mkE g (n + 1) (k + 1)
  obtain ⟨w6, hr6, hI6⟩ := run_copy_q (E := mkE) (w := w5.drew) 3 hI5.ow ad (RowG.partAt mkE q c k) (L.drop k) (n - k) (c - k) (n - k) (n - k) (fun h => hadg (by omega)) (by rw [List.length_drop, HLn.out]) (hR3.drop k (by rw [HLn.out]; omega) c (by rw [HLn.out]; omega)) (by omega) (Nat.le_refl _)
  have HE4 := Lib.hid (show RowI w0 w6 (some ⟨g, 0, none⟩) (n + 1) (n + 1) R from by
    refine RowI.own ?_ (hI6.bl _ _ hB5.drew HGs.out) HGs.out HM.out
    have h := hI6.ow
    rw [show k + 1 + (n - k) = n + 1 by omega, List.append_assoc, List.singleton_append, ← HE.out] at h
    exact h)
  have s1 : ∀ W, (Instr.slice 24 (.slice q n c) none (some (.int .i64 (k : Int))) none).run Tryd.prog W = .ok (.slice q k c) W := fun W => sl_upto mkE q n c k (by omega) W
  have s2 : ∀ W, (Instr.slice 24 (.slice (some ⟨g, 0, none⟩) (n + 1) (n + 1)) (some (.int .i64 ((k : Int) + 1))) none none).run Tryd.prog W = .ok (.slice (some ad) (n - k) (n - k)) W := fun W => by
    have := sl_from mkE (some ⟨g, 0, none⟩) (n + 1) (n + 1) (k + 1) (by omega) (Nat.le_refl _) W
    rw [had, show n + 1 - (k + 1) = n - k by omega] at this
    exact this
  have s3 : ∀ W, (Instr.slice 24 (.slice q n c) (some (.int .i64 (k : Int))) none none).run Tryd.prog W = .ok (.slice (RowG.partAt mkE q c k) (n - k) (c - k)) W := fun W => sl_from mkE q n c k hk hnc W
  have H3 := Lib.hid (show ∀ ty, (Builtin.copy_ #[24, 24] ty #[.slice (some ⟨g, 0, none⟩) (n + 1) (n + 1), .slice q k c]).run Tryd.prog w3 = .ok (goInt k) w4 from fun ty => hr3)
  have H5 := Lib.hid (show (storeVar 39 ⟨g, k * 2, none⟩ (.agg #[.string S, .int .i64 N])).run Tryd.prog w4 = .ok () w5 from hr5)
  have H6 := Lib.hid (show ∀ ty, (Builtin.copy_ #[24, 24] ty #[.slice (some ad) (n - k) (n - k), .slice (RowG.partAt mkE q c k) (n - k) (c - k)]).run Tryd.prog w5.drew = .ok (goInt ((n - k : Nat) : Int)) w6 from fun ty => hr6)
  have HW := Lib.hid (show IntKind.i64.wrap ((k : Int) + 1) = (k : Int) + 1 from IntWalk.i64_in _ (by omega))
  generalize RowG.partAt mkE q c k = qd at s3 H6
  obtain ⟨mk, hmk⟩ : ∃ o, o = n - k := ⟨_, rfl⟩
  obtain ⟨ck, hck⟩ : ∃ o, o = c - k := ⟨_, rfl⟩
  rw [← hmk] at s2 s3 H6
  rw [← hck] at s3 H6
  have k0 : (0 : Int) ≤ (k : Int) := by omega
  have k1 : (k : Int) < (n : Int) + 1 := by omega
  clear hr3 hr5 hr6 hI3 hI5 hI6 hB3 hB5 hR3 had hadg hmk hck HE HM HQ HLn HI2 HG2 HGs HO2 HSe
  go_wp2_with (first
    | (with_reducible refine wpList_copy_runI _ rfl (.tmp 18) (.tmp 21) 24 24 rfl _ _ rfl rfl (H3.out _) ?_)
    | (with_reducible refine wpList_store_run rfl 39 (.tmp 26) (.tmp 25) rfl ⟨g, k * 2, none⟩ (.agg #[.string S, .int .i64 N]) rfl rfl H5.out ?_))
  have hw := HW.out
  go_region_law (refine step_copy_runI rfl _ _ 24 24 rfl (.slice (some ad) mk mk) (.slice qd mk ck) (by simp [Act.eval, Act.put]) (by simp [Act.eval, Act.put]) (H6.out 3) ?_)
  clear hw
  go_wp2_with fail
  go_ret
  exact ⟨_, _, _, rfl, HE4.out⟩

end Go.Proofs.YtodpocciimbjbaaDoor.SrtM
namespace Go.Proofs.YtodpocciimbjbaaDoor.SrtM
open Go.RowKit Kit StrT RowG BOrd ValT StoT ReplyT ReplyMath Low DoT SrtT ValM BytesIn NumL NumW ReplyM LawK
open Go.Lib (itoa)
open RefTab (results_cell_slot)
set_option linter.unusedVariables false
set_option maxRecDepth 100000

set_option maxHeartbeats 4000000 in
theorem put_any (w0 w : World) (q : Option Addr) (n c : Nat) (L : List Mk) (S : ByteArray) (N : Int) (h : RowI w0 w q n c L) (hz : n + 1 ≤ 1048576) :
    Calls Tryd.prog 49 #[.slice q n c, .string S, .int .i64 N] w (RowP w0 (putZ L S.data.toList N)) := by
  have CW := Lib.hid (without_any w0 w q n c L S h (by omega))
  have CP := Lib.hid (fun W q1 n1 c1 (h1 : RowI w0 W q1 n1 c1 (remM L S.data.toList)) => with_any w0 W q1 n1 c1 (remM L S.data.toList) S N h1 (fun x hx => ((rem_mem L _ x).1 hx).2) (by have := h1.ln; have := rem_le L S.data.toList; have := h.ln; omega))
  unfold putZ
  generalize remM L S.data.toList = R at CW CP ⊢
  generalize insM R ⟨S.data.toList, N⟩ = Z at CP ⊢
  clear h
  go_enter Tryd.func49, Tryd.ntmps49
  go_wp2_with fail
  with_reducible refine CW.out.mono ?_
  rintro e w1 ⟨q1, n1, c1, rfl, h1⟩
  go_wp2_with fail
  with_reducible refine (CP.out w1 q1 n1 c1 h1).mono ?_
  rintro e w2 ⟨q2, n2, c2, rfl, h2⟩
  go_wp2_with fail
  go_ret
  exact ⟨q2, n2, c2, rfl, h2⟩

/-- The words of a request, from the third on. -/
structure WS (w0 : World) (qw : Option Addr) (nw cw : Nat) (A : List (List UInt8)) : Prop where
  wn : A.length = nw
  wc : nw ≤ cw
  ws : StrT.Ss w0 qw A
theorem word_at {w0 w : World} {qw : Option Addr} {nw cw : Nat} {A : List (List UInt8)} (h : WS w0 qw nw cw A) (hb : Below w0.heap.size w0 w) (j : Nat) (hj : j < nw) : ∃ b off, qw = some ⟨b, off, none⟩ ∧ b < w0.heap.size ∧ w.cell? ⟨b, off + j, none⟩ = some (.string ⟨(wd A j).toArray⟩) := by
  obtain ⟨b, off, e, hlt, hc⟩ := ss_word h.ws j (by rw [h.wn]; exact hj)
  exact ⟨b, off, e, hlt, (hb.cell (p := ⟨b, off + j, none⟩) hlt).trans hc⟩
/-- What a command leaves: a row, and a reply. -/
def ZRes (w0 : World) (x : List Mk × List UInt8) (e : Ending) (w' : World) : Prop := ∃ q n c vr, e = .returned (.tuple #[.slice q n c, vr]) ∧ RowI w0 w' q n c x.1 ∧ Ans w0.heap.size w' vr x.2
theorem zres {w0 w w' : World} {q : Option Addr} {n c : Nat} {L : List Mk} {x : List Mk × List UInt8} {l : List UInt8} {v : Value} (h : RowI w0 w q n c L) (hA : Ans w.heap.size w' v l) (hb : Below w.heap.size w w') (hx : x = (L, l)) : ZRes w0 x (.returned (.tuple #[.slice q n c, v])) w' := by
  subst hx
  exact ⟨q, n, c, v, rfl, h.keep hb, hA.base h.bl.size⟩
theorem err_to (s : ByteArray) (l : List UInt8) (hs : s.data.toList = l) (hl : l.length ≤ 1048576) (W : World) (hg : Gt W) : Calls Tryd.prog 29 #[.string s] W (Gives (err l) W) := by
  subst hs
  exact err_any s W (by rw [← str_len]; exact hl) hg
theorem addV_bounds (a b : Int) : -9223372036854775808 ≤ addV a b ∧ addV a b ≤ 9223372036854775807 := by
  unfold addV
  split <;> omega

set_option maxHeartbeats 4000000 in
theorem d_card (w0 w : World) (q : Option Addr) (n c : Nat) (L : List Mk) (qw : Option Addr) (nw cw : Nat) (A : List (List UInt8)) (h : RowI w0 w q n c L) (hW : WS w0 qw nw cw A) (hg : Gd w0) (ht : Tame 4 L A) :
    Calls Tryd.prog 43 #[.slice q n c, .slice qw nw cw] w (ZRes w0 (rowD 4 L A)) := by
  have hn := h.ln
  have hz := ht.2.2.1
  have C := Lib.hid (int_any (n : Int) w (by omega) (by omega) (hg.keep h.bl).gt)
  have HR := Lib.hid (show rowD 4 L A = (L, int (n : Int)) by subst hn; rfl)
  have HI := Lib.hid h
  clear h ht hz hn hW hg
  go_enter Tryd.func43, Tryd.ntmps43
  go_wp2_with fail
  with_reducible refine C.out.mono ?_
  rintro e w1 ⟨vr, rfl, hA, hb⟩
  go_wp2_with fail
  go_ret2
  exact zres HI.out hA hb HR.out

set_option maxHeartbeats 4000000 in
theorem d_score (w0 w : World) (q : Option Addr) (n c : Nat) (L : List Mk) (qw : Option Addr) (nw cw : Nat) (A : List (List UInt8)) (h : RowI w0 w q n c L) (hW : WS w0 qw nw cw A) (hg : Gd w0) (ht : Tame 2 L A) :
    Calls Tryd.prog 42 #[.slice q n c, .slice qw nw cw] w (ZRes w0 (rowD 2 L A)) := by
  obtain ⟨-, hin, hz, h1⟩ := ht
  have h1 : 1 ≤ A.length := h1
  have hn := h.ln
  obtain ⟨b, off, rfl, hb, c0⟩ := word_at hW h.bl 0 (by rw [← hW.wn]; exact h1)
  rw [Nat.add_zero] at c0
  obtain ⟨S, hS, hS2⟩ := str_of (wd A 0)
  rw [hS2] at c0
  have CN := Lib.hid (number_any q L n c S w hn h.rs (by omega))
  have HB := num_in hin S.data.toList
  unfold inI at HB
  have CT := Lib.hid (fun W (hb : Below w.heap.size w W) => text_any (numM L S.data.toList) HB.1 HB.2 W (hg.keep (h.keep hb).bl))
  have CB := Lib.hid (fun W (hb : Below w.heap.size w W) => bulk_any ⟨(itoa (numM L S.data.toList)).toArray⟩ W (Nat.le_trans (text_len _ HB.1 HB.2) (by decide)) (hg.keep (h.keep hb).bl).gt)
  have CL := Lib.hid (fun W (hb : Below w.heap.size w W) => null_any W (hg.keep (h.keep hb).bl).gt)
  have HR := Lib.hid (show rowD 2 L A = (L, if hasM L S.data.toList = true then bulk (itoa (numM L S.data.toList)) else null) by rw [hS]; rfl)
  have HI := Lib.hid h
  have n0 : (0 : Int) < (nw : Int) := by have := hW.wn; omega
  have n00 : 0 < nw := by have := hW.wn; omega
  generalize numM L S.data.toList = x at CN CT CB HR
  generalize hasM L S.data.toList = t at CN HR
  clear h hz hn hW hg hin h1 HB hS hS2 hb
  go_enter Tryd.func42, Tryd.ntmps42
  go_wp2_with fail
  with_reducible refine CN.out.mono ?_
  rintro e w1 ⟨rfl, hb1⟩
  have HI1 := Lib.hid (HI.out.keep hb1)
  have CT1 := Lib.hid (CT.out w1 hb1)
  have CL1 := Lib.hid (CL.out w1 hb1)
  have CB1 := Lib.hid (fun W (hb : Below w1.heap.size w1 W) => CB.out W (hb1.trans (hb.mono hb1.size)))
  clear c0 CN CT CL CB HI hb1
  cases t with
  | false =>
    go_wp2_with fail
    with_reducible refine CL1.out.mono ?_
    rintro e w2 ⟨vr, rfl, hA, hb⟩
    go_wp2_with fail
    go_ret2
    exact zres HI1.out hA hb (by rw [HR.out]; rfl)
  | true =>
    go_wp2_with fail
    with_reducible refine CT1.out.mono ?_
    rintro e w2 ⟨rfl, hb2⟩
    have HI2 := Lib.hid (HI1.out.keep hb2)
    have CB2 := Lib.hid (CB1.out w2 hb2)
    clear hb2
    go_wp2_with fail
    with_reducible refine CB2.out.mono ?_
    rintro e w3 ⟨vr, rfl, hA, hb⟩
    go_wp2_with fail
    go_ret2
    exact zres HI2.out hA hb (by rw [HR.out]; rfl)

set_option maxHeartbeats 8000000 in
theorem d_add (w0 w : World) (q : Option Addr) (n c : Nat) (L : List Mk) (qw : Option Addr) (nw cw : Nat) (A : List (List UInt8)) (h : RowI w0 w q n c L) (hW : WS w0 qw nw cw A) (hg : Gd w0) (ht : Tame 0 L A) :
    Calls Tryd.prog 39 #[.slice q n c, .slice qw nw cw] w (ZRes w0 (rowD 0 L A)) := by
  obtain ⟨hup, hin, hz, h2, h5⟩ := ht
  have hn := h.ln
  have h2' : 2 ≤ nw := by rw [← hW.wn]; exact h2
  obtain ⟨b, off, rfl, hb, c0⟩ := word_at hW (Below.refl _ _) 0 (by omega)
  obtain ⟨b', off', e, -, c1⟩ := word_at hW (Below.refl _ _) 1 (by omega)
  injection e with e
  injection e with e1 e2
  subst e1 e2
  rw [Nat.add_zero] at c0
  obtain ⟨B, hB, hB2⟩ := str_of (wd A 0)
  obtain ⟨S, hS, hS2⟩ := str_of (wd A 1)
  rw [hB2] at c0
  rw [hS2] at c1
  have HC0 := Lib.hid (fun W (hb2 : Below w0.heap.size w0 W) => (hb2.cell (p := ⟨b, off, none⟩) hb).trans c0)
  have HC1 := Lib.hid (fun W (hb2 : Below w0.heap.size w0 W) => (hb2.cell (p := ⟨b, off + 1, none⟩) hb).trans c1)
  have CA := Lib.hid (parse_any B (by rw [← hB, str_len] at h5; exact h5) w (hg.keep h.bl))
  have CP := Lib.hid (fun W V (hH : RowI w0 W q n c L) => put_any w0 W q n c L S V hH (by omega))
  have CI := Lib.hid (fun (z : Int) W (hz : -1048576 ≤ z ∧ z ≤ 1048576) (hW : Below w0.heap.size w0 W) => int_any z W (by omega) (by omega) (hg.keep hW).gt)
  have CE := Lib.hid (fun W (h : Below w0.heap.size w0 W) (s : ByteArray) (hs : s.data.toList = mInt) => (show Calls Tryd.prog 29 #[.string s] W (Gives eInt W) from err_to s mInt hs (by decide) W (hg.keep h).gt))
  have HR := Lib.hid (show rowD 0 L A = if pB B.data.toList = true then (putZ L S.data.toList (pV B.data.toList), int (((putZ L S.data.toList (pV B.data.toList)).length : Int) - (n : Int))) else (L, eInt) by rw [hS, hB, ← hn]; rfl)
  have HLe := Lib.hid (fun (v : Int) => (put_le S.data.toList v hup))
  rw [hn] at HLe
  have HH := Lib.hid h
  have n0 : 0 < nw := by omega
  have n1 : 1 < nw := by omega
  have n00 : (0 : Int) < (nw : Int) := by omega
  have n11 : (1 : Int) < (nw : Int) := by omega
  have HZ := Lib.hid hz
  rw [hn] at HZ
  generalize pV B.data.toList = y at CA HR
  generalize pB B.data.toList = t at CA HR
  have hc0 := HC0.out w HH.out.bl
  clear hS hS2 hB hB2 hn hb h2 h5 h2' hW hg h hz hin hup c0 c1
  go_enter Tryd.func39, Tryd.ntmps39
  go_wp2_with fail
  with_reducible refine CA.out.mono ?_
  rintro e w1 ⟨rfl, hb1⟩
  have HH1 := Lib.hid (HH.out.keep hb1)
  clear hb1 HH hc0 CA
  cases t with
  | false =>
    have CE1 := Lib.hid (CE.out w1 HH1.out.bl)
    go_wp2_with fail
    (with_reducible refine (CE1.out _ ?_).mono ?_)
    (exact rfl)
    rintro e w2 ⟨vr, rfl, hA, hb⟩
    go_wp2_with fail
    go_ret2
    exact zres HH1.out hA hb (by rw [HR.out]; rfl)
  | true =>
    have hc1 := HC1.out w1 HH1.out.bl
    have CP1 := Lib.hid (CP.out w1 y HH1.out)
    have HLe1 := HLe.out y
    generalize putZ L S.data.toList y = R at CP1 HR HLe1
    clear CP HLe HH1
    go_wp2_with fail
    with_reducible refine CP1.out.mono ?_
    rintro e w2 ⟨q2, n2, c2, rfl, h2⟩
    have hl2 := h2.ln
    have HH2 := Lib.hid h2
    have CI2 := Lib.hid (CI.out ((n2 : Int) - (n : Int)) w2 (by have := HZ.out; omega) h2.bl)
    have HRx := Lib.hid (show rowD 0 L A = (R, int ((n2 : Int) - (n : Int))) by rw [HR.out, ← hl2]; rfl)
    have b1 : n ≤ n2 := by rw [← hl2]; exact HLe1.1
    have b2 : n2 ≤ 1048576 := by have := HZ.out; have := HLe1.2.1; omega
    clear h2 CP1 hc1 HR HLe1 hl2
    go_wp2_with fail
    with_reducible refine CI2.out.mono ?_
    rintro e w3 ⟨vr, rfl, hA, hb⟩
    go_wp2_with fail
    go_ret2
    exact zres HH2.out hA hb HRx.out

set_option maxHeartbeats 8000000 in
theorem d_incrBy (w0 w : World) (q : Option Addr) (n c : Nat) (L : List Mk) (qw : Option Addr) (nw cw : Nat) (A : List (List UInt8)) (h : RowI w0 w q n c L) (hW : WS w0 qw nw cw A) (hg : Gd w0) (ht : Tame 5 L A) :
    Calls Tryd.prog 40 #[.slice q n c, .slice qw nw cw] w (ZRes w0 (rowD 5 L A)) := by
  obtain ⟨hup, hin, hz, h2, h5⟩ := ht
  have hn := h.ln
  have h2' : 2 ≤ nw := by rw [← hW.wn]; exact h2
  obtain ⟨b, off, rfl, hb, c0⟩ := word_at hW (Below.refl _ _) 0 (by omega)
  obtain ⟨b', off', e, -, c1⟩ := word_at hW (Below.refl _ _) 1 (by omega)
  injection e with e
  injection e with e1 e2
  subst e1 e2
  rw [Nat.add_zero] at c0
  obtain ⟨B, hB, hB2⟩ := str_of (wd A 0)
  obtain ⟨S, hS, hS2⟩ := str_of (wd A 1)
  rw [hB2] at c0
  rw [hS2] at c1
  have HC0 := Lib.hid (fun W (hb2 : Below w0.heap.size w0 W) => (hb2.cell (p := ⟨b, off, none⟩) hb).trans c0)
  have HC1 := Lib.hid (fun W (hb2 : Below w0.heap.size w0 W) => (hb2.cell (p := ⟨b, off + 1, none⟩) hb).trans c1)
  have CA := Lib.hid (parse_any B (by rw [← hB, str_len] at h5; exact h5) w (hg.keep h.bl))
  have CN := Lib.hid (fun W (hH : RowI w0 W q n c L) => number_any q L n c S W hn hH.rs (by omega))
  have CP := Lib.hid (fun W V (hH : RowI w0 W q n c L) => put_any w0 W q n c L S V hH (by omega))
  have CT := Lib.hid (fun (z : Int) W (hz : -9223372036854775808 ≤ z ∧ z ≤ 9223372036854775807) (hW : Below w0.heap.size w0 W) => text_any z hz.1 hz.2 W (hg.keep hW))
  have CB := Lib.hid (fun (z : Int) W (hz : -9223372036854775808 ≤ z ∧ z ≤ 9223372036854775807) (hW : Below w0.heap.size w0 W) => bulk_any ⟨(itoa z).toArray⟩ W (Nat.le_trans (text_len _ hz.1 hz.2) (by decide)) (hg.keep hW).gt)
  have CE := Lib.hid (fun W (h : Below w0.heap.size w0 W) (s : ByteArray) (hs : s.data.toList = mInt) => (show Calls Tryd.prog 29 #[.string s] W (Gives eInt W) from err_to s mInt hs (by decide) W (hg.keep h).gt))
  have CO := Lib.hid (fun W (h : Below w0.heap.size w0 W) (s : ByteArray) (hs : s.data.toList = mOver) => (show Calls Tryd.prog 29 #[.string s] W (Gives eOver W) from err_to s mOver hs (by decide) W (hg.keep h).gt))
  have hbd := pV_bounds B.data.toList
  have hbn := num_in hin S.data.toList
  unfold inI at hbn
  have CS := Lib.hid (fun W => add_any (numM L S.data.toList) (pV B.data.toList) W hbn.1 hbn.2 hbd.1 hbd.2)
  have HR := Lib.hid (show rowD 5 L A = if pB B.data.toList = true then (if addB (numM L S.data.toList) (pV B.data.toList) = true then (putZ L S.data.toList (addV (numM L S.data.toList) (pV B.data.toList)), bulk (itoa (addV (numM L S.data.toList) (pV B.data.toList)))) else (L, eOver)) else (L, eInt) by rw [hS, hB]; rfl)
  have HZ := Lib.hid (addV_bounds (numM L S.data.toList) (pV B.data.toList))
  have HH := Lib.hid h
  have n0 : 0 < nw := by omega
  have n1 : 1 < nw := by omega
  have n00 : (0 : Int) < (nw : Int) := by omega
  have n11 : (1 : Int) < (nw : Int) := by omega
  generalize numM L S.data.toList = x at CN CS HR HZ
  generalize hasM L S.data.toList = tx at CN
  generalize pV B.data.toList = y at CA CS HR HZ
  generalize pB B.data.toList = t at CA HR
  generalize addB x y = ts at CS HR
  generalize addV x y = z at CS HR HZ
  obtain ⟨R, hR⟩ : ∃ R, putZ L S.data.toList z = R := ⟨_, rfl⟩
  rw [hR] at HR
  have hc0 := HC0.out w HH.out.bl
  clear hS hS2 hB hB2 hn hb h2 h5 h2' hW hg h hz hin hup c0 c1 hbd hbn
  go_enter Tryd.func40, Tryd.ntmps40
  go_wp2_with fail
  with_reducible refine CA.out.mono ?_
  rintro e w1 ⟨rfl, hb1⟩
  have HH1 := Lib.hid (HH.out.keep hb1)
  clear hb1 HH hc0 CA
  cases t with
  | false =>
    have CE1 := Lib.hid (CE.out w1 HH1.out.bl)
    go_wp2_with fail
    (with_reducible refine (CE1.out _ ?_).mono ?_)
    (exact rfl)
    rintro e w2 ⟨vr, rfl, hA, hb⟩
    go_wp2_with fail
    go_ret2
    exact zres HH1.out hA hb (by rw [HR.out]; rfl)
  | true =>
    have hc1 := HC1.out w1 HH1.out.bl
    have CN1 := Lib.hid (CN.out w1 HH1.out)
    clear CN CE
    go_wp2_with fail
    with_reducible refine CN1.out.mono ?_
    rintro e w2 ⟨rfl, hb2⟩
    have HH2 := Lib.hid (HH1.out.keep hb2)
    have CS2 := Lib.hid (CS.out w2)
    clear hb2 HH1 CN1 hc1 CS
    go_wp2_with fail
    with_reducible refine CS2.out.mono ?_
    rintro e w3 ⟨rfl, rfl⟩
    cases ts with
    | false =>
      have CO1 := Lib.hid (CO.out _ HH2.out.bl)
      go_wp2_with fail
      (with_reducible refine (CO1.out _ ?_).mono ?_)
      (exact rfl)
      rintro e w4 ⟨vr, rfl, hA, hb⟩
      go_wp2_with fail
      go_ret2
      exact zres HH2.out hA hb (by rw [HR.out]; rfl)
    | true =>
      have hc1 := HC1.out _ HH2.out.bl
      have CP1 := Lib.hid (CP.out _ z HH2.out)
      rw [hR] at CP1
      clear CP CO CS2
      go_wp2_with fail
      with_reducible refine CP1.out.mono ?_
      rintro e w4 ⟨q2, n2, c2, rfl, h2⟩
      have CT1 := Lib.hid (CT.out z w4 HZ.out h2.bl)
      have HH3 := Lib.hid h2
      clear h2 CP1 HH2 hc1 CT
      go_wp2_with fail
      with_reducible refine CT1.out.mono ?_
      rintro e w5 ⟨rfl, hb5⟩
      have HH4 := Lib.hid (HH3.out.keep hb5)
      have CB1 := Lib.hid (CB.out z w5 HZ.out HH4.out.bl)
      clear hb5 CT1 HH3 CB
      go_wp2_with fail
      with_reducible refine CB1.out.mono ?_
      rintro e w6 ⟨vr, rfl, hA, hb⟩
      go_wp2_with fail
      go_ret2
      exact zres HH4.out hA hb (by rw [HR.out]; rfl)

set_option maxHeartbeats 8000000 in
theorem d_rem (w0 w : World) (q : Option Addr) (n c : Nat) (L : List Mk) (qw : Option Addr) (nw cw : Nat) (A : List (List UInt8)) (h : RowI w0 w q n c L) (hW : WS w0 qw nw cw A) (hg : Gd w0) (ht : Tame 1 L A) :
    Calls Tryd.prog 41 #[.slice q n c, .slice qw nw cw] w (ZRes w0 (rowD 1 L A)) := by
  obtain ⟨hup, hin, hz, h2⟩ := ht
  have h2 : A.length ≤ 1048576 := h2
  have hn := h.ln
  have hnz : n + 1 ≤ 1048576 := by rw [← hn]; exact hz
  have hnw : nw ≤ 1048576 := by rw [← hW.wn]; exact h2
  have HH := Lib.hid h
  have HW := Lib.hid hW
  have CI := Lib.hid (fun (z : Int) W (hz : -1048576 ≤ z ∧ z ≤ 1048576) (hW : Below w0.heap.size w0 W) => int_any z W (by omega) (by omega) (hg.keep hW).gt)
  have CW := Lib.hid (fun W q1 n1 c1 R (S : ByteArray) (h1 : RowI w0 W q1 n1 c1 R) (hz1 : n1 ≤ 1048576) => without_any w0 W q1 n1 c1 R S h1 hz1)
  have HLn := Lib.hid (fun k => remA_le (A.take k) L)
  rw [hn] at HLn
  have HR := Lib.hid (fun (m : Nat) (hl : (remA L A).length = m) => (show rowD 1 L A = (remA L A, int ((n : Int) - (m : Int))) by rw [← hl, ← hn]; rfl))
  clear h hW hg hn hz h2 hup hin
  go_enter Tryd.func41, Tryd.ntmps41
  go_wp2_with fail
  go_loopw [6, 12] (fun v i wr => ∃ (k : Nat) (q1 : Option Addr) (n1 c1 : Nat), v = .slice q1 n1 c1 ∧ i = .int .i64 (k : Int) ∧ k ≤ nw ∧ n1 ≤ n ∧ Hid (RowI w0 wr q1 n1 c1 (remA L (A.take k)))) (fun _ i _ => nw - (intOf i).toNat)
  case atStart => exact ⟨0, q, n, c, rfl, rfl, Nat.zero_le _, Nat.le_refl _, Lib.hid HH.out⟩
  case round =>
    obtain ⟨k, q1, n1, c1, rfl, rfl, hk, hn1, HI⟩ := hrel
    rename World => wr
    clear HH
    by_cases hlt : k < nw
    · have d1 : decide ((k : Int) < (nw : Int)) = true := decide_eq_true (by omega)
      have k0 : (0 : Int) ≤ (k : Int) := by omega
      have kn : (k : Int) < (nw : Int) := by omega
      obtain ⟨b, off, rfl, hb, c0⟩ := word_at HW.out HI.out.bl k hlt
      obtain ⟨S, hS, hS2⟩ := str_of (wd A k)
      rw [hS2] at c0
      have hAk : k < A.length := by rw [HW.out.wn]; exact hlt
      have HTk := Lib.hid (show remM (remA L (A.take k)) S.data.toList = remA L (A.take (k + 1)) by rw [remA_take L A k hAk, hS, wd_at hAk])
      have CW1 := Lib.hid (CW.out wr q1 n1 c1 _ S HI.out (by omega))
      rw [HTk.out] at CW1
      have HL1 := Lib.hid (HLn.out (k + 1))
      clear hS hS2 hb hAk HTk
      go_wp2_with fail
      with_reducible refine CW1.out.mono ?_
      rintro e w2 ⟨q2, n2, c2, rfl, h2⟩
      have hn2 : n2 ≤ n := by rw [← h2.ln]; exact HL1.out
      have HI2 := Lib.hid h2
      clear h2 CW1 HI
      go_wp2_with fail
      go_roundw
      case rel => exact ⟨k + 1, q2, n2, c2, rfl, by go_num, by omega, hn2, HI2⟩
      case measure => simp [intOf]; omega
    · have d1 : decide ((k : Int) < (nw : Int)) = false := decide_eq_false (by omega)
      have hAk : A.take k = A := List.take_of_length_le (by rw [HW.out.wn]; omega)
      rw [hAk] at HI
      have HR1 := Lib.hid (HR.out n1 HI.out.ln)
      have CI1 := Lib.hid (CI.out ((n : Int) - (n1 : Int)) wr (by omega) HI.out.bl)
      clear hAk CW CI HLn HR HW
      go_wp2_with fail
      with_reducible refine CI1.out.mono ?_
      rintro e w2 ⟨vr, rfl, hA, hb⟩
      go_wp2_with fail
      go_ret2
      exact zres HI.out hA hb HR1.out

/-- A sorted set as a value. -/
def pvZ (q : Option Addr) (n c : Nat) (L : List Mk) : PV := ⟨5, ⟨#[]⟩, none, 0, 0, none, 0, 0, q, n, c, ⟨5, [], [], [], L⟩⟩
theorem pvZ_in {w : World} {q : Option Addr} {n c : Nat} {L : List Mk} (hn : L.length = n) (h1 : n ≤ c) (h2 : c ≤ 9223372036854775807) (h3 : q = none → c = 0) (h4 : Rs mkE w q L) (hz : n ≤ 1048576) : (pvZ q n c L).In w :=
  ⟨rfl, by simp [pvZ], rfl, Rs.nil _ _ _, Rs.nil _ _ _, h4, rfl, rfl, hn, by simp [pvZ], by simp [pvZ], hz, by simp [pvZ], by simp [pvZ], h1, by simp [pvZ], by simp [pvZ], h2, fun _ => rfl, fun _ => rfl, h3⟩
set_option maxHeartbeats 4000000 in
theorem sortedSet_any (w0 w : World) (q : Option Addr) (n c : Nat) (L : List Mk) (h : RowI w0 w q n c L) (hz : n ≤ 1048576) :
    Calls Tryd.prog 30 #[.slice q n c] w fun e w' => ∃ p : PV, e = .returned p.agg ∧ p.In w' ∧ p.d = zV L ∧ (∀ j, p.at_ j → w0.heap.size ≤ j ∧ j < w.heap.size) ∧ Below w.heap.size w w' := by
  rcases Nat.eq_zero_or_pos n with h0 | h0
  · subst h0
    obtain rfl : L = [] := List.eq_nil_of_length_eq_zero h.ln
    have HCs := Lib.hid (show (Tryd.prog.info? 26).map (·.size) = some (#[.int .u8 0, .string ⟨#[]⟩, .slice none 0 0, .slice none 0 0, .slice none 0 0] : Array Value).size from val_size)
    clear h hz
    go_enter Tryd.func30, Tryd.ntmps30
    go_wp2_with fail
    exact bodyPost_ret (results_cell_row rfl _ _ w.heap.size 26 #[.int .u8 0, .string ⟨#[]⟩, .slice none 0 0, .slice none 0 0, .slice none 0 0] (0, 0) _ rfl (heap_alloc_last w _) Tryd.underlying26 rfl HCs.out) rfl ⟨pv0, rfl, pv0_in _, rfl, fun j hj => absurd hj (pv0_at j), (Below.refl _ _).alloc (Nat.le_refl _) _⟩
  · have HCs := Lib.hid (show (Tryd.prog.info? 26).map (·.size) = some (#[.int .u8 5, .string ⟨#[]⟩, .slice none 0 0, .slice none 0 0, .slice q n c] : Array Value).size from val_size)
    have HI := Lib.hid (fun W (hW : Below w.heap.size w W) => pvZ_in h.ln h.nc h.cm h.nl (h.rs.keep hW) hz)
    have HL := Lib.hid (show (pvZ q n c L).d = zV L from (zV_some (by rw [h.ln]; exact h0)).symm)
    have HG := Lib.hid (show ∀ a, q = some a → w0.heap.size ≤ a.block ∧ a.block < w.heap.size from fun a e => ⟨h.ge h0 a e, by
      obtain ⟨b, off, e', hlt, -⟩ := h.rs (by rw [h.ln]; exact h0)
      rw [e] at e'
      injection e' with e'
      subst e'
      exact hlt⟩)
    have nz : ((n : Int) == 0) = false := by rw [beq_eq_false_iff_ne]; omega
    have nz2 : ¬ (n : Int) = 0 := by omega
    clear h hz
    go_enter Tryd.func30, Tryd.ntmps30
    go_wp2_with fail
    exact bodyPost_ret (results_cell_row rfl _ _ w.heap.size 26 #[.int .u8 5, .string ⟨#[]⟩, .slice none 0 0, .slice none 0 0, .slice q n c] (0, 0) _ rfl (heap_alloc_last w _) Tryd.underlying26 rfl HCs.out) rfl ⟨pvZ q n c L, rfl, HI.out _ (Kit.below1 _ _), HL.out, fun j hj => by
      unfold PV.at_ pvZ at hj
      simp at hj
      obtain ⟨-, a, e, rfl⟩ := hj
      exact HG.out a e, (Below.refl _ _).alloc (Nat.le_refl _) _⟩

end Go.Proofs.YtodpocciimbjbaaDoor.SrtM
namespace Go.Proofs.YtodpocciimbjbaaDoor.SrtM
open Go.RowKit Kit StrT RowG BOrd ValT StoT ReplyT ReplyMath Low DoT SrtT ValM BytesIn NumL NumW ReplyM LawK
open Go.Lib (itoa)
open RefTab (results_cell_slot)
set_option linter.unusedVariables false
set_option maxRecDepth 100000

theorem ss_one (wr : World) (o : Obj) (X : ByteArray) : Rs strE ((wr.alloc o).alloc (.cells #[.string X] 9)) (some ⟨wr.heap.size + 1, 0, none⟩) [X.data.toList] := by
  have h := ss1_new (wr.alloc o) X
  rw [show (wr.alloc o).heap.size = wr.heap.size + 1 by simp] at h
  exact rs_ss.2 h
theorem names_take {P : List Mk} {k : Nat} (h : k < P.length) : mnames (P.take (k + 1)) = mnames (P.take k) ++ [P[k].name] := by
  unfold mnames
  rw [List.take_add_one, List.map_append, List.getElem?_eq_getElem h]
  rfl

set_option maxHeartbeats 8000000 in
theorem d_span (w0 w : World) (q : Option Addr) (n c : Nat) (L : List Mk) (qw : Option Addr) (nw cw : Nat) (A : List (List UInt8)) (h : RowI w0 w q n c L) (hW : WS w0 qw nw cw A) (hg : Gd w0) (ht : Tame 3 L A) :
    Calls Tryd.prog 44 #[.slice q n c, .slice qw nw cw] w (ZRes w0 (rowD 3 L A)) := by
  obtain ⟨hup, hin, hz, hx⟩ := ht
  obtain ⟨t1, t2, t3, t4, t5⟩ : 2 ≤ A.length ∧ L.length ≤ 4096 ∧ (mnames L).flatten.length ≤ 1048576 ∧ (wd A 0).length ≤ 281474976710656 ∧ (wd A 1).length ≤ 281474976710656 := hx
  have hn := h.ln
  have h2' : 2 ≤ nw := by rw [← hW.wn]; exact t1
  obtain ⟨b, off, rfl, hb, c0⟩ := word_at hW h.bl 0 (by omega)
  obtain ⟨b', off', e, -, c1⟩ := word_at hW h.bl 1 (by omega)
  injection e with e
  injection e with e1 e2
  subst e1 e2
  rw [Nat.add_zero] at c0
  obtain ⟨S, hS, hS2⟩ := str_of (wd A 0)
  obtain ⟨T, hT, hT2⟩ := str_of (wd A 1)
  rw [hS2] at c0
  rw [hT2] at c1
  obtain ⟨x, y, hx, hy, hxy, hyn⟩ := partV_in n (wd A 0) (wd A 1)
  have CP := fun d os => Calls.regrown_of (part_any (n : Int) S T (by rw [← str_len, hS]; exact t4) (by rw [← str_len, hT]; exact t5) (by omega) (by omega) (Go.Sort.grow (redrawn w d) os) (hg.keep (h.bl.trans ((below_regrown w d os).mono h.bl.size))))
  rw [hS, hT, hx, hy] at CP
  obtain ⟨ok, hok⟩ : ∃ ok, ok = (partV (n : Int) (wd A 0) (wd A 1)).2.2 := ⟨_, rfl⟩
  rw [← hok] at CP
  have HCP := Lib.hid CP
  have hPB : partB L (wd A 0) (wd A 1) = ok := by unfold partB; rw [hn, hok]
  have hPL : partM L (wd A 0) (wd A 1) = (L.take y).drop x := by unfold partM; rw [hn, hx, hy]; rfl
  obtain ⟨P, hP⟩ : ∃ P, P = (L.take y).drop x := ⟨_, rfl⟩
  have HR := Lib.hid (show rowD 3 L A = (L, if ok = true then texts (mnames P) else eInt) by rw [hP, ← hPL, ← hPB]; rfl)
  have HPn := Lib.hid (show P.length = y - x ∧ (mnames P).flatten.length ≤ 1048576 ∧ y - x ≤ 4096 from ⟨by rw [hP, List.length_drop, List.length_take, hn]; omega, by rw [hP]; exact Nat.le_trans (part_flat L x y) t3, by omega⟩)
  have HPs := Lib.hid (show Rs mkE w (RowG.partAt mkE q c x) P by rw [hP]; exact (h.rs.take y).drop x (by rw [List.length_take, hn]; omega) c (by rw [List.length_take, hn]; have := h.nc; omega))
  have hnc := h.nc
  have s1 : ∀ W, (Instr.slice 24 (.slice q n c) (some (.int .i64 (x : Int))) (some (.int .i64 (y : Int))) none).run Tryd.prog W = .ok (.slice (RowG.partAt mkE q c x) (y - x) (c - x)) W := fun W => sl_mid mkE q n c x y hxy (by omega) W
  generalize RowG.partAt mkE q c x = px at HPs s1
  generalize c - x = cx at s1
  generalize y - x = m at HPn s1
  have HI := Lib.hid h
  have HG := Lib.hid hg
  have CE := Lib.hid (fun W (h : Below w0.heap.size w0 W) (s : ByteArray) (hs : s.data.toList = mInt) => (show Calls Tryd.prog 29 #[.string s] W (Gives eInt W) from err_to s mInt hs (by decide) W (hg.keep h).gt))
  have n0 : 0 < nw := by omega
  have n1 : 1 < nw := by omega
  have n00 : (0 : Int) < (nw : Int) := by omega
  have n11 : (1 : Int) < (nw : Int) := by omega
  clear hS hS2 hT hT2 hx hy hok hPB hPL hP hn hb t1 t2 t3 t4 t5 h2' hW hg h hz hin hup hnc CP hxy hyn
  have x0 := fun d os => cell_regrown c0 d os
  have x1 := fun d os => cell_regrown c1 d os
  go_enter Tryd.func44, Tryd.ntmps44
  go_wp2_with fail
  refine wp_region_quiet_below (by kernel_rfl) (by kernel_rfl) ?_
  repeat (any_goals (go_big_quiet_step ((go_at_call 57; with_reducible exact HCP.out _ _))))
  refine wpQuiet_nil ?_
  intro _ hw'
  obtain ⟨⟨dq, osq⟩, hw''⟩ := hw'
  subst hw''
  have HI1 := Lib.hid (HI.out.keep (below_regrown w dq osq))
  have HPs1 := Lib.hid (HPs.out.keep (below_regrown w dq osq))
  clear c0 c1 x0 x1 HCP HI HPs
  generalize Go.Sort.grow (redrawn w dq) osq = w1 at HI1 HPs1 ⊢
  cases ok with
  | false =>
    have CE1 := Lib.hid (CE.out w1 HI1.out.bl)
    go_wp2_with fail
    (with_reducible refine (CE1.out _ ?_).mono ?_)
    (exact rfl)
    rintro e w2 ⟨vr, rfl, hA, hb⟩
    go_wp2_with fail
    go_ret2
    exact zres HI1.out hA hb (by rw [HR.out]; rfl)
  | true =>
    clear CE
    go_wp2_with fail
    go_loopw [9, 34] (fun v i wr => ∃ k : Nat, i = .int .i64 (k : Int) ∧ k ≤ m ∧ Hid (OwnR strE w1.heap.size wr v (mnames (P.take k))) ∧ Hid (Below w1.heap.size w1 wr)) (fun _ i _ => m - (intOf i).toNat)
    case atStart => exact ⟨0, rfl, Nat.zero_le _, Lib.hid (ownR_nil _ _ _), Lib.hid (Below.refl _ _)⟩
    case round =>
      obtain ⟨k, rfl, hk, HO, HB⟩ := hrel
      rename World => wr
      by_cases hlt : k < m
      · obtain ⟨b, off, rfl, hb, u0, u1⟩ := mark_cells (HPs1.out.keep HB.out) k (by rw [HPn.out.1]; exact hlt)
        obtain ⟨X, hX, hX2⟩ := str_of (P[k]'(by rw [HPn.out.1]; exact hlt)).name
        obtain ⟨N, hN⟩ : ∃ N, N = (P[k]'(by rw [HPn.out.1]; exact hlt)).n := ⟨_, rfl⟩
        rw [hX2] at u0
        rw [← hN] at u1
        have HTk := Lib.hid (show mnames (P.take (k + 1)) = mnames (P.take k) ++ [X.data.toList] by rw [names_take (by rw [HPn.out.1]; exact hlt), hX])
        have HLk := Lib.hid (show (mnames (P.take k)).length ≤ 4096 by unfold mnames; rw [List.length_map, List.length_take]; have := HPn.out.2.2; omega)
        have d1 : decide ((k : Int) < (m : Int)) = true := decide_eq_true (by omega)
        have k0 : (0 : Int) ≤ (k : Int) := by omega
        have kn : (k : Int) < (m : Int) := by omega
        have hmb : m ≤ 4096 := HPn.out.2.2
        have v0 : (wr.alloc (.cells #[.string X, .int .i64 N] 39)).cell? ⟨wr.heap.size, 0, none⟩ = some (.string X) := by
          rw [cell_of_row _ _ _ _ 39 _ (heap_alloc_last wr _)]
          rfl
        have HB2 := Lib.hid (show Below w1.heap.size w1 ((wr.alloc (.cells #[.string X, .int .i64 N] 39)).alloc (.cells #[.string X] 9)) from (HB.out.alloc HB.out.size _).alloc (by have := HB.out.size; simp; omega) _)
        have HO2 := Lib.hid (show OwnR strE w1.heap.size ((wr.alloc (.cells #[.string X, .int .i64 N] 39)).alloc (.cells #[.string X] 9)) u9 (mnames (P.take k)) from HO.out.keep (((Below.refl _ _).alloc (Nat.le_refl _) _).alloc (by simp) _))
        have HR2 := Lib.hid (ss_one wr (.cells #[.string X, .int .i64 N] 39) X)
        clear hb hX hX2 hN
        go_wp2_with (at_builtin; refine wpList_append_rs strE (w0 := w1) rfl (.tmp 38) (.tmp 41) rfl u9 (mnames (P.take k)) rfl HO2.out HB2.out (some ⟨wr.heap.size + 1, 0, none⟩) [X.data.toList] 1 1 rfl rfl HR2.out (fun h => by cases h) (by have := HLk.out; omega) _ HTk.out ?_; intro v1 w2 ho1 hb1)
        go_roundw
        case rel => exact ⟨k + 1, by go_num, by omega, Lib.hid ho1, Lib.hid hb1⟩
        case measure => simp [intOf]; omega
      · have hAk : P.take k = P := List.take_of_length_le (by rw [HPn.out.1]; omega)
        rw [hAk] at HO
        have d1 : decide ((k : Int) < (m : Int)) = false := decide_eq_false (by omega)
        have hml : (mnames P).length = m := by unfold mnames; rw [List.length_map, HPn.out.1]
        obtain ⟨q1, c1, rfl, hS, -, h5, h6, h7⟩ := OwnR.ans HO.out
        rw [hml] at h5 ⊢
        have HI2 := Lib.hid (HI1.out.keep HB.out)
        have CT := Lib.hid (texts_sum q1 (mnames P) m c1 wr hml (rs_ss.1 hS) h5 h6 h7 HPn.out.2.2 HPn.out.2.1 (HG.out.keep HI2.out.bl).gt)
        clear hS h5 h6 h7 hAk HO hml HI1 HPs1
        go_wp2_with fail
        with_reducible refine CT.out.mono ?_
        rintro e w2 ⟨vr, rfl, hA, hb⟩
        go_wp2_with fail
        go_ret2
        exact zres HI2.out hA hb (by rw [HR.out]; rfl)

end Go.Proofs.YtodpocciimbjbaaDoor.SrtM
namespace Go.Proofs.YtodpocciimbjbaaDoor.SrtM
open Go.RowKit Kit StrT RowG BOrd ValT StoT ReplyT ReplyMath ValM BytesIn DoT Low MapT LstT SrtT NumL NumW ReplyM LawK DoV
open RefTab (results_cell_slot)
set_option linter.unusedVariables false
set_option maxRecDepth 100000

def deedV (m : Int) (f : FuncId) : Value := .agg #[.int .i64 m, .func (.func f) #[] #[]]
def deedsL : List (List UInt8 × Value) := [([122, 97, 100, 100], deedV 4 39), ([122, 105, 110, 99, 114, 98, 121], deedV 4 40), ([122, 114, 101, 109], deedV 3 41), ([122, 115, 99, 111, 114, 101], deedV 3 42), ([122, 99, 97, 114, 100], deedV 2 43), ([122, 114, 97, 110, 103, 101], deedV 4 44)]
theorem deeds_nodup : (deedsL.map (·.1)).Nodup := by decide +kernel
set_option maxHeartbeats 8000000 in
theorem deeds_any (w : World) : Calls Tryd.prog 27 #[] w fun e w' => e = .returned (.map (some w.heap.size)) ∧ MapAt w' w.heap.size deedsL ∧ Below w.heap.size w w' := by
  have hmm := @run_makeMap Tryd.prog
  have hM : MapAt (w.alloc (.map #[] 0)) w.heap.size (deedsL.take 0) := MapAt.new w
  have hB : Below w.heap.size w (w.alloc (.map #[] 0)) := Kit.below1 w _
  go_enter Tryd.func27, Tryd.ntmps27
  go_upto_region 1 with fail
  apply wp_region_lit
  try simp only [List.append_eq, List.cons_append, List.nil_append]
  go_wp2_with (with_reducible refine wpList_insert_lit rfl 62 (.tmp 1) _ _ rfl 9 60 Tryd.underlying62 Tryd.underlying9 w.heap.size w.heap.size rfl deedsL _ hM deeds_nodup hB (Nat.le_refl _) (by kernel_rfl) ?_; clear hM hB; intro w1 hM hB)
  go_ret
  exact ⟨rfl, hM, hB⟩

theorem deeds_bm (w : World) : Calls Tryd.prog 27 #[] w fun e w' => ∃ bm, e = .returned (.map (some bm)) ∧ MapAt w' bm deedsL ∧ Below w.heap.size w w' :=
  (deeds_any w).mono fun e w' h => ⟨_, h.1, h.2⟩
/-- The block of what was found, before it is filled. -/
def DZ (w : World) (g : Nat) : Prop := w.heap[g]? = some (.cells #[.int .i64 0, .nilFunc] 60 (0, 0))
theorem DZ.keep {w w' : World} {g : Nat} (h : DZ w g) (hb : Below w.heap.size w w') : DZ w' g := (hb.block g (Array.getElem?_eq_some_iff.1 h).1).trans h
theorem dz_al {w w' : World} (hb : Below (w.alloc (.cells #[.int .i64 0, .nilFunc] 60)).heap.size (w.alloc (.cells #[.int .i64 0, .nilFunc] 60)) w') : DZ w' w.heap.size := DZ.keep (heap_alloc_last w _) hb
theorem dz_da {w w' : World} (hb : Below (w.drew.alloc (.cells #[.int .i64 0, .nilFunc] 60)).heap.size (w.drew.alloc (.cells #[.int .i64 0, .nilFunc] 60)) w') : DZ w' w.heap.size := DZ.keep (heap_alloc_last w.drew _) hb
theorem b_al {w w' : World} {o : Obj} (hb : Below (w.alloc o).heap.size (w.alloc o) w') : Below w.heap.size w w' := ((Below.refl _ _).alloc (Nat.le_refl _) _).trans (hb.mono (by simp))
theorem b_da {w w' : World} {o : Obj} (hb : Below (w.drew.alloc o).heap.size (w.drew.alloc o) w') : Below w.heap.size w w' := ((Below.refl _ w).drew.alloc (Nat.le_refl _) _).trans (hb.mono (show w.heap.size ≤ (w.drew.alloc o).heap.size by have : w.drew.heap.size = w.heap.size := rfl; simp [this]))
theorem b_dr {w w' : World} (hb : Below w.drew.heap.size w.drew w') : Below w.heap.size w w' := (Below.refl w.heap.size w).drew.trans hb
theorem dz_facts {w : World} {g : Nat} (h : DZ w g) : w.cell? ⟨g, 0, none⟩ = some (.int .i64 0) ∧ w.cell? ⟨g, 1, none⟩ = some .nilFunc ∧ w.frozen? ⟨g, 0, none⟩ = false ∧ w.frozen? ⟨g, 1, none⟩ = false :=
  ⟨(cell_of_row _ _ _ _ 60 _ h).trans rfl, (cell_of_row _ _ _ _ 60 _ h).trans rfl, frozen_of_row _ _ _ _ 60 h, frozen_of_row _ _ _ _ 60 h⟩
def dset (w : World) (g : Nat) (m : Int) (fu : FuncId) : World := (w.setCell ⟨g, 0, none⟩ (.int .i64 m)).setCell ⟨g, 1, none⟩ (.func (.func fu) #[] #[])
/-- What was found is there; the value's blocks are as they were. -/
structure Fnd (w w7 : World) (gd : Nat) (m : Int) (fu : FuncId) (x z : Array Value) (p : PV) : Prop where
  db : DB w w7 x z
  pv : p.In w7
  d0 : w7.cell? ⟨gd, 0, none⟩ = some (.int .i64 m)
  d1 : w7.cell? ⟨gd, 1, none⟩ = some (.func (.func fu) #[] #[])
theorem fnd_al {w w6 : World} {m : Int} {fu : FuncId} {x z : Array Value} {p : PV} (h : DB w w6 x z) (hp : p.In w6) : Fnd w (w6.alloc (.cells #[.int .i64 m, .func (.func fu) #[] #[]] 60)) w6.heap.size m fu x z p where
  db := h.keep (Kit.below1 w6 _)
  pv := pv_keep hp (Kit.below1 w6 _)
  d0 := by rw [cell_of_row _ _ _ _ 60 _ (heap_alloc_last w6 _)]; rfl
  d1 := by rw [cell_of_row _ _ _ _ 60 _ (heap_alloc_last w6 _)]; rfl
theorem fnd_set {w w6 : World} {gd : Nat} {m : Int} {fu : FuncId} {x z : Array Value} {p : PV} (hz : DZ w6 gd) (hg : w.heap.size + 1 < gd) (hq : ∀ j, p.at_ j → j < gd) (h : DB w w6 x z) (hp : p.In w6) : Fnd w (dset w6 gd m fu) gd m fu x z p := by
  have h1 := heap_setCell_same _ _ 0 _ _ (.int .i64 m) hz
  have h2 := heap_setCell_same _ _ 1 _ _ (.func (.func fu) #[] #[]) h1
  have ho' : ∀ j, j ≠ gd → (dset w6 gd m fu).heap[j]? = w6.heap[j]? := fun j hj => by
    unfold dset
    rw [heap_setCell_other _ _ _ _ hj, heap_setCell_other _ _ _ _ hj]
  refine ⟨⟨by rw [ho' _ (by omega)]; exact h.bx, by rw [ho' _ (by omega)]; exact h.re, ((h.bl.setCell (p := ⟨gd, 0, none⟩) (by show _ ≤ gd; omega) _).setCell (p := ⟨gd, 1, none⟩) (by show _ ≤ gd; omega) _), by simpa [dset] using h.sz⟩, hp.same (by simp [dset]) (fun j hj => ho' j (by have := hq j hj; omega)), ?_, ?_⟩
  · exact (cell_of_row _ _ _ _ 60 _ h2).trans rfl
  · exact (cell_of_row _ _ _ _ 60 _ h2).trans rfl

theorem own_pv (k : Int) (S : ByteArray) (ql : Option Addr) (nl cl : Nat) (qh : Option Addr) (nh ch : Nat) (qz : Option Addr) (nz cz : Nat) (d : V) (w : World) (h : VIn w k S ql nl cl qh nh ch qz nz cz d) :
    Calls Tryd.prog 26 #[.agg #[.int .u8 k, .string S, .slice ql nl cl, .slice qh nh ch, .slice qz nz cz]] w fun e w' => ∃ p : PV, e = .returned p.agg ∧ p.In w' ∧ p.d = d ∧ (∀ j, p.at_ j → w.heap.size ≤ j) ∧ Below w.heap.size w w' := by
  have hz := pv_sizes (p := ⟨k, S, ql, nl, cl, qh, nh, ch, qz, nz, cz, d⟩) h
  refine (own_any2 k S ql nl cl qh nh ch qz nz cz d w h).mono ?_
  intro e w' he
  obtain ⟨p, e1, e2, e3, e4, e5⟩ := pv_own he.p hz.1 hz.2.1 hz.2.2.1 hz.2.2.2
  exact ⟨p, e1, e2, e3, fun j hj => (e4 j hj).1, e5⟩
theorem cut_world (W : World) (b : Nat) (h : b ≤ W.heap.size) : ∃ w0 : World, w0.heap.size = b ∧ Below b w0 W :=
  ⟨{ W with heap := W.heap.extract 0 b }, by simp; omega, ⟨rfl, rfl, rfl, by simp; omega, fun k hk => by
    show W.heap[k]? = (W.heap.extract 0 b)[k]?
    rw [Array.getElem?_extract, if_pos (by omega), Nat.zero_add]⟩⟩
theorem db_cut {w W : World} {x z : Array Value} (h : DB w W x z) (B : Nat) (h1 : w.heap.size + 1 + 1 ≤ B) (h2 : B ≤ W.heap.size) : ∃ w0 : World, w0.heap.size = B ∧ DB w w0 x z ∧ Below w0.heap.size w0 W := by
  obtain ⟨w0, hs, hb⟩ := cut_world W B h2
  refine ⟨w0, hs, ⟨?_, ?_, ?_, by omega⟩, by rw [hs]; exact hb⟩
  · rw [← hb.block _ (by omega)]; exact h.bx
  · rw [← hb.block _ (by omega)]; exact h.re
  · have h1 := h.bl
    exact ⟨hb.os.symm.trans h1.os, hb.tape.symm.trans h1.tape, hb.output.symm.trans h1.output, by omega, fun k hk => by rw [← hb.block k (by omega)]; exact h1.block k hk⟩

set_option maxHeartbeats 8000000 in
/-- Of a value of another type. -/
theorem do_wrong (nm : List UInt8) (m : Int) (fu : FuncId) (hV : ∀ Z, getM deedsL nm Z = .agg #[.int .i64 m, .func (.func fu) #[] #[]]) (p : PV) (q : Option Addr) (L : List (List UInt8)) (n c : Nat) (w : World) (hp : p.In w) (hS : p.S.size ≤ 1048576) (hg : Gd w) (hn : L.length = n) (h0 : 1 ≤ n) (hm : m ≤ n) (hs : StrT.Ss w q L) (hw : (wd L 0).length ≤ 140737488351232) (hnm : nmL L = nm) (hk : p.d.kind ≠ 0 ∧ p.d.kind ≠ 5) :
    Calls Tryd.prog 11 #[p.agg, .slice q n c] w (DoP (fun _ => False) p.d eWrong w) := by
  obtain ⟨k, S, ql, nl, cl, qh, nh, ch, qz, nz, cz, d⟩ := p
  have CO := Lib.hid (fun W (h : Below w.heap.size w W) => own_pv k S ql nl cl qh nh ch qz nz cz d W (pv_keep hp h))
  have HSd := Lib.hid (show S.data.toList = d.s from VIn.es hp)
  have hSz : S.size ≤ 1048576 := hS
  have HSs := Lib.hid (show d.s.length ≤ 1048576 by rw [← HSd.out, str_len]; exact hSz)
  have HG := Lib.hid (fun W (h : Below w.heap.size w W) => hg.keep h)
  have HD := Lib.hid (DB.new w #[.int .u8 k, .string S, .slice ql nl cl, .slice qh nh ch, .slice qz nz cz] #[.int .u8 0, .string ⟨#[]⟩, .slice none 0 0, .slice none 0 0, .slice none 0 0])
  obtain ⟨T, hT⟩ : ∃ T : ByteArray, T = ⟨(wd L 0).toArray⟩ := ⟨_, rfl⟩
  have hTz : T.size ≤ maxLen := by rw [hT, size_bytes]; unfold maxLen; exact Nat.le_trans hw (by decide)
  have HTd := Lib.hid (show lowL T.data.toList = nm by rw [hT]; exact hnm)
  obtain ⟨b, off, rfl, hbl, hc⟩ := ss_word hs 0 (by omega)
  rw [← hT, Nat.add_zero] at hc
  have HC := Lib.hid (fun W (h : Below w.heap.size w W) => (h.cell (p := ⟨b, off, none⟩) hbl).trans hc)
  have HSt := Lib.hid (fun W (h : Below w.heap.size w W) => hs.keep h)
  have n0 : (0 : Int) < (n : Int) := by omega
  have n00 : 0 < n := by omega
  have n1 : ((n : Int) == 0) = false := by rw [beq_eq_false_iff_ne]; omega
  have n3 : decide ((n : Int) < m) = false := decide_eq_false (by omega)
  have CD := Lib.hid (fun W => deeds_bm W)
  have CL := Lib.hid (fun W => LowN.lower_any T W hTz)
  rw [HTd.out] at CL
  have HLk := Lib.hid (fun (W : World) (bm : Nat) (h : MapAt W bm deedsL) => lookup_ok Tryd.underlying62 Tryd.underlying9 h ⟨nm.toArray⟩ (.agg #[.int .i64 m, .func (.func fu) #[] #[]]) hV)
  have CE := Lib.hid (fun W (h : Below w.heap.size w W) (s : ByteArray) (hs : s.data.toList = mWrong) => (show Calls Tryd.prog 29 #[.string s] W (Gives eWrong W) from err_to s mWrong hs (by decide) W (hg.gt.keep h)))
  have HK := Lib.hid hk
  show Calls Tryd.prog 11 #[.agg #[.int .u8 k, .string S, .slice ql nl cl, .slice qh nh ch, .slice qz nz cz], .slice (some ⟨b, off, none⟩) n c] w _
  clear hp hS hg hT hnm hs hc hw HTd hV
  go_enter Tryd.func11, Tryd.ntmps11
  go_wp2_with fail
  generalize ((w.alloc _).alloc _) = W2 at HD ⊢
  with_reducible refine (CO.out _ HD.out.bl).mono ?_
  rintro e w3 ⟨p1, rfl, hI, hd, ha, hb3⟩
  obtain ⟨k1, S1, ql1, nl1, cl1, qh1, nh1, ch1, qz1, nz1, cz1, d1⟩ := p1
  dsimp only [PV.agg]
  obtain rfl : d1 = d := hd
  rename V => d
  have HCs := Lib.hid (show (Tryd.prog.info? 26).map (·.size) = some (#[.int .u8 k1, .string S1, .slice ql1 nl1 cl1, .slice qh1 nh1 ch1, .slice qz1 nz1 cz1] : Array Value).size from val_size)
  have HOn := Lib.hid (show (#[.int .u8 k1, .string S1, .slice ql1 nl1 cl1, .slice qh1 nh1 ch1, .slice qz1 nz1 cz1] : Array Value).all (·.oneCell') = true by simp [Value.oneCell'])
  have HD3 := Lib.hid (HD.out.keep hb3)
  have HA3 := Lib.hid (show ∀ j, PV.at_ ⟨k1, S1, ql1, nl1, cl1, qh1, nh1, ch1, qz1, nz1, cz1, d⟩ j → w.heap.size + 1 < j from fun j hj => by have := ha j hj; have := HD.out.sz; omega)
  have HI3 := Lib.hid (show PV.In (w3.setRow w.heap.size #[.int .u8 k1, .string S1, .slice ql1 nl1 cl1, .slice qh1 nh1 ch1, .slice qz1 nz1 cz1]) ⟨k1, S1, ql1, nl1, cl1, qh1, nh1, ch1, qz1, nz1, cz1, d⟩ from PV.In.same hI (by simp) (fun j hj => setRow_other _ _ _ _ (by have := HA3.out j hj; omega)))
  have HD4 := Lib.hid (HD3.out.setBox #[.int .u8 k1, .string S1, .slice ql1 nl1 cl1, .slice qh1 nh1 ch1, .slice qz1 nz1 cz1])
  have HB4 := Lib.hid (show w.heap.size + 1 + 1 ≤ (w3.setRow w.heap.size #[.int .u8 k1, .string S1, .slice ql1 nl1 cl1, .slice qh1 nh1 ch1, .slice qz1 nz1 cz1]).heap.size from Nat.le_trans HD.out.sz (by simpa using hb3.size))
  clear hb3 hI ha CO HD
  go_upto_region 4 with (with_reducible refine wpList_store_row rfl 26 (.tmp 2) (.tmp 11) rfl w.heap.size #[.int .u8 k1, .string S1, .slice ql1 nl1 cl1, .slice qh1 nh1 ch1, .slice qz1 nz1 cz1] rfl rfl 26 _ HD3.out.bx HCs.out rfl HOn.out ?_)
  clear HD3
  generalize w3.setRow w.heap.size #[.int .u8 k1, .string S1, .slice ql1 nl1 cl1, .slice qh1 nh1 ch1, .slice qz1 nz1 cz1] = w4 at HD4 HI3 HB4 ⊢
  have hc4 := HC.out _ HD4.out.bl
  have hc4a := HC.out _ (HD4.out.bl.alloc HD4.out.bl.size (.cells #[.int .i64 0, .nilFunc] 60))
  have hc4b := HC.out _ (HD4.out.bl.drew.alloc HD4.out.bl.size (.cells #[.int .i64 0, .nilFunc] 60))
  have HQ4 := Lib.hid (pv_lt HI3.out)
  have HS4 := Lib.hid HD4.out.sz
  go_cut [6, 7] (fun s6 s7 wx => ∃ gd, s6 = .pointer (some ⟨gd, 0, none⟩) ∧ s7 = .bool true ∧ Hid (Fnd w wx gd m fu #[.int .u8 k1, .string S1, .slice ql1 nl1 cl1, .slice qh1 nh1 ch1, .slice qz1 nz1 cz1] #[.int .u8 0, .string ⟨#[]⟩, .slice none 0 0, .slice none 0 0, .slice none 0 0] ⟨k1, S1, ql1, nl1, cl1, qh1, nh1, ch1, qz1, nz1, cz1, d⟩))
  case first =>
   go_region_law (first
    | (go_simp; (with_reducible refine (CD.out _).mono ?_); rintro e w5 ⟨bm, rfl, hM, hb5⟩; dsimp only
       have hb5' : Below w4.heap.size w4 w5 := by first | exact hb5 | exact b_dr hb5 | exact b_al hb5 | exact b_da hb5
       have HM5 := Lib.hid hM
       have HD5 := Lib.hid (HD4.out.keep hb5')
       have HI5 := Lib.hid (pv_keep HI3.out hb5')
       have hc5 := HC.out _ HD5.out.bl
       have hc5a := HC.out _ (HD5.out.bl.alloc HD5.out.bl.size (.cells #[.int .i64 0, .nilFunc] 60))
       first
         | (have HZ5 := Lib.hid (show DZ w5 w4.heap.size from dz_al hb5); have HL5 := Lib.hid hb5'.size)
         | (have HZ5 := Lib.hid (show DZ w5 w4.heap.size from dz_da hb5); have HL5 := Lib.hid hb5'.size)
         | (have HL5 := Lib.hid hb5'.size)
       clear hM hb5 hb5')
    | (go_simp; (with_reducible refine (CL.out _).mono ?_); rintro e w6 ⟨rfl, hb6⟩; dsimp only
       have hb6' : Below w5.heap.size w5 w6 := by first | exact hb6 | exact b_dr hb6 | exact b_al hb6 | exact b_da hb6
       have HM6 := Lib.hid (HM5.out.keep hb6')
       have hlk := HLk.out w6 _ HM6.out
       have hlk2 := HLk.out _ _ (HM6.out.keep (Kit.below1 w6 (.cells #[.int .i64 0, .nilFunc] 60)))
       have HD6 := Lib.hid (HD5.out.keep hb6')
       have HI6 := Lib.hid (pv_keep HI5.out hb6')
       first
         | (have HF := Lib.hid (show Fnd w (dset w6 w4.heap.size m fu) w4.heap.size m fu _ _ _ from fnd_set (HZ5.out.keep hb6') (by have := HS4.out; omega) HQ4.out HD6.out HI6.out)
            have hzc := HZ5.out.keep hb6'
            obtain ⟨z0, z1, y0, y1⟩ := dz_facts hzc
            clear hzc)
         | (have hzc : DZ w6 w5.heap.size := by first | exact dz_al hb6 | exact dz_da hb6
            have HF := Lib.hid (show Fnd w (dset w6 w5.heap.size m fu) w5.heap.size m fu _ _ _ from fnd_set hzc (by have := HS4.out; have := HL5.out; omega) (fun j hj => Nat.lt_of_lt_of_le (HQ4.out j hj) HL5.out) HD6.out HI6.out)
            obtain ⟨z0, z1, y0, y1⟩ := dz_facts hzc
            clear hzc)
         | (have HF := Lib.hid (fnd_al (m := m) (fu := fu) HD6.out HI6.out))
       clear hb6 hb6'))
   all_goals
    go_wp2_with fail
    go_meet
    exact ⟨_, rfl, rfl, HF⟩
  case rest =>
  obtain ⟨gd, rfl, rfl, HF⟩ := hcut
  clear HD4 HI3 hc4 hc4a hc4b HQ4 HS4 CD CL HLk HC
  rename World => W2
  have HD := Lib.hid HF.out.db
  have HI := Lib.hid HF.out.pv
  have d0 := HF.out.d0
  have d1 := HF.out.d1
  clear HF
  obtain ⟨-, -, b0, b1, b2, b3, b4⟩ := HD.out.room
  have hK : k1 = (d.kind : Int) := VIn.ek HI.out
  have t0 : (k1 != 0) = true := bne_iff_ne.2 (by have h : d.kind ≠ 0 := HK.out.1; rw [hK]; omega)
  have t1 : (k1 != 5) = true := bne_iff_ne.2 (by have h : d.kind ≠ 5 := HK.out.2; rw [hK]; omega)
  clear hK
  go_wp2_with fail
  go_region_law (first
    | (go_simp; (with_reducible refine (CE.out _ (by first | exact HD.out.bl | exact HD.out.bl.drew) _ ?_).mono ?_); (exact rfl); rintro e w4 ⟨vr, rfl, hA, hb4⟩; dsimp only
       have hb4' : Below W2.heap.size W2 w4 := by first | exact hb4 | exact (Below.refl W2.heap.size W2).drew.trans hb4
       have HD4 := Lib.hid (HD.out.keep hb4')
       have HI4 := Lib.hid (pv_keep HI.out hb4')
       have HA4 := Lib.hid (show Ans W2.heap.size w4 vr _ from hA)
       obtain ⟨-, -, c0, c1, c2, c3, c4⟩ := HD4.out.room
       obtain ⟨-, -, r0, r1, r2, r3, r4⟩ := HD4.out.roomR
       have f0 := HD4.out.roomR.frz 0
       have f1 := HD4.out.roomR.frz 1
       have f2 := HD4.out.roomR.frz 2
       have f3 := HD4.out.roomR.frz 3
       have f4 := HD4.out.roomR.frz 4
       clear hA hb4 hb4'))
  all_goals
    have HHe := Lib.hid (val_five HD4.out.re (.int .u8 k1) (.string S1) (.slice ql1 nl1 cl1) (.slice qh1 nh1 ch1) (.slice qz1 nz1 cz1))
    have HE := Lib.hid (do_five HD4.out ⟨k1, S1, ql1, nl1, cl1, qh1, nh1, ch1, qz1, nz1, cz1, d⟩ (fun _ => False) _ d _ vr HI4.out rfl (fun j hj => Or.inr (by have := HA3.out j hj; omega)) (fun j hj => by have := HA3.out j hj; omega) HA4.out (by have := HD.out.sz; omega))
    go_wp2_with fail
    exact bodyPost_ret (results_cell_slot rfl _ _ (w.heap.size + 1) 26 #[.int .u8 k1, .string S1, .slice ql1 nl1 cl1, .slice qh1 nh1 ch1, .slice qz1 nz1 cz1] (0, 0) _ vr rfl HHe.out Tryd.underlying26 rfl HCs.out rfl) rfl HE.out

set_option maxHeartbeats 16000000 in
/-- Of a value of its own type, or none. -/
theorem do_right (i : Nat) (nm : List UInt8) (m : Int) (fu : FuncId) (hE : ∀ (args : Array Value) (W : World), (callFunc fu args).run Tryd.prog W = .ok (.enter fu args) W) (hV : ∀ Z, getM deedsL nm Z = .agg #[.int .i64 m, .func (.func fu) #[] #[]])
    (hF : ∀ w0 w q n c L qw nw cw A, RowI w0 w q n c L → WS w0 qw nw cw A → Gd w0 → Tame i L A → Calls Tryd.prog fu #[.slice q n c, .slice qw nw cw] w (ZRes w0 (rowD i L A)))
    (p : PV) (q : Option Addr) (L : List (List UInt8)) (n c : Nat) (w : World) (hp : p.In w) (hS : p.S.size ≤ 1048576) (hg : Gd w) (hn : L.length = n) (hc2 : n ≤ c) (h0 : 2 ≤ n) (hm : m ≤ n) (hs : StrT.Ss w q L) (hw : (wd L 0).length ≤ 140737488351232) (hnm : nmL L = nm) (hk : p.d.kind = 0 ∨ p.d.kind = 5) (ht : Tame i p.d.z (L.drop 2)) :
    Calls Tryd.prog 11 #[p.agg, .slice q n c] w (DoP (fun _ => False) (zV (rowD i p.d.z (L.drop 2)).1) (rowD i p.d.z (L.drop 2)).2 w) := by
  obtain ⟨k, S, ql, nl, cl, qh, nh, ch, qz, nz, cz, d⟩ := p
  have CO := Lib.hid (fun W (h : Below w.heap.size w W) => own_pv k S ql nl cl qh nh ch qz nz cz d W (pv_keep hp h))
  have HSd := Lib.hid (show S.data.toList = d.s from VIn.es hp)
  have hSz : S.size ≤ 1048576 := hS
  have HSs := Lib.hid (show d.s.length ≤ 1048576 by rw [← HSd.out, str_len]; exact hSz)
  have HG := Lib.hid (fun W (h : Below w.heap.size w W) => hg.keep h)
  have HD := Lib.hid (DB.new w #[.int .u8 k, .string S, .slice ql nl cl, .slice qh nh ch, .slice qz nz cz] #[.int .u8 0, .string ⟨#[]⟩, .slice none 0 0, .slice none 0 0, .slice none 0 0])
  obtain ⟨T, hT⟩ : ∃ T : ByteArray, T = ⟨(wd L 0).toArray⟩ := ⟨_, rfl⟩
  have hTz : T.size ≤ maxLen := by rw [hT, size_bytes]; unfold maxLen; exact Nat.le_trans hw (by decide)
  have HTd := Lib.hid (show lowL T.data.toList = nm by rw [hT]; exact hnm)
  obtain ⟨b, off, rfl, hbl, hc⟩ := ss_word hs 0 (by omega)
  rw [← hT, Nat.add_zero] at hc
  have HC := Lib.hid (fun W (h : Below w.heap.size w W) => (h.cell (p := ⟨b, off, none⟩) hbl).trans hc)
  have HSt := Lib.hid (fun W (h : Below w.heap.size w W) => hs.keep h)
  have n0 : (0 : Int) < (n : Int) := by omega
  have n00 : 0 < n := by omega
  have n1 : ((n : Int) == 0) = false := by rw [beq_eq_false_iff_ne]; omega
  have n3 : decide ((n : Int) < m) = false := decide_eq_false (by omega)
  have CD := Lib.hid (fun W => deeds_bm W)
  have CL := Lib.hid (fun W => LowN.lower_any T W hTz)
  rw [HTd.out] at CL
  have HLk := Lib.hid (fun (W : World) (bm : Nat) (h : MapAt W bm deedsL) => lookup_ok Tryd.underlying62 Tryd.underlying9 h ⟨nm.toArray⟩ (.agg #[.int .i64 m, .func (.func fu) #[] #[]]) hV)
  have HK := Lib.hid hk
  have HT := Lib.hid (show Tame i d.z (L.drop 2) from ht)
  have HRz := Lib.hid (show (rowD i d.z (L.drop 2)).1.length ≤ 1048576 from Nat.le_trans (row_len i (L.drop 2) ht.1) ht.2.2.1)
  have HN := Lib.hid (show (L.drop 2).length = n - 2 ∧ n - 2 ≤ c - 2 ∧ n ≤ c ∧ L.length = n ∧ 2 ≤ n from ⟨by rw [List.length_drop, hn], by omega, hc2, hn, h0⟩)
  have HG0 := Lib.hid hg
  have s1 : ∀ W, (Instr.slice 22 (.slice (some ⟨b, off, none⟩) n c) (some (.int .i64 2)) none none).run Tryd.prog W = .ok (.slice (StrT.partAt (some ⟨b, off, none⟩) c 2) (n - 2) (c - 2)) W := fun W => StrT.sl_l _ n c 2 h0 hc2 W
  obtain ⟨pw, hpw⟩ : ∃ pw, pw = StrT.partAt (some ⟨b, off, none⟩) c 2 := ⟨_, rfl⟩
  rw [← hpw] at s1
  have HPW := Lib.hid hpw
  clear hpw ht hn hc2
  show Calls Tryd.prog 11 #[.agg #[.int .u8 k, .string S, .slice ql nl cl, .slice qh nh ch, .slice qz nz cz], .slice (some ⟨b, off, none⟩) n c] w _
  clear hp hS hg hT hnm hs hc hw HTd hV
  go_enter Tryd.func11, Tryd.ntmps11
  go_wp2_with fail
  generalize ((w.alloc _).alloc _) = W2 at HD ⊢
  with_reducible refine (CO.out _ HD.out.bl).mono ?_
  rintro e w3 ⟨p1, rfl, hI, hd, ha, hb3⟩
  obtain ⟨k1, S1, ql1, nl1, cl1, qh1, nh1, ch1, qz1, nz1, cz1, d1⟩ := p1
  dsimp only [PV.agg]
  obtain rfl : d1 = d := hd
  rename V => d
  have HCs := Lib.hid (show (Tryd.prog.info? 26).map (·.size) = some (#[.int .u8 k1, .string S1, .slice ql1 nl1 cl1, .slice qh1 nh1 ch1, .slice qz1 nz1 cz1] : Array Value).size from val_size)
  have HOn := Lib.hid (show (#[.int .u8 k1, .string S1, .slice ql1 nl1 cl1, .slice qh1 nh1 ch1, .slice qz1 nz1 cz1] : Array Value).all (·.oneCell') = true by simp [Value.oneCell'])
  have HD3 := Lib.hid (HD.out.keep hb3)
  have HA3 := Lib.hid (show ∀ j, PV.at_ ⟨k1, S1, ql1, nl1, cl1, qh1, nh1, ch1, qz1, nz1, cz1, d⟩ j → w.heap.size + 1 < j from fun j hj => by have := ha j hj; have := HD.out.sz; omega)
  have HI3 := Lib.hid (show PV.In (w3.setRow w.heap.size #[.int .u8 k1, .string S1, .slice ql1 nl1 cl1, .slice qh1 nh1 ch1, .slice qz1 nz1 cz1]) ⟨k1, S1, ql1, nl1, cl1, qh1, nh1, ch1, qz1, nz1, cz1, d⟩ from PV.In.same hI (by simp) (fun j hj => setRow_other _ _ _ _ (by have := HA3.out j hj; omega)))
  have HD4 := Lib.hid (HD3.out.setBox #[.int .u8 k1, .string S1, .slice ql1 nl1 cl1, .slice qh1 nh1 ch1, .slice qz1 nz1 cz1])
  have HB4 := Lib.hid (show w.heap.size + 1 + 1 ≤ (w3.setRow w.heap.size #[.int .u8 k1, .string S1, .slice ql1 nl1 cl1, .slice qh1 nh1 ch1, .slice qz1 nz1 cz1]).heap.size from Nat.le_trans HD.out.sz (by simpa using hb3.size))
  clear hb3 hI ha CO HD
  go_upto_region 4 with (with_reducible refine wpList_store_row rfl 26 (.tmp 2) (.tmp 11) rfl w.heap.size #[.int .u8 k1, .string S1, .slice ql1 nl1 cl1, .slice qh1 nh1 ch1, .slice qz1 nz1 cz1] rfl rfl 26 _ HD3.out.bx HCs.out rfl HOn.out ?_)
  clear HD3
  generalize w3.setRow w.heap.size #[.int .u8 k1, .string S1, .slice ql1 nl1 cl1, .slice qh1 nh1 ch1, .slice qz1 nz1 cz1] = w4 at HD4 HI3 HB4 ⊢
  have hc4 := HC.out _ HD4.out.bl
  have hc4a := HC.out _ (HD4.out.bl.alloc HD4.out.bl.size (.cells #[.int .i64 0, .nilFunc] 60))
  have hc4b := HC.out _ (HD4.out.bl.drew.alloc HD4.out.bl.size (.cells #[.int .i64 0, .nilFunc] 60))
  have HQ4 := Lib.hid (pv_lt HI3.out)
  have HS4 := Lib.hid HD4.out.sz
  go_cut [6, 7] (fun s6 s7 wx => ∃ gd, s6 = .pointer (some ⟨gd, 0, none⟩) ∧ s7 = .bool true ∧ Hid (Fnd w wx gd m fu #[.int .u8 k1, .string S1, .slice ql1 nl1 cl1, .slice qh1 nh1 ch1, .slice qz1 nz1 cz1] #[.int .u8 0, .string ⟨#[]⟩, .slice none 0 0, .slice none 0 0, .slice none 0 0] ⟨k1, S1, ql1, nl1, cl1, qh1, nh1, ch1, qz1, nz1, cz1, d⟩))
  case first =>
   go_region_law (first
    | (go_simp; (with_reducible refine (CD.out _).mono ?_); rintro e w5 ⟨bm, rfl, hM, hb5⟩; dsimp only
       have hb5' : Below w4.heap.size w4 w5 := by first | exact hb5 | exact b_dr hb5 | exact b_al hb5 | exact b_da hb5
       have HM5 := Lib.hid hM
       have HD5 := Lib.hid (HD4.out.keep hb5')
       have HI5 := Lib.hid (pv_keep HI3.out hb5')
       have hc5 := HC.out _ HD5.out.bl
       have hc5a := HC.out _ (HD5.out.bl.alloc HD5.out.bl.size (.cells #[.int .i64 0, .nilFunc] 60))
       first
         | (have HZ5 := Lib.hid (show DZ w5 w4.heap.size from dz_al hb5); have HL5 := Lib.hid hb5'.size)
         | (have HZ5 := Lib.hid (show DZ w5 w4.heap.size from dz_da hb5); have HL5 := Lib.hid hb5'.size)
         | (have HL5 := Lib.hid hb5'.size)
       clear hM hb5 hb5')
    | (go_simp; (with_reducible refine (CL.out _).mono ?_); rintro e w6 ⟨rfl, hb6⟩; dsimp only
       have hb6' : Below w5.heap.size w5 w6 := by first | exact hb6 | exact b_dr hb6 | exact b_al hb6 | exact b_da hb6
       have HM6 := Lib.hid (HM5.out.keep hb6')
       have hlk := HLk.out w6 _ HM6.out
       have hlk2 := HLk.out _ _ (HM6.out.keep (Kit.below1 w6 (.cells #[.int .i64 0, .nilFunc] 60)))
       have HD6 := Lib.hid (HD5.out.keep hb6')
       have HI6 := Lib.hid (pv_keep HI5.out hb6')
       first
         | (have HF := Lib.hid (show Fnd w (dset w6 w4.heap.size m fu) w4.heap.size m fu _ _ _ from fnd_set (HZ5.out.keep hb6') (by have := HS4.out; omega) HQ4.out HD6.out HI6.out)
            have hzc := HZ5.out.keep hb6'
            obtain ⟨z0, z1, y0, y1⟩ := dz_facts hzc
            clear hzc)
         | (have hzc : DZ w6 w5.heap.size := by first | exact dz_al hb6 | exact dz_da hb6
            have HF := Lib.hid (show Fnd w (dset w6 w5.heap.size m fu) w5.heap.size m fu _ _ _ from fnd_set hzc (by have := HS4.out; have := HL5.out; omega) (fun j hj => Nat.lt_of_lt_of_le (HQ4.out j hj) HL5.out) HD6.out HI6.out)
            obtain ⟨z0, z1, y0, y1⟩ := dz_facts hzc
            clear hzc)
         | (have HF := Lib.hid (fnd_al (m := m) (fu := fu) HD6.out HI6.out))
       clear hb6 hb6'))
   all_goals
    go_wp2_with fail
    go_meet
    exact ⟨_, rfl, rfl, HF⟩
  case rest =>
  obtain ⟨gd, rfl, rfl, HF⟩ := hcut
  clear HD4 HI3 hc4 hc4a hc4b HQ4 HS4 CD CL HLk HC
  rename World => W2
  have HD := Lib.hid HF.out.db
  have HI := Lib.hid HF.out.pv
  have d0 := HF.out.d0
  have d1 := HF.out.d1
  clear HF
  obtain ⟨-, -, b0, b1, b2, b3, b4⟩ := HD.out.room
  have hK : k1 = (d.kind : Int) := VIn.ek HI.out
  have HQ := Lib.hid (pv_lt HI.out)
  obtain ⟨w0, hws, hd0, hb0⟩ := db_cut HD.out (w.heap.size + 1 + 1) (Nat.le_refl _) HD.out.sz
  have HD0 := Lib.hid hd0
  have HWS := Lib.hid (show WS w0 pw (n - 2) (c - 2) (L.drop 2) from ⟨HN.out.1, HN.out.2.1, by rw [HPW.out]; exact StrT.Ss.drop (HSt.out _ hd0.bl) 2 (by rw [HN.out.2.2.2.1]; exact HN.out.2.2.2.2) c (by rw [HN.out.2.2.2.1]; exact HN.out.2.2.1)⟩)
  have HRI := Lib.hid (show RowI w0 W2 qz1 nz1 cz1 d.z from by
    have hI := HI.out
    have hsz : d.z.length = nz1 := VIn.lz hI
    exact ⟨hb0, VIn.rz hI, fun h0 a e => by
      have := HA3.out _ (Or.inr (Or.inr ⟨by show 0 < d.z.length; rw [hsz]; exact h0, a, e, rfl⟩))
      omega, hsz, VIn.bz hI, VIn.mz hI, VIn.ez hI, HT.out.1⟩)
  have hg0 : Gd w0 := HG0.out.keep hd0.bl
  have C := Lib.hid (hF w0 W2 qz1 nz1 cz1 d.z pw (n - 2) (c - 2) (L.drop 2) HRI.out HWS.out hg0 HT.out)
  have C' := Lib.hid (hF w0 W2.drew qz1 nz1 cz1 d.z pw (n - 2) (c - 2) (L.drop 2) (by have h := HRI.out; exact ⟨h.bl.drew, h.rs, h.ge, h.ln, h.nc, h.cm, h.nl, h.up⟩) HWS.out hg0 HT.out)
  obtain ⟨Z, hZ⟩ : ∃ Z, Z = rowD i d.z (L.drop 2) := ⟨_, rfl⟩
  rw [← hZ] at C C' HRz
  have HZ := Lib.hid hZ
  clear hZ
  have tt : (k1 != 0) = false ∨ (k1 != 0) = true ∧ (k1 != 5) = false := by
    rcases HK.out with h | h
    · left; rw [hK, show d.kind = 0 from h]; rfl
    · right; rw [hK, show d.kind = 5 from h]; exact ⟨rfl, rfl⟩
  clear hws hK hd0 hb0 HK HT HN HG HSt HPW HRI HWS hg0 HI HA3
  rcases tt with t0 | ⟨t0, t1⟩
  all_goals
    go_wp2_with fail
    go_region_law (first
      | (go_simp; (with_reducible refine (by first | exact C.out | exact C'.out : Calls _ _ _ _ _).mono ?_); rintro e w5 ⟨q5, n5, c5, vr, rfl, g1, g7⟩; dsimp only
         have HL5 := Lib.hid (sortedSet_any w0 w5 q5 n5 c5 Z.1 g1 (by rw [← g1.ln]; exact HRz.out))
         have HD5 := Lib.hid (HD0.out.keep g1.bl)
         have HA5 := Lib.hid g7
         clear g1 g7))
    all_goals
      go_wp2_with fail
      with_reducible refine HL5.out.mono ?_
      rintro e w6 ⟨p2, rfl, hI2, hd2, ha2, hb6⟩
      obtain ⟨k2, S2, ql2, nl2, cl2, qh2, nh2, ch2, qz2, nz2, cz2, d2⟩ := p2
      dsimp only [PV.agg]
      have HD6 := Lib.hid (HD5.out.keep hb6)
      have HA6 := Lib.hid (HA5.out.keep hb6)
      have HI6 := Lib.hid hI2
      have HE6 := Lib.hid (show d2 = _ from hd2)
      have HT6 := Lib.hid ha2
      have HSz := Lib.hid HD0.out.sz
      have HCs2 := Lib.hid (show (Tryd.prog.info? 26).map (·.size) = some (#[.int .u8 k2, .string S2, .slice ql2 nl2 cl2, .slice qh2 nh2 ch2, .slice qz2 nz2 cz2] : Array Value).size from val_size)
      have HOn2 := Lib.hid (show (#[.int .u8 k2, .string S2, .slice ql2 nl2 cl2, .slice qh2 nh2 ch2, .slice qz2 nz2 cz2] : Array Value).all (·.oneCell') = true by simp [Value.oneCell'])
      clear hb6 hI2 hd2 ha2 HL5 HD5 HA5
      go_wp2_with (with_reducible refine wpList_store_row rfl 26 (.tmp 4) (.tmp 56) rfl (w.heap.size + 1) #[.int .u8 k2, .string S2, .slice ql2 nl2 cl2, .slice qh2 nh2 ch2, .slice qz2 nz2 cz2] rfl rfl 26 _ HD6.out.re HCs2.out rfl HOn2.out ?_)
      exact bodyPost_ret (results_cell_slot rfl _ _ (w.heap.size + 1) 26 #[.int .u8 k2, .string S2, .slice ql2 nl2 cl2, .slice qh2 nh2 ch2, .slice qz2 nz2 cz2] (0, 0) _ vr rfl (setRow_heap w6 (w.heap.size + 1) _ _ _ _ HD6.out.re) Tryd.underlying26 rfl HCs2.out rfl) rfl (by rw [← HZ.out]; exact do_row HD6.out ⟨k2, S2, ql2, nl2, cl2, qh2, nh2, ch2, qz2, nz2, cz2, d2⟩ _ _ _ _ vr HI6.out HE6.out (fun j hj => Or.inr (by have := (HT6.out j hj).1; have := HSz.out; omega)) (fun j hj => by have := (HT6.out j hj).1; have := HSz.out; omega) HA6.out (by have := HSz.out; omega) _)

end Go.Proofs.YtodpocciimbjbaaDoor.SrtM
