/-
  Hashes: rows of pairs, names rising; what each command makes of them; where a name stands: pure.
-/
import Derived.Test.YtjikppjlkicgpaaDoorDoMath
import Derived.Test.YtjikppjlkicgpaaDoorNumParse
import Derived.Test.YtjikppjlkicgpaaDoorNumAdd
namespace Go.Proofs.YtjikppjlkicgpaaDoor.HasT
open BOrd ValT ReplyMath Low DoT
open Go.Op (bytesLess)
set_option linter.unusedVariables false
set_option maxRecDepth 100000

/-- What a name has. -/
def getP : List Pr → List UInt8 → Option (List UInt8)
  | [], _ => none
  | x :: l, n => if x.name = n then some x.val else getP l n
/-- A pair set, where it belongs. -/
def setP : List Pr → List UInt8 → List UInt8 → List Pr
  | [], n, v => [⟨n, v⟩]
  | x :: l, n, v => if x.name = n then ⟨n, v⟩ :: l else if bytesLess n x.name = true then ⟨n, v⟩ :: x :: l else x :: setP l n v
/-- Names taken out. -/
def delP (l : List Pr) (ns : List (List UInt8)) : List Pr := l.filter fun x => decide (x.name ∉ ns)
/-- Names rise. -/
def Up (l : List Pr) : Prop := rises (names l)
theorem up_cons {x : Pr} {l : List Pr} : Up (x :: l) ↔ (∀ y ∈ l, bytesLess x.name y.name = true) ∧ Up l := by
  unfold Up rises
  rw [show names (x :: l) = x.name :: names l from rfl, List.pairwise_cons]
  constructor
  · rintro ⟨h1, h2⟩
    exact ⟨fun y hy => h1 _ (List.mem_map.2 ⟨y, hy, rfl⟩), h2⟩
  · rintro ⟨h1, h2⟩
    refine ⟨fun n hn => ?_, h2⟩
    obtain ⟨y, hy, rfl⟩ := List.mem_map.1 hn
    exact h1 y hy
theorem up_nil : Up [] := List.Pairwise.nil
theorem get_mem {n v : List UInt8} : ∀ {l : List Pr}, getP l n = some v → ⟨n, v⟩ ∈ l
  | x :: l, h => by
    rw [getP] at h
    split at h
    · rename_i e
      injection h with h
      subst e h
      exact List.mem_cons_self
    · exact List.mem_cons_of_mem _ (get_mem h)
theorem get_none {n : List UInt8} : ∀ {l : List Pr}, getP l n = none ↔ ∀ x ∈ l, x.name ≠ n
  | [] => by simp [getP]
  | x :: l => by
    rw [getP]
    split
    · rename_i e
      constructor
      · intro h; cases h
      · intro h; exact absurd e (h x List.mem_cons_self)
    · rename_i e
      rw [get_none (l := l)]
      constructor
      · intro h y hy
        rcases List.mem_cons.1 hy with rfl | hy
        · exact e
        · exact h y hy
      · intro h y hy
        exact h y (List.mem_cons_of_mem _ hy)
theorem get_of {l : List Pr} (h : Up l) : ∀ {x : Pr}, x ∈ l → getP l x.name = some x.val := by
  induction l with
  | nil => intro x hx; cases hx
  | cons y l ih =>
    intro x hx
    obtain ⟨h1, h2⟩ := up_cons.1 h
    rw [getP]
    rcases List.mem_cons.1 hx with rfl | hx
    · rw [if_pos rfl]
    · rw [if_neg (less_ne (h1 x hx)), ih h2 hx]
theorem set_mem {n v : List UInt8} : ∀ {l : List Pr} {y : Pr}, y ∈ setP l n v → y = ⟨n, v⟩ ∨ y ∈ l
  | [], y, h => by
    rw [setP, List.mem_singleton] at h
    exact Or.inl h
  | x :: l, y, h => by
    rw [setP] at h
    split at h
    · rcases List.mem_cons.1 h with h | h
      · exact Or.inl h
      · exact Or.inr (List.mem_cons_of_mem _ h)
    · split at h
      · rcases List.mem_cons.1 h with h | h
        · exact Or.inl h
        · exact Or.inr h
      · rcases List.mem_cons.1 h with rfl | h
        · exact Or.inr List.mem_cons_self
        · rcases set_mem h with h | h
          · exact Or.inl h
          · exact Or.inr (List.mem_cons_of_mem _ h)
theorem set_up (n v : List UInt8) : ∀ {l : List Pr}, Up l → Up (setP l n v)
  | [], _ => up_cons.2 ⟨by simp, up_nil⟩
  | x :: l, h => by
    obtain ⟨h1, h2⟩ := up_cons.1 h
    rw [setP]
    split
    · rename_i e
      subst e
      exact up_cons.2 ⟨h1, h2⟩
    · rename_i e
      split
      · rename_i hl
        exact up_cons.2 ⟨fun y hy => by
          rcases List.mem_cons.1 hy with rfl | hy
          · exact hl
          · exact less_trans _ _ _ hl (h1 y hy), h⟩
      · rename_i hl
        refine up_cons.2 ⟨fun y hy => ?_, set_up n v h2⟩
        rcases set_mem hy with rfl | hy
        · rcases less_total x.name n with h3 | h3 | h3
          · exact h3
          · exact absurd h3 e
          · exact absurd h3 hl
        · exact h1 y hy
theorem get_set_same (n v : List UInt8) : ∀ (l : List Pr), getP (setP l n v) n = some v
  | [] => by simp [setP, getP]
  | x :: l => by
    rw [setP]
    split
    · simp [getP]
    · rename_i e
      split
      · simp [getP]
      · rw [getP, if_neg e, get_set_same n v l]
theorem get_set_other (n v m : List UInt8) (h : m ≠ n) : ∀ (l : List Pr), getP (setP l n v) m = getP l m
  | [] => by
    simp only [setP, getP]
    rw [if_neg (Ne.symm h)]
  | x :: l => by
    rw [setP]
    split
    · rename_i e
      simp only [getP]
      rw [if_neg (Ne.symm h), if_neg (by rw [e]; exact Ne.symm h)]
    · rename_i e
      split
      · simp only [getP]
        rw [if_neg (Ne.symm h)]
      · simp only [getP]
        rw [get_set_other n v m h l]
theorem set_len (n v : List UInt8) : ∀ {l : List Pr}, Up l → (setP l n v).length = if getP l n = none then l.length + 1 else l.length
  | [], _ => by simp [setP, getP]
  | x :: l, h => by
    obtain ⟨h1, h2⟩ := up_cons.1 h
    rw [setP, getP]
    split
    · simp
    · rename_i e
      split
      · rename_i hl
        have hn : getP l n = none := get_none.2 fun y hy e2 => by
          have h3 := less_trans _ _ _ hl (h1 y hy)
          rw [e2, less_irrefl] at h3
          cases h3
        rw [if_pos hn]
        simp
      · rw [List.length_cons, set_len n v h2]
        split <;> simp
theorem set_ne (l : List Pr) (n v : List UInt8) : setP l n v ≠ [] := by
  intro e
  have := get_set_same n v l
  rw [e] at this
  cases this
/-- Two rows of which the names rise are the same, if each name has the same. -/
theorem up_ext : ∀ {l r : List Pr}, Up l → Up r → (∀ n, getP l n = getP r n) → l = r
  | [], [], _, _, _ => rfl
  | [], y :: r, _, _, h => by
    have := h y.name
    rw [getP, getP, if_pos rfl] at this
    cases this
  | x :: l, [], _, _, h => by
    have := h x.name
    rw [getP, getP, if_pos rfl] at this
    cases this
  | x :: l, y :: r, hl, hr, h => by
    obtain ⟨l1, l2⟩ := up_cons.1 hl
    obtain ⟨r1, r2⟩ := up_cons.1 hr
    have e : x.name = y.name := by
      rcases less_total x.name y.name with h3 | h3 | h3
      · have h4 := h x.name
        rw [getP, if_pos rfl] at h4
        rcases List.mem_cons.1 (get_mem h4.symm) with h5 | h5
        · exact congrArg Pr.name h5
        · have h6 := less_trans _ _ _ h3 (r1 _ h5)
          rw [less_irrefl] at h6
          cases h6
      · exact h3
      · have h4 := h y.name
        rw [show getP (y :: r) y.name = some y.val by rw [getP, if_pos rfl]] at h4
        rcases List.mem_cons.1 (get_mem h4) with h5 | h5
        · exact (congrArg Pr.name h5).symm
        · have h6 := less_trans _ _ _ h3 (l1 _ h5)
          rw [less_irrefl] at h6
          cases h6
    have ev : x.val = y.val := by
      have h4 := h x.name
      rw [getP, if_pos rfl, getP, if_pos e.symm] at h4
      injection h4
    have exy : x = y := by
      cases x
      cases y
      simp only at e ev
      rw [e, ev]
    subst exy
    rw [up_ext l2 r2 fun n => ?_]
    by_cases hn : x.name = n
    · rw [get_none.2 (fun z hz => by rw [← hn]; exact (less_ne (l1 z hz)).symm), get_none.2 (fun z hz => by rw [← hn]; exact (less_ne (r1 z hz)).symm)]
    · have h4 := h n
      rw [getP, if_neg hn, getP, if_neg hn] at h4
      exact h4
theorem set_comm {l : List Pr} (h : Up l) (n v m u : List UInt8) (hne : n ≠ m) : setP (setP l n v) m u = setP (setP l m u) n v := by
  refine up_ext (set_up _ _ (set_up _ _ h)) (set_up _ _ (set_up _ _ h)) fun k => ?_
  by_cases h1 : k = m
  · subst h1
    rw [get_set_same, get_set_other _ _ _ (Ne.symm hne), get_set_same]
  · by_cases h2 : k = n
    · subst h2
      rw [get_set_other _ _ _ h1, get_set_same, get_set_same]
    · rw [get_set_other _ _ _ h1, get_set_other _ _ _ h2, get_set_other _ _ _ h2, get_set_other _ _ _ h1]
theorem set_again {l : List Pr} (h : Up l) (n v u : List UInt8) : setP (setP l n v) n u = setP l n u := by
  refine up_ext (set_up _ _ (set_up _ _ h)) (set_up _ _ h) fun k => ?_
  by_cases h1 : k = n
  · subst h1
    rw [get_set_same, get_set_same]
  · rw [get_set_other _ _ _ h1, get_set_other _ _ _ h1, get_set_other _ _ _ h1]
theorem del_up {l : List Pr} (ns : List (List UInt8)) (h : Up l) : Up (delP l ns) := by
  unfold Up rises names at h ⊢
  unfold delP
  rw [List.pairwise_map] at h ⊢
  exact h.filter _
theorem get_del (ns : List (List UInt8)) (n : List UInt8) : ∀ (l : List Pr), getP (delP l ns) n = if n ∈ ns then none else getP l n
  | [] => by simp [delP, getP]
  | x :: l => by
    have ih := get_del ns n l
    unfold delP at ih ⊢
    by_cases hx : x.name ∈ ns
    · rw [List.filter_cons_of_neg (by simpa using hx), ih]
      split
      · rfl
      · rename_i hn
        rw [getP, if_neg (by intro e; rw [e] at hx; exact hn hx)]
    · rw [List.filter_cons_of_pos (by simpa using hx), getP, ih, getP]
      split
      · rename_i e
        subst e
        rw [if_neg hx]
      · rfl
theorem del_len (l : List Pr) (ns : List (List UInt8)) : (delP l ns).length ≤ l.length := List.length_filter_le _ _
/-- One name that is there is taken out. -/
theorem del_one {l : List Pr} (h : Up l) (n : List UInt8) (hn : getP l n ≠ none) (ns : List (List UInt8)) (hns : ∀ m, m ∈ ns ↔ m = n) : (delP l ns).length + 1 = l.length := by
  induction l with
  | nil => exact absurd rfl hn
  | cons x l ih =>
    obtain ⟨h1, h2⟩ := up_cons.1 h
    unfold delP at ih ⊢
    by_cases hx : x.name = n
    · have hl : ∀ y ∈ l, decide (y.name ∉ ns) = true := fun y hy => decide_eq_true (fun hm => by
        have h3 := h1 y hy
        rw [hx, (hns _).1 hm, less_irrefl] at h3
        cases h3)
      rw [List.filter_cons_of_neg (by simpa using (hns _).2 hx), List.filter_eq_self.2 hl]
      rfl
    · rw [List.filter_cons_of_pos (by simpa using fun hm => hx ((hns _).1 hm)), List.length_cons, List.length_cons, ih h2 (by rw [getP, if_neg hx] at hn; exact hn)]
/-- All names taken out. -/
theorem del_all (l : List Pr) (ns : List (List UInt8)) (h : ∀ x ∈ l, x.name ∈ ns) : delP l ns = [] := by
  unfold delP
  refine List.filter_eq_nil_iff.2 fun x hx => ?_
  simpa using h x hx
/-- All names and what they have, one behind the other. -/
def allP (l : List Pr) : List (List UInt8) := (l.map fun x => [x.name, x.val]).flatten
theorem all_len (l : List Pr) : (allP l).length = 2 * l.length := by
  induction l with
  | nil => rfl
  | cons x l ih =>
    unfold allP at ih ⊢
    rw [List.map_cons, List.flatten_cons, List.length_append, ih]
    simp
    omega
/-- Pairs as a value. -/
def hashV (l : List Pr) : V := if l = [] then v0 else ⟨3, [], [], l, []⟩
theorem hashV_some {l : List Pr} (h : 0 < l.length) : hashV l = ⟨3, [], [], l, []⟩ := if_neg (by intro e; rw [e] at h; simp at h)
theorem hashV_h (l : List Pr) : (hashV l).h = l := by
  unfold hashV
  split
  · rename_i h
    rw [h]
    rfl
  · rfl
theorem hashV_kind (l : List Pr) : (hashV l).kind = 0 ∨ (hashV l).kind = 3 := by
  unfold hashV
  split
  · exact Or.inl rfl
  · exact Or.inr rfl
theorem hashV_s (l : List Pr) : (hashV l).s = [] := by
  unfold hashV
  split <;> rfl

end Go.Proofs.YtjikppjlkicgpaaDoor.HasT
namespace Go.Proofs.YtjikppjlkicgpaaDoor.HasT
open BOrd ValT ReplyMath Low DoT NumL NumW
open Go.Lib (itoa)
set_option linter.unusedVariables false
set_option maxRecDepth 100000

def gotR (o : Option (List UInt8)) : List UInt8 :=
  match o with
  | none => null
  | some v => bulk v
def newN (o : Option (List UInt8)) : Int :=
  match o with
  | none => 1
  | some _ => 0
/-- A number of a name made more. -/
def byR (H : List Pr) (n v by_ : List UInt8) : List Pr × List UInt8 :=
  if pB by_ = true ∧ pB v = true then
    if addB (pV v) (pV by_) = true then (setP H n (itoa (addV (pV v) (pV by_))), int (addV (pV v) (pV by_))) else (H, eOver)
  else (H, eInt)
/-- What the k-th command makes of a hash, with the words from the third on. -/
def rowD (k : Nat) (H : List Pr) (A : List (List UInt8)) : List Pr × List UInt8 :=
  match k with
  | 0 => (setP H (wd A 0) (wd A 1), int (newN (getP H (wd A 0))))
  | 1 => (H, gotR (getP H (wd A 0)))
  | 2 => (delP H A, int ((H.length : Int) - ((delP H A).length : Int)))
  | 3 => (H, int (H.length : Int))
  | 4 => (H, texts (allP H))
  | _ => byR H (wd A 0) ((getP H (wd A 0)).getD [48]) (wd A 1)
/-- What a hash may be, and how long its texts and the words. -/
def Tame (k : Nat) (H : List Pr) (A : List (List UInt8)) : Prop :=
  Up H ∧ match k with
  | 0 => 2 ≤ A.length ∧ H.length + 1 ≤ 1048576
  | 1 => 1 ≤ A.length ∧ ∀ x ∈ H, x.val.length ≤ 1048576
  | 2 => A.length ≤ 1048576
  | 3 => True
  | 4 => H.length ≤ 2048 ∧ (allP H).flatten.length ≤ 1048576
  | _ => 2 ≤ A.length ∧ H.length + 1 ≤ 1048576 ∧ (∀ x ∈ H, x.val.length ≤ 281474976710656) ∧ (wd A 1).length ≤ 281474976710656
/-- What a request of the k-th command comes to. -/
def doD (k : Nat) (d : V) (L : List (List UInt8)) : V × List UInt8 := if d.kind = 0 ∨ d.kind = 3 then (hashV (rowD k d.h (L.drop 2)).1, (rowD k d.h (L.drop 2)).2) else (d, eWrong)
def nHset : List UInt8 := [104, 115, 101, 116]
def nHget : List UInt8 := [104, 103, 101, 116]
def nHdel : List UInt8 := [104, 100, 101, 108]
def nHlen : List UInt8 := [104, 108, 101, 110]
def nHgetall : List UInt8 := [104, 103, 101, 116, 97, 108, 108]
def nHincrby : List UInt8 := [104, 105, 110, 99, 114, 98, 121]
def nameD (k : Nat) : List UInt8 :=
  match k with
  | 0 => nHset
  | 1 => nHget
  | 2 => nHdel
  | 3 => nHlen
  | 4 => nHgetall
  | _ => nHincrby
/-- How many words it must have. -/
def needD (k : Nat) : Nat :=
  match k with
  | 0 => 4
  | 1 => 3
  | 2 => 3
  | 3 => 2
  | 4 => 2
  | _ => 4
theorem doD_wrong {i : Nat} {d : V} {L : List (List UInt8)} (h : d.kind ≠ 0 ∧ d.kind ≠ 3) : doD i d L = (d, eWrong) := if_neg (by omega)
theorem doD_right {i : Nat} {d : V} {L : List (List UInt8)} (h : d.kind = 0 ∨ d.kind = 3) : doD i d L = (hashV (rowD i d.h (L.drop 2)).1, (rowD i d.h (L.drop 2)).2) := if_pos h
theorem kinds (d : V) : (d.kind = 0 ∨ d.kind = 3) ∨ (d.kind ≠ 0 ∧ d.kind ≠ 3) := by omega
/-- What rises stays so. -/
theorem row_up (k : Nat) {H : List Pr} (A : List (List UInt8)) (h : Up H) : Up (rowD k H A).1 := by
  match k with
  | 0 => exact set_up _ _ h
  | 1 => exact h
  | 2 => exact del_up _ h
  | 3 => exact h
  | 4 => exact h
  | k + 5 =>
    show Up (byR H (wd A 0) ((getP H (wd A 0)).getD [48]) (wd A 1)).1
    unfold byR
    split
    · split
      · exact set_up _ _ h
      · exact h
    · exact h
theorem tame0 {H : List Pr} {A : List (List UInt8)} (h : Up H) (h1 : 2 ≤ A.length) (h2 : H.length + 1 ≤ 1048576) : Tame 0 H A := ⟨h, h1, h2⟩
theorem tame1 {H : List Pr} {A : List (List UInt8)} (h : Up H) (h1 : 1 ≤ A.length) (h2 : ∀ x ∈ H, x.val.length ≤ 1048576) : Tame 1 H A := ⟨h, h1, h2⟩
theorem tame2 {H : List Pr} {A : List (List UInt8)} (h : Up H) (h1 : A.length ≤ 1048576) : Tame 2 H A := ⟨h, h1⟩
theorem tame3 {H : List Pr} {A : List (List UInt8)} (h : Up H) : Tame 3 H A := ⟨h, trivial⟩
theorem tame4 {H : List Pr} {A : List (List UInt8)} (h : Up H) (h1 : H.length ≤ 2048) (h2 : (allP H).flatten.length ≤ 1048576) : Tame 4 H A := ⟨h, h1, h2⟩
theorem tame5 {H : List Pr} {A : List (List UInt8)} (h : Up H) (h1 : 2 ≤ A.length) (h2 : H.length + 1 ≤ 1048576) (h3 : ∀ x ∈ H, x.val.length ≤ 281474976710656) (h4 : (wd A 1).length ≤ 281474976710656) : Tame 5 H A := ⟨h, h1, h2, h3, h4⟩

end Go.Proofs.YtjikppjlkicgpaaDoor.HasT
namespace Go.Proofs.YtjikppjlkicgpaaDoor.HasT
open BOrd ValT ReplyMath Low DoT
open Go.Op (bytesLess)
set_option linter.unusedVariables false
set_option maxRecDepth 100000

/-- How many names are less. -/
def posP : List Pr → List UInt8 → Nat
  | [], _ => 0
  | x :: l, n => if bytesLess x.name n = true then posP l n + 1 else 0
theorem pos_le (n : List UInt8) : ∀ H : List Pr, posP H n ≤ H.length
  | [] => Nat.le_refl _
  | x :: l => by
    rw [posP]
    split
    · have := pos_le n l
      rw [List.length_cons]
      omega
    · exact Nat.zero_le _
theorem lt_pos (n : List UInt8) : ∀ {H : List Pr}, Up H → ∀ k (hk : k < H.length), (bytesLess H[k].name n = true ↔ k < posP H n)
  | x :: l, h, 0, _ => by
    rw [posP]
    show bytesLess x.name n = true ↔ _
    split
    · rename_i e
      simp [e]
    · rename_i e
      simp [e]
  | x :: l, h, k + 1, hk => by
    obtain ⟨h1, h2⟩ := up_cons.1 h
    have hk' : k < l.length := by simpa using hk
    have ih := lt_pos n h2 k hk'
    rw [posP]
    show bytesLess l[k].name n = true ↔ _
    split
    · rename_i e
      rw [ih]
      omega
    · rename_i e
      constructor
      · intro h3
        exact absurd (less_trans _ _ _ (h1 _ (List.getElem_mem hk')) h3) e
      · intro h3
        omega
/-- Whether there is one of that name. -/
def hasP (H : List Pr) (n : List UInt8) : Bool := (getP H n).isSome
theorem pos_get (n : List UInt8) : ∀ {H : List Pr}, Up H → (hasP H n = true ∧ ∃ h : posP H n < H.length, H[posP H n].name = n ∧ getP H n = some H[posP H n].val) ∨ (hasP H n = false ∧ getP H n = none ∧ ∀ h : posP H n < H.length, H[posP H n].name ≠ n)
  | [], _ => Or.inr ⟨rfl, rfl, fun h => absurd h (by simp)⟩
  | x :: l, h => by
    obtain ⟨h1, h2⟩ := up_cons.1 h
    by_cases hx : bytesLess x.name n = true
    · have hne : x.name ≠ n := less_ne hx
      have e : posP (x :: l) n = posP l n + 1 := by rw [posP, if_pos hx]
      have eg : getP (x :: l) n = getP l n := by rw [getP, if_neg hne]
      rcases pos_get n h2 with ⟨h3, h4, h5, h6⟩ | ⟨h3, h4, h5⟩
      · refine Or.inl ⟨?_, ?_⟩
        · unfold hasP at h3 ⊢
          rw [eg]
          exact h3
        · have h7 : posP (x :: l) n < (x :: l).length := by rw [e, List.length_cons]; omega
          have h8 : (x :: l)[posP (x :: l) n]'h7 = l[posP l n]'h4 := by simp only [e]; rfl
          exact ⟨h7, by rw [h8]; exact h5, by rw [h8, eg]; exact h6⟩
      · refine Or.inr ⟨?_, by rw [eg]; exact h4, fun h7 => ?_⟩
        · unfold hasP at h3 ⊢
          rw [eg]
          exact h3
        · have h9 : posP l n < l.length := by rw [e, List.length_cons] at h7; omega
          have h8 : (x :: l)[posP (x :: l) n]'h7 = l[posP l n]'h9 := by simp only [e]; rfl
          rw [h8]
          exact h5 h9
    · have e : posP (x :: l) n = 0 := by rw [posP, if_neg hx]
      by_cases hn : x.name = n
      · have eg : getP (x :: l) n = some x.val := by rw [getP, if_pos hn]
        have h7 : posP (x :: l) n < (x :: l).length := by rw [e, List.length_cons]; omega
        have h8 : (x :: l)[posP (x :: l) n]'h7 = x := by simp only [e]; rfl
        exact Or.inl ⟨by unfold hasP; rw [eg]; rfl, h7, by rw [h8]; exact hn, by rw [h8]; exact eg⟩
      · have eg : getP (x :: l) n = none := get_none.2 fun y hy => by
          rcases List.mem_cons.1 hy with rfl | hy
          · exact hn
          · intro e2
            have h3 := h1 y hy
            rw [e2] at h3
            exact hx h3
        refine Or.inr ⟨by unfold hasP; rw [eg]; rfl, eg, fun h7 => ?_⟩
        have h8 : (x :: l)[posP (x :: l) n]'h7 = x := by simp only [e]; rfl
        rw [h8]
        exact hn
theorem set_there (n v : List UInt8) : ∀ {H : List Pr}, Up H → hasP H n = true → setP H n v = H.set (posP H n) ⟨n, v⟩
  | [], _, h => by cases h
  | x :: l, h, hh => by
    obtain ⟨h1, h2⟩ := up_cons.1 h
    rw [setP, posP]
    split
    · rename_i e
      rw [if_neg (by rw [e, less_irrefl]; decide)]
      rfl
    · rename_i e
      have hl : hasP l n = true := by unfold hasP at hh ⊢; rwa [getP, if_neg e] at hh
      have hx : bytesLess x.name n = true := by
        unfold hasP at hl
        cases hg : getP l n with
        | none => rw [hg] at hl; cases hl
        | some u => exact h1 _ (get_mem hg)
      rw [if_neg (by rw [less_asymm hx]; decide), if_pos hx, List.set_cons_succ, set_there n v h2 hl]
theorem set_new (n v : List UInt8) : ∀ {H : List Pr}, Up H → hasP H n = false → setP H n v = H.take (posP H n) ++ ⟨n, v⟩ :: H.drop (posP H n)
  | [], _, _ => rfl
  | x :: l, h, hh => by
    obtain ⟨h1, h2⟩ := up_cons.1 h
    have e : x.name ≠ n := by
      intro e
      unfold hasP at hh
      rw [getP, if_pos e] at hh
      cases hh
    have hl : hasP l n = false := by unfold hasP at hh ⊢; rwa [getP, if_neg e] at hh
    rw [setP, posP, if_neg e]
    split
    · rename_i hx
      rw [if_neg (by rw [less_asymm hx]; decide)]
      rfl
    · rename_i hx
      have hx2 : bytesLess x.name n = true := by
        rcases less_total x.name n with h3 | h3 | h3
        · exact h3
        · exact absurd h3 e
        · exact absurd h3 hx
      rw [if_pos hx2, List.take_succ_cons, List.drop_succ_cons, List.cons_append, set_new n v h2 hl]
theorem del_there (n : List UInt8) : ∀ {H : List Pr}, Up H → hasP H n = true → delP H [n] = H.take (posP H n) ++ H.drop (posP H n + 1)
  | [], _, h => by cases h
  | x :: l, h, hh => by
    obtain ⟨h1, h2⟩ := up_cons.1 h
    by_cases e : x.name = n
    · rw [posP, if_neg (by rw [e, less_irrefl]; decide)]
      have hl : ∀ y ∈ l, decide (y.name ∉ [n]) = true := fun y hy => decide_eq_true (fun hm => by
        have h3 := h1 y hy
        rw [e, List.mem_singleton.1 hm, less_irrefl] at h3
        cases h3)
      unfold delP
      rw [List.filter_cons_of_neg (by simp [e]), List.filter_eq_self.2 hl]
      rfl
    · have hl : hasP l n = true := by unfold hasP at hh ⊢; rwa [getP, if_neg e] at hh
      have hx : bytesLess x.name n = true := by
        unfold hasP at hl
        cases hg : getP l n with
        | none => rw [hg] at hl; cases hl
        | some u => exact h1 _ (get_mem hg)
      have ih := del_there n h2 hl
      rw [posP, if_pos hx, List.take_succ_cons, List.drop_succ_cons, List.cons_append, ← ih]
      unfold delP
      rw [List.filter_cons_of_pos (by simp [e])]
theorem del_not (n : List UInt8) (H : List Pr) (hh : hasP H n = false) : delP H [n] = H := by
  unfold delP
  refine List.filter_eq_self.2 fun x hx => decide_eq_true fun hm => ?_
  have h1 : getP H n = none := by
    unfold hasP at hh
    cases hg : getP H n with
    | none => rfl
    | some u => rw [hg] at hh; cases hh
  exact get_none.1 h1 x hx (List.mem_singleton.1 hm)
theorem del_snoc (H : List Pr) (ns : List (List UInt8)) (n : List UInt8) : delP H (ns ++ [n]) = delP (delP H ns) [n] := by
  unfold delP
  rw [List.filter_filter]
  refine List.filter_congr fun x _ => ?_
  rw [Bool.eq_iff_iff]
  simp [not_or, and_comm]
theorem del_nil (H : List Pr) : delP H [] = H := by
  unfold delP
  exact List.filter_eq_self.2 fun x _ => by simp
theorem set_here_len (n v : List UInt8) {H : List Pr} (h : Up H) (hh : hasP H n = true) : (setP H n v).length = H.length := by
  rw [set_there n v h hh, List.length_set]
theorem set_new_len (n v : List UInt8) {H : List Pr} (h : Up H) (hh : hasP H n = false) : (setP H n v).length = H.length + 1 := by
  have h1 := pos_le n H
  rw [set_new n v h hh, List.length_append, List.length_cons, List.length_take, List.length_drop]
  omega

end Go.Proofs.YtjikppjlkicgpaaDoor.HasT
