/-
  Stores, as the document's layer 10 says them: pure. Entries in order of their keys; counts as a function of keys; 'n': a bound on how many things were done.
-/
import Derived.Test.YtbcjgkedlapmhaaValMath
namespace Go.Proofs.Ytbcjgkedlapmhaa.StoT
open BOrd ValT
open Go.Op (bytesLess)
set_option linter.unusedVariables false
set_option maxRecDepth 100000

structure En (β : Type) where
  key : List UInt8
  v : β
  due : Int
  on : Bool
  past : Bool
structure Sd (β : Type) where
  L : List (En β)
  C : List UInt8 → Nat
  time : Nat
  n : Nat
variable {β γ : Type}
def s0 : Sd β := ⟨[], fun _ => 0, 0, 0⟩
def lookE (k : List UInt8) (L : List (En β)) : Option (En β) := L.find? fun e => decide (e.key = k)
def rm (k : List UInt8) (L : List (En β)) : List (En β) := L.filter fun e => decide (e.key ≠ k)
def ins (e : En β) (L : List (En β)) : List (En β) := L.filter (fun x => bytesLess x.key e.key) ++ e :: L.filter (fun x => bytesLess e.key x.key)
def up (k : List UInt8) (f : En β → En β) (L : List (En β)) : List (En β) := L.map fun e => if e.key = k then f e else e
def cnt (k : List UInt8) (C : List UInt8 → Nat) : List UInt8 → Nat := fun x => if x = k then C x + 1 else C x
/-- What is past is let go of. -/
def letL (k : List UInt8) (L : List (En β)) : List (En β) := L.filter fun e => !(decide (e.key = k) && e.past)
def getS (k : List UInt8) (D : Sd β) : Sd β := { D with L := letL k D.L, n := D.n + 1 }
def getV (k : List UInt8) (L : List (En β)) : Option β := (lookE k (letL k L)).map (·.v)
def goneS (k : List UInt8) (D : Sd β) : Sd β :=
  if (lookE k (letL k D.L)).isSome then { D with L := rm k D.L, C := cnt k D.C, n := D.n + 1 } else { D with L := letL k D.L, n := D.n + 1 }
def newE (k : List UInt8) (v : β) : Option (En β) → En β
  | some e => { e with v := v }
  | none => ⟨k, v, 0, false, false⟩
def putS10 (k : List UInt8) (v : β) (D : Sd β) : Sd β := { D with L := ins (newE k v (lookE k (letL k D.L))) (rm k D.L), C := cnt k D.C, n := D.n + 1 }
def dueV (k : List UInt8) (L : List (En β)) : Int × Bool :=
  match lookE k (letL k L) with
  | some e => if e.on then (e.due, true) else (0, false)
  | none => (0, false)
def setDueB (k : List UInt8) (D : Sd β) : Bool := (lookE k (letL k D.L)).isSome
def dueE (at_ : Int) (on : Bool) (e : En β) : En β := { e with due := if on then at_ else 0, on := on }
def setDueS (k : List UInt8) (at_ : Int) (on : Bool) (D : Sd β) : Sd β :=
  if (lookE k (letL k D.L)).isSome then
    (if on = true ∧ at_ ≤ D.time then { D with L := rm k D.L, C := cnt k D.C, n := D.n + 1 } else { D with L := up k (dueE at_ on) D.L, C := cnt k D.C, n := D.n + 1 })
  else { D with L := letL k D.L, n := D.n + 1 }
def most : Nat := 1099511627776
def tickT (m : Int) (t : Nat) : Nat := min (t + min m.toNat most) most
def falls (t : Nat) (e : En β) : Bool := e.on && decide (e.due ≤ (t : Int)) && !e.past
def tickE (t : Nat) (e : En β) : En β := if falls t e then { e with past := true } else e
def fell (t : Nat) (L : List (En β)) (k : List UInt8) : Bool := L.any fun e => decide (e.key = k) && falls t e
def tickC (t : Nat) (L : List (En β)) (C : List UInt8 → Nat) : List UInt8 → Nat := fun k => if fell t L k = true then C k + 1 else C k
def tickS (m : Int) (D : Sd β) : Sd β :=
  { D with time := tickT m D.time, L := D.L.map (tickE (tickT m D.time)), C := tickC (tickT m D.time) D.L D.C, n := D.n + 1 }
def keysS (L : List (En β)) : List (List UInt8) := (L.filter fun e => !e.past).map (·.key)
def purgeS (D : Sd β) : Sd β := { D with L := D.L.filter fun e => !e.past, n := D.n + 1 }
def purgeN (D : Sd β) : Nat := D.L.length - (D.L.filter fun e => !e.past).length

/-! ### What is in order stays so -/
def ordE (L : List (En β)) : Prop := L.Pairwise fun a b => bytesLess a.key b.key = true
structure Wf (D : Sd β) : Prop where
  ord : ordE D.L
  len : D.L.length ≤ D.n
  cmax : ∀ k, D.C k ≤ D.n
  has : ∀ e ∈ D.L, 0 < D.C e.key
  tm : D.time ≤ most
theorem ordE_filter {L : List (En β)} (p : En β → Bool) (h : ordE L) : ordE (L.filter p) := h.filter _
theorem ordE_map {L : List (En β)} (f : En β → En β) (hf : ∀ e, (f e).key = e.key) (h : ordE L) : ordE (L.map f) := by
  unfold ordE
  rw [List.pairwise_map]
  refine h.imp fun {a b} h => ?_
  rw [hf, hf]
  exact h
theorem ordE_ins {L : List (En β)} (e : En β) (h : ordE L) : ordE (ins e L) := by
  unfold ins
  refine List.pairwise_append.2 ⟨h.filter _, List.pairwise_cons.2 ⟨fun x hx => (List.mem_filter.1 hx).2, h.filter _⟩, fun a ha b hb => ?_⟩
  rcases List.mem_cons.1 hb with rfl | hb
  · exact (List.mem_filter.1 ha).2
  · exact less_trans _ _ _ (List.mem_filter.1 ha).2 (List.mem_filter.1 hb).2
theorem key_inj {L : List (En β)} (h : ordE L) {i j : Nat} (hi : i < L.length) (hj : j < L.length) (e : L[i].key = L[j].key) : i = j := by
  rcases Nat.lt_trichotomy i j with h1 | h1 | h1
  · have := List.pairwise_iff_getElem.1 h i j hi hj h1
    rw [e, less_irrefl] at this
    cases this
  · exact h1
  · have := List.pairwise_iff_getElem.1 h j i hj hi h1
    rw [e, less_irrefl] at this
    cases this
theorem look_none {k : List UInt8} {L : List (En β)} : lookE k L = none ↔ ∀ e ∈ L, e.key ≠ k := by
  unfold lookE
  simp [List.find?_eq_none]
theorem look_some {k : List UInt8} {L : List (En β)} {e : En β} (h : lookE k L = some e) : e ∈ L ∧ e.key = k := by
  unfold lookE at h
  exact ⟨List.mem_of_find?_eq_some h, by simpa using List.find?_some h⟩
theorem look_at {k : List UInt8} {L : List (En β)} (h : ordE L) {i : Nat} (hi : i < L.length) (e : L[i].key = k) : lookE k L = some L[i] := by
  cases h1 : lookE k L with
  | none => exact absurd e (look_none.1 h1 _ (List.getElem_mem hi))
  | some x =>
    obtain ⟨h2, h3⟩ := look_some h1
    obtain ⟨j, hj, rfl⟩ := List.getElem_of_mem h2
    have := key_inj h hi hj (by rw [e, h3])
    subst this
    rfl
theorem letL_none {k : List UInt8} {L : List (En β)} (h : ∀ e ∈ L, e.key ≠ k) : letL k L = L := by
  unfold letL
  rw [List.filter_eq_self]
  intro e he
  simp [h e he]
theorem letL_past {k : List UInt8} {L : List (En β)} (h : ordE L) {i : Nat} (hi : i < L.length) (e : L[i].key = k) (hp : L[i].past = true) : letL k L = rm k L := by
  unfold letL rm
  refine List.filter_congr fun x hx => ?_
  by_cases hk : x.key = k
  · obtain ⟨j, hj, rfl⟩ := List.getElem_of_mem hx
    have := key_inj h hi hj (by rw [e, hk])
    subst this
    simp [e, hp]
  · simp [hk]
theorem letL_keep {k : List UInt8} {L : List (En β)} (h : ordE L) {i : Nat} (hi : i < L.length) (e : L[i].key = k) (hp : L[i].past = false) : letL k L = L := by
  unfold letL
  rw [List.filter_eq_self]
  intro x hx
  by_cases hk : x.key = k
  · obtain ⟨j, hj, rfl⟩ := List.getElem_of_mem hx
    have := key_inj h hi hj (by rw [e, hk])
    subst this
    simp [hp]
  · simp [hk]
/-- The entry of a key let go of, by its place. -/
theorem rm_at {k : List UInt8} {L : List (En β)} (h : ordE L) {i : Nat} (hi : i < L.length) (e : L[i].key = k) : rm k L = L.take i ++ L.drop (i + 1) := by
  have h1 : L = L.take i ++ L[i] :: L.drop (i + 1) := by rw [List.getElem_cons_drop, List.take_append_drop]
  have hp : ∀ j (hj : j < L.length), j ≠ i → L[j].key ≠ k := fun j hj hne h2 => hne (key_inj h hj hi (by rw [h2, e]))
  unfold rm
  conv => lhs; rw [h1]
  rw [List.filter_append, List.filter_cons, if_neg (by simp [e])]
  congr 1
  · rw [List.filter_eq_self]
    intro x hx
    obtain ⟨j, hj, rfl⟩ := List.getElem_of_mem hx
    rw [List.length_take] at hj
    rw [List.getElem_take]
    exact decide_eq_true (hp j (by omega) (by omega))
  · rw [List.filter_eq_self]
    intro x hx
    obtain ⟨j, hj, rfl⟩ := List.getElem_of_mem hx
    rw [List.length_drop] at hj
    rw [List.getElem_drop]
    exact decide_eq_true (hp _ (by omega) (by omega))
theorem rm_none {k : List UInt8} {L : List (En β)} (h : ∀ e ∈ L, e.key ≠ k) : rm k L = L := by
  unfold rm
  rw [List.filter_eq_self]
  intro e he
  simp [h e he]
theorem up_at {k : List UInt8} {L : List (En β)} (h : ordE L) (f : En β → En β) {i : Nat} (hi : i < L.length) (e : L[i].key = k) : up k f L = L.set i (f L[i]) := by
  unfold up
  refine List.ext_getElem (by simp) fun j h1 h2 => ?_
  rw [List.length_map] at h1
  rw [List.getElem_map, List.getElem_set]
  by_cases hj : i = j
  · subst hj
    simp [e]
  · rw [if_neg hj, if_neg fun h2 => hj (key_inj h hi h1 (by rw [e, h2]))]
/-- The value of a key that is there is set. -/
theorem ins_rm {k : List UInt8} {L : List (En β)} (h : ordE L) (x : En β) (hx : x.key = k) {i : Nat} (hi : i < L.length) (e : L[i].key = k) : ins x (rm k L) = L.set i x := by
  have h1 : ∀ j (hj : j < L.length), (j < i → bytesLess L[j].key k = true) ∧ (i < j → bytesLess k L[j].key = true) := fun j hj => by
    constructor
    · intro hji
      have := List.pairwise_iff_getElem.1 h j i hj hi hji
      rwa [e] at this
    · intro hij
      have := List.pairwise_iff_getElem.1 h i j hi hj hij
      rwa [e] at this
  rw [rm_at h hi e]
  unfold ins
  rw [hx, List.filter_append, List.filter_append]
  have a1 : (L.take i).filter (fun x => bytesLess x.key k) = L.take i := by
    rw [List.filter_eq_self]
    intro y hy
    obtain ⟨j, hj, rfl⟩ := List.getElem_of_mem hy
    rw [List.length_take] at hj
    rw [List.getElem_take]
    exact (h1 j (by omega)).1 (by omega)
  have a2 : (L.drop (i + 1)).filter (fun x => bytesLess x.key k) = [] := by
    rw [List.filter_eq_nil_iff]
    intro y hy
    obtain ⟨j, hj, rfl⟩ := List.getElem_of_mem hy
    rw [List.length_drop] at hj
    rw [List.getElem_drop, less_asymm ((h1 _ (by omega)).2 (by omega))]
    simp
  have a3 : (L.take i).filter (fun x => bytesLess k x.key) = [] := by
    rw [List.filter_eq_nil_iff]
    intro y hy
    obtain ⟨j, hj, rfl⟩ := List.getElem_of_mem hy
    rw [List.length_take] at hj
    rw [List.getElem_take, less_asymm ((h1 j (by omega)).1 (by omega))]
    simp
  have a4 : (L.drop (i + 1)).filter (fun x => bytesLess k x.key) = L.drop (i + 1) := by
    rw [List.filter_eq_self]
    intro y hy
    obtain ⟨j, hj, rfl⟩ := List.getElem_of_mem hy
    rw [List.length_drop] at hj
    rw [List.getElem_drop]
    exact (h1 _ (by omega)).2 (by omega)
  rw [a1, a2, a3, a4, List.append_nil, List.nil_append, List.set_eq_take_append_cons_drop, if_pos hi]

/-! ### Bounds kept by each thing that is done -/
theorem mem_ins {e x : En β} {L : List (En β)} (h : x ∈ ins e L) : x = e ∨ x ∈ L := by
  unfold ins at h
  rcases List.mem_append.1 h with h | h
  · exact Or.inr (List.mem_filter.1 h).1
  · rcases List.mem_cons.1 h with h | h
    · exact Or.inl h
    · exact Or.inr (List.mem_filter.1 h).1
theorem ins_len (e : En β) (L : List (En β)) : (ins e L).length ≤ L.length + 1 := by
  unfold ins
  rw [List.length_append, List.length_cons]
  have : (L.filter (fun x => bytesLess x.key e.key)).length + (L.filter (fun x => bytesLess e.key x.key)).length ≤ L.length := by
    induction L with
    | nil => simp
    | cons a L ih =>
      rw [List.filter_cons, List.filter_cons, List.length_cons]
      cases h1 : bytesLess a.key e.key with
      | true => rw [less_asymm h1]; simp; omega
      | false =>
        cases h2 : bytesLess e.key a.key with
        | true => simp; omega
        | false => simp; omega
  omega
theorem cnt_le {k x : List UInt8} {C : List UInt8 → Nat} {n : Nat} (h : ∀ k, C k ≤ n) : cnt k C x ≤ n + 1 := by
  have := h x
  unfold cnt
  split <;> omega
theorem cnt_pos {k x : List UInt8} {C : List UInt8 → Nat} (h : 0 < C x ∨ x = k) : 0 < cnt k C x := by
  unfold cnt
  split
  · omega
  · rcases h with h | h
    · exact h
    · contradiction
theorem wf_0 : Wf (s0 : Sd β) := ⟨List.Pairwise.nil, Nat.le_refl _, fun _ => Nat.le_refl _, fun e he => (by cases he), Nat.zero_le _⟩
theorem Wf.let_ {D : Sd β} (h : Wf D) (k : List UInt8) : Wf { D with L := letL k D.L, n := D.n + 1 } :=
  ⟨ordE_filter _ h.ord, Nat.le_succ_of_le (Nat.le_trans (List.length_filter_le _ _) h.len), fun x => Nat.le_succ_of_le (h.cmax x), fun e he => h.has e (List.mem_filter.1 he).1, h.tm⟩
theorem Wf.rm_ {D : Sd β} (h : Wf D) (k : List UInt8) : Wf { D with L := rm k D.L, C := cnt k D.C, n := D.n + 1 } :=
  ⟨ordE_filter _ h.ord, Nat.le_succ_of_le (Nat.le_trans (List.length_filter_le _ _) h.len), fun x => cnt_le h.cmax, fun e he => cnt_pos (Or.inl (h.has e (List.mem_filter.1 he).1)), h.tm⟩
theorem Wf.get {D : Sd β} (h : Wf D) (k : List UInt8) : Wf (getS k D) := h.let_ k
theorem Wf.gone {D : Sd β} (h : Wf D) (k : List UInt8) : Wf (goneS k D) := by
  unfold goneS
  split
  · exact h.rm_ k
  · exact h.let_ k
theorem newE_key (k : List UInt8) (v : β) (L : List (En β)) : (newE k v (lookE k L)).key = k := by
  cases h : lookE k L with
  | none => rfl
  | some e => exact (look_some h).2
theorem Wf.put {D : Sd β} (h : Wf D) (k : List UInt8) (v : β) : Wf (putS10 k v D) :=
  ⟨ordE_ins _ (ordE_filter _ h.ord), Nat.le_trans (ins_len _ _) (Nat.succ_le_succ (Nat.le_trans (List.length_filter_le _ _) h.len)), fun x => cnt_le h.cmax, fun e he => by
    rcases mem_ins he with rfl | he
    · exact cnt_pos (Or.inr (newE_key k v _))
    · exact cnt_pos (Or.inl (h.has e (List.mem_filter.1 he).1)), h.tm⟩
theorem Wf.due {D : Sd β} (h : Wf D) (k : List UInt8) (at_ : Int) (on : Bool) : Wf (setDueS k at_ on D) := by
  unfold setDueS
  split
  · split
    · exact h.rm_ k
    · refine ⟨ordE_map _ (fun e => ?_) h.ord, ?_, fun x => cnt_le h.cmax, fun e he => ?_, h.tm⟩
      · split <;> rfl
      · show (up k (dueE at_ on) D.L).length ≤ D.n + 1
        unfold up
        rw [List.length_map]
        exact Nat.le_succ_of_le h.len
      · obtain ⟨x, hx, rfl⟩ := List.mem_map.1 he
        refine cnt_pos (Or.inl ?_)
        have := h.has x hx
        split <;> exact this
  · exact h.let_ k
theorem tickE_key (t : Nat) (e : En β) : (tickE t e).key = e.key := by
  unfold tickE
  split <;> rfl
theorem tickC_le (t : Nat) (L : List (En β)) (C : List UInt8 → Nat) (k : List UInt8) : C k ≤ tickC t L C k ∧ tickC t L C k ≤ C k + 1 := by
  unfold tickC
  split <;> omega
theorem Wf.tick {D : Sd β} (h : Wf D) (m : Int) : Wf (tickS m D) := by
  refine ⟨ordE_map _ (tickE_key _) h.ord, ?_, fun x => ?_, fun e he => ?_, Nat.min_le_right _ _⟩
  · show (D.L.map _).length ≤ D.n + 1
    rw [List.length_map]
    exact Nat.le_succ_of_le h.len
  · have := h.cmax x
    have := (tickC_le (tickT m D.time) D.L D.C x).2
    show tickC (tickT m D.time) D.L D.C x ≤ D.n + 1
    omega
  · obtain ⟨x, hx, rfl⟩ := List.mem_map.1 he
    have := h.has x hx
    rw [tickE_key]
    have := (tickC_le (tickT m D.time) D.L D.C x.key).1
    show 0 < tickC (tickT m D.time) D.L D.C x.key
    omega
theorem Wf.purge {D : Sd β} (h : Wf D) : Wf (purgeS D) :=
  ⟨ordE_filter _ h.ord, Nat.le_succ_of_le (Nat.le_trans (List.length_filter_le _ _) h.len), fun x => Nat.le_succ_of_le (h.cmax x), fun e he => h.has e (List.mem_filter.1 he).1, h.tm⟩

def sq (n : Nat) : Nat := n * n
theorem sq_one (n : Nat) : sq n + 1 ≤ sq (n + 1) := by
  unfold sq
  rw [Nat.succ_mul, Nat.mul_succ]
  omega
theorem sq_up (n : Nat) : sq n + n ≤ sq (n + 1) := by
  unfold sq
  rw [Nat.succ_mul, Nat.mul_succ]
  omega
theorem sq_max {n : Nat} (h : n ≤ 100000) : sq n ≤ 10000000000 := Nat.mul_le_mul h h
/-! ### Entries with other values -/
def mapE (f : β → γ) (e : En β) : En γ := ⟨e.key, f e.v, e.due, e.on, e.past⟩
def mapL (f : β → γ) (L : List (En β)) : List (En γ) := L.map (mapE f)
theorem mapL_filter (f : β → γ) (p : En γ → Bool) (q : En β → Bool) (h : ∀ e, p (mapE f e) = q e) : ∀ L : List (En β), (mapL f L).filter p = mapL f (L.filter q)
  | [] => rfl
  | a :: L => by
    have ih := mapL_filter f p q h L
    unfold mapL at ih ⊢
    rw [List.map_cons, List.filter_cons, List.filter_cons, h]
    split
    · rw [List.map_cons, ih]
    · exact ih
theorem letL_map (f : β → γ) (k : List UInt8) (L : List (En β)) : letL k (mapL f L) = mapL f (letL k L) := mapL_filter f _ _ (fun e => rfl) L
theorem rm_map (f : β → γ) (k : List UInt8) (L : List (En β)) : rm k (mapL f L) = mapL f (rm k L) := mapL_filter f _ _ (fun e => rfl) L
theorem look_map (f : β → γ) (k : List UInt8) (L : List (En β)) : lookE k (mapL f L) = (lookE k L).map (mapE f) := by
  unfold lookE mapL
  rw [List.find?_map]
  rfl
theorem ins_map (f : β → γ) (e : En β) (L : List (En β)) : ins (mapE f e) (mapL f L) = mapL f (ins e L) := by
  unfold ins
  rw [mapL_filter f _ (fun x => bytesLess x.key e.key) (fun x => rfl), mapL_filter f _ (fun x => bytesLess e.key x.key) (fun x => rfl)]
  unfold mapL
  rw [List.map_append, List.map_cons]
theorem map_len (f : β → γ) (L : List (En β)) : (mapL f L).length = L.length := List.length_map _
theorem map_at (f : β → γ) (L : List (En β)) (i : Nat) (h : i < (mapL f L).length) : (mapL f L)[i] = mapE f (L[i]'(by rwa [map_len] at h)) := by
  simp [mapL]
theorem ord_map (f : β → γ) (L : List (En β)) : ordE (mapL f L) ↔ ordE L := by
  unfold ordE mapL
  rw [List.pairwise_map]
  rfl

end Go.Proofs.Ytbcjgkedlapmhaa.StoT
