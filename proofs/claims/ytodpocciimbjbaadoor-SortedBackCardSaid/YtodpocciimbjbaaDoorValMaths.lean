/-
  Values: pure; what the landed code asks of its comparisons.
-/
import Derived.Test.YtodpocciimbjbaaDoorByteOrd
import Derived.Lib.Bytealg
import Derived.Lib.Small
import Derived.Sort.Walk0
namespace Go.Proofs.YtodpocciimbjbaaDoor.ValT
open BOrd
open Go.Op (bytesLess)
set_option linter.unusedVariables false
set_option maxRecDepth 100000

structure Pr where
  name : List UInt8
  val : List UInt8
  deriving DecidableEq
structure Mk where
  name : List UInt8
  n : Int
  deriving DecidableEq
structure V where
  kind : Nat
  s : List UInt8
  l : List (List UInt8)
  h : List Pr
  z : List Mk
  deriving DecidableEq
def v0 : V := ⟨0, [], [], [], []⟩

/-- Texts that rise. -/
def rises (l : List (List UInt8)) : Prop := l.Pairwise fun a b => bytesLess a b = true
instance (l : List (List UInt8)) : Decidable (rises l) := by unfold rises; infer_instance
/-- Two marks in order, their names unlike. -/
def okM (a b : Mk) : Prop := a.name ≠ b.name ∧ ¬ b.n < a.n ∧ ¬ (a.n = b.n ∧ bytesLess b.name a.name = true)
instance (a b : Mk) : Decidable (okM a b) := by unfold okM; infer_instance
def marks (l : List Mk) : Prop := l.Pairwise okM
instance (l : List Mk) : Decidable (marks l) := by unfold marks; infer_instance
def names (h : List Pr) : List (List UInt8) := h.map (·.name)
/-- Whether a value may be. -/
def right (v : V) : Prop :=
  (v.kind = 0 ∧ v.s = [] ∧ v.l = [] ∧ v.h = [] ∧ v.z = []) ∨ (v.kind = 1 ∧ v.l = [] ∧ v.h = [] ∧ v.z = []) ∨ (v.kind = 2 ∧ v.s = [] ∧ v.l ≠ [] ∧ v.h = [] ∧ v.z = []) ∨
  (v.kind = 3 ∧ v.s = [] ∧ v.l = [] ∧ v.h ≠ [] ∧ v.z = [] ∧ rises (names v.h)) ∨ (v.kind = 4 ∧ v.s = [] ∧ v.l ≠ [] ∧ v.h = [] ∧ v.z = [] ∧ rises v.l) ∨ (v.kind = 5 ∧ v.s = [] ∧ v.l = [] ∧ v.h = [] ∧ v.z ≠ [] ∧ marks v.z)
instance (v : V) : Decidable (right v) := by unfold right; infer_instance
def rightB (v : V) : Bool := decide (right v)
def nString : List UInt8 := [115, 116, 114, 105, 110, 103]
def nList : List UInt8 := [108, 105, 115, 116]
def nHash : List UInt8 := [104, 97, 115, 104]
def nSetT : List UInt8 := [115, 101, 116]
def nZset : List UInt8 := [122, 115, 101, 116]
def nNone : List UInt8 := [110, 111, 110, 101]
def typeL (v : V) : List UInt8 := if v.kind = 1 then nString else if v.kind = 2 then nList else if v.kind = 3 then nHash else if v.kind = 4 then nSetT else if v.kind = 5 then nZset else nNone
def sizeN (v : V) : Nat := if v.kind = 1 then 1 else if v.kind = 2 ∨ v.kind = 4 then v.l.length else if v.kind = 3 then v.h.length else if v.kind = 5 then v.z.length else 0
def sameB (a b : V) : Bool := decide (a = b)
def smallV (v : V) : V := ⟨v.kind, v.s, v.l.take 10, v.h.take 10, v.z.take 10⟩

/-- A row of texts that rise, with one more: as the document's own text puts it. -/
def putS (s : List UInt8) (p : List (List UInt8) × Bool) (x : List UInt8) : List (List UInt8) × Bool :=
  let q := if p.2 = false ∧ bytesLess x s = false then (p.1 ++ [s], true) else p
  if x = s then q else (q.1 ++ [x], q.2)
def putE (s : List UInt8) (p : List (List UInt8) × Bool) : List (List UInt8) := if p.2 = true then p.1 else p.1 ++ [s]
def putL (l : List (List UInt8)) (s : List UInt8) : List (List UInt8) := putE s (l.foldl (putS s) ([], false))
def putPS (s : Pr) (p : List Pr × Bool) (x : Pr) : List Pr × Bool :=
  let q := if p.2 = false ∧ bytesLess x.name s.name = false then (p.1 ++ [s], true) else p
  if x.name = s.name then q else (q.1 ++ [x], q.2)
def putPE (s : Pr) (p : List Pr × Bool) : List Pr := if p.2 = true then p.1 else p.1 ++ [s]
def putP (l : List Pr) (s : Pr) : List Pr := putPE s (l.foldl (putPS s) ([], false))
/-- Whether a mark stands behind another one. -/
def gtM (x m : Mk) : Prop := m.n < x.n ∨ (x.n = m.n ∧ bytesLess m.name x.name = true)
instance (a b : Mk) : Decidable (gtM a b) := by unfold gtM; infer_instance
def putMS (m : Mk) (p : List Mk × Bool) (x : Mk) : List Mk × Bool :=
  if x.name = m.name then p else
    let q := if p.2 = false ∧ gtM x m then (p.1 ++ [m], true) else p
    (q.1 ++ [x], q.2)
def putME (m : Mk) (p : List Mk × Bool) : List Mk := if p.2 = true then p.1 else p.1 ++ [m]
def putM (l : List Mk) (m : Mk) : List Mk := putME m (l.foldl (putMS m) ([], false))
def fitL (l : List (List UInt8)) : List (List UInt8) := (l.take 8).foldl putL []
def fitH (l : List Pr) : List Pr := (l.take 8).foldl putP []
def fitZ (l : List Mk) : List Mk := (l.take 8).foldl putM []
def fitV (v : V) : V :=
  if v.kind % 6 = 1 then ⟨1, v.s.take 40, [], [], []⟩
  else if v.kind % 6 = 2 then (if v.l = [] then v0 else ⟨2, [], v.l.take 8, [], []⟩)
  else if v.kind % 6 = 4 then (if v.l = [] then v0 else ⟨4, [], fitL v.l, [], []⟩)
  else if v.kind % 6 = 3 then (if v.h = [] then v0 else ⟨3, [], [], fitH v.h, []⟩)
  else if v.kind % 6 = 5 then (if v.z = [] then v0 else ⟨5, [], [], [], fitZ v.z⟩)
  else v0

/-! ### What is put rises -/
theorem putS_true (s : List UInt8) : ∀ (l o : List (List UInt8)), l.foldl (putS s) (o, true) = (o ++ l.filter (fun x => decide (x ≠ s)), true)
  | [], o => by simp
  | x :: l, o => by
    rw [List.foldl_cons]
    have e : putS s (o, true) x = (o ++ (if x = s then [] else [x]), true) := by
      unfold putS
      by_cases h : x = s <;> simp [h]
    rw [e, putS_true s l]
    by_cases h : x = s <;> simp [h]
theorem putS_false (s : List UInt8) : ∀ (l o : List (List UInt8)), rises l → ∃ l1 l2, l = l1 ++ l2 ∧ (∀ x ∈ l1, bytesLess x s = true) ∧ (∀ x ∈ l2, bytesLess x s = false) ∧
    putE s (l.foldl (putS s) (o, false)) = o ++ l1 ++ [s] ++ l2.filter (fun x => decide (x ≠ s))
  | [], o, _ => ⟨[], [], rfl, by simp, by simp, by simp [putE]⟩
  | x :: l, o, h => by
    obtain ⟨h1, h2⟩ := List.pairwise_cons.1 h
    cases hx : bytesLess x s with
    | true =>
      obtain ⟨l1, l2, e, a1, a2, a3⟩ := putS_false s l (o ++ [x]) h2
      refine ⟨x :: l1, l2, by rw [e]; rfl, ?_, a2, ?_⟩
      · intro y hy
        rcases List.mem_cons.1 hy with rfl | hy
        · exact hx
        · exact a1 y hy
      · rw [List.foldl_cons]
        have e2 : putS s (o, false) x = (o ++ [x], false) := by
          unfold putS
          simp [hx, less_ne hx]
        rw [e2, a3]
        simp
    | false =>
      refine ⟨[], x :: l, rfl, by simp, ?_, ?_⟩
      · intro y hy
        rcases List.mem_cons.1 hy with rfl | hy
        · exact hx
        · rcases (geq_iff x s).1 hx with e | h3
          · rw [e]; exact less_asymm (h1 y hy)
          · exact less_asymm (less_trans _ _ _ h3 (h1 y hy))
      · rw [List.foldl_cons]
        have e2 : putS s (o, false) x = (o ++ [s] ++ (if x = s then [] else [x]), true) := by
          unfold putS
          by_cases h : x = s
          · simp [h, less_irrefl]
          · simp [hx, h]
        rw [e2, putS_true]
        unfold putE
        by_cases h : x = s <;> simp [h]
theorem putL_shape {l : List (List UInt8)} (s : List UInt8) (h : rises l) : ∃ l1 l2, l = l1 ++ l2 ∧ (∀ x ∈ l1, bytesLess x s = true) ∧ (∀ x ∈ l2, bytesLess x s = false) ∧ putL l s = l1 ++ [s] ++ l2.filter (fun x => decide (x ≠ s)) := by
  obtain ⟨l1, l2, e, a1, a2, a3⟩ := putS_false s l [] h
  exact ⟨l1, l2, e, a1, a2, by unfold putL; rw [a3]; simp⟩
theorem putL_rises {l : List (List UInt8)} (s : List UInt8) (h : rises l) : rises (putL l s) := by
  obtain ⟨l1, l2, e, a1, a2, a3⟩ := putL_shape s h
  rw [a3]
  rw [e] at h
  obtain ⟨p1, p2, p3⟩ := List.pairwise_append.1 h
  have hs : ∀ x ∈ l2.filter (fun x => decide (x ≠ s)), bytesLess s x = true := fun x hx => by
    obtain ⟨hx1, hx2⟩ := List.mem_filter.1 hx
    rcases (geq_iff x s).1 (a2 x hx1) with e | h
    · exact absurd e.symm (of_decide_eq_true hx2)
    · exact h
  refine List.pairwise_append.2 ⟨List.pairwise_append.2 ⟨p1, by simp, fun a ha b hb => ?_⟩, p2.filter _, fun a ha b hb => ?_⟩
  · rw [List.mem_singleton.1 hb]
    exact a1 a ha
  · rcases List.mem_append.1 ha with ha | ha
    · exact less_trans _ _ _ (a1 a ha) (hs b hb)
    · rw [List.mem_singleton.1 ha]
      exact hs b hb
theorem putL_ne (l : List (List UInt8)) (s : List UInt8) (h : rises l) : putL l s ≠ [] := by
  obtain ⟨l1, l2, e, a1, a2, a3⟩ := putL_shape s h
  rw [a3]
  simp
theorem foldL_rises : ∀ (l o : List (List UInt8)), rises o → rises (l.foldl putL o) ∧ (l ≠ [] ∨ o ≠ [] → l.foldl putL o ≠ [])
  | [], o, h => ⟨h, fun h1 => by rcases h1 with h1 | h1; exact absurd rfl h1; exact h1⟩
  | x :: l, o, h => by
    obtain ⟨h1, h2⟩ := foldL_rises l (putL o x) (putL_rises x h)
    exact ⟨h1, fun _ => h2 (Or.inr (putL_ne o x h))⟩

theorem names_put (s : Pr) : ∀ (l o : List Pr) (b : Bool), (names (l.foldl (putPS s) (o, b)).1, (l.foldl (putPS s) (o, b)).2) = (names l).foldl (putS s.name) (names o, b)
  | [], o, b => rfl
  | x :: l, o, b => by
    rw [List.foldl_cons]
    have e : putS s.name (names o, b) x.name = (names (putPS s (o, b) x).1, (putPS s (o, b) x).2) := by
      unfold putS putPS names
      simp only
      by_cases h1 : b = false ∧ bytesLess x.name s.name = false
      · rw [if_pos h1, if_pos h1]
        by_cases h2 : x.name = s.name
        · rw [if_pos h2, if_pos h2]
          simp
        · rw [if_neg h2, if_neg h2]
          simp
      · rw [if_neg h1, if_neg h1]
        by_cases h2 : x.name = s.name
        · rw [if_pos h2, if_pos h2]
        · rw [if_neg h2, if_neg h2]
          simp
    show _ = (x.name :: names l).foldl (putS s.name) (names o, b)
    rw [List.foldl_cons, e]
    exact names_put s l (putPS s (o, b) x).1 (putPS s (o, b) x).2
theorem putP_names (l : List Pr) (s : Pr) : names (putP l s) = putL (names l) s.name := by
  unfold putP putL
  rw [show (([], false) : List (List UInt8) × Bool) = (names [], false) from rfl, ← names_put s l [] false]
  unfold putPE putE
  by_cases h : (l.foldl (putPS s) ([], false)).2 = true
  · simp [h]
  · simp [h, names]
theorem names_nil {h : List Pr} : names h = [] ↔ h = [] := by simp [names]
theorem foldP_rises : ∀ (l o : List Pr), rises (names o) → rises (names (l.foldl putP o)) ∧ (l ≠ [] ∨ o ≠ [] → l.foldl putP o ≠ [])
  | [], o, h => ⟨h, fun h1 => by rcases h1 with h1 | h1; exact absurd rfl h1; exact h1⟩
  | x :: l, o, h => by
    have hr : rises (names (putP o x)) := by rw [putP_names]; exact putL_rises _ h
    obtain ⟨h1, h2⟩ := foldP_rises l (putP o x) hr
    exact ⟨h1, fun _ => h2 (Or.inr (fun e => putL_ne (names o) x.name h (by rw [← putP_names, e]; rfl)))⟩

theorem putMS_true (m : Mk) : ∀ (l o : List Mk), l.foldl (putMS m) (o, true) = (o ++ l.filter (fun x => decide (x.name ≠ m.name)), true)
  | [], o => by simp
  | x :: l, o => by
    rw [List.foldl_cons]
    have e : putMS m (o, true) x = (o ++ (if x.name = m.name then [] else [x]), true) := by
      unfold putMS
      by_cases h : x.name = m.name <;> simp [h]
    rw [e, putMS_true m l]
    by_cases h : x.name = m.name <;> simp [h]
theorem putMS_false (m : Mk) : ∀ (l o : List Mk), marks l → ∃ l1 l2, l = l1 ++ l2 ∧ (∀ x ∈ l1, x.name ≠ m.name → ¬ gtM x m) ∧ (∀ x ∈ l2, x.name ≠ m.name → gtM x m) ∧
    putME m (l.foldl (putMS m) (o, false)) = o ++ l1.filter (fun x => decide (x.name ≠ m.name)) ++ [m] ++ l2.filter (fun x => decide (x.name ≠ m.name))
  | [], o, _ => ⟨[], [], rfl, by simp, by simp, by simp [putME]⟩
  | x :: l, o, h => by
    obtain ⟨h1, h2⟩ := List.pairwise_cons.1 h
    by_cases hn : x.name = m.name
    · obtain ⟨l1, l2, e, a1, a2, a3⟩ := putMS_false m l o h2
      refine ⟨x :: l1, l2, by rw [e]; rfl, ?_, a2, ?_⟩
      · intro y hy hy2
        rcases List.mem_cons.1 hy with rfl | hy
        · exact absurd hn hy2
        · exact a1 y hy hy2
      · rw [List.foldl_cons]
        have e2 : putMS m (o, false) x = (o, false) := by
          unfold putMS
          simp [hn]
        rw [e2, a3]
        simp [hn]
    · by_cases hg : gtM x m
      · refine ⟨[], x :: l, rfl, by simp, ?_, ?_⟩
        · intro y hy hy2
          rcases List.mem_cons.1 hy with rfl | hy
          · exact hg
          · obtain ⟨k1, k2, k3⟩ := h1 y hy
            unfold gtM at hg ⊢
            rcases hg with hg | ⟨e, hg⟩
            · exact Or.inl (by omega)
            · rcases Int.lt_or_le m.n y.n with h4 | h4
              · exact Or.inl h4
              · refine Or.inr ⟨by omega, ?_⟩
                rcases less_total x.name y.name with h5 | h5 | h5
                · exact less_trans _ _ _ hg h5
                · exact absurd h5 k1
                · exact absurd ⟨by omega, h5⟩ k3
        · rw [List.foldl_cons]
          have e2 : putMS m (o, false) x = (o ++ [m] ++ [x], true) := by
            unfold putMS
            simp [hn, hg]
          rw [e2, putMS_true]
          unfold putME
          simp [hn]
      · obtain ⟨l1, l2, e, a1, a2, a3⟩ := putMS_false m l (o ++ [x]) h2
        refine ⟨x :: l1, l2, by rw [e]; rfl, ?_, a2, ?_⟩
        · intro y hy hy2
          rcases List.mem_cons.1 hy with rfl | hy
          · exact hg
          · exact a1 y hy hy2
        · rw [List.foldl_cons]
          have e2 : putMS m (o, false) x = (o ++ [x], false) := by
            unfold putMS
            simp [hn, hg]
          rw [e2, a3]
          simp [hn]
theorem putM_marks {l : List Mk} (m : Mk) (h : marks l) : marks (putM l m) ∧ putM l m ≠ [] := by
  obtain ⟨l1, l2, e, a1, a2, a3⟩ := putMS_false m l [] h
  have e3 : putM l m = l1.filter (fun x => decide (x.name ≠ m.name)) ++ [m] ++ l2.filter (fun x => decide (x.name ≠ m.name)) := by
    unfold putM
    rw [a3]
    simp
  rw [e3]
  refine ⟨?_, by simp⟩
  rw [e] at h
  obtain ⟨p1, p2, p3⟩ := List.pairwise_append.1 h
  refine List.pairwise_append.2 ⟨List.pairwise_append.2 ⟨p1.filter _, by simp, fun a ha b hb => ?_⟩, p2.filter _, fun a ha b hb => ?_⟩
  · rw [List.mem_singleton.1 hb]
    obtain ⟨ha1, ha2⟩ := List.mem_filter.1 ha
    have ha3 := of_decide_eq_true ha2
    have hg := a1 a ha1 ha3
    unfold gtM at hg
    refine ⟨ha3, fun h => hg (Or.inl h), fun h => hg (Or.inr h)⟩
  · obtain ⟨hb1, hb2⟩ := List.mem_filter.1 hb
    rcases List.mem_append.1 ha with ha | ha
    · exact p3 a (List.mem_filter.1 ha).1 b hb1
    · rw [List.mem_singleton.1 ha]
      have hb3 := of_decide_eq_true hb2
      have hg := a2 b hb1 hb3
      unfold gtM at hg
      refine ⟨fun h => hb3 h.symm, fun h => ?_, fun h => ?_⟩
      · rcases hg with hg | ⟨hg, -⟩ <;> omega
      · rcases hg with hg | ⟨-, hg⟩
        · omega
        · rw [less_asymm hg] at h
          cases h.2
theorem foldM_marks : ∀ (l o : List Mk), marks o → marks (l.foldl putM o) ∧ (l ≠ [] ∨ o ≠ [] → l.foldl putM o ≠ [])
  | [], o, h => ⟨h, fun h1 => by rcases h1 with h1 | h1; exact absurd rfl h1; exact h1⟩
  | x :: l, o, h => by
    obtain ⟨h1, h2⟩ := putM_marks x h
    obtain ⟨h3, h4⟩ := foldM_marks l (putM o x) h1
    exact ⟨h3, fun _ => h4 (Or.inr h2)⟩
theorem take8_ne {α : Type} {l : List α} (h : l ≠ []) : l.take 8 ≠ [] := by
  cases l with
  | nil => exact absurd rfl h
  | cons a r => simp
/-- What is made to fit may be. -/
theorem fit_right (v : V) : right (fitV v) := by
  unfold fitV
  split
  · exact Or.inr (Or.inl ⟨rfl, rfl, rfl, rfl⟩)
  split
  · split
    · exact Or.inl ⟨rfl, rfl, rfl, rfl, rfl⟩
    · rename_i h
      exact Or.inr (Or.inr (Or.inl ⟨rfl, rfl, take8_ne h, rfl, rfl⟩))
  split
  · split
    · exact Or.inl ⟨rfl, rfl, rfl, rfl, rfl⟩
    · rename_i h
      obtain ⟨h1, h2⟩ := foldL_rises (v.l.take 8) [] (List.Pairwise.nil)
      exact Or.inr (Or.inr (Or.inr (Or.inr (Or.inl ⟨rfl, rfl, h2 (Or.inl (take8_ne h)), rfl, rfl, h1⟩))))
  split
  · split
    · exact Or.inl ⟨rfl, rfl, rfl, rfl, rfl⟩
    · rename_i h
      obtain ⟨h1, h2⟩ := foldP_rises (v.h.take 8) [] (List.Pairwise.nil)
      exact Or.inr (Or.inr (Or.inr (Or.inl ⟨rfl, rfl, rfl, h2 (Or.inl (take8_ne h)), rfl, h1⟩)))
  split
  · split
    · exact Or.inl ⟨rfl, rfl, rfl, rfl, rfl⟩
    · rename_i h
      obtain ⟨h1, h2⟩ := foldM_marks (v.z.take 8) [] (List.Pairwise.nil)
      exact Or.inr (Or.inr (Or.inr (Or.inr (Or.inr ⟨rfl, rfl, rfl, rfl, h2 (Or.inl (take8_ne h)), h1⟩))))
  · exact Or.inl ⟨rfl, rfl, rfl, rfl, rfl⟩

end Go.Proofs.YtodpocciimbjbaaDoor.ValT
namespace Go.Proofs.YtodpocciimbjbaaDoor.ValM
open BOrd ValT
open Go.Op (bytesLess)
set_option linter.unusedVariables false
set_option maxRecDepth 100000

theorem cmp_ways : ∀ x y : List UInt8, (Lib.compareBytes x y = -1 ∧ bytesLess x y = true) ∨ (Lib.compareBytes x y = 0 ∧ x = y) ∨ (Lib.compareBytes x y = 1 ∧ bytesLess y x = true)
  | [], [] => Or.inr (Or.inl ⟨rfl, rfl⟩)
  | [], _ :: _ => Or.inl ⟨rfl, by simp [bytesLess]⟩
  | _ :: _, [] => Or.inr (Or.inr ⟨rfl, by simp [bytesLess]⟩)
  | a :: x, b :: y => by
    rw [less_cons, less_cons]
    unfold Lib.compareBytes
    by_cases h1 : a < b
    · rw [if_pos h1]
      exact Or.inl ⟨rfl, Or.inl h1⟩
    · rw [if_neg h1]
      by_cases h2 : b < a
      · rw [if_pos h2]
        exact Or.inr (Or.inr ⟨rfl, Or.inl h2⟩)
      · rw [if_neg h2]
        have e : a = b := UInt8.le_antisymm (UInt8.not_lt.1 h2) (UInt8.not_lt.1 h1)
        subst e
        rcases cmp_ways x y with ⟨h3, h4⟩ | ⟨h3, rfl⟩ | ⟨h3, h4⟩
        · exact Or.inl ⟨h3, Or.inr ⟨rfl, h4⟩⟩
        · exact Or.inr (Or.inl ⟨h3, rfl⟩)
        · exact Or.inr (Or.inr ⟨h3, Or.inr ⟨rfl, h4⟩⟩)
theorem cmp_neg (x y : List UInt8) : Lib.compareBytes x y < 0 ↔ bytesLess x y = true := by
  rcases cmp_ways x y with ⟨h1, h2⟩ | ⟨h1, rfl⟩ | ⟨h1, h2⟩
  · rw [h1, h2]; decide
  · rw [h1, less_irrefl]; decide
  · rw [h1, less_asymm h2]; decide
theorem cmp_nought (x y : List UInt8) : Lib.compareBytes x y = 0 ↔ x = y := by
  rcases cmp_ways x y with ⟨h1, h2⟩ | ⟨h1, rfl⟩ | ⟨h1, h2⟩
  · rw [h1]
    exact ⟨fun h => absurd h (by decide), fun h => absurd h (less_ne h2)⟩
  · simp [h1]
  · rw [h1]
    exact ⟨fun h => absurd h (by decide), fun h => absurd h.symm (less_ne h2)⟩
theorem cmp_bound (x y : List UInt8) : -1 ≤ Lib.compareBytes x y ∧ Lib.compareBytes x y ≤ 1 := by
  rcases cmp_ways x y with ⟨h1, h2⟩ | ⟨h1, rfl⟩ | ⟨h1, h2⟩ <;> (rw [h1]; decide)

/-- How the landed code compares two pairs, two marks. -/
def cmpS (x y : List UInt8) : Int := Lib.compareBytes x y
def cmpP (x y : Pr) : Int := Lib.compareBytes x.name y.name
def cmpM (x y : Mk) : Int := if Lib.compareInt x.n y.n = 0 then Lib.compareBytes x.name y.name else Lib.compareInt x.n y.n
theorem cmpM_neg (x y : Mk) : cmpM x y < 0 ↔ x.n < y.n ∨ (x.n = y.n ∧ bytesLess x.name y.name = true) := by
  unfold cmpM Lib.compareInt
  rw [← cmp_neg]
  split <;> rename_i h <;> (repeat' split at h) <;> (repeat' split) <;> omega
theorem cmpM_bound (x y : Mk) : -1 ≤ cmpM x y ∧ cmpM x y ≤ 1 := by
  have := cmp_bound x.name y.name
  unfold cmpM Lib.compareInt
  split <;> (repeat' split) <;> omega

/-- A row in which each is less than the next one. -/
def chain {α : Type} (f : α → α → Int) (L : List α) : Prop := ∀ i (h : i + 1 < L.length), f L[i] L[i + 1] < 0
noncomputable def chainB {α : Type} (f : α → α → Int) (L : List α) : Bool := @decide (chain f L) (Classical.propDecidable _)
theorem chainB_true {α : Type} {f : α → α → Int} {L : List α} (h : chain f L) : chainB f L = true := @decide_eq_true _ (Classical.propDecidable _) h
theorem chainB_false {α : Type} {f : α → α → Int} {L : List α} (h : ¬ chain f L) : chainB f L = false := @decide_eq_false _ (Classical.propDecidable _) h
theorem chainB_iff {α : Type} {f : α → α → Int} {L : List α} : chainB f L = true ↔ chain f L := @decide_eq_true_iff _ (Classical.propDecidable _)
theorem chain_pair {α : Type} {f : α → α → Int} {L : List α} (ht : ∀ x y z, f x y < 0 → f y z < 0 → f x z < 0) (h : chain f L) : L.Pairwise fun x y => f x y < 0 := by
  refine List.pairwise_iff_getElem.2 fun i j hi hj hij => ?_
  obtain ⟨d, rfl⟩ : ∃ d, j = i + 1 + d := ⟨j - i - 1, by omega⟩
  induction d with
  | zero => exact h i hj
  | succ d ih => exact ht _ _ _ (ih (by omega) (by omega)) (h (i + 1 + d) (by omega))
theorem chain_of {α : Type} {f : α → α → Int} {L : List α} (h : L.Pairwise fun x y => f x y < 0) : chain f L := fun i hi => List.pairwise_iff_getElem.1 h i (i + 1) (by omega) hi (by omega)
theorem chain_S (L : List (List UInt8)) : chainB cmpS L = decide (rises L) := by
  have h : chain cmpS L ↔ rises L := by
    unfold rises
    constructor
    · intro h
      exact (chain_pair (f := cmpS) (fun x y z h1 h2 => (cmp_neg x z).2 (less_trans _ _ _ ((cmp_neg _ _).1 h1) ((cmp_neg _ _).1 h2))) h).imp fun h => (cmp_neg _ _).1 h
    · intro h
      exact chain_of (h.imp fun h => (cmp_neg _ _).2 h)
  rw [Bool.eq_iff_iff, decide_eq_true_iff]
  exact chainB_iff.trans h
theorem chain_P (L : List Pr) : chainB cmpP L = decide (rises (names L)) := by
  have h : chain cmpP L ↔ rises (names L) := by
    unfold rises names
    rw [List.pairwise_map]
    constructor
    · intro h
      exact (chain_pair (f := cmpP) (fun x y z h1 h2 => (cmp_neg x.name z.name).2 (less_trans _ _ _ ((cmp_neg _ _).1 h1) ((cmp_neg _ _).1 h2))) h).imp fun h => (cmp_neg _ _).1 h
    · intro h
      exact chain_of (h.imp fun h => (cmp_neg _ _).2 h)
  rw [Bool.eq_iff_iff, decide_eq_true_iff]
  exact chainB_iff.trans h

/-- A row of texts, put in order. -/
def sortedT (L : List (List UInt8)) : List (List UInt8) := L.mergeSort fun x y => decide (x ≤ y)
theorem sorted_len (L : List (List UInt8)) : (sortedT L).length = L.length := (List.mergeSort_perm L _).length_eq
theorem le_less (x y : List UInt8) : (x ≤ y) ↔ bytesLess y x = false := by
  rw [bytesLess_eq, decide_eq_false_iff_not]
  exact Iff.rfl
theorem chain_sorted (L : List (List UInt8)) : chain cmpS (sortedT L) ↔ L.Nodup := by
  have hp : (sortedT L).Perm L := List.mergeSort_perm L _
  constructor
  · intro h
    refine hp.nodup_iff.1 ?_
    exact (chain_pair (f := cmpS) (fun x y z h1 h2 => (cmp_neg _ _).2 (less_trans _ _ _ ((cmp_neg _ _).1 h1) ((cmp_neg _ _).1 h2))) h).imp fun h => less_ne ((cmp_neg _ _).1 h)
  · intro h
    have hs : (sortedT L).Pairwise fun x y => decide (x ≤ y) = true := by
      refine List.pairwise_mergeSort (fun x y z h1 h2 => ?_) (fun x y => ?_) L
      · rw [decide_eq_true_iff, le_less] at h1 h2 ⊢
        rcases (geq_iff _ _).1 h1 with rfl | h1
        · exact h2
        · rcases (geq_iff _ _).1 h2 with rfl | h2
          · exact less_asymm h1
          · exact less_asymm (less_trans _ _ _ h1 h2)
      · rw [Bool.or_eq_true, decide_eq_true_iff, decide_eq_true_iff, le_less, le_less]
        rcases less_total x y with h | rfl | h
        · exact Or.inl (less_asymm h)
        · exact Or.inl (less_irrefl _)
        · exact Or.inr (less_asymm h)
    refine chain_of ?_
    refine (hs.and (hp.nodup_iff.2 h)).imp fun ⟨h1, h2⟩ => (cmp_neg _ _).2 ?_
    rw [decide_eq_true_iff, le_less] at h1
    rcases (geq_iff _ _).1 h1 with rfl | h1
    · exact absurd rfl h2
    · exact h1
def mnames (L : List Mk) : List (List UInt8) := L.map (·.name)
theorem chain_M (L : List Mk) : (chainB cmpM L && chainB cmpS (sortedT (mnames L))) = decide (marks L) := by
  have h : (chain cmpM L ∧ chain cmpS (sortedT (mnames L))) ↔ marks L := by
    rw [chain_sorted]
    unfold mnames marks List.Nodup
    rw [List.pairwise_map]
    constructor
    · rintro ⟨h1, h2⟩
      have h3 := chain_pair (f := cmpM) (fun x y z h1 h2 => by
        rw [cmpM_neg] at h1 h2 ⊢
        rcases h1 with h1 | ⟨h1, h3⟩
        · rcases h2 with h2 | ⟨h2, h4⟩
          · exact Or.inl (by omega)
          · exact Or.inl (by omega)
        · rcases h2 with h2 | ⟨h2, h4⟩
          · exact Or.inl (by omega)
          · exact Or.inr ⟨by omega, less_trans _ _ _ h3 h4⟩) h1
      refine (h3.and h2).imp fun {x y} h => ?_
      obtain ⟨h4, h5⟩ := h
      rw [cmpM_neg] at h4
      refine ⟨h5, ?_, ?_⟩
      · rcases h4 with h4 | ⟨h4, -⟩ <;> omega
      · rintro ⟨h6, h7⟩
        rcases h4 with h4 | ⟨-, h4⟩
        · omega
        · rw [less_asymm h4] at h7
          cases h7
    · intro h
      refine ⟨chain_of (h.imp fun {x y} h => ?_), h.imp fun h => h.1⟩
      obtain ⟨h1, h2, h3⟩ := h
      rw [cmpM_neg]
      rcases Int.lt_trichotomy x.n y.n with h4 | h4 | h4
      · exact Or.inl h4
      · refine Or.inr ⟨h4, ?_⟩
        rcases less_total x.name y.name with h5 | h5 | h5
        · exact h5
        · exact absurd h5 h1
        · exact absurd ⟨h4, h5⟩ h3
      · exact absurd h4 h2
  rw [Bool.eq_iff_iff, decide_eq_true_iff, Bool.and_eq_true]
  exact (and_congr chainB_iff chainB_iff).trans h

end Go.Proofs.YtodpocciimbjbaaDoor.ValM
