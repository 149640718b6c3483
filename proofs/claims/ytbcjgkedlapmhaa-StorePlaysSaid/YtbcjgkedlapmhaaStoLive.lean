/-
  What is there of a store, that is: not past. Pure. Two stores that differ in nothing but what is past; a key apart from another one.
-/
import Derived.Test.YtbcjgkedlapmhaaStoOps
namespace Go.Proofs.Ytbcjgkedlapmhaa.StoT
open ValT BOrd
open Go.Op (bytesLess)
set_option linter.unusedVariables false
set_option maxRecDepth 100000

def live (L : List (En V)) : List (En V) := L.filter fun e => !e.past
theorem look_live (k : List UInt8) (L : List (En V)) : lookE k (letL k L) = lookE k (live L) := by
  unfold lookE letL live
  rw [List.find?_filter, List.find?_filter]
  congr 1
  funext e
  by_cases h : e.key = k <;> cases hp : e.past <;> simp [h]
theorem live_let (k : List UInt8) (L : List (En V)) : live (letL k L) = live L := by
  unfold letL live
  rw [List.filter_filter]
  exact List.filter_congr fun e _ => by cases hp : e.past <;> simp
theorem live_live (L : List (En V)) : live (live L) = live L := by
  unfold live
  rw [List.filter_filter]
  exact List.filter_congr fun e _ => by simp
theorem live_rm (k : List UInt8) (L : List (En V)) : live (rm k L) = rm k (live L) := by
  unfold rm live
  rw [List.filter_filter, List.filter_filter]
  exact List.filter_congr fun e _ => Bool.and_comm _ _
theorem live_up (k : List UInt8) (f : En V → En V) (hf : ∀ e, (f e).past = e.past) (L : List (En V)) : live (up k f L) = up k f (live L) := by
  unfold up live
  rw [List.filter_map]
  congr 1
  exact List.filter_congr fun e _ => by
    show (!(if e.key = k then f e else e).past) = _
    split
    · rw [hf]
    · rfl
theorem live_ins (e : En V) (he : e.past = false) (L : List (En V)) : live (ins e L) = ins e (live L) := by
  unfold ins live
  rw [List.filter_append, List.filter_cons, he, if_pos (by rfl), List.filter_filter, List.filter_filter, List.filter_filter, List.filter_filter]
  congr 1
  · exact List.filter_congr fun e _ => Bool.and_comm _ _
  · congr 1
    exact List.filter_congr fun e _ => Bool.and_comm _ _
theorem tick_past {t : Nat} {e : En V} (h : e.past = true) : (tickE t e).past = true := by
  unfold tickE
  split
  · rfl
  · exact h
theorem live_tick (t : Nat) (L : List (En V)) : live (L.map (tickE t)) = live ((live L).map (tickE t)) := by
  unfold live
  rw [List.filter_map, List.filter_map, List.filter_filter]
  congr 1
  exact List.filter_congr fun e _ => by
    show (!(tickE t e).past) = ((!(tickE t e).past) && !e.past)
    cases hp : e.past with
    | true => rw [tick_past hp]; rfl
    | false => simp
theorem fell_live (t : Nat) (L : List (En V)) (k : List UInt8) : fell t (live L) k = fell t L k := by
  unfold fell live
  rw [List.any_filter]
  congr 1
  funext e
  unfold falls
  cases hp : e.past <;> simp
theorem new_past (k : List UInt8) (v : V) (L : List (En V)) : (newE k v (lookE k (live L))).past = false := by
  cases h : lookE k (live L) with
  | none => rfl
  | some e =>
    have := (List.mem_filter.1 (look_some h).1).2
    show e.past = false
    simpa using this
theorem keys_live (L : List (En V)) : keysS L = (live L).map (·.key) := rfl
/-- Two stores that differ in nothing but what is past. -/
structure Sm (D E : Sd V) : Prop where
  l : live D.L = live E.L
  c : D.C = E.C
  t : D.time = E.time
variable {D E : Sd V}
theorem sm_0 : Sm s0 s0 := ⟨rfl, rfl, rfl⟩
theorem Sm.get (h : Sm D E) (k : List UInt8) : Sm (getS k D) (getS k E) := ⟨(live_let k D.L).trans (h.l.trans (live_let k E.L).symm), h.c, h.t⟩
theorem Sm.vals (h : Sm D E) (k : List UInt8) : getV k D.L = getV k E.L ∧ dueV k D.L = dueV k E.L ∧ setDueB k D = setDueB k E ∧ keysS D.L = keysS E.L := by
  unfold getV dueV setDueB
  rw [look_live, look_live, keys_live, keys_live, h.l]
  exact ⟨rfl, rfl, rfl, rfl⟩
theorem Sm.purge (h : Sm D E) : Sm D (purgeS E) := ⟨h.l.trans (live_live E.L).symm, h.c, h.t⟩
theorem Sm.due (h : Sm D E) (k : List UInt8) (a : Int) (on : Bool) : Sm (setDueS k a on D) (setDueS k a on E) := by
  unfold setDueS
  rw [look_live, look_live, h.l, h.t]
  split
  · split
    · exact ⟨by show live (rm k D.L) = live (rm k E.L); rw [live_rm, live_rm, h.l], by show cnt k D.C = cnt k E.C; rw [h.c], rfl⟩
    · exact ⟨by show live (up k (dueE a on) D.L) = live (up k (dueE a on) E.L); rw [live_up _ (dueE a on) (fun _ => rfl), live_up _ (dueE a on) (fun _ => rfl), h.l], by show cnt k D.C = cnt k E.C; rw [h.c], rfl⟩
  · exact ⟨(h.get k).l, h.c, rfl⟩
theorem Sm.tick (h : Sm D E) (m : Int) : Sm (tickS m D) (tickS m E) := by
  unfold tickS
  rw [h.t]
  refine ⟨?_, ?_, rfl⟩
  · show live (D.L.map _) = live (E.L.map _)
    rw [live_tick, h.l, ← live_tick]
  · show tickC _ D.L D.C = tickC _ E.L E.C
    funext k
    unfold tickC
    rw [← fell_live _ D.L, h.l, fell_live, h.c]
theorem Sm.put (h : Sm D E) (k : List UInt8) (v : V) : Sm (putAny k v D) (putAny k v E) := by
  unfold putAny
  split
  · unfold goneS
    rw [look_live, look_live, h.l]
    split
    · exact ⟨by show live (rm k D.L) = live (rm k E.L); rw [live_rm, live_rm, h.l], by show cnt k D.C = cnt k E.C; rw [h.c], h.t⟩
    · exact h.get k
  · unfold putS10
    rw [look_live, look_live]
    refine ⟨?_, by show cnt k D.C = cnt k E.C; rw [h.c], h.t⟩
    show live (ins _ (rm k D.L)) = live (ins _ (rm k E.L))
    rw [live_ins _ (new_past k v D.L), live_ins _ (new_past k v E.L), live_rm, live_rm, h.l]
theorem held_purge (D : Sd V) : (keysS (purgeS D).L).length = (purgeS D).L.length := by
  rw [keys_live, List.length_map]
  show (live (live D.L)).length = (live D.L).length
  rw [live_live]
theorem keys_le (L : List (En V)) : (keysS L).length ≤ L.length := by
  rw [keys_live, List.length_map]
  exact List.length_filter_le _ _
theorem purge_n (D : Sd V) : purgeN D = D.L.length - (keysS D.L).length := by
  rw [keys_live, List.length_map]
  rfl

/-! ### One key apart from another -/
theorem look_rm {k k' : List UInt8} (hk : k' ≠ k) (L : List (En V)) : lookE k (rm k' L) = lookE k L := by
  unfold lookE rm
  rw [List.find?_filter]
  congr 1
  funext e
  by_cases h : e.key = k
  · subst h
    simp [Ne.symm hk]
  · simp [h]
theorem look_up {k k' : List UInt8} (hk : k' ≠ k) (f : En V → En V) (hf : ∀ e, (f e).key = e.key) (L : List (En V)) : lookE k (up k' f L) = lookE k L := by
  unfold lookE up
  induction L with
  | nil => rfl
  | cons e L ih =>
    rw [List.map_cons, List.find?_cons, List.find?_cons]
    by_cases h : e.key = k'
    · rw [if_pos h, hf, h, decide_eq_false hk]
      exact ih
    · rw [if_neg h]
      cases decide (e.key = k)
      · exact ih
      · rfl
theorem look_ins {k : List UInt8} {e : En V} (hk : e.key ≠ k) (L : List (En V)) : lookE k (ins e L) = lookE k L := by
  have h1 : (fun a : En V => decide (bytesLess a.key e.key = true ∧ decide (a.key = k) = true)) = fun a => bytesLess k e.key && decide (a.key = k) := by
    funext a
    by_cases h : a.key = k
    · simp [h]
    · simp [h]
  have h2 : (fun a : En V => decide (bytesLess e.key a.key = true ∧ decide (a.key = k) = true)) = fun a => bytesLess e.key k && decide (a.key = k) := by
    funext a
    by_cases h : a.key = k
    · simp [h]
    · simp [h]
  unfold lookE ins
  rw [List.find?_append, List.find?_cons, decide_eq_false hk, List.find?_filter, List.find?_filter, h1, h2]
  have hn : List.find? (fun _ : En V => false) L = none := List.find?_eq_none.2 (fun _ _ h => by cases h)
  rcases less_total k e.key with h | h | h
  · rw [h, less_asymm h]
    simp only [Bool.true_and, Bool.false_and]
    rw [hn]
    cases List.find? (fun a : En V => decide (a.key = k)) L <;> simp
  · exact absurd h.symm hk
  · rw [h, less_asymm h]
    simp only [Bool.true_and, Bool.false_and]
    rw [hn]
    cases List.find? (fun a : En V => decide (a.key = k)) L <;> simp
/-- What the law StoreApart holds of a store: what the key "a" has. -/
structure Ap (d : V) (a : Int) (N : Nat) (D : Sd V) : Prop where
  e : lookE [97] (live D.L) = if d.kind = 0 then none else some ⟨[97], d, a, true, false⟩
  c : D.C [97] = N
variable {d : V} {a : Int} {N : Nat}
theorem Ap.get (h : Ap d a N D) (k : List UInt8) : Ap d a N (getS k D) := ⟨by show lookE _ (live (letL k D.L)) = _; rw [live_let]; exact h.e, h.c⟩
theorem Ap.purge (h : Ap d a N D) : Ap d a N (purgeS D) := ⟨by show lookE _ (live (live D.L)) = _; rw [live_live]; exact h.e, h.c⟩
theorem cnt_ne {k k' : List UInt8} (hk : k' ≠ k) (C : List UInt8 → Nat) : cnt k' C k = C k := by
  unfold cnt
  rw [if_neg (fun h => hk h.symm)]
theorem Ap.due (h : Ap d a N D) (b : Int) (on : Bool) : Ap d a N (setDueS [98] b on D) := by
  unfold setDueS
  split
  · split
    · exact ⟨by show lookE _ (live (rm [98] D.L)) = _; rw [live_rm, look_rm (by decide)]; exact h.e, by show cnt [98] D.C [97] = _; rw [cnt_ne (by decide)]; exact h.c⟩
    · exact ⟨by show lookE _ (live (up [98] (dueE b on) D.L)) = _; rw [live_up _ (dueE b on) (fun _ => rfl), look_up (by decide) (dueE b on) (fun _ => rfl)]; exact h.e, by show cnt [98] D.C [97] = _; rw [cnt_ne (by decide)]; exact h.c⟩
  · exact h.get _
theorem Ap.put (h : Ap d a N D) (v : V) : Ap d a N (putAny [98] v D) := by
  unfold putAny
  split
  · unfold goneS
    split
    · exact ⟨by show lookE _ (live (rm [98] D.L)) = _; rw [live_rm, look_rm (by decide)]; exact h.e, by show cnt [98] D.C [97] = _; rw [cnt_ne (by decide)]; exact h.c⟩
    · exact h.get _
  · unfold putS10
    rw [look_live]
    refine ⟨?_, by show cnt [98] D.C [97] = _; rw [cnt_ne (by decide)]; exact h.c⟩
    show lookE _ (live (ins _ (rm [98] D.L))) = _
    rw [live_ins _ (new_past [98] v D.L), look_ins (by rw [newE_key]; decide), live_rm, look_rm (by decide)]
    exact h.e
def A2 (d : V) (a : Int) : Sd V := setDueS [97] a true (putAny [97] d s0)
theorem ap_0 (d : V) {a : Int} (ha : 0 < a) : Ap d a ((A2 d a).C [97]) (A2 d a) := by
  refine ⟨?_, rfl⟩
  unfold A2 putAny
  by_cases h : d.kind = 0
  · rw [if_pos h, if_pos h]
    rfl
  · rw [if_neg h, if_neg h]
    have h0 : ¬ (true = true ∧ a ≤ ((putS10 [97] d (s0 : Sd V)).time : Int)) := fun h => by
      have := h.2
      have h1 : (putS10 [97] d (s0 : Sd V)).time = 0 := rfl
      rw [h1] at this
      omega
    unfold setDueS
    rw [if_neg h0]
    rfl
theorem a2_n (d : V) (a : Int) : (putAny [97] d (s0 : Sd V)).n = 1 ∧ (A2 d a).n = 2 := by
  have h1 : ∀ D : Sd V, (putAny [97] d D).n = D.n + 1 := fun D => by
    unfold putAny goneS
    split
    · split <;> rfl
    · rfl
  have h2 : ∀ D : Sd V, (setDueS [97] a true D).n = D.n + 1 := fun D => by
    unfold setDueS
    split
    · split <;> rfl
    · rfl
  exact ⟨h1 s0, by unfold A2; rw [h2, h1]; rfl⟩
theorem Ap.vals (h : Ap d a N D) : dueV [97] D.L = (if d.kind = 0 then (0, false) else (a, true)) ∧ (getV [97] D.L).getD v0 = if d.kind = 0 then v0 else d := by
  unfold dueV getV
  rw [look_live, h.e]
  by_cases hk : d.kind = 0
  · simp [hk]
  · simp [hk]
theorem right_none {d : V} (h : right d) (hk : d.kind = 0) : d = v0 := by
  rcases h with h | h | h | h | h | h <;> first | (exact absurd (h.1.symm.trans hk) (by decide)) | skip
  all_goals (cases d; simp_all [v0])

end Go.Proofs.Ytbcjgkedlapmhaa.StoT
