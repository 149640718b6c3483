/-
  The landed store of layer 10: what it keeps of a store as the document says it, and each thing that is done.
-/
import Derived.Test.YtbcjgkedlapmhaaStoLive
import Derived.Test.YtbcjgkedlapmhaaLstDo
namespace Go.Proofs.Ytbcjgkedlapmhaa.LstV
open ValT BOrd StoT
open Go.Op (bytesLess)
set_option linter.unusedVariables false
set_option maxRecDepth 100000

def pastB (k : List UInt8) (L : List (En V)) : Bool := L.any fun e => decide (e.key = k) && e.past
def dueO (e : En V) : Option Int := if e.on then some e.due else none
variable {k x : List UInt8} {L : List (En V)}
theorem ord_live (h : ordE L) : ordE (live L) := ordE_filter _ h
theorem past_iff : pastB k L = true ↔ ∃ e ∈ L, e.key = k ∧ e.past = true := by
  unfold pastB
  rw [List.any_eq_true]
  constructor
  · rintro ⟨e, he, h⟩
    rw [Bool.and_eq_true, decide_eq_true_eq] at h
    exact ⟨e, he, h⟩
  · rintro ⟨e, he, h1, h2⟩
    exact ⟨e, he, by rw [Bool.and_eq_true, decide_eq_true_eq]; exact ⟨h1, h2⟩⟩
theorem live_mem {e : En V} : e ∈ live L ↔ e ∈ L ∧ e.past = false := by
  unfold live
  rw [List.mem_filter]
  simp
theorem one_key (h : ordE L) {a b : En V} (ha : a ∈ L) (hb : b ∈ L) (e : a.key = b.key) : a = b := by
  obtain ⟨i, hi, rfl⟩ := List.getElem_of_mem ha
  obtain ⟨j, hj, rfl⟩ := List.getElem_of_mem hb
  have := key_inj h hi hj e
  subst this
  rfl
theorem look_mem (h : ordE L) {e : En V} (he : e ∈ L) (hk : e.key = k) : lookE k L = some e := by
  obtain ⟨i, hi, rfl⟩ := List.getElem_of_mem he
  exact look_at h hi hk
theorem past_live (h : ordE L) (hk : (lookE k (live L)).isSome = true) : pastB k L = false := by
  cases hp : pastB k L with
  | false => rfl
  | true =>
    obtain ⟨e, he, h1, h2⟩ := past_iff.1 hp
    cases hl : lookE k (live L) with
    | none => rw [hl] at hk; cases hk
    | some e' =>
      obtain ⟨h3, h4⟩ := look_some hl
      obtain ⟨h5, h6⟩ := live_mem.1 h3
      have := one_key h he h5 (by rw [h1, h4])
      subst this
      rw [h2] at h6
      cases h6
theorem bool_iff {a b : Bool} (h : a = true ↔ b = true) : a = b := by
  cases a <;> cases b <;> simp_all
/-! ### Each thing that is done -/
theorem past_let : pastB x (letL k L) = if x = k then false else pastB x L := by
  refine bool_iff ?_
  rw [past_iff]
  unfold letL
  by_cases h : x = k
  · subst h
    rw [if_pos rfl]
    constructor
    · rintro ⟨e, he, h1, h2⟩
      have := (List.mem_filter.1 he).2
      simp [h1, h2] at this
    · intro h
      cases h
  · rw [if_neg h, past_iff]
    constructor
    · rintro ⟨e, he, h1, h2⟩
      exact ⟨e, (List.mem_filter.1 he).1, h1, h2⟩
    · rintro ⟨e, he, h1, h2⟩
      exact ⟨e, List.mem_filter.2 ⟨he, by simp [h1, h]⟩, h1, h2⟩
theorem past_rm : pastB x (rm k L) = if x = k then false else pastB x L := by
  refine bool_iff ?_
  rw [past_iff]
  unfold rm
  by_cases h : x = k
  · subst h
    rw [if_pos rfl]
    constructor
    · rintro ⟨e, he, h1, h2⟩
      have := (List.mem_filter.1 he).2
      simp [h1] at this
    · intro h
      cases h
  · rw [if_neg h, past_iff]
    constructor
    · rintro ⟨e, he, h1, h2⟩
      exact ⟨e, (List.mem_filter.1 he).1, h1, h2⟩
    · rintro ⟨e, he, h1, h2⟩
      exact ⟨e, List.mem_filter.2 ⟨he, by simp [h1, h]⟩, h1, h2⟩
theorem past_ins {e : En V} (hk : e.key = k) (hp : e.past = false) (h : ordE L) : pastB x (ins e (rm k L)) = if x = k then false else pastB x L := by
  rw [← past_rm (k := k)]
  refine bool_iff ?_
  rw [past_iff, past_iff]
  constructor
  · rintro ⟨y, hy, h1, h2⟩
    rcases mem_ins hy with rfl | hy
    · rw [hp] at h2
      cases h2
    · exact ⟨y, hy, h1, h2⟩
  · rintro ⟨y, hy, h1, h2⟩
    refine ⟨y, ?_, h1, h2⟩
    have hne : y.key ≠ k := by
      have := (List.mem_filter.1 hy).2
      simpa using this
    unfold ins
    rw [List.mem_append, List.mem_cons, List.mem_filter, List.mem_filter, hk]
    rcases less_total y.key k with h3 | h3 | h3
    · exact Or.inl ⟨hy, h3⟩
    · exact absurd h3 hne
    · exact Or.inr (Or.inr ⟨hy, h3⟩)
theorem past_up {f : En V → En V} (hf : ∀ e, (f e).past = e.past) (hk : ∀ e, (f e).key = e.key) : pastB x (up k f L) = pastB x L := by
  unfold pastB up
  rw [List.any_map]
  congr 1
  funext e
  show (decide ((if e.key = k then f e else e).key = x) && (if e.key = k then f e else e).past) = _
  split
  · rw [hf, hk]
  · rfl
theorem past_tick (t : Nat) : pastB x (L.map (tickE t)) = (pastB x L || fell t L x) := by
  unfold pastB fell
  rw [List.any_map]
  induction L with
  | nil => rfl
  | cons e L ih =>
    rw [List.any_cons, List.any_cons, List.any_cons, ih]
    have h : ((fun e => decide (e.key = x) && e.past) ∘ tickE t) e = ((decide (e.key = x) && e.past) || (decide (e.key = x) && falls t e)) := by
      show (decide ((tickE t e).key = x) && (tickE t e).past) = _
      rw [tickE_key]
      unfold tickE
      cases hf : falls t e with
      | true => rw [if_pos rfl]; cases decide (e.key = x) <;> cases e.past <;> rfl
      | false => simp
    rw [h]
    cases decide (e.key = x) <;> cases e.past <;> cases falls t e <;> simp
theorem past_purge : pastB x (live L) = false := by
  cases hp : pastB x (live L) with
  | false => rfl
  | true =>
    obtain ⟨e, he, h1, h2⟩ := past_iff.1 hp
    have := (live_mem.1 he).2
    rw [h2] at this
    cases this
theorem look_rm_k : lookE x (rm k L) = if x = k then none else lookE x L := by
  by_cases h : x = k
  · subst h
    rw [if_pos rfl, look_none]
    intro e he
    have := (List.mem_filter.1 he).2
    simpa using this
  · rw [if_neg h, look_rm (fun e => h e.symm)]
theorem look_ins_k {e : En V} (h : ordE L) (hk : e.key = k) : lookE x (ins e (rm k L)) = if x = k then some e else lookE x L := by
  by_cases hx : x = k
  · subst hx
    rw [if_pos rfl]
    exact look_mem (ordE_ins e (ordE_filter _ h)) (by unfold ins; simp) hk
  · rw [if_neg hx, look_ins (by rw [hk]; exact fun e => hx e.symm), look_rm (fun e => hx e.symm)]
theorem look_up_k {f : En V → En V} (hf : ∀ e, (f e).key = e.key) (h : ordE L) : lookE x (up k f L) = if x = k then (lookE k L).map f else lookE x L := by
  by_cases hx : x = k
  · subst hx
    rw [if_pos rfl]
    cases hl : lookE x L with
    | none =>
      show lookE x (up x f L) = none
      rw [look_none]
      intro e he
      obtain ⟨y, hy, rfl⟩ := List.mem_map.1 he
      have := look_none.1 hl y hy
      rw [if_neg this]
      exact this
    | some e =>
      obtain ⟨h1, h2⟩ := look_some hl
      have ho : ordE (up x f L) := ordE_map _ (fun e => by split; exact hf e; rfl) h
      refine look_mem ho (List.mem_map.2 ⟨e, h1, by rw [if_pos h2]⟩) (by rw [hf, h2])
  · rw [if_neg hx, look_up (fun e => hx e.symm) f hf]
theorem look_tick (t : Nat) (h : ordE L) : lookE x (live (L.map (tickE t))) = if fell t L x then none else lookE x (live L) := by
  have ho : ordE (L.map (tickE t)) := ordE_map _ (tickE_key t) h
  cases hf : fell t L x with
  | true =>
    rw [if_pos rfl, look_none]
    unfold fell at hf
    rw [List.any_eq_true] at hf
    obtain ⟨e, he, h1⟩ := hf
    rw [Bool.and_eq_true, decide_eq_true_eq] at h1
    intro y hy hk
    obtain ⟨h2, h3⟩ := live_mem.1 hy
    have h4 : tickE t e ∈ L.map (tickE t) := List.mem_map_of_mem he
    have h5 := one_key ho h2 h4 (by rw [hk, tickE_key, h1.1])
    rw [h5] at h3
    unfold tickE at h3
    rw [h1.2, if_pos rfl] at h3
    cases h3
  | false =>
    rw [if_neg (by simp)]
    have hnf : ∀ e ∈ L, e.key = x → falls t e = false := fun e he hk => by
      unfold fell at hf
      have := List.any_eq_false.1 hf e he
      simpa [hk] using this
    cases hl : lookE x (live L) with
    | none =>
      rw [look_none]
      intro y hy hk
      obtain ⟨h2, h3⟩ := live_mem.1 hy
      obtain ⟨e, he, rfl⟩ := List.mem_map.1 h2
      rw [tickE_key] at hk
      have h4 := hnf e he hk
      unfold tickE at h3
      rw [h4, if_neg (by simp)] at h3
      exact look_none.1 hl e (live_mem.2 ⟨he, h3⟩) hk
    | some e =>
      obtain ⟨h2, h3⟩ := look_some hl
      obtain ⟨h4, h5⟩ := live_mem.1 h2
      have h6 : tickE t e = e := by unfold tickE; rw [hnf e h4 h3, if_neg (by simp)]
      refine look_mem (ordE_filter _ ho) ?_ h3
      exact live_mem.2 ⟨List.mem_map.2 ⟨e, h4, h6⟩, h5⟩
theorem fell_look (t : Nat) (h : ordE L) : fell t L x = match (lookE x (live L)).bind dueO with | some a => decide (a ≤ (t : Int)) | none => false := by
  refine bool_iff ?_
  unfold fell
  rw [List.any_eq_true]
  constructor
  · rintro ⟨e, he, h1⟩
    unfold falls at h1
    simp only [Bool.and_eq_true, decide_eq_true_eq, Bool.not_eq_true'] at h1
    obtain ⟨h1, ⟨h2, h3⟩, h4⟩ := h1
    rw [look_mem (ord_live h) (live_mem.2 ⟨he, h4⟩) h1]
    simp [dueO, h2, h3]
  · intro h1
    cases hl : lookE x (live L) with
    | none => rw [hl] at h1; cases h1
    | some e =>
      obtain ⟨h2, h3⟩ := look_some hl
      obtain ⟨h4, h5⟩ := live_mem.1 h2
      rw [hl] at h1
      refine ⟨e, h4, ?_⟩
      unfold falls
      cases ho : e.on with
      | false => simp [dueO, ho] at h1
      | true =>
        simp only [Option.bind_some, dueO, ho, if_true] at h1
        simp [h3, h1, h5]
/-! ### Keys -/
theorem keys_rise (h : ordE L) : rises (keysS L) := by
  unfold keysS
  exact List.pairwise_map.2 ((ord_live h).imp fun h => h)
theorem keys_mem : x ∈ keysS L ↔ (lookE x (live L)).isSome = true := by
  rw [keys_live, List.mem_map]
  constructor
  · rintro ⟨e, he, rfl⟩
    cases hl : lookE e.key (live L) with
    | none => exact absurd rfl (look_none.1 hl e he)
    | some e => rfl
  · intro h
    cases hl : lookE x (live L) with
    | none => rw [hl] at h; cases h
    | some e => exact ⟨e, (look_some hl).1, (look_some hl).2⟩
def pastS (L : List (En V)) : List (List UInt8) := (L.filter fun e => e.past).map (·.key)
theorem past_nodup (h : ordE L) : (pastS L).Nodup := by
  unfold pastS
  exact List.pairwise_map.2 ((ordE_filter (fun e => e.past) h).imp fun {a b} h e => by
    rw [e, less_irrefl] at h
    cases h)
theorem past_mem : x ∈ pastS L ↔ pastB x L = true := by
  rw [past_iff]
  unfold pastS
  rw [List.mem_map]
  constructor
  · rintro ⟨e, he, rfl⟩
    exact ⟨e, (List.mem_filter.1 he).1, rfl, (List.mem_filter.1 he).2⟩
  · rintro ⟨e, he, h1, h2⟩
    exact ⟨e, List.mem_filter.2 ⟨he, h2⟩, h1⟩
theorem len_split : ∀ L : List (En V), (keysS L).length + (pastS L).length = L.length
  | [] => rfl
  | e :: L => by
    have ih := len_split L
    unfold keysS pastS at ih ⊢
    rw [List.length_map, List.length_map] at ih ⊢
    rw [List.filter_cons, List.filter_cons]
    cases e.past <;> simp <;> omega
theorem all_nodup (h : ordE L) : (L.map (·.key)).Nodup := List.pairwise_map.2 (h.imp fun {a b} h e => by
  rw [e, less_irrefl] at h
  cases h)

end Go.Proofs.Ytbcjgkedlapmhaa.LstV
namespace Go.Proofs.Ytbcjgkedlapmhaa.LstM
open Go.RowKit Kit StrT RowG BOrd ValT StoT MapF LstT LstV RefV ValM
set_option linter.unusedVariables false
set_option maxRecDepth 100000

structure VE (D : Sd V) (P : List UInt8 → Option PV) (U : List UInt8 → Option Int) (H : List UInt8 → Option Unit) (C : List UInt8 → Option Nat) : Prop where
  p : ∀ k, (lookE k (live D.L)).map (·.v) = (P k).map (·.d)
  u : ∀ k, U k = (lookE k (live D.L)).bind dueO
  h : ∀ k, H k = if pastB k D.L then some () else none
  c : ∀ k, C k = if D.C k = 0 then none else some (D.C k)
  wf : Wf D
section
variable {D : Sd V} {P : List UInt8 → Option PV} {U : List UInt8 → Option Int} {H : List UInt8 → Option Unit} {C : List UInt8 → Option Nat} {k : List UInt8}
theorem VE.cn (h : VE D P U H C) (k : List UInt8) : cN C k = D.C k := by
  unfold cN
  rw [h.c]
  split
  · rename_i e
    rw [e]
    rfl
  · rfl
theorem VE.there (h : VE D P U H C) (k : List UInt8) : (P k).isSome = (lookE k (live D.L)).isSome := by
  have h1 := congrArg Option.isSome (h.p k)
  rw [Option.isSome_map, Option.isSome_map] at h1
  exact h1.symm
theorem VE.let_there (h : VE D P U H C) (k : List UInt8) : (P k).isSome = (lookE k (letL k D.L)).isSome := by rw [h.there, look_live]
theorem VE.counted (h : VE D P U H C) (k : List UInt8) (hk : (P k).isSome = true) : (C k).isSome = true := by
  rw [h.there] at hk
  cases hl : lookE k (live D.L) with
  | none => rw [hl] at hk; cases hk
  | some e =>
    obtain ⟨h1, h2⟩ := look_some hl
    have := h.wf.has e (live_mem.1 h1).1
    rw [h2] at this
    rw [h.c, if_neg (by omega)]
    rfl
theorem VE.due_there (h : VE D P U H C) (k : List UInt8) (hk : (U k).isSome = true) : (P k).isSome = true := by
  rw [h.there]
  rw [h.u] at hk
  cases hl : lookE k (live D.L) with
  | none => rw [hl] at hk; cases hk
  | some e => rfl
theorem cnt_fn (h : VE D P U H C) (k x : List UInt8) : updO C k (some (cN C k + 1)) x = if cnt k D.C x = 0 then none else some (cnt k D.C x) := by
  unfold updO cnt
  by_cases e : x = k
  · subst e
    rw [if_pos rfl, if_pos rfl, h.cn, if_neg (by omega)]
  · rw [if_neg e, if_neg e, h.c]
theorem held_fn (b : Bool) (h : ∀ x, H x = if pastB x D.L then some () else none) (L : List (En V)) (k : List UInt8) (hL : ∀ x, pastB x L = if x = k then false else pastB x D.L) (x : List UInt8) : updO H k none x = if pastB x L then some () else none := by
  rw [hL]
  unfold updO
  by_cases e : x = k
  · rw [if_pos e, if_pos e]
    rfl
  · rw [if_neg e, if_neg e, h]
theorem VE.let_ (h : VE D P U H C) (k : List UInt8) : VE { D with L := letL k D.L, n := D.n + 1 } P U (updO H k none) C :=
  ⟨fun x => by show (lookE x (live (letL k D.L))).map _ = _; rw [live_let]; exact h.p x, fun x => by show U x = (lookE x (live (letL k D.L))).bind dueO; rw [live_let]; exact h.u x, fun x => held_fn true h.h _ k (fun x => past_let) x, h.c, h.wf.let_ k⟩
theorem VE.gone_ (h : VE D P U H C) (k : List UInt8) : VE { D with L := rm k D.L, C := cnt k D.C, n := D.n + 1 } (updO P k none) (updO U k none) (updO H k none) (updO C k (some (cN C k + 1))) := by
  refine ⟨fun x => ?_, fun x => ?_, fun x => held_fn true h.h _ k (fun x => past_rm) x, cnt_fn h k, h.wf.rm_ k⟩
  · show (lookE x (live (rm k D.L))).map _ = (updO P k none x).map _
    rw [live_rm, look_rm_k]
    unfold updO
    by_cases e : x = k
    · rw [if_pos e, if_pos e]; rfl
    · rw [if_neg e, if_neg e]; exact h.p x
  · show updO U k none x = (lookE x (live (rm k D.L))).bind dueO
    rw [live_rm, look_rm_k]
    unfold updO
    by_cases e : x = k
    · rw [if_pos e, if_pos e]; rfl
    · rw [if_neg e, if_neg e]; exact h.u x
theorem VE.up_ (h : VE D P U H C) (k : List UInt8) (a : Int) (on : Bool) (hk : (P k).isSome = true) : VE { D with L := up k (dueE a on) D.L, C := cnt k D.C, n := D.n + 1 } P (updO U k (if on then some a else none)) (updO H k none) (updO C k (some (cN C k + 1))) := by
  have hk2 := hk
  rw [h.there] at hk2
  have hw : Wf (setDueS k a on D) := h.wf.due k a on
  have ho := ord_live h.wf.ord
  have hw2 : Wf { D with L := up k (dueE a on) D.L, C := cnt k D.C, n := D.n + 1 } := by
    refine ⟨ordE_map _ (fun e => by split <;> rfl) h.wf.ord, ?_, fun x => cnt_le h.wf.cmax, fun e he => ?_, h.wf.tm⟩
    · show (up k (dueE a on) D.L).length ≤ D.n + 1
      unfold up
      rw [List.length_map]
      exact Nat.le_succ_of_le h.wf.len
    · obtain ⟨x, hx, rfl⟩ := List.mem_map.1 he
      refine cnt_pos (Or.inl ?_)
      have := h.wf.has x hx
      split <;> exact this
  refine ⟨fun x => ?_, fun x => ?_, fun x => held_fn true h.h _ k (fun x => ?_) x, cnt_fn h k, hw2⟩
  · show (lookE x (live (up k (dueE a on) D.L))).map _ = _
    rw [live_up k (dueE a on) (fun _ => rfl), look_up_k (f := dueE a on) (fun _ => rfl) ho, ← h.p x]
    by_cases e : x = k
    · rw [if_pos e, e, Option.map_map]; rfl
    · rw [if_neg e]
  · show updO U k _ x = (lookE x (live (up k (dueE a on) D.L))).bind dueO
    rw [live_up k (dueE a on) (fun _ => rfl), look_up_k (f := dueE a on) (fun _ => rfl) ho]
    unfold updO
    by_cases e : x = k
    · rw [if_pos e, if_pos e]
      cases hl : lookE k (live D.L) with
      | none => rw [hl] at hk2; cases hk2
      | some y =>
        show _ = dueO (dueE a on y)
        unfold dueO dueE
        cases on <;> rfl
    · rw [if_neg e, if_neg e]; exact h.u x
  · show pastB x (up k (dueE a on) D.L) = _
    rw [past_up (f := dueE a on) (fun _ => rfl) (fun _ => rfl)]
    by_cases e : x = k
    · rw [if_pos e, e, past_live h.wf.ord hk2]
    · rw [if_neg e]
theorem VE.put_ (h : VE D P U H C) (k : List UInt8) (d : V) (p : PV) (hp : p.d = d) : VE (putS10 k d D) (updO P k (some p)) U (updO H k none) (updO C k (some (cN C k + 1))) := by
  have ho := ord_live h.wf.ord
  have hnp : (newE k d (lookE k (letL k D.L))).past = false := by rw [look_live]; exact new_past k d D.L
  have hnk : (newE k d (lookE k (letL k D.L))).key = k := newE_key k d _
  refine ⟨fun x => ?_, fun x => ?_, fun x => held_fn true h.h _ k (fun x => past_ins hnk hnp h.wf.ord) x, cnt_fn h k, h.wf.put k d⟩
  · show (lookE x (live (ins _ (rm k D.L)))).map _ = (updO P k (some p) x).map _
    rw [live_ins _ hnp, live_rm, look_ins_k ho hnk]
    unfold updO
    by_cases e : x = k
    · rw [if_pos e, if_pos e]
      show some (newE k d (lookE k (letL k D.L))).v = some p.d
      rw [hp]
      cases lookE k (letL k D.L) <;> rfl
    · rw [if_neg e, if_neg e]; exact h.p x
  · show U x = (lookE x (live (ins _ (rm k D.L)))).bind dueO
    rw [live_ins _ hnp, live_rm, look_ins_k ho hnk]
    by_cases e : x = k
    · rw [if_pos e, e, h.u, look_live]
      cases lookE k (live D.L) <;> rfl
    · rw [if_neg e]; exact h.u x
theorem VE.purge_ (h : VE D P U H C) : VE (purgeS D) P U (fun _ => none) C :=
  ⟨fun x => by show (lookE x (live (live D.L))).map _ = _; rw [live_live]; exact h.p x, fun x => by show U x = (lookE x (live (live D.L))).bind dueO; rw [live_live]; exact h.u x, fun x => by
    show none = if pastB x (live D.L) then some () else none
    rw [past_purge]
    rfl, h.c, h.wf.purge⟩
theorem VE.fl (h : VE D P U H C) (t : Nat) (x : List UInt8) : flU (t : Int) U x = fell t D.L x := by
  rw [fell_look t h.wf.ord]
  unfold flU
  rw [h.u]
  cases (lookE x (live D.L)).bind dueO <;> rfl
theorem VE.tick_ (h : VE D P U H C) (m : Int) : VE (tickS m D) (fP (flU (tickT m D.time : Int) U) P) (fU (flU (tickT m D.time : Int) U) U) (fH (flU (tickT m D.time : Int) U) H) (fC (flU (tickT m D.time : Int) U) C) := by
  refine ⟨fun x => ?_, fun x => ?_, fun x => ?_, fun x => ?_, h.wf.tick m⟩
  · show (lookE x (live (D.L.map _))).map _ = _
    rw [look_tick _ h.wf.ord]
    unfold fP
    rw [h.fl]
    cases fell (tickT m D.time) D.L x with
    | true => rfl
    | false => exact h.p x
  · show _ = (lookE x (live (D.L.map _))).bind dueO
    rw [look_tick _ h.wf.ord]
    unfold fU
    rw [h.fl]
    cases fell (tickT m D.time) D.L x with
    | true => rfl
    | false => exact h.u x
  · show _ = if pastB x (D.L.map _) then some () else none
    rw [past_tick]
    unfold fH
    rw [h.fl, h.h]
    cases fell (tickT m D.time) D.L x <;> cases pastB x D.L <;> rfl
  · show _ = if tickC (tickT m D.time) D.L D.C x = 0 then none else some (tickC (tickT m D.time) D.L D.C x)
    unfold fC tickC
    rw [h.fl, h.cn, h.c]
    cases fell (tickT m D.time) D.L x with
    | true => simp
    | false => simp
end

end Go.Proofs.Ytbcjgkedlapmhaa.LstM
