/-
  What the law StoreVersions does to a store: pure. One key alone, whose values are something.
-/
import Derived.Test.YtbcjgkedlapmhaaStoOps
namespace Go.Proofs.Ytbcjgkedlapmhaa.StoT
open ValT BOrd
set_option linter.unusedVariables false
set_option maxRecDepth 100000

structure OneK (D : Sd V) : Prop where
  wf : Wf D
  ks : ∀ e ∈ D.L, e.key = [97] ∧ e.v.kind ≠ 0
  cb : D.C [98] = 0
theorem one_0 : OneK s0 := ⟨wf_0, fun e he => (by cases he), rfl⟩
def wasK (D : Sd V) : Nat := ((getV [97] D.L).getD v0).kind
theorem let_let (k : List UInt8) (L : List (En V)) : letL k (letL k L) = letL k L := by
  unfold letL
  rw [List.filter_filter]
  exact List.filter_congr fun e _ => by simp
theorem was_iff {D : Sd V} (h : OneK D) : (lookE [97] (letL [97] D.L)).isSome = decide (wasK D ≠ 0) := by
  unfold wasK getV
  cases hl : lookE [97] (letL [97] D.L) with
  | none => rfl
  | some e =>
    obtain ⟨h1, h2⟩ := look_some hl
    have h3 := (h.ks e (List.mem_filter.1 h1).1).2
    simp [h3]
theorem one_get {D : Sd V} (h : OneK D) : OneK (getS [97] D) := ⟨h.wf.get _, fun e he => h.ks e (List.mem_filter.1 he).1, h.cb⟩
theorem was_get (D : Sd V) : wasK (getS [97] D) = wasK D := by
  show ((getV [97] (letL [97] D.L)).getD v0).kind = _
  unfold wasK getV
  rw [let_let]
theorem one_due {D : Sd V} (h : OneK D) (a : Int) (on : Bool) : OneK (setDueS [97] a on D) ∧ (setDueS [97] a on D).C [97] = D.C [97] + (if setDueB [97] D then 1 else 0) := by
  unfold setDueS setDueB
  split
  · split
    · exact ⟨⟨h.wf.rm_ _, fun e he => h.ks e (List.mem_filter.1 he).1, by show cnt [97] D.C [98] = 0; unfold cnt; rw [if_neg (by decide)]; exact h.cb⟩, by show cnt [97] D.C [97] = _; unfold cnt; rw [if_pos rfl]⟩
    · refine ⟨⟨?_, fun e he => ?_, by show cnt [97] D.C [98] = 0; unfold cnt; rw [if_neg (by decide)]; exact h.cb⟩, by show cnt [97] D.C [97] = _; unfold cnt; rw [if_pos rfl]⟩
      · have hw := h.wf.due [97] a on
        unfold setDueS at hw
        rename_i h1 h2
        rw [if_pos h1, if_neg h2] at hw
        exact hw
      · obtain ⟨x, hx, rfl⟩ := List.mem_map.1 he
        have := h.ks x hx
        split <;> exact this
  · exact ⟨one_get h, by show D.C [97] = D.C [97] + 0; rfl⟩
theorem one_gone {D : Sd V} (h : OneK D) : OneK (goneS [97] D) ∧ (goneS [97] D).C [97] = D.C [97] + (if wasK D ≠ 0 then 1 else 0) := by
  have hw := was_iff h
  unfold goneS
  split
  · rename_i h1
    rw [h1] at hw
    refine ⟨⟨h.wf.rm_ _, fun e he => h.ks e (List.mem_filter.1 he).1, by show cnt [97] D.C [98] = 0; unfold cnt; rw [if_neg (by decide)]; exact h.cb⟩, ?_⟩
    rw [if_pos (of_decide_eq_true hw.symm)]
    show cnt [97] D.C [97] = _
    unfold cnt
    rw [if_pos rfl]
  · rename_i h1
    rw [Bool.not_eq_true] at h1
    rw [h1] at hw
    refine ⟨one_get h, ?_⟩
    rw [if_neg (of_decide_eq_false hw.symm)]
    rfl
theorem one_put {D : Sd V} (h : OneK D) (d : V) (hd : d.kind ≠ 0) : OneK (putS10 [97] d D) ∧ (putS10 [97] d D).C [97] = D.C [97] + 1 := by
  refine ⟨⟨h.wf.put _ d, fun e he => ?_, by show cnt [97] D.C [98] = 0; unfold cnt; rw [if_neg (by decide)]; exact h.cb⟩, by show cnt [97] D.C [97] = _; unfold cnt; rw [if_pos rfl]⟩
  rcases mem_ins he with rfl | he
  · cases hl : lookE [97] (letL [97] D.L) with
    | none => exact ⟨rfl, hd⟩
    | some x => exact ⟨(look_some hl).2, hd⟩
  · exact h.ks e (List.mem_filter.1 he).1
theorem one_any {D : Sd V} (h : OneK D) (d : V) : OneK (putAny [97] d D) ∧ (putAny [97] d D).C [97] = D.C [97] + (if d.kind ≠ 0 ∨ wasK D ≠ 0 then 1 else 0) := by
  unfold putAny
  split
  · rename_i h0
    obtain ⟨h1, h2⟩ := one_gone h
    refine ⟨h1, ?_⟩
    rw [h2]
    by_cases hw : wasK D ≠ 0
    · rw [if_pos hw, if_pos (Or.inr hw)]
    · rw [if_neg hw, if_neg (fun h => h.elim (fun h => h h0) hw)]
  · rename_i h0
    obtain ⟨h1, h2⟩ := one_put h d h0
    exact ⟨h1, by rw [h2, if_pos (Or.inl h0)]⟩
theorem one_purge {D : Sd V} (h : OneK D) : OneK (purgeS D) := ⟨h.wf.purge, fun e he => h.ks e (List.mem_filter.1 he).1, h.cb⟩
/-- A tick, behind a look at the key: where it is counted, the key was there, and is gone. -/
theorem one_tick {D : Sd V} (h : OneK D) (m : Int) : OneK (tickS m (getS [97] D)) ∧ ((tickS m (getS [97] D)).C [97] = D.C [97] ∨ ((tickS m (getS [97] D)).C [97] = D.C [97] + 1 ∧ wasK D ≠ 0 ∧ (getV [97] (tickS m (getS [97] D)).L).getD v0 = v0)) := by
  have h' := one_get h
  have hL : (tickS m (getS [97] D)).L = (letL [97] D.L).map (tickE (tickT m D.time)) := rfl
  have hC : (tickS m (getS [97] D)).C = tickC (tickT m D.time) (letL [97] D.L) D.C := rfl
  generalize tickT m D.time = T at hL hC
  have hcb : (tickS m (getS [97] D)).C [98] = 0 := by
    rw [hC]
    unfold tickC
    rw [if_neg, h.cb]
    intro hf
    obtain ⟨e, he, h2⟩ := List.any_eq_true.1 hf
    have h3 := (h'.ks e he).1
    rw [h3] at h2
    simp at h2
  refine ⟨⟨h'.wf.tick m, fun e he => ?_, hcb⟩, ?_⟩
  · rw [hL] at he
    obtain ⟨x, hx, rfl⟩ := List.mem_map.1 he
    have := h'.ks x hx
    unfold tickE
    split <;> exact this
  · rw [hC]
    unfold tickC
    by_cases hf : fell T (letL [97] D.L) [97] = true
    · rw [if_pos hf]
      right
      obtain ⟨e, he, h2⟩ := List.any_eq_true.1 hf
      rw [Bool.and_eq_true, decide_eq_true_iff] at h2
      obtain ⟨i, hi, rfl⟩ := List.getElem_of_mem he
      have hk := look_at h'.wf.ord (i := i) hi h2.1
      have hpast : (letL [97] D.L)[i].past = false := by
        have h5 := h2.2
        unfold falls at h5
        rw [Bool.and_eq_true] at h5
        simpa using h5.2
      refine ⟨rfl, ?_, ?_⟩
      · have hw := was_iff h'
        rw [was_get] at hw
        have hs : lookE [97] (letL [97] (letL [97] D.L)) = some (letL [97] D.L)[i] := by rw [let_let]; exact hk
        rw [show (getS [97] D).L = letL [97] D.L from rfl, hs] at hw
        exact of_decide_eq_true hw.symm
      · unfold getV
        rw [hL]
        have hn : lookE [97] (letL [97] ((letL [97] D.L).map (tickE T))) = none := by
          rw [look_none]
          intro x hx
          obtain ⟨hx1, hx2⟩ := List.mem_filter.1 hx
          obtain ⟨z, hz, rfl⟩ := List.mem_map.1 hx1
          intro hkx
          rw [tickE_key] at hkx
          obtain ⟨j, hj, rfl⟩ := List.getElem_of_mem hz
          have := key_inj h'.wf.ord (i := j) (j := i) hj hi (hkx.trans h2.1.symm)
          subst this
          rw [tickE_key, hkx] at hx2
          unfold tickE at hx2
          rw [if_pos h2.2] at hx2
          simp at hx2
        rw [hn]
        rfl
    · rw [if_neg hf]
      exact Or.inl rfl

end Go.Proofs.Ytbcjgkedlapmhaa.StoT
