/-
  The landed store of layer 10: its contracts, as the laws of that layer ask them.
-/
import Derived.Test.YtbcjgkedlapmhaaLstStep
import Derived.Test.YtbcjgkedlapmhaaLstDo
import Derived.Test.YtbcjgkedlapmhaaStoTwo
namespace Go.Proofs.Ytbcjgkedlapmhaa.StoM
open Go.RowKit Kit StrT RowG BOrd ValT StoT MapF LstT LstV LstM RefV ValM
set_option linter.unusedVariables false
set_option maxRecDepth 100000

/-- The values that are kept, and where they lie. -/
structure LV (w : World) (F : Nat → Prop) (P : List UInt8 → Option PV) (R : Nat → Prop) : Prop where
  vi : ∀ k p, P k = some p → p.In w
  va : ∀ k p, P k = some p → ∀ j, p.at_ j → R j
  rf : ∀ j, R j → j < w.heap.size ∧ ¬ F j
/-- A store of the landed code in block s that stands for D. -/
def SSt (s : Nat) : StK := fun w D F R => ∃ mv md mh mc P U H C, LR w s mv md mh mc (D.time : Int) P U H C (2 * D.n) ∧ VE D P U H C ∧ LV w F P R ∧ F = FL s mv md mh mc
theorem sstb (s : Nat) : Stb (SSt s) := by
  refine ⟨fun h k hk => ?_, fun h k hk => ?_, fun h hs hk => ?_⟩
  · obtain ⟨mv, md, mh, mc, P, U, H, C, h1, h2, h3, rfl⟩ := h
    rcases hk with hk | hk
    · exact h1.lt k hk
    · exact (h3.rf k hk).1
  · obtain ⟨mv, md, mh, mc, P, U, H, C, h1, h2, h3, rfl⟩ := h
    exact (h3.rf k hk).2
  · obtain ⟨mv, md, mh, mc, P, U, H, C, h1, h2, h3, rfl⟩ := h
    exact ⟨mv, md, mh, mc, P, U, H, C, h1.same (fun k h => hk k (Or.inl h)), h2, ⟨fun k p hp => (h3.vi k p hp).same hs (fun j hj => hk j (Or.inr (h3.va k p hp j hj))), h3.va, fun j hj => ⟨Nat.lt_of_lt_of_le (h3.rf j hj).1 hs, (h3.rf j hj).2⟩⟩, rfl⟩
variable {s : Nat} {w w' : World} {D D' : Sd V} {F R : Nat → Prop}
theorem swf (H : SSt s w D F R) : Wf D := by
  obtain ⟨mv, md, mh, mc, P, U, H, C, h1, h2, h3, rfl⟩ := H
  exact h2.wf
theorem lv_of {F' : Nat → Prop} {P P' : List UInt8 → Option PV} {Rn : Nat → Prop} (h : LV w F P R) (ho : Off F w w') (hg : Gr w F F') (hP : ∀ k p, P' k = some p → P k = some p ∨ (p.In w' ∧ ∀ j, p.at_ j → Rn j)) (hR : ∀ j, Rn j → j < w'.heap.size ∧ ¬ F' j) : LV w' F' P' (fun j => R j ∨ Rn j) := by
  refine ⟨fun k p hp => ?_, fun k p hp j hj => ?_, fun j hj => ?_⟩
  · rcases hP k p hp with h1 | h1
    · exact (h.vi k p h1).same ho.size (fun j hj => ho.block j (h.rf j (h.va k p h1 j hj)).1 (h.rf j (h.va k p h1 j hj)).2)
    · exact h1.1
  · rcases hP k p hp with h1 | h1
    · exact Or.inl (h.va k p h1 j hj)
    · exact Or.inr (h1.2 j hj)
  · rcases hj with hj | hj
    · refine ⟨Nat.lt_of_lt_of_le (h.rf j hj).1 ho.size, fun h1 => ?_⟩
      rcases hg j h1 with h2 | h2
      · exact (h.rf j hj).2 h2
      · exact absurd (h.rf j hj).1 (Nat.not_lt.2 h2)
    · exact hR j hj
/-- .. where no value came in. -/
theorem lv_old {F' : Nat → Prop} {P P' : List UInt8 → Option PV} (h : LV w F P R) (ho : Off F w w') (hg : Gr w F F') (hP : ∀ k p, P' k = some p → P k = some p) : LV w' F' P' R := by
  have h1 := lv_of (Rn := fun _ => False) h ho hg (fun k p hp => Or.inl (hP k p hp)) (fun j hj => hj.elim)
  exact ⟨h1.vi, fun k p hp j hj => (h1.va k p hp j hj).elim id (fun h => h.elim), fun j hj => h1.rf j (Or.inl hj)⟩
theorem upd_old {P : List UInt8 → Option PV} (k : List UInt8) : ∀ x p, updO P k none x = some p → P x = some p := fun x p h => by
  unfold updO at h
  split at h
  · cases h
  · exact h
/-- A thing that was done, where the maps' blocks stay. -/
theorem step_of {mv md mh mc : Option Nat} {P P' : List UInt8 → Option PV} {U' : List UInt8 → Option Int} {H' : List UInt8 → Option Unit} {C' : List UInt8 → Option Nat} (h3 : LV w (FL s mv md mh mc) P R) (hr : LR w' s mv md mh mc (D'.time : Int) P' U' H' C' (2 * D'.n)) (hv : VE D' P' U' H' C') (ho : Off (FL s mv md mh mc) w w') (hP : ∀ k p, P' k = some p → P k = some p) : Step (SSt s) w (FL s mv md mh mc) R D' w' :=
  ⟨_, R, ⟨mv, md, mh, mc, P', U', H', C', hr, hv, lv_old h3 ho (Gr.refl _ _) hP, rfl⟩, ho, Gr.refl _ _, Gr.refl _ _⟩
theorem cn_small {P : List UInt8 → Option PV} {U : List UInt8 → Option Int} {H : List UInt8 → Option Unit} {C : List UInt8 → Option Nat} (h : VE D P U H C) (hn : D.n ≤ 100000) (k : List UInt8) : cN C k ≤ 100000 := by
  rw [h.cn]
  exact Nat.le_trans (h.wf.cmax k) hn

theorem snow (H : SSt s w D F R) : Calls Try.prog 30 #[.pointer (some ⟨s, 0, none⟩)] w fun e w' => e = .returned (.int .i64 D.time) ∧ Step (SSt s) w F R D w' := by
  have H0 := H
  obtain ⟨mv, md, mh, mc, P, U, H, C, h1, h2, h3, rfl⟩ := H
  refine (now_any h1).mono ?_
  rintro e w' ⟨rfl, rfl⟩
  exact ⟨rfl, _, R, H0, Off.refl _ _, Gr.refl _ _, Gr.refl _ _⟩
theorem sversion (K : ByteArray) (k : List UInt8) (hK : KeyIs K k) (H : SSt s w D F R) (hn : D.n ≤ 100000) : Calls Try.prog 31 #[.pointer (some ⟨s, 0, none⟩), .string K] w fun e w' => e = .returned (.int .i64 (D.C k : Int)) ∧ Step (SSt s) w F R D w' := by
  have H0 := H
  obtain ⟨mv, md, mh, mc, P, U, H, C, h1, h2, h3, rfl⟩ := H
  refine (version_any K k hK h1).mono ?_
  rintro e w' ⟨rfl, rfl⟩
  exact ⟨by rw [h2.cn], _, R, H0, Off.refl _ _, Gr.refl _ _, Gr.refl _ _⟩
theorem sdue (K : ByteArray) (k : List UInt8) (hK : KeyIs K k) (H : SSt s w D F R) (hn : D.n ≤ 100000) : Calls Try.prog 23 #[.pointer (some ⟨s, 0, none⟩), .string K] w fun e w' => e = .returned (.tuple #[.int .i64 (dueV k D.L).1, .bool (dueV k D.L).2]) ∧ Step (SSt s) w F R (getS k D) w' := by
  obtain ⟨mv, md, mh, mc, P, U, H, C, h1, h2, h3, rfl⟩ := H
  refine (due_any K k hK h1).mono ?_
  rintro e w' ⟨rfl, hr, ho⟩
  have e1 : dU U k = dueV k D.L := by
    unfold dU dueV
    rw [h2.u, look_live]
    cases lookE k (live D.L) with
    | none => rfl
    | some y =>
      show ((dueO y).getD 0, (dueO y).isSome) = if y.on = true then (y.due, true) else (0, false)
      unfold dueO
      cases y.on <;> rfl
  rw [e1]
  exact ⟨rfl, step_of (D' := getS k D) h3 (hr.mono (by show 2 * D.n ≤ 2 * (D.n + 1); omega)) (h2.let_ k) ho (fun _ _ h => h)⟩
theorem setdueB_is {P : List UInt8 → Option PV} {U : List UInt8 → Option Int} {H : List UInt8 → Option Unit} {C : List UInt8 → Option Nat} (h : VE D P U H C) (k : List UInt8) (b : Bool) (hb : (P k).isSome = b) : setDueB k D = b ∧ ((lookE k (letL k D.L)).isSome = b) := by
  unfold setDueB
  rw [← h.let_there, hb]
  exact ⟨rfl, rfl⟩
theorem ssetdue (K : ByteArray) (k : List UInt8) (a : Int) (on : Bool) (hK : KeyIs K k) (H : SSt s w D F R) (hn : D.n ≤ 100000) : Calls Try.prog 15 #[.pointer (some ⟨s, 0, none⟩), .string K, .int .i64 a, .bool on] w fun e w' => e = .returned (.bool (setDueB k D)) ∧ Step (SSt s) w F R (setDueS k a on D) w' := by
  obtain ⟨mv, md, mh, mc, P, U, H, C, h1, h2, h3, rfl⟩ := H
  have hcn := cn_small h2 hn k
  cases hp : (P k).isSome with
  | false =>
    obtain ⟨e1, e2⟩ := setdueB_is h2 k false hp
    refine (setdue_no K k a on hK h1 hp).mono ?_
    rintro e w' ⟨rfl, hr, ho⟩
    have e3 : setDueS k a on D = { D with L := letL k D.L, n := D.n + 1 } := by
      unfold setDueS
      rw [e2]
      rfl
    rw [e1, e3]
    exact ⟨rfl, step_of (D' := { D with L := letL k D.L, n := D.n + 1 }) h3 (hr.mono (by show 2 * D.n ≤ 2 * (D.n + 1); omega)) (h2.let_ k) ho (fun _ _ h => h)⟩
  | true =>
    obtain ⟨e1, e2⟩ := setdueB_is h2 k true hp
    have hc := h2.counted k hp
    cases on with
    | true =>
      by_cases ha : a ≤ (D.time : Int)
      · refine (setdue_past K k a hK h1 hp hc (by omega) (by omega) ha).mono ?_
        rintro e w' ⟨rfl, hr, ho⟩
        have e3 : setDueS k a true D = { D with L := rm k D.L, C := cnt k D.C, n := D.n + 1 } := by
          unfold setDueS
          rw [if_pos e2, if_pos ⟨rfl, ha⟩]
        rw [e1, e3]
        exact ⟨rfl, step_of (D' := { D with L := rm k D.L, C := cnt k D.C, n := D.n + 1 }) h3 (hr.mono (by show 2 * D.n ≤ 2 * (D.n + 1); omega)) (h2.gone_ k) ho (upd_old k)⟩
      · refine (setdue_on K k a hK h1 hp hc (by omega) (by omega) ha).mono ?_
        rintro e w' ⟨rfl, hr, ho⟩
        have e3 : setDueS k a true D = { D with L := up k (dueE a true) D.L, C := cnt k D.C, n := D.n + 1 } := by
          unfold setDueS
          rw [if_pos e2, if_neg (fun h => ha h.2)]
        rw [e1, e3]
        exact ⟨rfl, step_of (D' := { D with L := up k (dueE a true) D.L, C := cnt k D.C, n := D.n + 1 }) h3 (hr.mono (by show 2 * D.n + 1 ≤ 2 * (D.n + 1); omega)) (h2.up_ k a true hp) ho (fun _ _ h => h)⟩
    | false =>
      refine (setdue_off K k a hK h1 hp hc (by omega) (by omega)).mono ?_
      rintro e w' ⟨rfl, hr, ho⟩
      have e3 : setDueS k a false D = { D with L := up k (dueE a false) D.L, C := cnt k D.C, n := D.n + 1 } := by
        unfold setDueS
        rw [if_pos e2, if_neg (fun h => by cases h.1)]
      rw [e1, e3]
      exact ⟨rfl, step_of (D' := { D with L := up k (dueE a false) D.L, C := cnt k D.C, n := D.n + 1 }) h3 (hr.mono (by show 2 * D.n ≤ 2 * (D.n + 1); omega)) (h2.up_ k a false hp) ho (fun _ _ h => h)⟩
theorem sget (K : ByteArray) (k : List UInt8) (hK : KeyIs K k) (H : SSt s w D F R) (hn : D.n ≤ 100000) : Calls Try.prog 13 #[.pointer (some ⟨s, 0, none⟩), .string K] w (ToldV (SSt s) w F R (getS k D) ((getV k D.L).getD v0)) := by
  obtain ⟨mv, md, mh, mc, P, U, H, C, h1, h2, h3, rfl⟩ := H
  have hgi : (gP P k).In w ∧ ∀ j, (gP P k).at_ j → j < w.heap.size ∧ ¬ FL s mv md mh mc j := by
    unfold gP
    cases hp : P k with
    | none => exact ⟨pv0_in w, fun j hj => absurd hj (pv0_at j)⟩
    | some p => exact ⟨h3.vi k p hp, fun j hj => h3.rf j (h3.va k p hp j hj)⟩
  have hd : (gP P k).d = (getV k D.L).getD v0 := by
    have h4 := h2.p k
    unfold gP getV
    rw [look_live, h4]
    cases P k <;> rfl
  refine (get_any K k hK h1 hgi.1 hgi.2).mono ?_
  rintro e w' ⟨p, rfl, hpi, hpd, hpa, hr, ho⟩
  refine ⟨p, rfl, hpi, by rw [hpd, hd], FL s mv md mh mc, (fun j => R j ∨ p.at_ j), ⟨mv, md, mh, mc, P, U, _, C, hr.mono (by show 2 * D.n ≤ 2 * (D.n + 1); omega), h2.let_ k, lv_of h3 ho (Gr.refl _ _) (fun _ _ h => Or.inl h) (fun j hj => ⟨(hpa j hj).2, fun h => ?_⟩), rfl⟩, ho, Gr.refl _ _, fun j hj => hj.imp id (fun h => (hpa j h).1), fun j hj => Or.inr hj⟩
  have h4 := h1.lt j h
  have h5 := (hpa j hj).1
  omega
theorem sput (K : ByteArray) (k : List UInt8) (p : PV) (Rp : Nat → Prop) (hK : KeyIs K k) (H : SSt s w D F R) (hn : D.n ≤ 100000) (hp : p.In w) (hRp : ∀ k, p.at_ k → Rp k) (hR : ∀ k, Rp k → k < w.heap.size ∧ ¬ F k) (hr : right p.d) : Calls Try.prog 19 #[.pointer (some ⟨s, 0, none⟩), .string K, p.agg] w fun e w' => e = .returned (.tuple #[]) ∧ StepP (SSt s) w F R Rp (putAny k p.d D) w' := by
  obtain ⟨mv, md, mh, mc, P, U, H, C, h1, h2, h3, rfl⟩ := H
  have hcn := cn_small h2 hn k
  have hek : p.k = (p.d.kind : Int) := hp.ek
  by_cases hk : p.d.kind = 0
  · have e0 : p.k = 0 := by rw [hek, hk]; rfl
    unfold PV.agg
    rw [e0]
    have e4 : putAny k p.d D = goneS k D := by unfold putAny; rw [if_pos hk]
    rw [e4]
    cases hpk : (P k).isSome with
    | false =>
      obtain ⟨-, e2⟩ := setdueB_is h2 k false hpk
      refine (put_none K k _ _ _ _ hK h1 hpk).mono ?_
      rintro e w' ⟨rfl, hr', ho⟩
      have e3 : goneS k D = { D with L := letL k D.L, n := D.n + 1 } := by
        unfold goneS
        rw [e2]
        rfl
      rw [e3]
      obtain ⟨F', R', a1, a2, a3, a4⟩ := step_of (D' := { D with L := letL k D.L, n := D.n + 1 }) h3 (hr'.mono (by show 2 * D.n ≤ 2 * (D.n + 1); omega)) (h2.let_ k) ho (fun _ _ h => h)
      exact ⟨rfl, F', R', a1, a2, a3, fun j hj => (a4 j hj).imp Or.inl id⟩
    | true =>
      obtain ⟨-, e2⟩ := setdueB_is h2 k true hpk
      refine (put_gone K k _ _ _ _ hK h1 hpk (h2.counted k hpk) (by omega) (by omega)).mono ?_
      rintro e w' ⟨rfl, hr', ho⟩
      have e3 : goneS k D = { D with L := rm k D.L, C := cnt k D.C, n := D.n + 1 } := by
        unfold goneS
        rw [if_pos e2]
      rw [e3]
      obtain ⟨F', R', a1, a2, a3, a4⟩ := step_of (D' := { D with L := rm k D.L, C := cnt k D.C, n := D.n + 1 }) h3 (hr'.mono (by show 2 * D.n ≤ 2 * (D.n + 1); omega)) (h2.gone_ k) ho (upd_old k)
      exact ⟨rfl, F', R', a1, a2, a3, fun j hj => (a4 j hj).imp Or.inl id⟩
  · have e0 : (p.k == 0) = false := by rw [hek, beq_eq_false_iff_ne]; omega
    have e4 : putAny k p.d D = putS10 k p.d D := by unfold putAny; rw [if_neg hk]
    rw [e4]
    refine (put_some K k p hK h1 hp (fun j hj => hR j (hRp j hj)) e0 (by omega) (by omega)).mono ?_
    rintro e w' ⟨rfl, a, b, c, d, p', hr', hpi, hpd, hpa, ho, hg⟩
    refine ⟨rfl, _, (fun j => R j ∨ p'.at_ j), ⟨some a, some b, some c, some d, _, _, _, _, hr'.mono (by show 2 * D.n + 2 ≤ 2 * (D.n + 1); omega), h2.put_ k p.d p' hpd, lv_of h3 ho hg (fun x q hq => ?_) (fun j hj => (hpa j hj).2), rfl⟩, ho, hg, fun j hj => hj.elim (fun h => Or.inl (Or.inl h)) (fun h => Or.inr (hpa j h).1)⟩
    unfold updO at hq
    split at hq
    · injection hq with hq
      subst hq
      exact Or.inr ⟨hpi, fun j hj => hj⟩
    · exact Or.inl hq
theorem fp_old {q : List UInt8 → Bool} {P : List UInt8 → Option PV} : ∀ x p, fP q P x = some p → P x = some p := fun x p h => by
  unfold fP at h
  split at h
  · cases h
  · exact h
theorem stick (m : Int) (hm0 : -9223372036854775808 ≤ m) (hm1 : m ≤ 9223372036854775807) (H : SSt s w D F R) (hn : D.n ≤ 100000) : Calls Try.prog 17 #[.pointer (some ⟨s, 0, none⟩), .int .i64 m] w fun e w' => e = .returned (.tuple #[]) ∧ Step (SSt s) w F R (tickS m D) w' := by
  obtain ⟨mv, md, mh, mc, P, U, H, C, h1, h2, h3, rfl⟩ := H
  rcases id h1.al with ⟨rfl, rfl, rfl, rfl⟩ | ⟨a, b, c, d, rfl, rfl, rfl, rfl, -⟩
  · refine (tick_nil D.time m _ rfl h1 h2.wf.tm hm0 hm1).mono ?_
    rintro e w' ⟨rfl, hr, ho⟩
    exact ⟨rfl, step_of (D' := tickS m D) h3 (hr.mono (by show 2 * D.n ≤ 2 * (D.n + 1); omega)) (h2.tick_ m) ho fp_old⟩
  · refine (tick_any a b c d D.time m _ rfl h1 h2.wf.tm hm0 hm1 (fun x hx => ⟨h2.due_there x hx, h2.counted x (h2.due_there x hx)⟩) (fun x => by have := cn_small h2 hn x; omega) (by omega) (D.L.map (·.key)) (all_nodup h2.wf.ord) (fun x hx => ?_) (by rw [List.length_map]; have := h2.wf.len; omega)).mono ?_
    · rw [List.mem_map]
      rcases hx with hx | hx
      · rw [h2.h] at hx
        cases hpb : pastB x D.L with
        | false => rw [hpb] at hx; cases hx
        | true =>
          obtain ⟨e, he, h4, -⟩ := past_iff.1 hpb
          exact ⟨e, he, h4⟩
      · have hx2 := h2.due_there x hx
        rw [h2.there] at hx2
        cases hl : lookE x (live D.L) with
        | none => rw [hl] at hx2; cases hx2
        | some e =>
          obtain ⟨h4, h5⟩ := look_some hl
          exact ⟨e, (live_mem.1 h4).1, h5⟩
    · rintro e w' ⟨rfl, hr, ho⟩
      exact ⟨rfl, step_of (D' := tickS m D) h3 (hr.mono (by show 2 * D.n ≤ 2 * (D.n + 1); omega)) (h2.tick_ m) ho fp_old⟩
theorem spurge (H : SSt s w D F R) (hn : D.n ≤ 100000) : Calls Try.prog 21 #[.pointer (some ⟨s, 0, none⟩)] w fun e w' => e = .returned (.int .i64 (purgeN D : Int)) ∧ Step (SSt s) w F R (purgeS D) w' := by
  obtain ⟨mv, md, mh, mc, P, U, H, C, h1, h2, h3, rfl⟩ := H
  refine (purge_any h1 (pastS D.L) (past_nodup h2.wf.ord) (fun x => by rw [past_mem, h2.h]; cases pastB x D.L <;> simp)).mono ?_
  rintro e w' ⟨rfl, hr, ho⟩
  have e1 : (pastS D.L).length = purgeN D := by
    rw [purge_n]
    have := len_split D.L
    omega
  rw [e1]
  exact ⟨rfl, step_of (D' := purgeS D) h3 (hr.mono (by show 2 * D.n ≤ 2 * (D.n + 1); omega)) h2.purge_ ho (fun _ _ h => h)⟩
theorem rise_nodup {L : List (List UInt8)} (h : rises L) : L.Nodup := h.imp fun {a b} h e => by
  rw [e, less_irrefl] at h
  cases h
theorem keys_len (D : Sd V) : (keysS D.L).length ≤ D.L.length ∧ (pastS D.L).length ≤ D.L.length := by
  have := len_split D.L
  exact ⟨by omega, by omega⟩
theorem sheld (H : SSt s w D F R) (hn : D.n ≤ 100000) : Calls Try.prog 29 #[.pointer (some ⟨s, 0, none⟩)] w fun e w' => e = .returned (.int .i64 (D.L.length : Int)) ∧ Step (SSt s) w F R D w' := by
  obtain ⟨mv, md, mh, mc, P, U, H, C, h1, h2, h3, rfl⟩ := H
  have hlen := h2.wf.len
  have hkl := keys_len D
  refine (heldn_any h1 (keysS D.L) (pastS D.L) (rise_nodup (keys_rise h2.wf.ord)) (fun x => by rw [keys_mem, h2.there]) (past_nodup h2.wf.ord) (fun x => by rw [past_mem, h2.h]; cases pastB x D.L <;> simp) (by omega) (by omega)).mono ?_
  rintro e w' ⟨rfl, hr, ho⟩
  rw [len_split]
  exact ⟨rfl, step_of (D' := D) h3 hr h2 ho (fun _ _ h => h)⟩
theorem skeys (H : SSt s w D F R) (hn : D.n ≤ 100000) : Calls Try.prog 27 #[.pointer (some ⟨s, 0, none⟩)] w (ToldL (SSt s) w F R D (keysS D.L)) := by
  obtain ⟨mv, md, mh, mc, P, U, H, C, h1, h2, h3, rfl⟩ := H
  have hlen := h2.wf.len
  have hkl := keys_len D
  refine (keys_any h1 (keysS D.L) (keys_rise h2.wf.ord) (fun x => by rw [keys_mem, h2.there]) (by omega)).mono ?_
  rintro e w' ⟨q, c, rfl, hR, hc1, hc2, hc3, hat, hb⟩
  refine ⟨q, c, rfl, hR, hc1, hc2, hc3, FL s mv md mh mc, R, ⟨mv, md, mh, mc, P, U, H, C, h1.keep hb, h2, lv_old h3 (Off.of_below hb) (Gr.refl _ _) (fun _ _ h => h), rfl⟩, Off.of_below hb, Gr.refl _ _, Gr.refl _ _, fun h0 a ha => ⟨(hat h0 a ha).1, (hat h0 a ha).2, fun h => ?_⟩⟩
  have h4 := h1.lt _ h
  have h5 := (hat h0 a ha).1
  omega
set_option maxHeartbeats 1000000 in
theorem snew (w : World) : Calls Try.prog 10 #[] w fun e w' => ∃ s F, e = .returned (.pointer (some ⟨s, 0, none⟩)) ∧ SSt s w' s0 F (fun _ => False) ∧ Below w.heap.size w w' ∧ ∀ k, F k → w.heap.size ≤ k := by
  go_enter Try.func10, Try.ntmps10
  go_wp2_with fail
  go_ret
  refine ⟨w.heap.size, _, rfl, ⟨none, none, none, none, fun _ => none, fun _ => none, fun _ => none, fun _ => none, ⟨SC.of (heap_alloc_last w _), fun _ => rfl, fun _ => rfl, fun _ => rfl, fun _ => rfl, Or.inl ⟨rfl, rfl, rfl, rfl⟩⟩, ⟨fun _ => rfl, fun _ => rfl, fun _ => rfl, fun _ => rfl, wf_0⟩, ⟨fun k p hp => (by cases hp), fun k p hp => (by cases hp), fun j hj => hj.elim⟩, rfl⟩, (Below.refl _ _).alloc (Nat.le_refl _) _, ?_⟩
  rintro k (rfl | h | h | h | h)
  · exact Nat.le_refl _
  all_goals cases h

end Go.Proofs.Ytbcjgkedlapmhaa.StoM
