/-
  The document's own store, as it stands for what it holds: its contracts.
-/
import Derived.Test.YtbcjgkedlapmhaaRefSto6
import Derived.Test.YtbcjgkedlapmhaaRefSto7
import Derived.Test.YtbcjgkedlapmhaaRefSto8
import Derived.Test.YtbcjgkedlapmhaaStoOps
namespace Go.Proofs.Ytbcjgkedlapmhaa.RefY
open Go.RowKit Kit StrT RowG BOrd ValT StoT
open Go.Op (bytesLess)
set_option linter.unusedVariables false
set_option maxRecDepth 100000

/-- A thing that was done, from its rows to what it stands for. -/
theorem ySt_of {w w' : World} {y : Nat} {D D' : Sd V} {ql qc ql' qc' : Option Addr} {nl' cl' nc' cc' : Nat} {P P' : List (En PV)} {Q Q' : List Cn} {R Rp : Nat → Prop} {t' : Nat} (h1 : YV w y ql qc P Q D R) (hy : YR w' y ql' nl' cl' qc' nc' cc' P' Q' t') (ht : t' = D'.time) (hs : YStep w y ql qc w' ql' qc')
    (hl : D'.L = mapL low P') (hc : ∀ k, cntL Q' k = D'.C k) (hq : Q'.length ≤ D'.n) (hqn : ∀ x ∈ Q', x.n ≤ sq D'.n) (wf : Wf D') (hv : ∀ e ∈ P', (∃ e0 ∈ P, e.v = e0.v) ∨ (e.v.In w ∧ ∀ k, e.v.at_ k → Rp k)) (hR : ∀ k, Rp k → k < w.heap.size ∧ ¬ FY y ql qc k) :
    YSt w' y D' (FY y ql' qc') (fun k => R k ∨ Rp k) ∧ Off (FY y ql qc) w w' ∧ Gr w (FY y ql qc) (FY y ql' qc') := by
  subst ht
  have hb : ∀ k, (R k ∨ Rp k) → k < w.heap.size ∧ ¬ FY y ql qc k := fun k hk => by
    rcases hk with hk | hk
    · exact h1.rf k hk
    · exact hR k hk
  have hsame : ∀ k, (R k ∨ Rp k) → w'.heap[k]? = w.heap[k]? := fun k hk => hs.off.block k (hb k hk).1 (hb k hk).2
  refine ⟨⟨ql', nl', cl', qc', nc', cc', P', Q', hy, ⟨hl, hc, hq, hqn, wf, fun e he => ?_, fun e he k hk => ?_, fun k hk => ⟨Nat.lt_of_lt_of_le (hb k hk).1 hs.off.size, fun h => ?_⟩⟩, rfl⟩, hs.off, hs.gr⟩
  · rcases hv e he with ⟨e0, he0, h⟩ | ⟨h, h2⟩
    · rw [h]
      exact (h1.vi e0 he0).same hs.off.size (fun k hk => hsame k (Or.inl (h1.va e0 he0 k hk)))
    · exact h.same hs.off.size (fun k hk => hsame k (Or.inr (h2 k hk)))
  · rcases hv e he with ⟨e0, he0, h⟩ | ⟨h, h2⟩
    · rw [h] at hk
      exact Or.inl (h1.va e0 he0 k hk)
    · exact Or.inr (h2 k hk)
  · rcases hs.gr k h with h2 | h2
    · exact (hb k hk).2 h2
    · exact absurd (hb k hk).1 (Nat.not_lt.2 h2)
/-- .. where no value came in. -/
theorem ySt_old {w w' : World} {y : Nat} {D D' : Sd V} {ql qc ql' qc' : Option Addr} {nl' cl' nc' cc' : Nat} {P P' : List (En PV)} {Q Q' : List Cn} {R : Nat → Prop} {t' : Nat} (h1 : YV w y ql qc P Q D R) (hy : YR w' y ql' nl' cl' qc' nc' cc' P' Q' t') (ht : t' = D'.time) (hs : YStep w y ql qc w' ql' qc')
    (hl : D'.L = mapL low P') (hc : ∀ k, cntL Q' k = D'.C k) (hq : Q'.length ≤ D'.n) (hqn : ∀ x ∈ Q', x.n ≤ sq D'.n) (wf : Wf D') (hv : ∀ e ∈ P', ∃ e0 ∈ P, e.v = e0.v) :
    Step (fun W D F R => YSt W y D F R) w (FY y ql qc) R D' w' := by
  obtain ⟨a, b, c⟩ := ySt_of (Rp := fun _ => False) h1 hy ht hs hl hc hq hqn wf (fun e he => Or.inl (hv e he)) (fun k hk => hk.elim)
  exact ⟨_, _, a, b, c, fun k hk => Or.inl (hk.elim id (fun h => h.elim))⟩
theorem wf_ord {D : Sd V} {P : List (En PV)} (h : Wf D) (hl : D.L = mapL low P) : ordE P := by
  have := h.ord
  rw [hl, ord_map] at this
  exact this
theorem len_n {D : Sd V} {P : List (En PV)} (h : Wf D) (hl : D.L = mapL low P) : P.length ≤ D.n := by
  have := h.len
  rw [hl, map_len] at this
  exact this
theorem filter_old {P : List (En PV)} (f : En PV → Bool) : ∀ e ∈ P.filter f, ∃ e0 ∈ P, e.v = e0.v := fun e he => ⟨e, (List.mem_filter.1 he).1, rfl⟩
theorem getV_map (k : List UInt8) (P : List (En PV)) : (getV k (mapL low P)).getD v0 = (getP k P).d := by
  unfold getP getV
  rw [letL_map, look_map]
  cases lookE k (letL k P) <;> rfl
theorem getP_mem (k : List UInt8) (P : List (En PV)) : (∃ e ∈ P, getP k P = e.v) ∨ getP k P = pv0 := by
  cases h : lookE k (letL k P) with
  | none => exact Or.inr (getP_none h)
  | some e => exact Or.inl ⟨e, (List.mem_filter.1 (look_some h).1).1, getP_some h⟩
theorem yget {w : World} {y : Nat} {D : Sd V} {F R : Nat → Prop} (K : ByteArray) (k : List UInt8) (hK : K.data.toList = k) (H : YSt w y D F R) (hn : D.n ≤ 100000) :
    Calls Try.prog 14 #[.pointer (some ⟨y, 0, none⟩), .string K] w (ToldV (fun W D F R => YSt W y D F R) w F R (getS k D) ((getV k D.L).getD v0)) := by
  obtain ⟨ql, nl, cl, qc, nc, cc, P, Q, h1, h2, rfl⟩ := H
  have hp := len_n h2.wf h2.dl
  refine (rget K k w hK h1 (wf_ord h2.wf h2.dl) (by have := h1.rl.len; omega)).mono ?_
  rintro e w' ⟨rfl, ql', nl', cl', hy, hs⟩
  obtain ⟨F', R', a, b, c, d⟩ := ySt_old (D' := getS k D) h2 hy rfl hs (by show letL k D.L = _; rw [h2.dl, letL_map]) h2.dc (Nat.le_succ_of_le h2.nq) (fun x hx => Nat.le_trans (h2.qn x hx) (Nat.le_of_succ_le (sq_one D.n))) (h2.wf.get k) (filter_old _)
  have hsm : ∀ k, R k → w'.heap[k]? = w.heap[k]? := fun k hk => hs.off.block k (h2.rf k hk).1 (h2.rf k hk).2
  rcases getP_mem k P with ⟨e0, he0, h⟩ | h
  · obtain ⟨a', b', c'⟩ := ySt_of (Rp := fun _ => False) (D' := getS k D) h2 hy rfl hs (by show letL k D.L = _; rw [h2.dl, letL_map]) h2.dc (Nat.le_succ_of_le h2.nq) (fun x hx => Nat.le_trans (h2.qn x hx) (Nat.le_of_succ_le (sq_one D.n))) (h2.wf.get k) (fun e he => Or.inl (filter_old _ e he)) (fun k hk => hk.elim)
    exact ⟨getP k P, rfl, by rw [h]; exact (h2.vi e0 he0).same hs.off.size (fun k hk => hsm k (h2.va e0 he0 k hk)), by rw [h2.dl, getV_map], _, _, a', b', c', fun k hk => Or.inl (hk.elim id (fun h => h.elim)), fun k hk => by rw [h] at hk; exact Or.inl (h2.va e0 he0 k hk)⟩
  · exact ⟨getP k P, rfl, by rw [h]; exact pv0_in w', by rw [h2.dl, getV_map], F', R', a, b, c, d, fun k hk => by rw [h] at hk; exact absurd hk (pv0_at k)⟩
theorem dueV_map (k : List UInt8) (P : List (En PV)) : dueV k (mapL low P) = dueV k P := by
  unfold dueV
  rw [letL_map, look_map]
  cases lookE k (letL k P) <;> rfl
theorem ydue {w : World} {y : Nat} {D : Sd V} {F R : Nat → Prop} (K : ByteArray) (k : List UInt8) (hK : K.data.toList = k) (H : YSt w y D F R) (hn : D.n ≤ 100000) :
    Calls Try.prog 24 #[.pointer (some ⟨y, 0, none⟩), .string K] w fun e w' => e = .returned (.tuple #[.int .i64 (dueV k D.L).1, .bool (dueV k D.L).2]) ∧ Step (fun W D F R => YSt W y D F R) w F R (getS k D) w' := by
  obtain ⟨ql, nl, cl, qc, nc, cc, P, Q, h1, h2, rfl⟩ := H
  have hp := len_n h2.wf h2.dl
  refine (rdue K k w hK h1 (wf_ord h2.wf h2.dl) (by have := h1.rl.len; omega)).mono ?_
  rintro e w' ⟨rfl, ql', nl', cl', hy, hs⟩
  exact ⟨by rw [h2.dl, dueV_map], ySt_old (D' := getS k D) h2 hy rfl hs (by show letL k D.L = _; rw [h2.dl, letL_map]) h2.dc (Nat.le_succ_of_le h2.nq) (fun x hx => Nat.le_trans (h2.qn x hx) (Nat.le_of_succ_le (sq_one D.n))) (h2.wf.get k) (filter_old _)⟩
theorem there_map (k : List UInt8) (P : List (En PV)) : (lookE k (letL k (mapL low P))).isSome = (lookE k (letL k P)).isSome := by
  rw [letL_map, look_map]
  cases lookE k (letL k P) <;> rfl
theorem up_map (k : List UInt8) (a : Int) (on : Bool) (P : List (En PV)) : up k (dueE a on) (mapL low P) = mapL low (up k (dueE a on) P) := by
  unfold up mapL
  rw [List.map_map, List.map_map]
  refine List.map_congr_left fun e _ => ?_
  simp only [Function.comp_apply]
  by_cases h : e.key = k
  · simp [mapE, h, dueE]
  · simp [mapE, h]
theorem up_old (k : List UInt8) (a : Int) (on : Bool) (P : List (En PV)) : ∀ e ∈ up k (dueE a on) P, ∃ e0 ∈ P, e.v = e0.v := fun e he => by
  obtain ⟨x, hx, rfl⟩ := List.mem_map.1 he
  refine ⟨x, hx, ?_⟩
  split <;> rfl
theorem ysetdue {w : World} {y : Nat} {D : Sd V} {F R : Nat → Prop} (K : ByteArray) (k : List UInt8) (a : Int) (on : Bool) (hK : K.data.toList = k) (H : YSt w y D F R) (hn : D.n ≤ 100000) :
    Calls Try.prog 16 #[.pointer (some ⟨y, 0, none⟩), .string K, .int .i64 a, .bool on] w fun e w' => e = .returned (.bool (setDueB k D)) ∧ Step (fun W D F R => YSt W y D F R) w F R (setDueS k a on D) w' := by
  obtain ⟨ql, nl, cl, qc, nc, cc, P, Q, h1, h2, rfl⟩ := H
  have hp := len_n h2.wf h2.dl
  refine (rsetdue K k a on w hK h1 (wf_ord h2.wf h2.dl) (by have := h1.rl.len; omega) (by have := h1.rc.len; have := h2.nq; omega) (fun x hx => by have := h2.qn x hx; have := sq_max hn; omega)).mono ?_
  rintro e w' ⟨rfl, ql', nl', cl', qc', nc', cc', Q', hy, hs, hc, hq⟩
  have ht : (lookE k (letL k D.L)).isSome = (lookE k (letL k P)).isSome := by rw [h2.dl, there_map]
  refine ⟨by unfold setDueB; rw [ht], ySt_old (D' := setDueS k a on D) h2 hy ?_ hs ?_ ?_ ?_ ?_ (h2.wf.due k a on) ?_⟩
  · unfold setDueS
    split
    · split <;> rfl
    · rfl
  · unfold setDueS dueP
    rw [ht]
    split
    · split
      · show rm k D.L = _
        rw [h2.dl, rm_map]
      · show up k (dueE a on) D.L = _
        rw [h2.dl, up_map]
    · show letL k D.L = _
      rw [h2.dl, letL_map]
  · intro x
    rw [hc x]
    unfold setDueS dueC
    rw [ht]
    split
    · split
      · show cnt k (cntL Q) x = cnt k D.C x
        unfold cnt
        rw [h2.dc x]
      · show cnt k (cntL Q) x = cnt k D.C x
        unfold cnt
        rw [h2.dc x]
    · exact h2.dc x
  · have h3 : (setDueS k a on D).n = D.n + 1 := by
      unfold setDueS
      split
      · split <;> rfl
      · rfl
    have := hq.1
    have := h2.nq
    omega
  · have h3 : (setDueS k a on D).n = D.n + 1 := by
      unfold setDueS
      split
      · split <;> rfl
      · rfl
    rw [h3]
    exact fun x hx => Nat.le_trans (hq.2.2 (sq D.n) h2.qn x hx) (sq_one D.n)
  · unfold dueP
    split
    · split
      · exact filter_old _
      · exact up_old k a on P
    · exact filter_old _

theorem put_map (k : List UInt8) (p : PV) (P : List (En PV)) : ins (newE k p.d (lookE k (letL k (mapL low P)))) (rm k (mapL low P)) = mapL low (putP k p P) := by
  unfold putP
  rw [rm_map, letL_map, look_map, ← ins_map]
  congr 1
  cases lookE k (letL k P) <;> rfl
theorem put_old (k : List UInt8) (p : PV) (P : List (En PV)) : ∀ e ∈ putP k p P, (∃ e0 ∈ P, e.v = e0.v) ∨ e.v = p := fun e he => by
  rcases mem_ins he with rfl | he
  · right
    cases lookE k (letL k P) <;> rfl
  · exact Or.inl ⟨e, (List.mem_filter.1 he).1, rfl⟩
theorem yput {w : World} {y : Nat} {D : Sd V} {F R : Nat → Prop} (K : ByteArray) (k : List UInt8) (p : PV) (Rp : Nat → Prop) (hK : K.data.toList = k) (H : YSt w y D F R) (hn : D.n ≤ 100000) (hp : p.In w) (hRp : ∀ k, p.at_ k → Rp k) (hR : ∀ k, Rp k → k < w.heap.size ∧ ¬ F k) :
    Calls Try.prog 20 #[.pointer (some ⟨y, 0, none⟩), .string K, p.agg] w fun e w' => e = .returned (.tuple #[]) ∧ StepP (fun W D F R => YSt W y D F R) w F R Rp (putAny k p.d D) w' := by
  obtain ⟨ql, nl, cl, qc, nc, cc, P, Q, h1, h2, rfl⟩ := H
  have hl := len_n h2.wf h2.dl
  have ht : (lookE k (letL k D.L)).isSome = (lookE k (letL k P)).isSome := by rw [h2.dl, there_map]
  have hek : p.k = (p.d.kind : Int) := hp.ek
  by_cases hk : p.d.kind = 0
  · have e0 : p.k = 0 := by rw [hek, hk]; rfl
    unfold PV.agg
    rw [e0]
    refine (rput_none K k _ _ _ _ w hK h1 (wf_ord h2.wf h2.dl) (by have := h1.rl.len; omega) (by have := h1.rc.len; have := h2.nq; omega) (fun x hx => by have := h2.qn x hx; have := sq_max hn; omega)).mono ?_
    rintro e w' ⟨rfl, ql', nl', cl', qc', nc', cc', Q', hy, hs, hc, hq⟩
    have h3 : (goneS k D).n = D.n + 1 := by
      unfold goneS
      split <;> rfl
    have h4 : putAny k p.d D = goneS k D := by unfold putAny; rw [if_pos hk]
    rw [h4]
    obtain ⟨a, b, c⟩ := ySt_of (Rp := Rp) (D' := goneS k D) h2 hy (by unfold goneS; split <;> rfl) hs (by
        unfold goneS goneP
        rw [ht]
        split
        · show rm k D.L = _
          rw [h2.dl, rm_map]
        · show letL k D.L = _
          rw [h2.dl, letL_map]) (fun x => by
        rw [hc x]
        unfold goneS dueC
        rw [ht]
        split
        · show cnt k (cntL Q) x = cnt k D.C x
          unfold cnt
          rw [h2.dc x]
        · exact h2.dc x) (by have := hq.1; have := h2.nq; omega) (by rw [h3]; exact fun x hx => Nat.le_trans (hq.2.2 (sq D.n) h2.qn x hx) (sq_one D.n)) (h2.wf.gone k) (fun e he => Or.inl (by
        unfold goneP at he
        split at he
        · exact filter_old _ e he
        · exact filter_old _ e he)) hR
    exact ⟨rfl, _, _, a, b, c, Gr.refl _ _⟩
  · have e0 : (p.k == 0) = false := by rw [hek, beq_eq_false_iff_ne]; omega
    refine (rput_some K k p w hK e0 h1 (wf_ord h2.wf h2.dl) (by have := h1.rl.len; omega) (by have := h1.rc.len; have := h2.nq; omega) (fun x hx => by have := h2.qn x hx; have := sq_max hn; omega)).mono ?_
    rintro e w' ⟨rfl, ql', nl', cl', qc', nc', cc', Q', hy, hs, hc, hq⟩
    have h4 : putAny k p.d D = putS10 k p.d D := by unfold putAny; rw [if_neg hk]
    rw [h4]
    obtain ⟨a, b, c⟩ := ySt_of (Rp := Rp) (D' := putS10 k p.d D) h2 hy rfl hs (by
        show ins (newE k p.d (lookE k (letL k D.L))) (rm k D.L) = _
        rw [h2.dl, put_map]) (fun x => by
        rw [hc x]
        show cnt k (cntL Q) x = cnt k D.C x
        unfold cnt
        rw [h2.dc x]) (by have := hq.1; have := h2.nq; show Q'.length ≤ D.n + 1; omega) (fun x hx => Nat.le_trans (hq.2.2 (sq D.n) h2.qn x hx) (sq_one D.n)) (h2.wf.put k p.d) (fun e he => by
        rcases put_old k p P e he with h | h
        · exact Or.inl h
        · exact Or.inr ⟨by rw [h]; exact hp, fun k hk => by rw [h] at hk; exact hRp k hk⟩) hR
    exact ⟨rfl, _, _, a, b, c, Gr.refl _ _⟩
theorem falls_low (t : Nat) (e : En PV) : falls t (mapE low e) = falls t e := rfl
theorem tick_map (t : Nat) (P : List (En PV)) : (mapL low P).map (tickE t) = mapL low (P.map (tickE t)) := by
  unfold mapL
  rw [List.map_map, List.map_map]
  refine List.map_congr_left fun e _ => ?_
  simp only [Function.comp_apply]
  unfold tickE
  rw [falls_low]
  split <;> rfl
theorem fell_map (t : Nat) (P : List (En PV)) (k : List UInt8) : fell t (mapL low P) k = fell t P k := by
  unfold fell mapL
  rw [List.any_map]
  rfl
theorem ytick {w : World} {y : Nat} {D : Sd V} {F R : Nat → Prop} (m : Int) (hm0 : -9223372036854775808 ≤ m) (hm1 : m ≤ 9223372036854775807) (H : YSt w y D F R) (hn : D.n ≤ 100000) :
    Calls Try.prog 18 #[.pointer (some ⟨y, 0, none⟩), .int .i64 m] w fun e w' => e = .returned (.tuple #[]) ∧ Step (fun W D F R => YSt W y D F R) w F R (tickS m D) w' := by
  obtain ⟨ql, nl, cl, qc, nc, cc, P, Q, h1, h2, rfl⟩ := H
  have hp := len_n h2.wf h2.dl
  refine (rtick m (sq D.n) w h1 (wf_ord h2.wf h2.dl) (by have := h1.rl.len; omega) (by have := h1.rc.len; have := h2.nq; omega) (by have := sq_max hn; omega) h2.qn (fun e he => by
    rw [h2.dc]
    have := h2.wf.has (mapE low e) (by rw [h2.dl]; exact List.mem_map_of_mem he)
    exact this) h2.wf.tm hm0 hm1).mono ?_
  rintro e w' ⟨rfl, qc', nc', cc', Q', hy, hs, hc, hq, hqn⟩
  have hc' : ∀ x, cntL Q' x = tickC (tickT m D.time) D.L D.C x := fun x => by
    rw [hc x]
    unfold tickC
    rw [h2.dl, fell_map, h2.dc x]
  have hq' : ∀ x ∈ Q', x.n ≤ sq (D.n + 1) := fun x hx => Nat.le_trans (hqn x hx) (Nat.le_trans (Nat.add_le_add_left hp _) (sq_up D.n))
  exact ⟨rfl, ySt_old (D' := tickS m D) h2 hy rfl hs (by show D.L.map (tickE (tickT m D.time)) = _; rw [h2.dl, tick_map]) hc' (by have := h2.nq; show Q'.length ≤ D.n + 1; omega) hq' (h2.wf.tick m) (fun e he => by
    obtain ⟨x, hx, rfl⟩ := List.mem_map.1 he
    refine ⟨x, hx, ?_⟩
    unfold tickE
    split <;> rfl)⟩
theorem keys_map (P : List (En PV)) : keysS (mapL low P) = keysS P := by
  unfold keysS
  rw [mapL_filter low _ (fun e => !e.past) (fun e => rfl)]
  unfold mapL
  rw [List.map_map]
  rfl
theorem ykeys {w : World} {y : Nat} {D : Sd V} {F R : Nat → Prop} (H : YSt w y D F R) (hn : D.n ≤ 100000) : Calls Try.prog 28 #[.pointer (some ⟨y, 0, none⟩)] w (TextsK (keysS D.L) w) := by
  obtain ⟨ql, nl, cl, qc, nc, cc, P, Q, h1, h2, rfl⟩ := H
  have hp := len_n h2.wf h2.dl
  have h := rkeys w h1 (by have := h1.rl.len; omega)
  rw [← keys_map, ← h2.dl] at h
  exact h
theorem purge_map (P : List (En PV)) : (mapL low P).filter (fun e => !e.past) = mapL low (P.filter fun e => !e.past) := mapL_filter low _ _ (fun e => rfl) P
theorem ypurge {w : World} {y : Nat} {D : Sd V} {F R : Nat → Prop} (H : YSt w y D F R) (hn : D.n ≤ 100000) : Calls Try.prog 22 #[.pointer (some ⟨y, 0, none⟩)] w fun e w' => e = .returned (.int .i64 (purgeN D : Int)) ∧ Step (fun W D F R => YSt W y D F R) w F R (purgeS D) w' := by
  obtain ⟨ql, nl, cl, qc, nc, cc, P, Q, h1, h2, rfl⟩ := H
  have hp := len_n h2.wf h2.dl
  refine (rpurge w h1 (by have := h1.rl.len; omega)).mono ?_
  rintro e w' ⟨rfl, ql', nl', cl', hy, hs⟩
  refine ⟨ret_int ?_, ySt_old (D' := purgeS D) h2 hy rfl hs (by show D.L.filter _ = _; rw [h2.dl, purge_map]) h2.dc (Nat.le_succ_of_le h2.nq) (fun x hx => Nat.le_trans (h2.qn x hx) (Nat.le_of_succ_le (sq_one D.n))) h2.wf.purge (filter_old _)⟩
  unfold purgeN
  rw [h2.dl, purge_map, map_len, map_len]
theorem yversion {w : World} {y : Nat} {D : Sd V} {F R : Nat → Prop} (K : ByteArray) (k : List UInt8) (hK : K.data.toList = k) (H : YSt w y D F R) (hn : D.n ≤ 100000) : Calls Try.prog 32 #[.pointer (some ⟨y, 0, none⟩), .string K] w fun e w' => e = .returned (.int .i64 (D.C k : Int)) ∧ w' = w := by
  obtain ⟨ql, nl, cl, qc, nc, cc, P, Q, h1, h2, rfl⟩ := H
  have h := rversion K k w hK h1 (by have := h1.rc.len; have := h2.nq; omega)
  rw [h2.dc k] at h
  exact h
/-- What a law reads of it itself: how many entries, and the time. -/
theorem yopen {w : World} {y : Nat} {D : Sd V} {F R : Nat → Prop} (H : YSt w y D F R) : (∃ q c, w.cell? ⟨y, 0, none⟩ = some (.slice q D.L.length c)) ∧ w.cell? ⟨y, 2, none⟩ = some (.int .i64 D.time) := by
  obtain ⟨ql, nl, cl, qc, nc, cc, P, Q, h1, h2, rfl⟩ := H
  obtain ⟨c0, c1, c2⟩ := yr_cells h1
  refine ⟨⟨ql, cl, ?_⟩, c2⟩
  rw [c0, h2.dl, map_len, h1.rl.len]
/-- A new one. -/
theorem ynew (w : World) : YSt (w.alloc (.cells #[.slice none 0 0, .slice none 0 0, .int .i64 0] 30)) w.heap.size s0 (FY w.heap.size none none) (fun _ => False) := by
  refine ⟨none, 0, 0, none, 0, 0, [], [], ⟨heap_alloc_last w _, Or.inl ⟨rfl, rfl, rfl, rfl⟩, Or.inl ⟨rfl, rfl, rfl, rfl⟩, fun a h => (by cases h), fun a h => (by cases h), fun a b h => (by cases h)⟩, ⟨rfl, fun k => rfl, Nat.le_refl _, fun x hx => (by cases hx), wf_0, fun e he => (by cases he), fun e he => (by cases he), fun k hk => hk.elim⟩, rfl⟩

end Go.Proofs.Ytbcjgkedlapmhaa.RefY
