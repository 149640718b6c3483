/-
  The document's own store: time goes on.
-/
import Derived.Test.YtbcjgkedlapmhaaRefSto5
namespace Go.Proofs.Ytbcjgkedlapmhaa.RefY
open Go.RowKit Kit StrT RowG BOrd ValT StoT
open Go.Op (bytesLess)
set_option linter.unusedVariables false
set_option maxRecDepth 100000

/-- The time set. -/
theorem yr_time {w : World} {y : Nat} {ql : Option Addr} {nl cl : Nat} {qc : Option Addr} {nc cc : Nat} {P : List (En PV)} {Q : List Cn} {t : Nat} (H : YR w y ql nl cl qc nc cc P Q t) (T : Nat) : YR (w.setCell ⟨y, 2, none⟩ (.int .i64 T)) y ql nl cl qc nc cc P Q T ∧ YStep w y ql qc (w.setCell ⟨y, 2, none⟩ (.int .i64 T)) ql qc := by
  have hs : ∀ k, k ≠ y → (w.setCell ⟨y, 2, none⟩ (.int .i64 T)).heap[k]? = w.heap[k]? := fun k hk => heap_setCell_other _ _ _ _ hk
  refine ⟨⟨heap_setCell_same _ _ 2 _ _ _ H.hp, H.rl.same (fun a h => hs _ (H.yl a h)), H.rc.same (fun a h => hs _ (H.yc a h)), H.yl, H.yc, H.lc⟩, ⟨⟨rfl, rfl, rfl, by simp [World.setCell], fun k hk hF => hs k (fun e => hF (Or.inl e))⟩, Gr.refl _ _⟩⟩
def tickL (T : Nat) (P : List (En PV)) (j : Nat) : List (En PV) := (P.take j).map (tickE T) ++ P.drop j
theorem tickL_len (T : Nat) (P : List (En PV)) (j : Nat) : (tickL T P j).length = P.length := by
  unfold tickL
  rw [List.length_append, List.length_map, List.length_take, List.length_drop]
  omega
theorem tickL_at (T : Nat) (P : List (En PV)) (j : Nat) (hj : j < P.length) : (tickL T P j)[j]'(by rw [tickL_len]; exact hj) = P[j] := by
  unfold tickL
  rw [List.getElem_append_right (by rw [List.length_map, List.length_take]; omega)]
  simp only [List.length_map, List.length_take, List.getElem_drop]
  congr 1
  omega
theorem tickL_step (T : Nat) (P : List (En PV)) (j : Nat) (hj : j < P.length) : (tickL T P j).set j (tickE T P[j]) = tickL T P (j + 1) := by
  unfold tickL
  rw [List.take_succ_eq_append_getElem hj, List.map_append, List.append_assoc, List.set_append_right _ _ (by rw [List.length_map, List.length_take]; omega)]
  congr 1
  rw [List.length_map, List.length_take, show j - min j P.length = 0 by omega, ← List.getElem_cons_drop hj]
  rfl
theorem tickL_same (T : Nat) (P : List (En PV)) (j : Nat) (hj : j < P.length) (h : falls T P[j] = false) : tickL T P j = tickL T P (j + 1) := by
  rw [← tickL_step T P j hj, show tickE T P[j] = P[j] by unfold tickE; rw [h]; rfl]
  conv => rhs; rw [← tickL_at T P j hj]
  rw [List.set_getElem_self]
theorem tickL_all (T : Nat) (P : List (En PV)) : tickL T P P.length = P.map (tickE T) := by
  unfold tickL
  simp
theorem fell_step (T : Nat) (P : List (En PV)) (j : Nat) (hj : j < P.length) (x : List UInt8) : fell T (P.take (j + 1)) x = (fell T (P.take j) x || (decide (P[j].key = x) && falls T P[j])) := by
  unfold fell
  rw [List.take_succ_eq_append_getElem hj, List.any_append]
  simp
theorem tickC_same (T : Nat) (P : List (En PV)) (C : List UInt8 → Nat) (j : Nat) (hj : j < P.length) (h : falls T P[j] = false) (x : List UInt8) : tickC T (P.take (j + 1)) C x = tickC T (P.take j) C x := by
  unfold tickC
  rw [fell_step T P j hj, h, Bool.and_false, Bool.or_false]
theorem tickC_step (T : Nat) (P : List (En PV)) (C : List UInt8 → Nat) (ho : ordE P) (j : Nat) (hj : j < P.length) (h : falls T P[j] = true) (x : List UInt8) : tickC T (P.take (j + 1)) C x = cnt P[j].key (tickC T (P.take j) C) x := by
  unfold tickC cnt
  rw [fell_step T P j hj, h, Bool.and_true]
  by_cases hx : x = P[j].key
  · subst hx
    have h0 : fell T (P.take j) P[j].key = false := by
      unfold fell
      rw [Bool.eq_false_iff]
      intro ha
      obtain ⟨e, he, h2⟩ := List.any_eq_true.1 ha
      obtain ⟨i, hi, rfl⟩ := List.getElem_of_mem he
      rw [List.length_take] at hi
      rw [List.getElem_take] at h2
      have h3 := key_inj ho (i := i) (j := j) (by omega) hj (of_decide_eq_true (Bool.and_eq_true_iff.1 h2).1)
      omega
    simp [h0]
  · have h1 : decide (P[j].key = x) = false := decide_eq_false (fun e => hx e.symm)
    simp [h1, hx]
theorem tick_times {m : Int} {t : Nat} : (m < 0 → tickT m t = min t most) ∧ (0 ≤ m → ((tickT m t : Nat) : Int) = min ((t : Int) + min m 1099511627776) 1099511627776) := by
  unfold tickT most
  constructor
  · intro h
    rw [show m.toNat = 0 by omega]
    simp
  · intro h
    omega
set_option maxHeartbeats 8000000 in
theorem rtick {y : Nat} {ql : Option Addr} {nl cl : Nat} {qc : Option Addr} {nc cc : Nat} {P : List (En PV)} {Q : List Cn} {t : Nat} (m : Int) (M : Nat) (w : World) (H : YR w y ql nl cl qc nc cc P Q t) (ho : ordE P) (hz : nl ≤ 400000) (hzc : nc ≤ 400000) (hM : M ≤ 100000000000) (hm : ∀ x ∈ Q, x.n ≤ M) (hhas : ∀ e ∈ P, 0 < cntL Q e.key) (ht : t ≤ most) (hm0 : -9223372036854775808 ≤ m) (hm1 : m ≤ 9223372036854775807) :
    Calls Try.prog 18 #[.pointer (some ⟨y, 0, none⟩), .int .i64 m] w fun e w' => e = .returned (.tuple #[]) ∧
      ∃ qc' nc' cc' Q', YR w' y ql nl cl qc' nc' cc' (P.map (tickE (tickT m t))) Q' (tickT m t) ∧ YStep w y ql qc w' ql qc' ∧ (∀ x, cntL Q' x = tickC (tickT m t) P (cntL Q) x) ∧ Q'.length = Q.length ∧ (∀ x ∈ Q', x.n ≤ M + P.length) := by
  have HT := Lib.hid (tick_times (m := m) (t := t))
  have hTm : tickT m t ≤ most := Nat.min_le_right _ _
  obtain ⟨T, hT⟩ : ∃ T, T = tickT m t := ⟨_, rfl⟩
  rw [← hT] at HT hTm ⊢
  have HH := Lib.hid H
  have HO := Lib.hid ho
  have HM := Lib.hid hm
  have HA := Lib.hid hhas
  obtain ⟨c0, c1, c2⟩ := yr_cells H
  have f2 := yr_frz H 2
  have hwr : 0 ≤ m → IntKind.i64.wrap ((t : Int) + min m 1099511627776) = (t : Int) + min m 1099511627776 := fun hm => by
    rw [IntKind.wrap_i64]
    unfold most at ht
    omega
  clear H ho hm hhas hT
  unfold most at hTm ht
  have hways : (m < 0 ∧ decide (m < 0) = true ∧ (min ((t : Int) + min 0 1099511627776) 1099511627776 : Int) = (T : Int)) ∨ (¬ m < 0 ∧ decide (m < 0) = false ∧ IntKind.i64.wrap ((t : Int) + min m 1099511627776) = (t : Int) + min m 1099511627776 ∧ (min ((t : Int) + min m 1099511627776) 1099511627776 : Int) = (T : Int)) := by
    by_cases hn : m < 0
    · have h1 := HT.out.1 hn
      unfold most at h1
      exact Or.inl ⟨hn, decide_eq_true hn, by omega⟩
    · exact Or.inr ⟨hn, decide_eq_false hn, hwr (by omega), (HT.out.2 (by omega)).symm⟩
  have HY1 := Lib.hid (yr_time HH.out T)
  clear hwr
  rcases hways with ⟨hn, d0, hTv⟩ | ⟨hn, d0, hw, hTv⟩
  all_goals
    go_enter Try.func18, Try.ntmps18
    go_wp2_with fail
    try rw [hTv]
    generalize w.setCell ⟨y, 2, none⟩ (.int .i64 (T : Int)) = w1 at HY1 ⊢
    clear c0 c1 c2 f2 hTv d0 hn
    go_loopw [5] (fun i wr => ∃ (j : Nat) (qc' : Option Addr) (nc' cc' : Nat) (Q' : List Cn), j ≤ nl ∧ i = .int .i64 (j : Int) ∧ Hid (YR wr y ql nl cl qc' nc' cc' (tickL T P j) Q' T) ∧ Hid (YStep w y ql qc wr ql qc') ∧ Hid (∀ x, cntL Q' x = tickC T (P.take j) (cntL Q) x) ∧ Hid (Q'.length = Q.length) ∧ Hid (∀ x ∈ Q', x.n ≤ M + j)) (fun i _ => nl - (intOf i).toNat)
    case atStart =>
      refine ⟨0, qc, nc, cc, Q, Nat.zero_le _, rfl, ?_, Lib.hid HY1.out.2, Lib.hid (fun x => ?_), Lib.hid rfl, HM⟩
      · exact Lib.hid (by rw [show tickL T P 0 = P by unfold tickL; simp]; exact HY1.out.1)
      · unfold tickC fell
        simp
    case round =>
      obtain ⟨j, qc', nc', cc', Q', hj, rfl, HY, HSt, HC, HLq, HMq⟩ := hrel
      have HN := Lib.hid (show P.length = nl from HH.out.rl.len)
      by_cases hlt : j < nl
      · have d1 : decide ((j : Int) < (nl : Int)) = true := decide_eq_true (by omega)
        have hj0 : (0 : Int) ≤ (j : Int) := by omega
        have hjn : (j : Int) < (nl : Int) := by omega
        have hjl : j < P.length := by rw [HN.out]; exact hlt
        have hjt : j < (tickL T P j).length := by rw [tickL_len]; exact hjl
        obtain ⟨g, hg⟩ := some_row HY.out hjt
        have HSa := Lib.hid (fun h => tickL_same T P j hjl h)
        have HCa := Lib.hid (fun h => tickC_same T P (cntL Q) j hjl h)
        have HSb := Lib.hid (tickL_step T P j hjl)
        have HCb := Lib.hid (fun h => tickC_step T P (cntL Q) HO.out j hjl h)
        have HPo := Lib.hid (HA.out _ (List.getElem_mem hjl))
        have HAt := Lib.hid (tickL_at T P j hjl)
        obtain ⟨c0, c1, c2⟩ := yr_cells HY.out
        have hroom := fun h => yr_room (by rw [← hg]; exact HY.out : YR wr y (some ⟨g, 0, none⟩) nl cl qc' nc' cc' (tickL T P j) Q' T) j h
        have hro := hroom hjt
        simp only [HAt.out] at hro
        have HEn := Lib.hid (fun (W : World) (hW : YR W y (some ⟨g, 0, none⟩) nl cl qc' nc' cc' (tickL T P j) Q' T) (a : En PV) (he : enE.enc a = (enE.enc P[j]).set 8 (.bool true)) => yr_entry hW j 8 a (.bool true) hjt (by decide) (by simp only [HAt.out]; exact he))
        generalize P[j] = X at hro HSa HCa HSb HCb HPo HEn
        obtain ⟨xk, v, du, on, past⟩ := X
        simp only at hro HPo
        obtain ⟨⟨u0, -, -, -, -, -, u6, u7, u8⟩, hfz⟩ := hro
        rw [hg] at c0
        have HG := Lib.hid hg
        clear hroom hg
        have hwy : (on = false) ∨ (on = true ∧ ¬ du ≤ (T : Int)) ∨ (on = true ∧ du ≤ (T : Int) ∧ past = true) ∨ (on = true ∧ du ≤ (T : Int) ∧ past = false) := by
          cases on <;> cases past <;> by_cases h : du ≤ (T : Int) <;> simp [h]
        rcases hwy with rfl | ⟨rfl, hd⟩ | ⟨rfl, hd, rfl⟩ | ⟨rfl, hd, rfl⟩
        · have hf : falls T (⟨xk, v, du, false, past⟩ : En PV) = false := rfl
          have HS1 := Lib.hid (HSa.out hf)
          have HC1 := Lib.hid (HCa.out hf)
          have HYq := Lib.hid (fun nq => (by rw [← HS1.out]; exact HY.out.same (fun _ _ => rfl) : YR (wr.drewN nq) y ql nl cl qc' nc' cc' (tickL T P (j + 1)) Q' T))
          have HSq := Lib.hid (fun nq => HSt.out.trans (show YStep wr y ql qc' (wr.drewN nq) ql qc' from ⟨⟨rfl, rfl, rfl, Nat.le_refl _, fun _ _ _ => rfl⟩, Gr.refl _ _⟩))
          clear u0 hf
          go_wp2_with fail
          go_quiet (fail)
          have HYr := Lib.hid (HYq.out nq)
          have HSr := Lib.hid (HSq.out nq)
          clear u6 u7 u8 hfz c0 c1 c2 HYq HSq
          generalize wr.drewN nq = wq at HYr HSr ⊢
          go_wp2_with fail
          go_roundw
          case rel => exact ⟨j + 1, qc', nc', cc', Q', by omega, by go_num, HYr, HSr, Lib.hid (fun x => by rw [HC.out x, HC1.out x]), HLq, Lib.hid (fun x hx => Nat.le_succ_of_le (HMq.out x hx))⟩
          case measure => simp [intOf]; omega
        · have hf : falls T (⟨xk, v, du, true, past⟩ : En PV) = false := by unfold falls; simp [hd]
          have d2 : decide (du ≤ (T : Int)) = false := decide_eq_false hd
          have HS1 := Lib.hid (HSa.out hf)
          have HC1 := Lib.hid (HCa.out hf)
          have HYq := Lib.hid (fun nq => (by rw [← HS1.out]; exact HY.out.same (fun _ _ => rfl) : YR (wr.drewN nq) y ql nl cl qc' nc' cc' (tickL T P (j + 1)) Q' T))
          have HSq := Lib.hid (fun nq => HSt.out.trans (show YStep wr y ql qc' (wr.drewN nq) ql qc' from ⟨⟨rfl, rfl, rfl, Nat.le_refl _, fun _ _ _ => rfl⟩, Gr.refl _ _⟩))
          clear u0 hf
          go_wp2_with fail
          go_quiet (fail)
          have HYr := Lib.hid (HYq.out nq)
          have HSr := Lib.hid (HSq.out nq)
          clear u6 u7 u8 hfz c0 c1 c2 HYq HSq
          generalize wr.drewN nq = wq at HYr HSr ⊢
          go_wp2_with fail
          go_roundw
          case rel => exact ⟨j + 1, qc', nc', cc', Q', by omega, by go_num, HYr, HSr, Lib.hid (fun x => by rw [HC.out x, HC1.out x]), HLq, Lib.hid (fun x hx => Nat.le_succ_of_le (HMq.out x hx))⟩
          case measure => simp [intOf]; omega
        · have hf : falls T (⟨xk, v, du, true, true⟩ : En PV) = false := by unfold falls; simp
          have d2 : decide (du ≤ (T : Int)) = true := decide_eq_true hd
          have HS1 := Lib.hid (HSa.out hf)
          have HC1 := Lib.hid (HCa.out hf)
          have HYq := Lib.hid (fun nq => (by rw [← HS1.out]; exact HY.out.same (fun _ _ => rfl) : YR (wr.drewN nq) y ql nl cl qc' nc' cc' (tickL T P (j + 1)) Q' T))
          have HSq := Lib.hid (fun nq => HSt.out.trans (show YStep wr y ql qc' (wr.drewN nq) ql qc' from ⟨⟨rfl, rfl, rfl, Nat.le_refl _, fun _ _ _ => rfl⟩, Gr.refl _ _⟩))
          clear u0 hf
          go_wp2_with fail
          go_quiet (fail)
          have HYr := Lib.hid (HYq.out nq)
          have HSr := Lib.hid (HSq.out nq)
          clear u6 u7 u8 hfz c0 c1 c2 HYq HSq
          generalize wr.drewN nq = wq at HYr HSr ⊢
          go_wp2_with fail
          go_roundw
          case rel => exact ⟨j + 1, qc', nc', cc', Q', by omega, by go_num, HYr, HSr, Lib.hid (fun x => by rw [HC.out x, HC1.out x]), HLq, Lib.hid (fun x hx => Nat.le_succ_of_le (HMq.out x hx))⟩
          case measure => simp [intOf]; omega
        · have hf : falls T (⟨xk, v, du, true, false⟩ : En PV) = true := by unfold falls; simp [hd]
          have d2 : decide (du ≤ (T : Int)) = true := decide_eq_true hd
          obtain ⟨A, hA⟩ : ∃ A : ByteArray, A = ⟨xk.toArray⟩ := ⟨_, rfl⟩
          rw [← hA] at u0
          have HAk := Lib.hid (show A.data.toList = xk by rw [hA])
          have HYq := Lib.hid (fun nq => (by rw [← HG.out]; exact HY.out.same (fun _ _ => rfl) : YR (wr.drewN nq) y (some ⟨g, 0, none⟩) nl cl qc' nc' cc' (tickL T P j) Q' T))
          have HSq := Lib.hid (fun nq => HSt.out.trans (show YStep wr y ql qc' (wr.drewN nq) ql qc' from ⟨⟨rfl, rfl, rfl, Nat.le_refl _, fun _ _ _ => rfl⟩, Gr.refl _ _⟩))
          have hyg : ¬ y = g := fun e => (HYq.out 0).yl _ rfl e.symm
          have hgy : ¬ g = y := fun e => (HYq.out 0).yl _ rfl e
          clear hA
          go_wp2_with fail
          go_quiet (fail)
          have HYr := Lib.hid (HYq.out nq)
          have HSr := Lib.hid (HSq.out nq)
          have x0 : (wr.drewN nq).cell? ⟨g, j * 9, none⟩ = some (.string A) := u0
          have x8 : (wr.drewN nq).cell? ⟨g, j * 9 + 8, none⟩ = some (.bool false) := u8
          have f8 : (wr.drewN nq).frozen? ⟨g, j * 9 + 8, none⟩ = false := hfz _
          have x1 : (wr.drewN nq).cell? ⟨y, 0, none⟩ = some (.slice (some ⟨g, 0, none⟩) nl cl) := c0
          clear u0 u6 u7 u8 hfz c0 c1 c2 HYq HSq
          generalize wr.drewN nq = wq at HYr HSr x0 x8 f8 x1 ⊢
          have HE := Lib.hid (HEn.out wq HYr.out ⟨xk, v, du, true, true⟩ rfl)
          have CC := Lib.hid (rcount A xk _ HAk.out HE.out.1 (by have := HE.out.1.rc.len; have := HLq.out; have := HH.out.rc.len; omega) (fun x hx => by have := HMq.out x hx; omega))
          go_wp2_with fail
          refine CC.out.mono ?_
          rintro e w5 ⟨rfl, qc5, nc5, cc5, Q5, hy5, hs5, hc5, hl5⟩
          have HY5 := Lib.hid (show YR w5 y ql nl cl qc5 nc5 cc5 (tickL T P (j + 1)) Q5 T by
            rw [← HSb.out, HG.out]
            have h := hy5
            unfold tickE
            rw [hf, if_pos rfl]
            exact h)
          have HS5 := Lib.hid (show YStep w y ql qc w5 ql qc5 by
            refine HSr.out.trans ?_
            rw [HG.out]
            exact HE.out.2.trans hs5)
          have HC5 := Lib.hid (show ∀ x, cntL Q5 x = tickC T (P.take (j + 1)) (cntL Q) x from fun x => by
            rw [hc5 x, HCb.out hf x]
            unfold cnt
            rw [HC.out x])
          have HL5 := Lib.hid (show Q5.length = Q.length by
            rw [hl5.2.1 ?_, HLq.out]
            have h1 := HC.out xk
            have h2 := (tickC_le T (P.take j) (cntL Q) xk).1
            have h3 := HPo.out
            omega)
          have HM5 := Lib.hid (show ∀ x ∈ Q5, x.n ≤ M + (j + 1) from fun x hx => hl5.2.2 (M + j) HMq.out x hx)
          clear hy5 hs5 hc5 hl5 CC HE HYr HSr x0 x8 f8 x1 HEn
          go_wp2_with fail
          go_roundw
          case rel => exact ⟨j + 1, qc5, nc5, cc5, Q5, by omega, by go_num, HY5, HS5, HC5, HL5, HM5⟩
          case measure => simp [intOf]; omega
      · have d1 : decide ((j : Int) < (nl : Int)) = false := decide_eq_false (by omega)
        obtain rfl : j = nl := by omega
        obtain ⟨c0, c1, c2⟩ := yr_cells HY.out
        have HE1 := Lib.hid (show tickL T P j = P.map (tickE T) by rw [← HN.out, tickL_all])
        have HE2 := Lib.hid (show P.take j = P by rw [← HN.out, List.take_length])
        go_wp2_with fail
        go_end0
        exact ⟨rfl, qc', nc', cc', Q', by rw [← HE1.out]; exact HY.out, HSt.out, fun x => by rw [HC.out x, HE2.out], HLq.out, fun x hx => by rw [HN.out]; exact HMq.out x hx⟩

end Go.Proofs.Ytbcjgkedlapmhaa.RefY
