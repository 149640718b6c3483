/-
  The document's own answers of layer 9 (package tipstaffref09): a set, a hash, a sorted set that is made to fit; and each value.
-/
import Derived.Test.YtbcjgkedlapmhaaRefVal7
namespace Go.Proofs.Ytbcjgkedlapmhaa.RefV
open Go.RowKit Kit StrT RowG BOrd ValT
open Go.Op (bytesLess)
set_option linter.unusedVariables false
set_option maxRecDepth 100000

theorem putL_len {l : List (List UInt8)} (s : List UInt8) (h : rises l) : (putL l s).length ≤ l.length + 1 := by
  obtain ⟨l1, l2, e, -, -, a3⟩ := putL_shape s h
  rw [a3, e]
  have := List.length_filter_le (fun x => decide (x ≠ s)) l2
  simp only [List.length_append, List.length_cons, List.length_nil]
  omega
theorem putP_len {l : List Pr} (s : Pr) (h : rises (names l)) : (putP l s).length ≤ l.length + 1 := by
  have h1 := putL_len s.name h
  rw [← putP_names] at h1
  simpa [names] using h1
theorem putM_len {l : List Mk} (m : Mk) (h : marks l) : (putM l m).length ≤ l.length + 1 := by
  obtain ⟨l1, l2, e, -, -, a3⟩ := putMS_false m l [] h
  have e3 : putM l m = l1.filter (fun x => decide (x.name ≠ m.name)) ++ [m] ++ l2.filter (fun x => decide (x.name ≠ m.name)) := by
    unfold putM
    rw [a3]
    simp
  rw [e3, e]
  have h1 := List.length_filter_le (fun x : Mk => decide (x.name ≠ m.name)) l1
  have h2 := List.length_filter_le (fun x : Mk => decide (x.name ≠ m.name)) l2
  simp only [List.length_append, List.length_cons, List.length_nil]
  omega
theorem putP_inv {l : List Pr} (s : Pr) (h : rises (names l)) : rises (names (putP l s)) := by
  rw [putP_names]
  exact putL_rises _ h

set_option maxHeartbeats 8000000 in
theorem rfit_4 (k : Int) (S : ByteArray) (ql : Option Addr) (nl cl : Nat) (qh : Option Addr) (nh ch : Nat) (qz : Option Addr) (nz cz : Nat) (d : V) (w : World) (H : VArg w k S ql nl cl qh nh ch qz nz cz d) (hS : S.size ≤ 140737488351232) (hk : d.kind % 6 = 4) :
    Calls Try.prog 25 #[.agg #[.int .u8 k, .string S, .slice ql nl cl, .slice qh nh ch, .slice qz nz cz]] w (ValP (fitV d) w) := by
  have HV := Lib.hid H
  have HK := Lib.hid hk
  have HFB := Lib.hid (FB.new w #[.int .u8 k, .string S, .slice ql nl cl, .slice qh nh ch, .slice qz nz cz] #[.int .u8 0, .string ⟨#[]⟩, .slice none 0 0, .slice none 0 0, .slice none 0 0] #[.int .u8 0, .string ⟨#[]⟩, .slice none 0 0, .slice none 0 0, .slice none 0 0])
  obtain ⟨m, hm⟩ : ∃ m, m = min nl 8 := ⟨_, rfl⟩
  have hmin : min (nl : Int) 8 = (m : Int) := by omega
  have hmc : m ≤ cl := by have := H.bl; omega
  have hml := H.ml
  have hfl := Nat.le_trans H.bl H.ml
  have hfh := Nat.le_trans H.bh H.mh
  have hfz := Nat.le_trans H.bz H.mz
  have x1 : (k % 6 == 1) = false := by rw [H.ek, beq_eq_false_iff_ne]; omega
  have x2 : (k % 6 == 2) = false := by rw [H.ek, beq_eq_false_iff_ne]; omega
  have x3 : (k % 6 == 3) = false := by rw [H.ek, beq_eq_false_iff_ne]; omega
  have x4 : (k % 6 == 4) = true := by rw [H.ek, beq_iff_eq]; omega
  have x5 : (k % 6 == 5) = false := by rw [H.ek, beq_eq_false_iff_ne]; omega
  have hk0 : 0 ≤ k := by rw [H.ek]; omega
  have hk1 : k ≤ 255 := by rw [H.ek]; have := H.kb; omega
  have HM := Lib.hid hm
  obtain ⟨M, hM8⟩ : ∃ M, M = min nl 8 := ⟨_, rfl⟩
  have HTl := Lib.hid (show (d.l.take 8).length = M by rw [List.length_take, H.ll, hM8]; omega)
  have hM9 : M ≤ 8 := by omega
  obtain rfl : M = m := by omega
  have HNz := Lib.hid (show d.l = [] ↔ M = 0 by
    have h1 := H.ll
    constructor
    · intro h
      rw [h] at h1
      simp at h1
      omega
    · intro h
      exact List.eq_nil_of_length_eq_zero (by omega))
  have HSt := Lib.hid (fun k (h : k < (d.l.take 8).length) => fold_take putL [] (d.l.take 8) k h)
  clear H hm hk hM8
  go_enter Try.func25, Try.ntmps25
  go_upto_region 10 with fail
  generalize (((w.alloc _).alloc _).alloc _) = w3 at HFB ⊢
  go_wp2_with fail
  go_loopw [5] (fun i wr => ∃ (k9 no co : Nat) (o : List (List UInt8)) (qo : Option Addr), k9 ≤ M ∧ i = .int .i64 k9 ∧ no ≤ k9 ∧ Hid (List.foldl putL [] ((d.l.take 8).take k9) = o) ∧ Hid (rises o) ∧ Hid (o.length = no) ∧ Hid (FB w wr #[.int .u8 k, .string S, .slice ql nl cl, .slice qh nh ch, .slice qz nz cz] #[.int .u8 0, .string ⟨#[]⟩, .slice none 0 0, .slice none 0 0, .slice none 0 0] #[.int .u8 0, .string ⟨#[]⟩, .slice qo no co, .slice none 0 0, .slice none 0 0]) ∧ Hid (AnsR strE (w.heap.size + 1 + 1 + 1) wr (.slice qo no co) o)) (fun i _ => M - (intOf i).toNat)
  case atStart => exact ⟨0, 0, 0, [], none, Nat.zero_le _, rfl, Nat.le_refl _, Lib.hid rfl, Lib.hid List.Pairwise.nil, Lib.hid rfl, HFB, Lib.hid (ansR_nil strE _ _)⟩
  case round =>
    clear HFB
    obtain ⟨k9, no, co, o, qo, hk9, rfl, hno, HFo, HIn, HNo, HF, HAo⟩ := hrel
    by_cases hlt : k9 < M
    · have hk90 : (0 : Int) ≤ (k9 : Int) := by omega
      have d1 : decide ((k9 : Int) < (M : Int)) = true := decide_eq_true (by omega)
      have hkn : (k9 : Int) < (M : Int) := by omega
      obtain ⟨b, off, e1, hbl, u0⟩ := ss_at (rs_ss.1 ((HV.out.rl.keep HF.out.bl).take 8)) k9 (by rw [HTl.out]; exact hlt)
      have HStk := Lib.hid (HSt.out k9 (by rw [HTl.out]; exact hlt))
      rw [HFo.out] at HStk
      obtain ⟨t, ht⟩ : ∃ t, t = (d.l.take 8)[k9]'(by rw [HTl.out]; exact hlt) := ⟨_, rfl⟩
      rw [← ht] at HStk u0
      subst e1
      obtain ⟨T, hT⟩ : ∃ T : ByteArray, T = ⟨t.toArray⟩ := ⟨_, rfl⟩
      rw [← hT] at u0
      have hz9 : no ≤ 500000 := Nat.le_trans (Nat.le_trans hno hk9) (Nat.le_trans hM9 (by decide))
      have CP := Lib.hid (show Calls Try.prog 43 #[.slice qo no co, .string T] wr.drew (TextsA (putL o t) wr.drew) from by
        obtain ⟨q1, c1, e, hR, -⟩ := HAo.out
        injection e with e1 e2 e3
        rw [← e1] at hR
        clear e1 e2 e3
        exact rput qo o no co T t wr.drew HNo.out (rs_ss.1 (hR.keep (Below.refl wr.heap.size wr).drew)) hz9 (by rw [hT]))
      clear hT ht hbl
      have HIs := Lib.hid ((putL_rises) t HIn.out)
      have HLs := Lib.hid (putL_len t HIn.out)
      have c2 : wr.cell? ⟨w.heap.size + 1 + 1, 2, none⟩ = some (.slice qo no co) := by rw [cell_of_row _ _ _ _ 35 _ HF.out.ou]; rfl
      have x2 : wr.cell? ⟨w.heap.size, 2, none⟩ = some (.slice (some ⟨b, off, none⟩) nl cl) := by rw [cell_of_row _ _ _ _ 35 _ HF.out.bx]; rfl
      go_wp2_with fail
      go_region_law (first
        | (go_simp; (with_reducible refine CP.out.mono ?_); rintro e w5 ⟨v, rfl, ⟨qv, cv, rfl, hR⟩, hb5⟩; dsimp only
           have hb6 : Below wr.heap.size wr w5 := (Below.refl wr.heap.size wr).drew.trans hb5
           have HF5 := Lib.hid (HF.out.keep hb6)
           generalize hn5 : (putL o t).length = n5 at ⊢
           have HN5 := Lib.hid hn5
           have HA5 := Lib.hid (show AnsR strE (w.heap.size + 1 + 1 + 1) w5 (.slice qv n5 cv) (putL o t) from (show AnsR strE wr.drew.heap.size w5 (.slice qv n5 cv) (putL o t) from ⟨qv, cv, by rw [hn5], hR⟩).low (by have := HF.out.sz; show w.heap.size + 1 + 1 + 1 ≤ wr.heap.size; omega))
           clear hn5
           have y2 : w5.cell? ⟨w.heap.size + 1 + 1, 2, none⟩ = some (.slice qo no co) := by rw [cell_of_row _ _ _ _ 35 _ HF5.out.ou]; rfl
           have g2 : w5.frozen? ⟨w.heap.size + 1 + 1, 2, none⟩ = false := frozen_of_row _ _ _ _ 35 HF5.out.ou
           clear hR hb5 hb6))
      all_goals
        have HF6 := Lib.hid (show FB w (w5.setCell ⟨w.heap.size + 1 + 1, 2, none⟩ (.slice qv n5 cv)) _ _ #[.int .u8 0, .string ⟨#[]⟩, .slice qv n5 cv, .slice none 0 0, .slice none 0 0] from HF5.out.put 2 (.slice qv n5 cv))
        have HA6 := Lib.hid (show AnsR strE (w.heap.size + 1 + 1 + 1) (w5.setCell ⟨w.heap.size + 1 + 1, 2, none⟩ (.slice qv n5 cv)) (.slice qv n5 cv) (putL o t) from ansR_put HA5.out (by show w.heap.size + 1 + 1 < _; omega))
        have hn6 : n5 ≤ k9 + 1 := by have h1 := HN5.out; have h2 := HLs.out; have h3 := HNo.out; omega
        clear y2 g2 HF5 HA5 c2 x2 u0 CP HF HAo
        go_wp2_with fail
        go_roundw
        case rel => exact ⟨k9 + 1, n5, cv, _, qv, hlt, by go_num, hn6, HStk, HIs, HN5, HF6, HA6⟩
        case measure => simp [intOf]; omega
    · have HFe := Lib.hid (show fitL d.l = o by
        have h := HFo.out
        rw [List.take_of_length_le (by rw [HTl.out]; omega)] at h
        exact h)
      have c0 : wr.cell? ⟨w.heap.size + 1 + 1, 0, none⟩ = some (.int .u8 0) := by rw [cell_of_row _ _ _ _ 35 _ HF.out.ou]; rfl
      have f0 : wr.frozen? ⟨w.heap.size + 1 + 1, 0, none⟩ = false := frozen_of_row _ _ _ _ 35 HF.out.ou
      have z2 : wr.cell? ⟨w.heap.size, 2, none⟩ = some (.slice ql nl cl) := by rw [cell_of_row _ _ _ _ 35 _ HF.out.bx]; rfl
      have HFt := Lib.hid (show FB w (wr.setCell ⟨w.heap.size + 1 + 1, 0, none⟩ (.int .u8 4)) _ _ #[.int .u8 4, .string ⟨#[]⟩, .slice qo no co, .slice none 0 0, .slice none 0 0] from HF.out.put 0 (.int .u8 4))
      have HAt := Lib.hid (show AnsR strE (w.heap.size + 1 + 1 + 1) (wr.setCell ⟨w.heap.size + 1 + 1, 0, none⟩ (.int .u8 4)) (.slice qo no co) o from ansR_put HAo.out (by show w.heap.size + 1 + 1 < _; omega))
      have HZr := Lib.hid (show no = 0 ↔ d.l = [] by
        have h1 := HNo.out
        have h2 := HFe.out
        constructor
        · intro h
          refine Classical.byContradiction fun hne => ?_
          have h3 := (foldL_rises (d.l.take 8) [] List.Pairwise.nil).2 (Or.inl (take8_ne hne))
          apply h3
          show fitL d.l = []
          rw [h2]
          exact List.eq_nil_of_length_eq_zero (by omega)
        · intro h
          rw [h] at h2
          rw [← h1, ← h2]
          rfl)
      have d1 : decide ((k9 : Int) < (M : Int)) = false := decide_eq_false (by omega)
      clear HFo HIn HF HAo HSt
      go_upto_region 27 with fail
      generalize (wr.setCell _ _) = wt at HFt HAt ⊢
      have HF := HFt
      have HA := Lib.hid (⟨HAt.out, ansR_nil prE _ wt, ansR_nil mkE _ wt⟩ : AnsR strE (w.heap.size + 1 + 1 + 1) wt (.slice qo no co) o ∧ AnsR prE (w.heap.size + 1 + 1 + 1) wt (.slice none 0 0) [] ∧ AnsR mkE (w.heap.size + 1 + 1 + 1) wt (.slice none 0 0) [])
      have HVI := Lib.hid (show VIn wt 4 ⟨#[]⟩ qo no co none 0 0 none 0 0 ⟨4, [], o, [], []⟩ from by
        obtain ⟨q1, c1, e, hR, -, hc1, hc2, hc3⟩ := HAt.out
        injection e with e1 e2 e3
        subst e1 e3
        have hnl := HNo.out
        exact ⟨rfl, by show (_ : Nat) ≤ 255; simp, rfl, hR, Rs.nil _ _ _, Rs.nil _ _ _, hnl, rfl, rfl, by omega, by omega, by omega, by omega, by omega, by omega, hc2, by omega, by omega, hc3, fun _ => rfl, fun _ => rfl⟩)
      have HSz := Lib.hid (show sizeN ⟨4, [], o, [], []⟩ = no from HNo.out)
      clear HFt HAt
      by_cases h0 : no = 0
      · have HD := Lib.hid (show fitV d = v0 by unfold fitV; simp [HK.out, HZr.out.1 h0])
        have t0 : ((no : Int) == 0) = true := by rw [beq_iff_eq]; omega
        clear h0
        have HCs := Lib.hid (show (Try.prog.info? 35).map (·.size) = some (#[.int .u8 4, .string ⟨#[]⟩, .slice qo no co, .slice none 0 0, .slice none 0 0] : Array Value).size from val_size)
        have HOn := Lib.hid (show (#[.int .u8 4, .string ⟨#[]⟩, .slice qo no co, .slice none 0 0, .slice none 0 0] : Array Value).all (·.oneCell') = true by simp [Value.oneCell'])
        have CS := Lib.hid (rsize 4 ⟨#[]⟩ qo no co none 0 0 none 0 0 ⟨4, [], o, [], []⟩ wt HVI.out)
        rw [HSz.out] at CS
        go_wp2_with (with_reducible refine wpList_load_row rfl 35 (.tmp 3) rfl (w.heap.size + 1 + 1) rfl 35 #[.int .u8 4, .string ⟨#[]⟩, .slice qo no co, .slice none 0 0, .slice none 0 0] (0, 0) _ HF.out.ou Try.underlying35 rfl HCs.out ?_)
        with_reducible refine CS.out.mono ?_
        rintro e w9 ⟨rfl, hb9⟩
        have HF9 := Lib.hid (HF.out.keep hb9)
        have HA1 := Lib.hid (HA.out.1.keep hb9)
        have HA2 := Lib.hid (HA.out.2.1.keep hb9)
        have HA3 := Lib.hid (HA.out.2.2.keep hb9)
        clear hb9 HF HA CS
        have HCs9 := Lib.hid (show (Try.prog.info? 35).map (·.size) = some (#[.int .u8 0, .string ⟨#[]⟩, .slice none 0 0, .slice none 0 0, .slice none 0 0] : Array Value).size from val_size)
        have HOn9 := Lib.hid (show (#[.int .u8 0, .string ⟨#[]⟩, .slice none 0 0, .slice none 0 0, .slice none 0 0] : Array Value).all (·.oneCell') = true by simp [Value.oneCell'])
        have HE := Lib.hid (show ValP (fitV d) w _ _ by
          rw [HD.out]
          exact fit_ends (S := ⟨#[]⟩) (k := 0) (d := v0) (base := w.heap.size + 1 + 1) (Nat.lt_succ_self _) HF9.out rfl rfl (ansR_nil strE _ _) (ansR_nil prE _ _) (ansR_nil mkE _ _))
        go_wp2_with (with_reducible refine wpList_store_row rfl 35 (.tmp 2) (.tmp 102) rfl (w.heap.size + 1) #[.int .u8 0, .string ⟨#[]⟩, .slice none 0 0, .slice none 0 0, .slice none 0 0] rfl rfl 35 _ HF9.out.re HCs9.out rfl HOn9.out ?_)
        exact bodyPost_ret (results_cell_row rfl _ _ (w.heap.size + 1) 35 #[.int .u8 0, .string ⟨#[]⟩, .slice none 0 0, .slice none 0 0, .slice none 0 0] (0, 0) _ rfl (setRow_heap _ (w.heap.size + 1) _ _ _ _ HF9.out.re) Try.underlying35 rfl HCs9.out) rfl HE.out
      · have HD := Lib.hid (show fitV d = ⟨4, [], o, [], []⟩ by
          unfold fitV
          have hne : d.l ≠ [] := fun h => h0 (HZr.out.2 h)
          rw [← HFe.out]
          simp [HK.out, hne])
        have t0 : ((no : Int) == 0) = false := by rw [beq_eq_false_iff_ne]; omega
        have HCs := Lib.hid (show (Try.prog.info? 35).map (·.size) = some (#[.int .u8 4, .string ⟨#[]⟩, .slice qo no co, .slice none 0 0, .slice none 0 0] : Array Value).size from val_size)
        have HOn := Lib.hid (show (#[.int .u8 4, .string ⟨#[]⟩, .slice qo no co, .slice none 0 0, .slice none 0 0] : Array Value).all (·.oneCell') = true by simp [Value.oneCell'])
        have CS := Lib.hid (rsize 4 ⟨#[]⟩ qo no co none 0 0 none 0 0 ⟨4, [], o, [], []⟩ wt HVI.out)
        rw [HSz.out] at CS
        go_wp2_with (with_reducible refine wpList_load_row rfl 35 (.tmp 3) rfl (w.heap.size + 1 + 1) rfl 35 #[.int .u8 4, .string ⟨#[]⟩, .slice qo no co, .slice none 0 0, .slice none 0 0] (0, 0) _ HF.out.ou Try.underlying35 rfl HCs.out ?_)
        with_reducible refine CS.out.mono ?_
        rintro e w9 ⟨rfl, hb9⟩
        have HF9 := Lib.hid (HF.out.keep hb9)
        have HA1 := Lib.hid (HA.out.1.keep hb9)
        have HA2 := Lib.hid (HA.out.2.1.keep hb9)
        have HA3 := Lib.hid (HA.out.2.2.keep hb9)
        clear hb9 HF HA CS
        have HCs9 := HCs
        have HOn9 := HOn
        have HE := Lib.hid (show ValP (fitV d) w _ _ by
          rw [HD.out]
          exact fit_ends (S := ⟨#[]⟩) (k := 4) (d := ⟨4, [], o, [], []⟩) (base := w.heap.size + 1 + 1 + 1) (by omega) HF9.out rfl rfl HA1.out HA2.out HA3.out)
        go_wp2_with (first
          | (with_reducible refine wpList_load_row rfl 35 (.tmp 3) rfl (w.heap.size + 1 + 1) rfl 35 #[.int .u8 4, .string ⟨#[]⟩, .slice qo no co, .slice none 0 0, .slice none 0 0] (0, 0) _ HF9.out.ou Try.underlying35 rfl HCs.out ?_)
          | (with_reducible refine wpList_store_row rfl 35 (.tmp 2) (.tmp 103) rfl (w.heap.size + 1) #[.int .u8 4, .string ⟨#[]⟩, .slice qo no co, .slice none 0 0, .slice none 0 0] rfl rfl 35 _ HF9.out.re HCs9.out rfl HOn9.out ?_))
        exact bodyPost_ret (results_cell_row rfl _ _ (w.heap.size + 1) 35 #[.int .u8 4, .string ⟨#[]⟩, .slice qo no co, .slice none 0 0, .slice none 0 0] (0, 0) _ rfl (setRow_heap _ (w.heap.size + 1) _ _ _ _ HF9.out.re) Try.underlying35 rfl HCs9.out) rfl HE.out

end Go.Proofs.Ytbcjgkedlapmhaa.RefV
