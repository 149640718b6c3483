/-
  The document's own answers of layer 9: a hash that is made to fit.
-/
import Derived.Test.YtbcjgkedlapmhaaRefVal8
namespace Go.Proofs.Ytbcjgkedlapmhaa.RefV
open Go.RowKit Kit StrT RowG BOrd ValT
open Go.Op (bytesLess)
set_option linter.unusedVariables false
set_option maxRecDepth 100000

set_option maxHeartbeats 8000000 in
theorem rfit_3 (k : Int) (S : ByteArray) (ql : Option Addr) (nl cl : Nat) (qh : Option Addr) (nh ch : Nat) (qz : Option Addr) (nz cz : Nat) (d : V) (w : World) (H : VArg w k S ql nl cl qh nh ch qz nz cz d) (hS : S.size ≤ 140737488351232) (hk : d.kind % 6 = 3) :
    Calls Try.prog 25 #[.agg #[.int .u8 k, .string S, .slice ql nl cl, .slice qh nh ch, .slice qz nz cz]] w (ValP (fitV d) w) := by
  have HV := Lib.hid H
  have HK := Lib.hid hk
  have HFB := Lib.hid (FB.new w #[.int .u8 k, .string S, .slice ql nl cl, .slice qh nh ch, .slice qz nz cz] #[.int .u8 0, .string ⟨#[]⟩, .slice none 0 0, .slice none 0 0, .slice none 0 0] #[.int .u8 0, .string ⟨#[]⟩, .slice none 0 0, .slice none 0 0, .slice none 0 0])
  obtain ⟨m, hm⟩ : ∃ m, m = min nl 8 := ⟨_, rfl⟩
  have hmin : min (nl : Int) 8 = (m : Int) := by omega
  have hmc : m ≤ cl := by have := H.bl; omega
  have hml := H.ml
  have hfl := Nat.le_trans H.bl H.ml
  have hfh := Nat.le_trans H.bh H.mh
  have hfz := Nat.le_trans H.bz H.mz
  have x1 : (k % 6 == 1) = false := by rw [H.ek, beq_eq_false_iff_ne]; omega
  have x2 : (k % 6 == 2) = false := by rw [H.ek, beq_eq_false_iff_ne]; omega
  have x3 : (k % 6 == 3) = true := by rw [H.ek, beq_iff_eq]; omega
  have x4 : (k % 6 == 4) = false := by rw [H.ek, beq_eq_false_iff_ne]; omega
  have x5 : (k % 6 == 5) = false := by rw [H.ek, beq_eq_false_iff_ne]; omega
  have hk0 : 0 ≤ k := by rw [H.ek]; omega
  have hk1 : k ≤ 255 := by rw [H.ek]; have := H.kb; omega
  have HM := Lib.hid hm
  obtain ⟨M, hM8⟩ : ∃ M, M = min nh 8 := ⟨_, rfl⟩
  have HTl := Lib.hid (show (d.h.take 8).length = M by rw [List.length_take, H.lh, hM8]; omega)
  have hM9 : M ≤ 8 := by omega
  have HMn := Lib.hid (show M = min nh 8 from hM8)
  have HNz := Lib.hid (show d.h = [] ↔ M = 0 by
    have h1 := H.lh
    constructor
    · intro h
      rw [h] at h1
      simp at h1
      omega
    · intro h
      exact List.eq_nil_of_length_eq_zero (by omega))
  have HSt := Lib.hid (fun k (h : k < (d.h.take 8).length) => fold_take putP [] (d.h.take 8) k h)
  clear H hm hk hM8
  go_enter Try.func25, Try.ntmps25
  go_upto_region 16 with fail
  generalize (((w.alloc _).alloc _).alloc _) = w3 at HFB ⊢
  go_wp2_with fail
  go_loopw [6] (fun i wr => ∃ (k9 no co : Nat) (o : List (Pr)) (qo : Option Addr), k9 ≤ M ∧ i = .int .i64 k9 ∧ no ≤ k9 ∧ Hid (List.foldl putP [] ((d.h.take 8).take k9) = o) ∧ Hid (rises (names o)) ∧ Hid (o.length = no) ∧ Hid (FB w wr #[.int .u8 k, .string S, .slice ql nl cl, .slice qh nh ch, .slice qz nz cz] #[.int .u8 0, .string ⟨#[]⟩, .slice none 0 0, .slice none 0 0, .slice none 0 0] #[.int .u8 0, .string ⟨#[]⟩, .slice none 0 0, .slice qo no co, .slice none 0 0]) ∧ Hid (AnsR prE (w.heap.size + 1 + 1 + 1) wr (.slice qo no co) o)) (fun i _ => M - (intOf i).toNat)
  case atStart => exact ⟨0, 0, 0, [], none, Nat.zero_le _, rfl, Nat.le_refl _, Lib.hid rfl, Lib.hid List.Pairwise.nil, Lib.hid rfl, HFB, Lib.hid (ansR_nil prE _ _)⟩
  case round =>
    clear HFB
    obtain ⟨k9, no, co, o, qo, hk9, rfl, hno, HFo, HIn, HNo, HF, HAo⟩ := hrel
    by_cases hlt : k9 < M
    · have hk90 : (0 : Int) ≤ (k9 : Int) := by omega
      have d1 : decide ((k9 : Int) < (nh : Int)) = true := decide_eq_true (by have := HMn.out; omega)
      have d2 : decide ((k9 : Int) < 8) = true := decide_eq_true (by omega)
      have hkn : (k9 : Int) < (nh : Int) := by have := HMn.out; omega
      obtain ⟨b, off, e1, hbl, u0, u1⟩ := pair_cells ((HV.out.rh.keep HF.out.bl).take 8) k9 (by rw [HTl.out]; exact hlt)
      have HStk := Lib.hid (HSt.out k9 (by rw [HTl.out]; exact hlt))
      rw [HFo.out] at HStk
      obtain ⟨t, ht⟩ : ∃ t, t = (d.h.take 8)[k9]'(by rw [HTl.out]; exact hlt) := ⟨_, rfl⟩
      rw [← ht] at HStk u0 u1
      subst e1
      obtain ⟨tn, tv⟩ := t
      simp only at u0 u1
      obtain ⟨T, hT⟩ : ∃ T : ByteArray, T = ⟨tn.toArray⟩ := ⟨_, rfl⟩
      obtain ⟨T2, hT2⟩ : ∃ T : ByteArray, T = ⟨tv.toArray⟩ := ⟨_, rfl⟩
      rw [← hT] at u0
      rw [← hT2] at u1
      have hz9 : no ≤ 500000 := Nat.le_trans (Nat.le_trans hno hk9) (Nat.le_trans hM9 (by decide))
      have CP := Lib.hid (show Calls Try.prog 44 #[.slice qo no co, .agg #[.string T, .string T2]] wr.drew (PairsA (putP o ⟨tn, tv⟩) wr.drew) from by
        obtain ⟨q1, c1, e, hR, -⟩ := HAo.out
        injection e with e1 e2 e3
        rw [← e1] at hR
        clear e1 e2 e3
        exact rputp qo o no co T T2 ⟨tn, tv⟩ wr.drew HNo.out (hR.keep (Below.refl wr.heap.size wr).drew) hz9 (by rw [hT]) (by rw [hT2]))
      clear hT hT2 ht hbl
      have HIs := Lib.hid ((putP_inv) ⟨tn, tv⟩ HIn.out)
      have HLs := Lib.hid (putP_len ⟨tn, tv⟩ HIn.out)
      have c3 : wr.cell? ⟨w.heap.size + 1 + 1, 3, none⟩ = some (.slice qo no co) := by rw [cell_of_row _ _ _ _ 35 _ HF.out.ou]; rfl
      have x3 : wr.cell? ⟨w.heap.size, 3, none⟩ = some (.slice (some ⟨b, off, none⟩) nh ch) := by rw [cell_of_row _ _ _ _ 35 _ HF.out.bx]; rfl
      go_wp2_with fail
      go_region_law (first
        | (go_simp; (with_reducible refine CP.out.mono ?_); rintro e w5 ⟨v, rfl, ⟨qv, cv, rfl, hR⟩, hb5⟩; dsimp only
           have hb6 : Below wr.heap.size wr w5 := (Below.refl wr.heap.size wr).drew.trans hb5
           have HF5 := Lib.hid (HF.out.keep hb6)
           generalize hn5 : (putP o ⟨tn, tv⟩).length = n5 at ⊢
           have HN5 := Lib.hid hn5
           have HA5 := Lib.hid (show AnsR prE (w.heap.size + 1 + 1 + 1) w5 (.slice qv n5 cv) (putP o ⟨tn, tv⟩) from (show AnsR prE wr.drew.heap.size w5 (.slice qv n5 cv) (putP o ⟨tn, tv⟩) from ⟨qv, cv, by rw [hn5], hR⟩).low (by have := HF.out.sz; show w.heap.size + 1 + 1 + 1 ≤ wr.heap.size; omega))
           clear hn5
           have y3 : w5.cell? ⟨w.heap.size + 1 + 1, 3, none⟩ = some (.slice qo no co) := by rw [cell_of_row _ _ _ _ 35 _ HF5.out.ou]; rfl
           have g3 : w5.frozen? ⟨w.heap.size + 1 + 1, 3, none⟩ = false := frozen_of_row _ _ _ _ 35 HF5.out.ou
           clear hR hb5 hb6))
      all_goals
        have HF6 := Lib.hid (show FB w (w5.setCell ⟨w.heap.size + 1 + 1, 3, none⟩ (.slice qv n5 cv)) _ _ #[.int .u8 0, .string ⟨#[]⟩, .slice none 0 0, .slice qv n5 cv, .slice none 0 0] from HF5.out.put 3 (.slice qv n5 cv))
        have HA6 := Lib.hid (show AnsR prE (w.heap.size + 1 + 1 + 1) (w5.setCell ⟨w.heap.size + 1 + 1, 3, none⟩ (.slice qv n5 cv)) (.slice qv n5 cv) (putP o ⟨tn, tv⟩) from ansR_put HA5.out (by show w.heap.size + 1 + 1 < _; omega))
        have hn6 : n5 ≤ k9 + 1 := by have h1 := HN5.out; have h2 := HLs.out; have h3 := HNo.out; omega
        clear y3 g3 HF5 HA5 c3 x3 u0 u1 CP HF HAo
        go_wp2_with fail
        go_roundw
        case rel => exact ⟨k9 + 1, n5, cv, _, qv, hlt, by go_num, hn6, HStk, HIs, HN5, HF6, HA6⟩
        case measure => simp [intOf]; omega
    · have HFe := Lib.hid (show fitH d.h = o by
        have h := HFo.out
        rw [List.take_of_length_le (by rw [HTl.out]; omega)] at h
        exact h)
      have c0 : wr.cell? ⟨w.heap.size + 1 + 1, 0, none⟩ = some (.int .u8 0) := by rw [cell_of_row _ _ _ _ 35 _ HF.out.ou]; rfl
      have f0 : wr.frozen? ⟨w.heap.size + 1 + 1, 0, none⟩ = false := frozen_of_row _ _ _ _ 35 HF.out.ou
      have z3 : wr.cell? ⟨w.heap.size, 3, none⟩ = some (.slice qh nh ch) := by rw [cell_of_row _ _ _ _ 35 _ HF.out.bx]; rfl
      have HFt := Lib.hid (show FB w (wr.setCell ⟨w.heap.size + 1 + 1, 0, none⟩ (.int .u8 3)) _ _ #[.int .u8 3, .string ⟨#[]⟩, .slice none 0 0, .slice qo no co, .slice none 0 0] from HF.out.put 0 (.int .u8 3))
      have HAt := Lib.hid (show AnsR prE (w.heap.size + 1 + 1 + 1) (wr.setCell ⟨w.heap.size + 1 + 1, 0, none⟩ (.int .u8 3)) (.slice qo no co) o from ansR_put HAo.out (by show w.heap.size + 1 + 1 < _; omega))
      have HZr := Lib.hid (show no = 0 ↔ d.h = [] by
        have h1 := HNo.out
        have h2 := HFe.out
        constructor
        · intro h
          refine Classical.byContradiction fun hne => ?_
          have h3 := (foldP_rises (d.h.take 8) [] List.Pairwise.nil).2 (Or.inl (take8_ne hne))
          apply h3
          show fitH d.h = []
          rw [h2]
          exact List.eq_nil_of_length_eq_zero (by omega)
        · intro h
          rw [h] at h2
          rw [← h1, ← h2]
          rfl)
      have dw : (¬ (k9 : Int) < (nh : Int) ∧ decide ((k9 : Int) < (nh : Int)) = false) ∨ ((k9 : Int) < (nh : Int) ∧ ¬ (k9 : Int) < 8 ∧ decide ((k9 : Int) < (nh : Int)) = true ∧ decide ((k9 : Int) < 8) = false) := by
        have := HMn.out
        by_cases h : (k9 : Int) < (nh : Int)
        · have h8 : ¬ (k9 : Int) < 8 := by omega
          exact Or.inr ⟨h, h8, decide_eq_true h, decide_eq_false h8⟩
        · exact Or.inl ⟨h, decide_eq_false h⟩
      clear HFo HIn HF HAo HSt
      rcases dw with ⟨d0, d1⟩ | ⟨d0, d8, d1, d2⟩
      all_goals
        go_upto_region 27 with fail
        generalize (wr.setCell _ _) = wt at HFt HAt ⊢
        have HF := HFt
        have HA := Lib.hid (⟨ansR_nil strE _ wt, HAt.out, ansR_nil mkE _ wt⟩ : AnsR strE (w.heap.size + 1 + 1 + 1) wt (.slice none 0 0) [] ∧ AnsR prE (w.heap.size + 1 + 1 + 1) wt (.slice qo no co) o ∧ AnsR mkE (w.heap.size + 1 + 1 + 1) wt (.slice none 0 0) [])
        have HVI := Lib.hid (show VIn wt 3 ⟨#[]⟩ none 0 0 qo no co none 0 0 ⟨3, [], [], o, []⟩ from by
          obtain ⟨q1, c1, e, hR, -, hc1, hc2, hc3⟩ := HAt.out
          injection e with e1 e2 e3
          subst e1 e3
          have hnl := HNo.out
          exact ⟨rfl, by show (_ : Nat) ≤ 255; simp, rfl, Rs.nil _ _ _, hR, Rs.nil _ _ _, rfl, hnl, rfl, by omega, by omega, by omega, by omega, by omega, by omega, by omega, hc2, by omega, fun _ => rfl, hc3, fun _ => rfl⟩)
        have HSz := Lib.hid (show sizeN ⟨3, [], [], o, []⟩ = no from HNo.out)
        clear HFt HAt
        by_cases h0 : no = 0
        · have HD := Lib.hid (show fitV d = v0 by unfold fitV; simp [HK.out, HZr.out.1 h0])
          have t0 : ((no : Int) == 0) = true := by rw [beq_iff_eq]; omega
          clear h0
          have HCs := Lib.hid (show (Try.prog.info? 35).map (·.size) = some (#[.int .u8 3, .string ⟨#[]⟩, .slice none 0 0, .slice qo no co, .slice none 0 0] : Array Value).size from val_size)
          have HOn := Lib.hid (show (#[.int .u8 3, .string ⟨#[]⟩, .slice none 0 0, .slice qo no co, .slice none 0 0] : Array Value).all (·.oneCell') = true by simp [Value.oneCell'])
          have CS := Lib.hid (rsize 3 ⟨#[]⟩ none 0 0 qo no co none 0 0 ⟨3, [], [], o, []⟩ wt HVI.out)
          rw [HSz.out] at CS
          go_wp2_with (with_reducible refine wpList_load_row rfl 35 (.tmp 3) rfl (w.heap.size + 1 + 1) rfl 35 #[.int .u8 3, .string ⟨#[]⟩, .slice none 0 0, .slice qo no co, .slice none 0 0] (0, 0) _ HF.out.ou Try.underlying35 rfl HCs.out ?_)
          with_reducible refine CS.out.mono ?_
          rintro e w9 ⟨rfl, hb9⟩
          have HF9 := Lib.hid (HF.out.keep hb9)
          have HA1 := Lib.hid (HA.out.1.keep hb9)
          have HA2 := Lib.hid (HA.out.2.1.keep hb9)
          have HA3 := Lib.hid (HA.out.2.2.keep hb9)
          clear hb9 HF HA CS
          have HCs9 := Lib.hid (show (Try.prog.info? 35).map (·.size) = some (#[.int .u8 0, .string ⟨#[]⟩, .slice none 0 0, .slice none 0 0, .slice none 0 0] : Array Value).size from val_size)
          have HOn9 := Lib.hid (show (#[.int .u8 0, .string ⟨#[]⟩, .slice none 0 0, .slice none 0 0, .slice none 0 0] : Array Value).all (·.oneCell') = true by simp [Value.oneCell'])
          have HE := Lib.hid (show ValP (fitV d) w _ _ by
            rw [HD.out]
            exact fit_ends (S := ⟨#[]⟩) (k := 0) (d := v0) (base := w.heap.size + 1 + 1) (Nat.lt_succ_self _) HF9.out rfl rfl (ansR_nil strE _ _) (ansR_nil prE _ _) (ansR_nil mkE _ _))
          go_wp2_with (with_reducible refine wpList_store_row rfl 35 (.tmp 2) (.tmp 102) rfl (w.heap.size + 1) #[.int .u8 0, .string ⟨#[]⟩, .slice none 0 0, .slice none 0 0, .slice none 0 0] rfl rfl 35 _ HF9.out.re HCs9.out rfl HOn9.out ?_)
          exact bodyPost_ret (results_cell_row rfl _ _ (w.heap.size + 1) 35 #[.int .u8 0, .string ⟨#[]⟩, .slice none 0 0, .slice none 0 0, .slice none 0 0] (0, 0) _ rfl (setRow_heap _ (w.heap.size + 1) _ _ _ _ HF9.out.re) Try.underlying35 rfl HCs9.out) rfl HE.out
        · have HD := Lib.hid (show fitV d = ⟨3, [], [], o, []⟩ by
            unfold fitV
            have hne : d.h ≠ [] := fun h => h0 (HZr.out.2 h)
            rw [← HFe.out]
            simp [HK.out, hne])
          have t0 : ((no : Int) == 0) = false := by rw [beq_eq_false_iff_ne]; omega
          have HCs := Lib.hid (show (Try.prog.info? 35).map (·.size) = some (#[.int .u8 3, .string ⟨#[]⟩, .slice none 0 0, .slice qo no co, .slice none 0 0] : Array Value).size from val_size)
          have HOn := Lib.hid (show (#[.int .u8 3, .string ⟨#[]⟩, .slice none 0 0, .slice qo no co, .slice none 0 0] : Array Value).all (·.oneCell') = true by simp [Value.oneCell'])
          have CS := Lib.hid (rsize 3 ⟨#[]⟩ none 0 0 qo no co none 0 0 ⟨3, [], [], o, []⟩ wt HVI.out)
          rw [HSz.out] at CS
          go_wp2_with (with_reducible refine wpList_load_row rfl 35 (.tmp 3) rfl (w.heap.size + 1 + 1) rfl 35 #[.int .u8 3, .string ⟨#[]⟩, .slice none 0 0, .slice qo no co, .slice none 0 0] (0, 0) _ HF.out.ou Try.underlying35 rfl HCs.out ?_)
          with_reducible refine CS.out.mono ?_
          rintro e w9 ⟨rfl, hb9⟩
          have HF9 := Lib.hid (HF.out.keep hb9)
          have HA1 := Lib.hid (HA.out.1.keep hb9)
          have HA2 := Lib.hid (HA.out.2.1.keep hb9)
          have HA3 := Lib.hid (HA.out.2.2.keep hb9)
          clear hb9 HF HA CS
          have HCs9 := HCs
          have HOn9 := HOn
          have HE := Lib.hid (show ValP (fitV d) w _ _ by
            rw [HD.out]
            exact fit_ends (S := ⟨#[]⟩) (k := 3) (d := ⟨3, [], [], o, []⟩) (base := w.heap.size + 1 + 1 + 1) (by omega) HF9.out rfl rfl HA1.out HA2.out HA3.out)
          go_wp2_with (first
            | (with_reducible refine wpList_load_row rfl 35 (.tmp 3) rfl (w.heap.size + 1 + 1) rfl 35 #[.int .u8 3, .string ⟨#[]⟩, .slice none 0 0, .slice qo no co, .slice none 0 0] (0, 0) _ HF9.out.ou Try.underlying35 rfl HCs.out ?_)
            | (with_reducible refine wpList_store_row rfl 35 (.tmp 2) (.tmp 103) rfl (w.heap.size + 1) #[.int .u8 3, .string ⟨#[]⟩, .slice none 0 0, .slice qo no co, .slice none 0 0] rfl rfl 35 _ HF9.out.re HCs9.out rfl HOn9.out ?_))
          exact bodyPost_ret (results_cell_row rfl _ _ (w.heap.size + 1) 35 #[.int .u8 3, .string ⟨#[]⟩, .slice none 0 0, .slice qo no co, .slice none 0 0] (0, 0) _ rfl (setRow_heap _ (w.heap.size + 1) _ _ _ _ HF9.out.re) Try.underlying35 rfl HCs9.out) rfl HE.out

end Go.Proofs.Ytbcjgkedlapmhaa.RefV
