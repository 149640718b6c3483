/-
  The landed code of layer 9: whether two rows are the same (slices.Equal), whether two values are.
-/
import Derived.Test.YtbcjgkedlapmhaaRefVal3
namespace Go.Proofs.Ytbcjgkedlapmhaa.ValM
open Go.RowKit Kit StrT RowG BOrd ValT RefV
set_option linter.unusedVariables false
set_option maxRecDepth 100000

set_option maxHeartbeats 4000000 in
theorem eq_s (q r : Option Addr) (X Y : List (List UInt8)) (n m c d : Nat) (w : World) (hX : X.length = n) (hY : Y.length = m) (h1 : Rs strE w q X) (h2 : Rs strE w r Y) (hn : n ≤ 1048576) (hm : m ≤ 1048576) :
    Calls Try.prog 49 #[.slice q n c, .slice r m d] w fun e w' => e = .returned (.bool (decide (X = Y))) ∧ Below w.heap.size w w' := by
  have HX := Lib.hid hX
  have HY := Lib.hid hY
  have H1 := Lib.hid h1
  have H2 := Lib.hid h2
  clear h1 h2
  by_cases hnm : n = m
  rotate_left
  · have t1 : ((n : Int) != (m : Int)) = true := by rw [bne_iff_ne]; omega
    have HF := Lib.hid (show decide (X = Y) = false from decide_eq_false (by rintro rfl; omega))
    clear hX hY
    go_enter Try.func49, Try.ntmps49
    go_wp2_with fail
    go_ret
    exact ⟨ret_bool HF.out.symm, Below.refl _ _⟩
  subst hnm
  have t1 : ((n : Int) != (n : Int)) = false := bne_self_eq_false _
  clear hX hY
  go_enter Try.func49, Try.ntmps49
  go_wp2_with fail
  go_loopw [13] (fun i wr => ∃ k : Nat, k ≤ n ∧ i = .int .i64 k ∧ Below w.heap.size w wr ∧ Hid (X.take k = Y.take k)) (fun i _ => n - (intOf i).toNat)
  case atStart => exact ⟨0, Nat.zero_le _, rfl, Below.refl _ _, Lib.hid rfl⟩
  case round =>
    obtain ⟨k, hk, rfl, hb, HR⟩ := hrel
    by_cases hlt : k < n
    · have d1 : decide ((k : Int) < (n : Int)) = true := decide_eq_true (by omega)
      have hk0 : (0 : Int) ≤ (k : Int) := by omega
      have hkn : (k : Int) < (n : Int) := by omega
      have hkx : k < X.length := by rw [HX.out]; exact hlt
      have hky : k < Y.length := by rw [HY.out]; exact hlt
      obtain ⟨b, off, rfl, hbl, u0⟩ := ss_at (rs_ss.1 (H1.out.keep hb)) k hkx
      obtain ⟨b2, off2, rfl, hbl2, v0⟩ := ss_at (rs_ss.1 (H2.out.keep hb)) k hky
      have HNe := Lib.hid (show X[k] ≠ Y[k] → decide (X = Y) = false from fun hne => decide_eq_false (by rintro rfl; exact hne rfl))
      have HYe := Lib.hid (show X[k] = Y[k] → X.take (k + 1) = Y.take (k + 1) from fun h => take_ext k hkx hky HR.out h)
      obtain ⟨x, hx⟩ : ∃ x : (List UInt8), x = X[k] := ⟨_, rfl⟩
      obtain ⟨y, hy⟩ : ∃ y : (List UInt8), y = Y[k] := ⟨_, rfl⟩
      rw [← hx] at u0 HNe HYe
      rw [← hy] at v0 HNe HYe
      clear hx hy hkx hky hbl hbl2 HR
      by_cases he : x = y
      · have HG := Lib.hid (HYe.out he)
        subst he
        obtain ⟨S, hS⟩ : ∃ S : ByteArray, S = ⟨x.toArray⟩ := ⟨_, rfl⟩
        rw [← hS] at u0 v0
        clear hS HNe HYe
        go_wp2_with fail
        go_quiet (fail)
        have hbq := drewN_below hb nq
        clear hb u0 v0
        generalize wr.drewN nq = wq at hbq ⊢
        go_wp2_with fail
        go_roundw
        case rel => exact ⟨k + 1, by omega, by go_num, hbq, HG⟩
        case measure => simp [intOf]; omega
      · have HF := Lib.hid (HNe.out he)
        obtain ⟨S, hS⟩ : ∃ S : ByteArray, S = ⟨x.toArray⟩ := ⟨_, rfl⟩
        obtain ⟨T, hT⟩ : ∃ T : ByteArray, T = ⟨y.toArray⟩ := ⟨_, rfl⟩
        rw [← hS] at u0
        rw [← hT] at v0
        have hE : (S.toList == T.toList) = false := by rw [hS, hT, ByteArray.toList_eq, ByteArray.toList_eq]; exact beq_eq_false_iff_ne.2 he
        have hE2 : (S.toList != T.toList) = true := by rw [bne, hE]; rfl
        have hE3 : ¬ S = T := fun e => by rw [e, beq_self_eq_true] at hE; cases hE
        clear hS hT HNe HYe he
        go_wp2_with fail
        go_quiet (fail)
        have hbq := drewN_below hb nq
        clear hb u0 v0
        generalize wr.drewN nq = wq at hbq ⊢
        go_wp2_with fail
        go_ret
        exact ⟨ret_bool HF.out.symm, hbq⟩
    · have d1 : decide ((k : Int) < (n : Int)) = false := decide_eq_false (by omega)
      have HF := Lib.hid (show decide (X = Y) = true from decide_eq_true (by
        have h := HR.out
        rwa [List.take_of_length_le (by rw [HX.out]; omega), List.take_of_length_le (by rw [HY.out]; omega)] at h))
      go_wp2_with fail
      go_ret
      exact ⟨ret_bool HF.out.symm, hb⟩

set_option maxHeartbeats 4000000 in
theorem eq_p (q r : Option Addr) (X Y : List Pr) (n m c d : Nat) (w : World) (hX : X.length = n) (hY : Y.length = m) (h1 : Rs prE w q X) (h2 : Rs prE w r Y) (hn : n ≤ 1048576) (hm : m ≤ 1048576) :
    Calls Try.prog 50 #[.slice q n c, .slice r m d] w fun e w' => e = .returned (.bool (decide (X = Y))) ∧ Below w.heap.size w w' := by
  have HX := Lib.hid hX
  have HY := Lib.hid hY
  have H1 := Lib.hid h1
  have H2 := Lib.hid h2
  clear h1 h2
  by_cases hnm : n = m
  rotate_left
  · have t1 : ((n : Int) != (m : Int)) = true := by rw [bne_iff_ne]; omega
    have HF := Lib.hid (show decide (X = Y) = false from decide_eq_false (by rintro rfl; omega))
    clear hX hY
    go_enter Try.func50, Try.ntmps50
    go_wp2_with fail
    go_ret
    exact ⟨ret_bool HF.out.symm, Below.refl _ _⟩
  subst hnm
  have t1 : ((n : Int) != (n : Int)) = false := bne_self_eq_false _
  clear hX hY
  go_enter Try.func50, Try.ntmps50
  go_wp2_with fail
  go_loopw [13] (fun i wr => ∃ k : Nat, k ≤ n ∧ i = .int .i64 k ∧ Below w.heap.size w wr ∧ Hid (X.take k = Y.take k)) (fun i _ => n - (intOf i).toNat)
  case atStart => exact ⟨0, Nat.zero_le _, rfl, Below.refl _ _, Lib.hid rfl⟩
  case round =>
    obtain ⟨k, hk, rfl, hb, HR⟩ := hrel
    by_cases hlt : k < n
    · have d1 : decide ((k : Int) < (n : Int)) = true := decide_eq_true (by omega)
      have hk0 : (0 : Int) ≤ (k : Int) := by omega
      have hkn : (k : Int) < (n : Int) := by omega
      have hkx : k < X.length := by rw [HX.out]; exact hlt
      have hky : k < Y.length := by rw [HY.out]; exact hlt
      obtain ⟨b, off, rfl, hbl, u0, u1⟩ := pair_cells (H1.out.keep hb) k hkx
      obtain ⟨b2, off2, rfl, hbl2, v0, v1⟩ := pair_cells (H2.out.keep hb) k hky
      have HNe := Lib.hid (show X[k] ≠ Y[k] → decide (X = Y) = false from fun hne => decide_eq_false (by rintro rfl; exact hne rfl))
      have HYe := Lib.hid (show X[k] = Y[k] → X.take (k + 1) = Y.take (k + 1) from fun h => take_ext k hkx hky HR.out h)
      obtain ⟨x, hx⟩ : ∃ x : Pr, x = X[k] := ⟨_, rfl⟩
      obtain ⟨y, hy⟩ : ∃ y : Pr, y = Y[k] := ⟨_, rfl⟩
      rw [← hx] at u0 u1 HNe HYe
      rw [← hy] at v0 v1 HNe HYe
      obtain ⟨xk, xv⟩ := x
      obtain ⟨yk, yv⟩ := y
      simp only at u0 u1 v0 v1
      clear hx hy hkx hky hbl hbl2 HR
      by_cases he : (⟨xk, xv⟩ : Pr) = ⟨yk, yv⟩
      · have HG := Lib.hid (HYe.out he)
        injection he with e1 e2
        subst e1 e2
        obtain ⟨T, hT⟩ : ∃ T : ByteArray, T = ⟨xk.toArray⟩ := ⟨_, rfl⟩
        rw [← hT] at u0 v0
        obtain ⟨T2, hT2⟩ : ∃ T : ByteArray, T = ⟨xv.toArray⟩ := ⟨_, rfl⟩
        rw [← hT2] at u1 v1
        clear hT hT2 HNe HYe
        go_wp2_with fail
        go_quiet (fail)
        have hbq := drewN_below hb nq
        clear hb u0 u1 v0 v1
        generalize wr.drewN nq = wq at hbq ⊢
        go_wp2_with fail
        go_roundw
        case rel => exact ⟨k + 1, by omega, by go_num, hbq, HG⟩
        case measure => simp [intOf]; omega
      · have HF := Lib.hid (HNe.out he)
        obtain ⟨S, hS⟩ : ∃ S : ByteArray, S = ⟨xk.toArray⟩ := ⟨_, rfl⟩
        obtain ⟨T, hT⟩ : ∃ T : ByteArray, T = ⟨yk.toArray⟩ := ⟨_, rfl⟩
        rw [← hS] at u0
        rw [← hT] at v0
        obtain ⟨S3, hS3⟩ : ∃ S : ByteArray, S = ⟨xv.toArray⟩ := ⟨_, rfl⟩
        obtain ⟨T3, hT3⟩ : ∃ T : ByteArray, T = ⟨yv.toArray⟩ := ⟨_, rfl⟩
        rw [← hS3] at u1
        rw [← hT3] at v1
        by_cases hk : xk = yk
        · subst hk
          obtain rfl : S = T := by rw [hS, hT]
          have hv : xv ≠ yv := fun h => he (by rw [h])
          have hE : (S3.toList == T3.toList) = false := by rw [hS3, hT3, ByteArray.toList_eq, ByteArray.toList_eq]; exact beq_eq_false_iff_ne.2 hv
          have hE2 : (S3.toList != T3.toList) = true := by rw [bne, hE]; rfl
          have hE3 : ¬ S3 = T3 := fun e => by rw [e, beq_self_eq_true] at hE; cases hE
          clear hS hT hS3 hT3 HNe HYe he hv
          go_wp2_with fail
          go_quiet (fail)
          have hbq := drewN_below hb nq
          clear hb u0 u1 v0 v1
          generalize wr.drewN nq = wq at hbq ⊢
          go_wp2_with fail
          go_ret
          exact ⟨ret_bool HF.out.symm, hbq⟩
        · have hE : (S.toList == T.toList) = false := by rw [hS, hT, ByteArray.toList_eq, ByteArray.toList_eq]; exact beq_eq_false_iff_ne.2 hk
          have hE2 : (S.toList != T.toList) = true := by rw [bne, hE]; rfl
          have hE3 : ¬ S = T := fun e => by rw [e, beq_self_eq_true] at hE; cases hE
          clear hS hT hS3 hT3 HNe HYe he hk
          go_wp2_with fail
          go_quiet (fail)
          have hbq := drewN_below hb nq
          clear hb u0 u1 v0 v1
          generalize wr.drewN nq = wq at hbq ⊢
          go_wp2_with fail
          go_ret
          exact ⟨ret_bool HF.out.symm, hbq⟩
    · have d1 : decide ((k : Int) < (n : Int)) = false := decide_eq_false (by omega)
      have HF := Lib.hid (show decide (X = Y) = true from decide_eq_true (by
        have h := HR.out
        rwa [List.take_of_length_le (by rw [HX.out]; omega), List.take_of_length_le (by rw [HY.out]; omega)] at h))
      go_wp2_with fail
      go_ret
      exact ⟨ret_bool HF.out.symm, hb⟩

set_option maxHeartbeats 4000000 in
theorem eq_m (q r : Option Addr) (X Y : List Mk) (n m c d : Nat) (w : World) (hX : X.length = n) (hY : Y.length = m) (h1 : Rs mkE w q X) (h2 : Rs mkE w r Y) (hn : n ≤ 1048576) (hm : m ≤ 1048576) :
    Calls Try.prog 51 #[.slice q n c, .slice r m d] w fun e w' => e = .returned (.bool (decide (X = Y))) ∧ Below w.heap.size w w' := by
  have HX := Lib.hid hX
  have HY := Lib.hid hY
  have H1 := Lib.hid h1
  have H2 := Lib.hid h2
  clear h1 h2
  by_cases hnm : n = m
  rotate_left
  · have t1 : ((n : Int) != (m : Int)) = true := by rw [bne_iff_ne]; omega
    have HF := Lib.hid (show decide (X = Y) = false from decide_eq_false (by rintro rfl; omega))
    clear hX hY
    go_enter Try.func51, Try.ntmps51
    go_wp2_with fail
    go_ret
    exact ⟨ret_bool HF.out.symm, Below.refl _ _⟩
  subst hnm
  have t1 : ((n : Int) != (n : Int)) = false := bne_self_eq_false _
  clear hX hY
  go_enter Try.func51, Try.ntmps51
  go_wp2_with fail
  go_loopw [13] (fun i wr => ∃ k : Nat, k ≤ n ∧ i = .int .i64 k ∧ Below w.heap.size w wr ∧ Hid (X.take k = Y.take k)) (fun i _ => n - (intOf i).toNat)
  case atStart => exact ⟨0, Nat.zero_le _, rfl, Below.refl _ _, Lib.hid rfl⟩
  case round =>
    obtain ⟨k, hk, rfl, hb, HR⟩ := hrel
    by_cases hlt : k < n
    · have d1 : decide ((k : Int) < (n : Int)) = true := decide_eq_true (by omega)
      have hk0 : (0 : Int) ≤ (k : Int) := by omega
      have hkn : (k : Int) < (n : Int) := by omega
      have hkx : k < X.length := by rw [HX.out]; exact hlt
      have hky : k < Y.length := by rw [HY.out]; exact hlt
      obtain ⟨b, off, rfl, hbl, u0, u1⟩ := mark_cells (H1.out.keep hb) k hkx
      obtain ⟨b2, off2, rfl, hbl2, v0, v1⟩ := mark_cells (H2.out.keep hb) k hky
      have HNe := Lib.hid (show X[k] ≠ Y[k] → decide (X = Y) = false from fun hne => decide_eq_false (by rintro rfl; exact hne rfl))
      have HYe := Lib.hid (show X[k] = Y[k] → X.take (k + 1) = Y.take (k + 1) from fun h => take_ext k hkx hky HR.out h)
      obtain ⟨x, hx⟩ : ∃ x : Mk, x = X[k] := ⟨_, rfl⟩
      obtain ⟨y, hy⟩ : ∃ y : Mk, y = Y[k] := ⟨_, rfl⟩
      rw [← hx] at u0 u1 HNe HYe
      rw [← hy] at v0 v1 HNe HYe
      obtain ⟨xk, xv⟩ := x
      obtain ⟨yk, yv⟩ := y
      simp only at u0 u1 v0 v1
      clear hx hy hkx hky hbl hbl2 HR
      by_cases he : (⟨xk, xv⟩ : Mk) = ⟨yk, yv⟩
      · have HG := Lib.hid (HYe.out he)
        injection he with e1 e2
        subst e1 e2
        obtain ⟨T, hT⟩ : ∃ T : ByteArray, T = ⟨xk.toArray⟩ := ⟨_, rfl⟩
        rw [← hT] at u0 v0
        clear hT HNe HYe
        go_wp2_with fail
        go_quiet (fail)
        have hbq := drewN_below hb nq
        clear hb u0 u1 v0 v1
        generalize wr.drewN nq = wq at hbq ⊢
        go_wp2_with fail
        go_roundw
        case rel => exact ⟨k + 1, by omega, by go_num, hbq, HG⟩
        case measure => simp [intOf]; omega
      · have HF := Lib.hid (HNe.out he)
        obtain ⟨S, hS⟩ : ∃ S : ByteArray, S = ⟨xk.toArray⟩ := ⟨_, rfl⟩
        obtain ⟨T, hT⟩ : ∃ T : ByteArray, T = ⟨yk.toArray⟩ := ⟨_, rfl⟩
        rw [← hS] at u0
        rw [← hT] at v0
        by_cases hk : xk = yk
        · subst hk
          obtain rfl : S = T := by rw [hS, hT]
          have hv : xv ≠ yv := fun h => he (by rw [h])
          have hE : (xv == yv) = false := beq_eq_false_iff_ne.2 hv
          have hE2 : (xv != yv) = true := by rw [bne, hE]; rfl
          clear hS hT HNe HYe he
          go_wp2_with fail
          go_quiet (fail)
          have hbq := drewN_below hb nq
          clear hb u0 u1 v0 v1
          generalize wr.drewN nq = wq at hbq ⊢
          go_wp2_with fail
          go_ret
          exact ⟨ret_bool HF.out.symm, hbq⟩
        · have hE : (S.toList == T.toList) = false := by rw [hS, hT, ByteArray.toList_eq, ByteArray.toList_eq]; exact beq_eq_false_iff_ne.2 hk
          have hE2 : (S.toList != T.toList) = true := by rw [bne, hE]; rfl
          have hE3 : ¬ S = T := fun e => by rw [e, beq_self_eq_true] at hE; cases hE
          clear hS hT HNe HYe he hk
          go_wp2_with fail
          go_quiet (fail)
          have hbq := drewN_below hb nq
          clear hb u0 u1 v0 v1
          generalize wr.drewN nq = wq at hbq ⊢
          go_wp2_with fail
          go_ret
          exact ⟨ret_bool HF.out.symm, hbq⟩
    · have d1 : decide ((k : Int) < (n : Int)) = false := decide_eq_false (by omega)
      have HF := Lib.hid (show decide (X = Y) = true from decide_eq_true (by
        have h := HR.out
        rwa [List.take_of_length_le (by rw [HX.out]; omega), List.take_of_length_le (by rw [HY.out]; omega)] at h))
      go_wp2_with fail
      go_ret
      exact ⟨ret_bool HF.out.symm, hb⟩

set_option maxHeartbeats 8000000 in
theorem same_any (k1 : Int) (S1 : ByteArray) (ql1 : Option Addr) (nl1 cl1 : Nat) (qh1 : Option Addr) (nh1 ch1 : Nat) (qz1 : Option Addr) (nz1 cz1 : Nat) (d1 : V) (k2 : Int) (S2 : ByteArray) (ql2 : Option Addr) (nl2 cl2 : Nat) (qh2 : Option Addr) (nh2 ch2 : Nat) (qz2 : Option Addr) (nz2 cz2 : Nat) (d2 : V) (w : World)
    (H1 : VIn w k1 S1 ql1 nl1 cl1 qh1 nh1 ch1 qz1 nz1 cz1 d1) (H2 : VIn w k2 S2 ql2 nl2 cl2 qh2 nh2 ch2 qz2 nz2 cz2 d2) :
    Calls Try.prog 33 #[.agg #[.int .u8 k1, .string S1, .slice ql1 nl1 cl1, .slice qh1 nh1 ch1, .slice qz1 nz1 cz1], .agg #[.int .u8 k2, .string S2, .slice ql2 nl2 cl2, .slice qh2 nh2 ch2, .slice qz2 nz2 cz2]] w
      fun e w' => e = .returned (.bool (sameB d1 d2)) ∧ Below w.heap.size w w' := by
  have HC1 := Lib.hid ((VCells.new w (.int .u8 k1) (.string S1) (.slice ql1 nl1 cl1) (.slice qh1 nh1 ch1) (.slice qz1 nz1 cz1) w.heap.size rfl).keep (show Below (w.alloc (.cells #[.int .u8 k1, .string S1, .slice ql1 nl1 cl1, .slice qh1 nh1 ch1, .slice qz1 nz1 cz1] 35)).heap.size _ ((w.alloc (.cells #[.int .u8 k1, .string S1, .slice ql1 nl1 cl1, .slice qh1 nh1 ch1, .slice qz1 nz1 cz1] 35)).alloc (.cells #[.int .u8 k2, .string S2, .slice ql2 nl2 cl2, .slice qh2 nh2 ch2, .slice qz2 nz2 cz2] 35)) from (Below.refl _ _).alloc (Nat.le_refl _) _))
  have HC2 := Lib.hid (VCells.new (w.alloc (.cells #[.int .u8 k1, .string S1, .slice ql1 nl1 cl1, .slice qh1 nh1 ch1, .slice qz1 nz1 cz1] 35)) (.int .u8 k2) (.string S2) (.slice ql2 nl2 cl2) (.slice qh2 nh2 ch2) (.slice qz2 nz2 cz2) (w.heap.size + 1) (by simp))
  have HW := Lib.hid (show Below w.heap.size w ((w.alloc (.cells #[.int .u8 k1, .string S1, .slice ql1 nl1 cl1, .slice qh1 nh1 ch1, .slice qz1 nz1 cz1] 35)).alloc (.cells #[.int .u8 k2, .string S2, .slice ql2 nl2 cl2, .slice qh2 nh2 ch2, .slice qz2 nz2 cz2] 35)) from ((Below.refl _ _).alloc (Nat.le_refl _) _).alloc (by simp) _)
  have HV1 := Lib.hid (H1.keep HW.out)
  have HV2 := Lib.hid (H2.keep HW.out)
  have CL := Lib.hid (fun W (hb : Below w.heap.size w W) => eq_s ql1 ql2 d1.l d2.l nl1 nl2 cl1 cl2 W H1.ll H2.ll (H1.rl.keep hb) (H2.rl.keep hb) H1.fl H2.fl)
  have CH := Lib.hid (fun W (hb : Below w.heap.size w W) => eq_p qh1 qh2 d1.h d2.h nh1 nh2 ch1 ch2 W H1.lh H2.lh (H1.rh.keep hb) (H2.rh.keep hb) H1.fh H2.fh)
  have CZ := Lib.hid (fun W (hb : Below w.heap.size w W) => eq_m qz1 qz2 d1.z d2.z nz1 nz2 cz1 cz2 W H1.lz H2.lz (H1.rz.keep hb) (H2.rz.keep hb) H1.fz H2.fz)
  have HK := Lib.hid (show k1 = k2 ↔ d1.kind = d2.kind by have h1 := H1.ek; have h2 := H2.ek; omega)
  have HSs := Lib.hid (show d1.s = d2.s → S1 = S2 from fun h => ByteArray.ext (Array.toList_inj.1 (by rw [H1.es, H2.es, h])))
  have HSn := Lib.hid (show d1.s ≠ d2.s → (S1.toList == S2.toList) = false from fun h => by rw [ByteArray.toList_eq, ByteArray.toList_eq, H1.es, H2.es]; exact beq_eq_false_iff_ne.2 h)
  have HQ := Lib.hid (show sameB d1 d2 = (decide (d1.kind = d2.kind) && decide (d1.s = d2.s) && decide (d1.l = d2.l) && decide (d1.h = d2.h) && decide (d1.z = d2.z)) by
    unfold sameB
    rw [Bool.eq_iff_iff]
    simp [v_eq, and_assoc])
  obtain ⟨bl, hbl⟩ : ∃ b, b = decide (d1.l = d2.l) := ⟨_, rfl⟩
  obtain ⟨bh, hbh⟩ : ∃ b, b = decide (d1.h = d2.h) := ⟨_, rfl⟩
  obtain ⟨bz, hbz⟩ : ∃ b, b = decide (d1.z = d2.z) := ⟨_, rfl⟩
  rw [← hbl] at CL HQ
  rw [← hbh] at CH HQ
  rw [← hbz] at CZ HQ
  clear hbl hbh hbz H1 H2 HV1 HV2
  obtain ⟨-, -, a0, a1, a2, a3, a4⟩ := HC1.out
  obtain ⟨-, -, b0, b1, b2, b3, b4⟩ := HC2.out
  by_cases tk : d1.kind = d2.kind
  rotate_left
  · have t1 : (k1 == k2) = false := beq_eq_false_iff_ne.2 (fun h => tk (HK.out.1 h))
    have HF := Lib.hid (show sameB d1 d2 = false by rw [HQ.out, decide_eq_false tk]; rfl)
    clear tk
    go_enter Try.func33, Try.ntmps33
    go_wp2_with fail
    go_ret
    exact ⟨ret_bool HF.out.symm, HW.out⟩
  obtain rfl := HK.out.2 tk
  have t1 : (k1 == k1) = true := beq_self_eq_true _
  have HQ1 := Lib.hid (show sameB d1 d2 = (decide (d1.s = d2.s) && bl && bh && bz) by rw [HQ.out, decide_eq_true tk]; rfl)
  clear tk HQ HK
  by_cases ts : d1.s = d2.s
  rotate_left
  · have hE := HSn.out ts
    have hE2 : (S1.toList != S2.toList) = true := by rw [bne, hE]; rfl
    have hE3 : ¬ S1 = S2 := fun e => by rw [e, beq_self_eq_true] at hE; cases hE
    have HF := Lib.hid (show sameB d1 d2 = false by rw [HQ1.out, decide_eq_false ts]; rfl)
    clear ts
    go_enter Try.func33, Try.ntmps33
    go_wp2_with fail
    go_ret
    exact ⟨ret_bool HF.out.symm, HW.out⟩
  obtain rfl := HSs.out ts
  have HQ2 := Lib.hid (show sameB d1 d2 = (bl && bh && bz) by rw [HQ1.out, decide_eq_true ts]; rfl)
  clear ts HQ1 HSs HSn
  have hw : (bl = false) ∨ (bl = true ∧ bh = false) ∨ (bl = true ∧ bh = true) := by cases bl <;> cases bh <;> simp
  rcases hw with rfl | ⟨rfl, rfl⟩ | ⟨rfl, rfl⟩
  · go_enter Try.func33, Try.ntmps33
    go_wp2_with (go_at_call 49; with_reducible refine (CL.out _ HW.out).mono ?_; rintro e w3 ⟨rfl, hb3⟩; have HB3 := Lib.hid (HW.out.trans (hb3.mono HW.out.size)); clear hb3)
    go_ret
    exact ⟨ret_bool (by rw [HQ2.out]; rfl), HB3.out⟩
  · go_enter Try.func33, Try.ntmps33
    go_wp2_with (first
      | (go_at_call 49; with_reducible refine (CL.out _ HW.out).mono ?_; rintro e w3 ⟨rfl, hb3⟩; have HB3 := Lib.hid (HW.out.trans (hb3.mono HW.out.size)); have HA := Lib.hid (HC1.out.keep hb3); have HBc := Lib.hid (HC2.out.keep hb3); clear hb3 a0 a1 a2 a3 a4 b0 b1 b2 b3 b4; obtain ⟨-, -, a0, a1, a2, a3, a4⟩ := HA.out; obtain ⟨-, -, b0, b1, b2, b3, b4⟩ := HBc.out)
      | (go_at_call 50; with_reducible refine (CH.out _ HB3.out).mono ?_; rintro e w4 ⟨rfl, hb4⟩; have HB4 := Lib.hid (HB3.out.trans (hb4.mono HB3.out.size)); clear hb4))
    go_ret
    exact ⟨ret_bool (by rw [HQ2.out]; rfl), HB4.out⟩
  · go_enter Try.func33, Try.ntmps33
    go_wp2_with (first
      | (go_at_call 49; with_reducible refine (CL.out _ HW.out).mono ?_; rintro e w3 ⟨rfl, hb3⟩; have HB3 := Lib.hid (HW.out.trans (hb3.mono HW.out.size)); have HA := Lib.hid (HC1.out.keep hb3); have HBc := Lib.hid (HC2.out.keep hb3); clear hb3 a0 a1 a2 a3 a4 b0 b1 b2 b3 b4; obtain ⟨-, -, a0, a1, a2, a3, a4⟩ := HA.out; obtain ⟨-, -, b0, b1, b2, b3, b4⟩ := HBc.out)
      | (go_at_call 50; with_reducible refine (CH.out _ HB3.out).mono ?_; rintro e w4 ⟨rfl, hb4⟩; have HB4 := Lib.hid (HB3.out.trans (hb4.mono HB3.out.size)); have HA2 := Lib.hid (HA.out.keep hb4); have HBd := Lib.hid (HBc.out.keep hb4); clear hb4 a0 a1 a2 a3 a4 b0 b1 b2 b3 b4; obtain ⟨-, -, a0, a1, a2, a3, a4⟩ := HA2.out; obtain ⟨-, -, b0, b1, b2, b3, b4⟩ := HBd.out)
      | (go_at_call 51; with_reducible refine (CZ.out _ HB4.out).mono ?_; rintro e w5 ⟨rfl, hb5⟩; have HB5 := Lib.hid (HB4.out.trans (hb5.mono HB4.out.size)); clear hb5))
    go_ret
    exact ⟨ret_bool (by rw [HQ2.out]; rfl), HB5.out⟩

end Go.Proofs.Ytbcjgkedlapmhaa.ValM
