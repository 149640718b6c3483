/-
  The document's own answers of layer 9 (package tipstaffref09): a value's size, and whether two are the same.
-/
import Derived.Test.YtodpocciimbjbaaDoorValRowz
import Derived.Test.YtodpocciimbjbaaDoorStrSame
import Derived.Deep.MidRow
namespace Go.Proofs.YtodpocciimbjbaaDoor.RefV
open Go.RowKit Kit StrT RowG BOrd ValT
open Go.Op (bytesLess)
set_option linter.unusedVariables false
set_option maxRecDepth 100000

theorem kind_ways (d : V) {k : Int} (h : k = (d.kind : Int)) : (k = 1 ∧ d.kind = 1) ∨ (k = 2 ∧ d.kind = 2) ∨ (k = 3 ∧ d.kind = 3) ∨ (k = 4 ∧ d.kind = 4) ∨ (k = 5 ∧ d.kind = 5) ∨ ((k == 1) = false ∧ (k == 2) = false ∧ (k == 3) = false ∧ (k == 4) = false ∧ (k == 5) = false ∧ d.kind ≠ 1 ∧ d.kind ≠ 2 ∧ d.kind ≠ 3 ∧ d.kind ≠ 4 ∧ d.kind ≠ 5) := by
  simp only [beq_eq_false_iff_ne]
  omega
set_option maxHeartbeats 4000000 in
theorem rsize (k : Int) (S : ByteArray) (ql : Option Addr) (nl cl : Nat) (qh : Option Addr) (nh ch : Nat) (qz : Option Addr) (nz cz : Nat) (d : V) (w : World) (H : VIn w k S ql nl cl qh nh ch qz nz cz d) :
    Calls Tryd.prog 23 #[.agg #[.int .u8 k, .string S, .slice ql nl cl, .slice qh nh ch, .slice qz nz cz]] w fun e w' => e = .returned (.int .i64 (sizeN d : Int)) ∧ Below w.heap.size w w' := by
  have HV := Lib.hid H
  have HC := Lib.hid (VCells.new w (.int .u8 k) (.string S) (.slice ql nl cl) (.slice qh nh ch) (.slice qz nz cz) w.heap.size rfl)
  have HB := Lib.hid (show Below w.heap.size w (w.alloc (.cells #[.int .u8 k, .string S, .slice ql nl cl, .slice qh nh ch, .slice qz nz cz] 26)) from (Below.refl _ _).alloc (Nat.le_refl _) _)
  have hfl := H.fl
  have hfh := H.fh
  have hfz := H.fz
  have hw := kind_ways d H.ek
  clear H
  obtain ⟨-, -, c0, c1, c2, c3, c4⟩ := HC.out
  rcases hw with ⟨rfl, hk⟩ | ⟨rfl, hk⟩ | ⟨rfl, hk⟩ | ⟨rfl, hk⟩ | ⟨rfl, hk⟩ | ⟨x1, x2, x3, x4, x5, y1, y2, y3, y4, y5⟩
  · have HF := Lib.hid (show sizeN d = 1 by unfold sizeN; rw [hk]; rfl)
    clear hk
    go_enter Tryd.func23, Tryd.ntmps23
    go_wp2_with fail
    go_ret
    exact ⟨ret_int (by rw [HF.out]; try rfl), HB.out⟩
  · have HF := Lib.hid (show sizeN d = nl by unfold sizeN; rw [hk]; exact HV.out.ll)
    clear hk
    go_enter Tryd.func23, Tryd.ntmps23
    go_wp2_with fail
    go_ret
    exact ⟨ret_int (by rw [HF.out]; try rfl), HB.out⟩
  · have HF := Lib.hid (show sizeN d = nh by unfold sizeN; rw [hk]; exact HV.out.lh)
    clear hk
    go_enter Tryd.func23, Tryd.ntmps23
    go_wp2_with fail
    go_ret
    exact ⟨ret_int (by rw [HF.out]; try rfl), HB.out⟩
  · have HF := Lib.hid (show sizeN d = nl by unfold sizeN; rw [hk]; exact HV.out.ll)
    clear hk
    go_enter Tryd.func23, Tryd.ntmps23
    go_wp2_with fail
    go_ret
    exact ⟨ret_int (by rw [HF.out]; try rfl), HB.out⟩
  · have HF := Lib.hid (show sizeN d = nz by unfold sizeN; rw [hk]; exact HV.out.lz)
    clear hk
    go_enter Tryd.func23, Tryd.ntmps23
    go_wp2_with fail
    go_ret
    exact ⟨ret_int (by rw [HF.out]; try rfl), HB.out⟩
  · have HF := Lib.hid (show sizeN d = 0 by unfold sizeN; rw [if_neg y1, if_neg (by omega), if_neg y3, if_neg y5])
    clear y1 y2 y3 y4 y5
    go_enter Tryd.func23, Tryd.ntmps23
    go_wp2_with fail
    go_ret
    exact ⟨ret_int (by rw [HF.out]; rfl), HB.out⟩

theorem v_eq {x y : V} : x = y ↔ (x.kind = y.kind ∧ x.s = y.s ∧ x.l = y.l ∧ x.h = y.h ∧ x.z = y.z) := by
  cases x; cases y; simp
theorem same_false {x y : V} (h : ¬ (x.kind = y.kind ∧ x.s = y.s ∧ x.l = y.l ∧ x.h = y.h ∧ x.z = y.z)) : sameB x y = false := decide_eq_false (fun e => h (v_eq.1 e))
theorem take_ext {α : Type} {X Y : List α} (k : Nat) (hX : k < X.length) (hY : k < Y.length) (h : X.take k = Y.take k) (he : X[k] = Y[k]) : X.take (k + 1) = Y.take (k + 1) := by
  rw [List.take_succ_eq_append_getElem hX, List.take_succ_eq_append_getElem hY, h, he]

set_option maxHeartbeats 8000000 in
theorem rsame (k1 : Int) (S1 : ByteArray) (ql1 : Option Addr) (nl1 cl1 : Nat) (qh1 : Option Addr) (nh1 ch1 : Nat) (qz1 : Option Addr) (nz1 cz1 : Nat) (d1 : V) (k2 : Int) (S2 : ByteArray) (ql2 : Option Addr) (nl2 cl2 : Nat) (qh2 : Option Addr) (nh2 ch2 : Nat) (qz2 : Option Addr) (nz2 cz2 : Nat) (d2 : V) (w : World)
    (H1 : VIn w k1 S1 ql1 nl1 cl1 qh1 nh1 ch1 qz1 nz1 cz1 d1) (H2 : VIn w k2 S2 ql2 nl2 cl2 qh2 nh2 ch2 qz2 nz2 cz2 d2) :
    Calls Tryd.prog 10 #[.agg #[.int .u8 k1, .string S1, .slice ql1 nl1 cl1, .slice qh1 nh1 ch1, .slice qz1 nz1 cz1], .agg #[.int .u8 k2, .string S2, .slice ql2 nl2 cl2, .slice qh2 nh2 ch2, .slice qz2 nz2 cz2]] w
      fun e w' => e = .returned (.bool (sameB d1 d2)) ∧ Below w.heap.size w w' := by
  have HC1 := Lib.hid ((VCells.new w (.int .u8 k1) (.string S1) (.slice ql1 nl1 cl1) (.slice qh1 nh1 ch1) (.slice qz1 nz1 cz1) w.heap.size rfl).keep (show Below (w.alloc (.cells #[.int .u8 k1, .string S1, .slice ql1 nl1 cl1, .slice qh1 nh1 ch1, .slice qz1 nz1 cz1] 26)).heap.size _ ((w.alloc (.cells #[.int .u8 k1, .string S1, .slice ql1 nl1 cl1, .slice qh1 nh1 ch1, .slice qz1 nz1 cz1] 26)).alloc (.cells #[.int .u8 k2, .string S2, .slice ql2 nl2 cl2, .slice qh2 nh2 ch2, .slice qz2 nz2 cz2] 26)) from (Below.refl _ _).alloc (Nat.le_refl _) _))
  have HC2 := Lib.hid (VCells.new (w.alloc (.cells #[.int .u8 k1, .string S1, .slice ql1 nl1 cl1, .slice qh1 nh1 ch1, .slice qz1 nz1 cz1] 26)) (.int .u8 k2) (.string S2) (.slice ql2 nl2 cl2) (.slice qh2 nh2 ch2) (.slice qz2 nz2 cz2) (w.heap.size + 1) (by simp))
  have HW := Lib.hid (show Below w.heap.size w ((w.alloc (.cells #[.int .u8 k1, .string S1, .slice ql1 nl1 cl1, .slice qh1 nh1 ch1, .slice qz1 nz1 cz1] 26)).alloc (.cells #[.int .u8 k2, .string S2, .slice ql2 nl2 cl2, .slice qh2 nh2 ch2, .slice qz2 nz2 cz2] 26)) from ((Below.refl _ _).alloc (Nat.le_refl _) _).alloc (by simp) _)
  have HV1 := Lib.hid (H1.keep HW.out)
  have HV2 := Lib.hid (H2.keep HW.out)
  have CT := Lib.hid (StrS.same_texts ql1 ql2 d1.l d2.l nl1 nl2 cl1 cl2 _ H1.ll H2.ll (rs_ss.1 HV1.out.rl) (rs_ss.1 HV2.out.rl) (by have := H1.fl; omega))
  clear H1 H2
  go_enter Tryd.func10, Tryd.ntmps10
  go_wp2_with fail
  generalize (w.alloc (.cells #[.int .u8 k1, .string S1, .slice ql1 nl1 cl1, .slice qh1 nh1 ch1, .slice qz1 nz1 cz1] 26)).alloc (.cells #[.int .u8 k2, .string S2, .slice ql2 nl2 cl2, .slice qh2 nh2 ch2, .slice qz2 nz2 cz2] 26) = W2 at HW HC1 HC2 HV1 HV2 CT ⊢
  refine CT.out.mono ?_
  rintro e w3 ⟨rfl, hb3⟩
  have HA := Lib.hid (HC1.out.keep hb3)
  have HBc := Lib.hid (HC2.out.keep hb3)
  have HU1 := Lib.hid (HV1.out.keep hb3)
  have HU2 := Lib.hid (HV2.out.keep hb3)
  have HB := Lib.hid (HW.out.trans (hb3.mono HW.out.size))
  obtain ⟨-, -, a0, a1, a2, a3, a4⟩ := HA.out
  obtain ⟨-, -, b0, b1, b2, b3, b4⟩ := HBc.out
  have hfh := HU1.out.fh
  have hfz := HU1.out.fz
  have hfh2 := HU2.out.fh
  have hfz2 := HU2.out.fz
  clear CT HC1 HC2 HV1 HV2 hb3 HW
  obtain ⟨B, hB⟩ : ∃ B, B = decide (d1.l = d2.l) := ⟨_, rfl⟩
  rw [← hB]
  by_cases tk : k1 = k2
  rotate_left
  · have t1 : (k1 != k2) = true := bne_iff_ne.2 tk
    have HF := Lib.hid (same_false (x := d1) (y := d2) (fun h => tk (by rw [HU1.out.ek, HU2.out.ek, h.1])))
    clear tk hB
    go_wp2_with fail
    go_ret
    exact ⟨ret_bool HF.out.symm, HB.out⟩
  have t1 : (k1 != k2) = false := by subst tk; exact bne_self_eq_false _
  have HK := Lib.hid (show d1.kind = d2.kind by have h1 := HU1.out.ek; have h2 := HU2.out.ek; omega)
  clear tk
  by_cases ts : d1.s = d2.s
  rotate_left
  · have hE : (S1.toList == S2.toList) = false := by rw [ByteArray.toList_eq, ByteArray.toList_eq, HU1.out.es, HU2.out.es]; exact beq_eq_false_iff_ne.2 ts
    have hE2 : (S1.toList != S2.toList) = true := by rw [bne, hE]; rfl
    have hE3 : ¬ S1 = S2 := fun e => by rw [e, beq_self_eq_true] at hE; cases hE
    have HF := Lib.hid (same_false (x := d1) (y := d2) (fun h => ts h.2.1))
    clear ts hB
    go_wp2_with fail
    go_ret
    exact ⟨ret_bool HF.out.symm, HB.out⟩
  have hSS : S1 = S2 := ByteArray.ext (Array.toList_inj.1 (by rw [HU1.out.es, HU2.out.es, ts]))
  have HSe := Lib.hid ts
  clear ts
  subst hSS
  by_cases tl : d1.l = d2.l
  rotate_left
  · obtain rfl : B = false := by rw [hB]; exact decide_eq_false tl
    have HF := Lib.hid (same_false (x := d1) (y := d2) (fun h => tl h.2.2.1))
    clear tl hB
    go_wp2_with fail
    go_ret
    exact ⟨ret_bool HF.out.symm, HB.out⟩
  obtain rfl : B = true := by rw [hB]; exact decide_eq_true tl
  have HLe := Lib.hid tl
  clear tl hB
  by_cases th : nh1 = nh2
  rotate_left
  · have t5 : ((nh1 : Int) != (nh2 : Int)) = true := by rw [bne_iff_ne]; omega
    have HF := Lib.hid (same_false (x := d1) (y := d2) (fun h => th (by rw [← HU1.out.lh, ← HU2.out.lh, h.2.2.2.1])))
    clear th
    go_wp2_with fail
    go_ret
    exact ⟨ret_bool HF.out.symm, HB.out⟩
  subst th
  have t5 : ((nh1 : Int) != (nh1 : Int)) = false := bne_self_eq_false _
  by_cases tz : nz1 = nz2
  rotate_left
  · have t6 : ((nz1 : Int) != (nz2 : Int)) = true := by rw [bne_iff_ne]; omega
    have HF := Lib.hid (same_false (x := d1) (y := d2) (fun h => tz (by rw [← HU1.out.lz, ← HU2.out.lz, h.2.2.2.2])))
    clear tz
    go_wp2_with fail
    go_ret
    exact ⟨ret_bool HF.out.symm, HB.out⟩
  subst tz
  have t6 : ((nz1 : Int) != (nz1 : Int)) = false := bne_self_eq_false _
  go_wp2_with fail
  clear a0 a1 a2 a3 a4 b0 b1 b2 b3 b4
  go_loopw [6] (fun i wr => ∃ k : Nat, k ≤ nh1 ∧ i = .int .i64 k ∧ Hid (d1.h.take k = d2.h.take k) ∧ Hid (Below w3.heap.size w3 wr)) (fun i _ => nh1 - (intOf i).toNat)
  case atStart => exact ⟨0, Nat.zero_le _, rfl, Lib.hid rfl, Lib.hid (Below.refl _ _)⟩
  case round =>
    obtain ⟨k, hk, rfl, HTk, Hb⟩ := hrel
    obtain ⟨-, -, -, -, -, a3, -⟩ := HA.out.keep Hb.out
    obtain ⟨-, -, -, -, -, b3, -⟩ := HBc.out.keep Hb.out
    by_cases hlt : k < nh1
    · have e1 : decide ((k : Int) < (nh1 : Int)) = true := decide_eq_true (by omega)
      have hk0 : (0 : Int) ≤ (k : Int) := by omega
      have hkn : (k : Int) < (nh1 : Int) := by omega
      have hx1 : k < d1.h.length := by rw [HU1.out.lh]; exact hlt
      have hx2 : k < d2.h.length := by rw [HU2.out.lh]; exact hlt
      obtain ⟨b, off, rfl, hbl, u0, u1⟩ := pair_cells (HU1.out.rh.keep Hb.out) k hx1
      obtain ⟨b', off', rfl, hbl', v0, v1⟩ := pair_cells (HU2.out.rh.keep Hb.out) k hx2
      have HNe := Lib.hid (show d1.h[k] ≠ d2.h[k] → sameB d1 d2 = false from fun hne => same_false (fun h => hne (by simp only [h.2.2.2.1])))
      have HYe := Lib.hid (show d1.h[k] = d2.h[k] → d1.h.take (k + 1) = d2.h.take (k + 1) from fun h => take_ext k hx1 hx2 HTk.out h)
      obtain ⟨x, hx⟩ : ∃ x : Pr, x = d1.h[k] := ⟨_, rfl⟩
      obtain ⟨y, hy⟩ : ∃ y : Pr, y = d2.h[k] := ⟨_, rfl⟩
      rw [← hx] at u0 u1 HNe HYe
      rw [← hy] at v0 v1 HNe HYe
      obtain ⟨xk, xv⟩ := x
      obtain ⟨yk, yv⟩ := y
      simp only at u0 u1 v0 v1
      clear hx hy hx1 hx2 hbl hbl'
      by_cases he : (⟨xk, xv⟩ : Pr) = ⟨yk, yv⟩
      · have HG := Lib.hid (HYe.out he)
        injection he with e1 e2
        subst e1 e2
        obtain ⟨T, hT⟩ : ∃ T : ByteArray, T = ⟨xk.toArray⟩ := ⟨_, rfl⟩
        obtain ⟨T2, hT2⟩ : ∃ T : ByteArray, T = ⟨xv.toArray⟩ := ⟨_, rfl⟩
        rw [← hT] at u0 v0
        rw [← hT2] at u1 v1
        clear hT hT2 HNe HYe
        go_wp2_with fail
        go_quiet (fail)
        have hbq := drewN_below Hb.out nq
        clear Hb u0 u1 v0 v1 a3 b3
        generalize wr.drewN nq = wq at hbq ⊢
        go_wp2_with fail
        go_roundw
        case rel => exact ⟨k + 1, by omega, by go_num, HG, Lib.hid hbq⟩
        case measure => simp [intOf]; omega
      · have HF := Lib.hid (HNe.out he)
        obtain ⟨S, hS⟩ : ∃ S : ByteArray, S = ⟨xk.toArray⟩ := ⟨_, rfl⟩
        obtain ⟨T, hT⟩ : ∃ T : ByteArray, T = ⟨yk.toArray⟩ := ⟨_, rfl⟩
        obtain ⟨S3, hS3⟩ : ∃ S : ByteArray, S = ⟨xv.toArray⟩ := ⟨_, rfl⟩
        obtain ⟨T3, hT3⟩ : ∃ T : ByteArray, T = ⟨yv.toArray⟩ := ⟨_, rfl⟩
        rw [← hS] at u0
        rw [← hT] at v0
        rw [← hS3] at u1
        rw [← hT3] at v1
        by_cases hk : xk = yk
        · subst hk
          obtain rfl : S = T := by rw [hS, hT]
          have hv : xv ≠ yv := fun h => he (by rw [h])
          have hE : (S3.toList == T3.toList) = false := by rw [hS3, hT3, ByteArray.toList_eq, ByteArray.toList_eq]; exact beq_eq_false_iff_ne.2 hv
          have hE2 : (S3.toList != T3.toList) = true := by rw [bne, hE]; rfl
          have hE3 : ¬ S3 = T3 := fun e => by rw [e, beq_self_eq_true] at hE; cases hE
          clear hS hT hS3 hT3 HNe HYe he hv
          go_wp2_with fail
          go_quiet (fail)
          have hbq := drewN_below (HB.out.trans (Hb.out.mono HB.out.size)) nq
          clear Hb u0 u1 v0 v1 a3 b3
          generalize wr.drewN nq = wq at hbq ⊢
          go_wp2_with fail
          go_ret
          exact ⟨ret_bool HF.out.symm, hbq⟩
        · have hE : (S.toList == T.toList) = false := by rw [hS, hT, ByteArray.toList_eq, ByteArray.toList_eq]; exact beq_eq_false_iff_ne.2 hk
          have hE2 : (S.toList != T.toList) = true := by rw [bne, hE]; rfl
          have hE3 : ¬ S = T := fun e => by rw [e, beq_self_eq_true] at hE; cases hE
          clear hS hT hS3 hT3 HNe HYe he hk
          go_wp2_with fail
          go_quiet (fail)
          have hbq := drewN_below (HB.out.trans (Hb.out.mono HB.out.size)) nq
          clear Hb u0 u1 v0 v1 a3 b3
          generalize wr.drewN nq = wq at hbq ⊢
          go_wp2_with fail
          go_ret
          exact ⟨ret_bool HF.out.symm, hbq⟩
    · have e1 : decide ((k : Int) < (nh1 : Int)) = false := decide_eq_false (by omega)
      have HHe := Lib.hid (show d1.h = d2.h by
        have h := HTk.out
        rw [List.take_of_length_le (by rw [HU1.out.lh]; omega), List.take_of_length_le (by rw [HU2.out.lh]; omega)] at h
        exact h)
      go_wp2_with fail
      clear a3 b3 hlt hk e1 HTk
      go_loopw [7] (fun i wr => ∃ k : Nat, k ≤ nz1 ∧ i = .int .i64 k ∧ Hid (d1.z.take k = d2.z.take k) ∧ Hid (Below w3.heap.size w3 wr)) (fun i _ => nz1 - (intOf i).toNat)
      case atStart => exact ⟨0, Nat.zero_le _, rfl, Lib.hid rfl, Hb⟩
      case round =>
        clear Hb
        obtain ⟨k, hk, rfl, HTk, Hb⟩ := hrel
        obtain ⟨-, -, -, -, -, -, a4⟩ := HA.out.keep Hb.out
        obtain ⟨-, -, -, -, -, -, b4⟩ := HBc.out.keep Hb.out
        by_cases hlt : k < nz1
        · have e1 : decide ((k : Int) < (nz1 : Int)) = true := decide_eq_true (by omega)
          have hk0 : (0 : Int) ≤ (k : Int) := by omega
          have hkn : (k : Int) < (nz1 : Int) := by omega
          have hx1 : k < d1.z.length := by rw [HU1.out.lz]; exact hlt
          have hx2 : k < d2.z.length := by rw [HU2.out.lz]; exact hlt
          obtain ⟨b, off, rfl, hbl, u0, u1⟩ := mark_cells (HU1.out.rz.keep Hb.out) k hx1
          obtain ⟨b', off', rfl, hbl', v0, v1⟩ := mark_cells (HU2.out.rz.keep Hb.out) k hx2
          have HNe := Lib.hid (show d1.z[k] ≠ d2.z[k] → sameB d1 d2 = false from fun hne => same_false (fun h => hne (by simp only [h.2.2.2.2])))
          have HYe := Lib.hid (show d1.z[k] = d2.z[k] → d1.z.take (k + 1) = d2.z.take (k + 1) from fun h => take_ext k hx1 hx2 HTk.out h)
          obtain ⟨x, hx⟩ : ∃ x : Mk, x = d1.z[k] := ⟨_, rfl⟩
          obtain ⟨y, hy⟩ : ∃ y : Mk, y = d2.z[k] := ⟨_, rfl⟩
          rw [← hx] at u0 u1 HNe HYe
          rw [← hy] at v0 v1 HNe HYe
          obtain ⟨xk, xv⟩ := x
          obtain ⟨yk, yv⟩ := y
          simp only at u0 u1 v0 v1
          clear hx hy hx1 hx2 hbl hbl'
          by_cases he : (⟨xk, xv⟩ : Mk) = ⟨yk, yv⟩
          · have HG := Lib.hid (HYe.out he)
            injection he with e1 e2
            subst e1 e2
            obtain ⟨T, hT⟩ : ∃ T : ByteArray, T = ⟨xk.toArray⟩ := ⟨_, rfl⟩
            rw [← hT] at u0 v0
            clear hT HNe HYe
            go_wp2_with fail
            go_quiet (fail)
            have hbq := drewN_below Hb.out nq
            clear Hb u0 u1 v0 v1 a4 b4
            generalize wr.drewN nq = wq at hbq ⊢
            go_wp2_with fail
            go_roundw
            case rel => exact ⟨k + 1, by omega, by go_num, HG, Lib.hid hbq⟩
            case measure => simp [intOf]; omega
          · have HF := Lib.hid (HNe.out he)
            obtain ⟨S, hS⟩ : ∃ S : ByteArray, S = ⟨xk.toArray⟩ := ⟨_, rfl⟩
            obtain ⟨T, hT⟩ : ∃ T : ByteArray, T = ⟨yk.toArray⟩ := ⟨_, rfl⟩
            rw [← hS] at u0
            rw [← hT] at v0
            by_cases hk : xk = yk
            · subst hk
              obtain rfl : S = T := by rw [hS, hT]
              have hv : xv ≠ yv := fun h => he (by rw [h])
              have hE : (xv == yv) = false := beq_eq_false_iff_ne.2 hv
              have hE2 : (xv != yv) = true := by rw [bne, hE]; rfl
              clear hS hT HNe HYe he
              go_wp2_with fail
              go_quiet (fail)
              have hbq := drewN_below (HB.out.trans (Hb.out.mono HB.out.size)) nq
              clear Hb u0 u1 v0 v1 a4 b4
              generalize wr.drewN nq = wq at hbq ⊢
              go_wp2_with fail
              go_ret
              exact ⟨ret_bool HF.out.symm, hbq⟩
            · have hE : (S.toList == T.toList) = false := by rw [hS, hT, ByteArray.toList_eq, ByteArray.toList_eq]; exact beq_eq_false_iff_ne.2 hk
              have hE2 : (S.toList != T.toList) = true := by rw [bne, hE]; rfl
              have hE3 : ¬ S = T := fun e => by rw [e, beq_self_eq_true] at hE; cases hE
              clear hS hT HNe HYe he hk
              go_wp2_with fail
              go_quiet (fail)
              have hbq := drewN_below (HB.out.trans (Hb.out.mono HB.out.size)) nq
              clear Hb u0 u1 v0 v1 a4 b4
              generalize wr.drewN nq = wq at hbq ⊢
              go_wp2_with fail
              go_ret
              exact ⟨ret_bool HF.out.symm, hbq⟩
        · have e1 : decide ((k : Int) < (nz1 : Int)) = false := decide_eq_false (by omega)
          have HZe := Lib.hid (show sameB d1 d2 = true by
            have h := HTk.out
            rw [List.take_of_length_le (by rw [HU1.out.lz]; omega), List.take_of_length_le (by rw [HU2.out.lz]; omega)] at h
            exact decide_eq_true (v_eq.2 ⟨HK.out, HSe.out, HLe.out, HHe.out, h⟩))
          have HF := Lib.hid (HB.out.trans (Hb.out.mono HB.out.size))
          go_wp2_with fail
          go_ret
          exact ⟨ret_bool HZe.out.symm, HF.out⟩

end Go.Proofs.YtodpocciimbjbaaDoor.RefV
