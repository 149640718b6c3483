/-
  ValueKinds: values of unlike kinds are not the same, sameness goes both ways, and a value's type and size tell whether there is one.
-/
import Derived.Test.YtljhcakfbdbmpaaValFit
namespace Go.Proofs.Ytljhcakfbdbmpaa.valueKinds
open Go.Sort Go.RowKit Kit StrT RowG BOrd ValT RefV ValM ValL
set_option linter.unusedVariables false
set_option maxRecDepth 100000
-- ASKS: 
-- VSZ: s

set_option maxHeartbeats 8000000 in
theorem walk (ka : Int) (Sa : ByteArray) (qla : Option Addr) (nla cla : Nat) (qha : Option Addr) (nha cha : Nat) (qza : Option Addr) (nza cza : Nat) (da : V) (kb : Int) (Sb : ByteArray) (qlb : Option Addr) (nlb clb : Nat) (qhb : Option Addr) (nhb chb : Nat) (qzb : Option Addr) (nzb czb : Nat) (db : V) (w : World) (Ha : VArg w ka Sa qla nla cla qha nha cha qza nza cza da) (hSa : Sa.size ≤ 140737488351232) (Hb : VArg w kb Sb qlb nlb clb qhb nhb chb qzb nzb czb db) (hSb : Sb.size ≤ 140737488351232) :
    Calls Try.prog 6 #[.agg #[.int .u8 ka, .string Sa, .slice qla nla cla, .slice qha nha cha, .slice qza nza cza], .agg #[.int .u8 kb, .string Sb, .slice qlb nlb clb, .slice qhb nhb chb, .slice qzb nzb czb]] w fun e w' => e = .returned (.bool true) ∧ Below w.heap.size w w' := by
  have HBx := Lib.hid (SB.new w #[.int .u8 ka, .string Sa, .slice qla nla cla, .slice qha nha cha, .slice qza nza cza] #[.int .u8 kb, .string Sb, .slice qlb nlb clb, .slice qhb nhb chb, .slice qzb nzb czb])
  have HVa := Lib.hid (Ha.keep HBx.out.bl)
  have HVb := Lib.hid (Hb.keep HBx.out.bl)
  have C0 := Lib.hid (fun W => shown_any W)
  clear Ha Hb
  go_enter Try.func6, Try.ntmps6
  go_upto_region 1 with fail
  generalize ((w.alloc _).alloc _) = w0 at HBx HVa HVb ⊢
  go_wp2_with fail
  refine (C0.out _).mono ?_
  rintro e w1 ⟨rfl, hb1⟩
  have HB1 := Lib.hid (HBx.out.keep hb1)
  have HVa1 := Lib.hid (HVa.out.keep hb1)
  have HVb1 := Lib.hid (HVb.out.keep hb1)
  clear hb1 HBx HVa HVb C0
  have CS := Lib.hid (rfit ka Sa qla nla cla qha nha cha qza nza cza da w1 HVa1.out hSa)
  have HCa := Lib.hid (show (Try.prog.info? 26).map (·.size) = some (#[.int .u8 ka, .string Sa, .slice qla nla cla, .slice qha nha cha, .slice qza nza cza] : Array Value).size from val_size)
  have HCb := Lib.hid (show (Try.prog.info? 26).map (·.size) = some (#[.int .u8 kb, .string Sb, .slice qlb nlb clb, .slice qhb nhb chb, .slice qzb nzb czb] : Array Value).size from val_size)
  go_wp2_with (with_reducible refine wpList_load_row rfl 26 (.tmp 2) rfl w.heap.size rfl 26 #[.int .u8 ka, .string Sa, .slice qla nla cla, .slice qha nha cha, .slice qza nza cza] (0, 0) _ HB1.out.bx Try.underlying26 rfl HCa.out ?_)
  with_reducible refine CS.out.mono ?_
  rintro e w2 hP
  obtain ⟨kx, Sx, qlx, nlx, clx, qhx, nhx, chx, qzx, nzx, czx, rfl, hVx, hb2⟩ := valP_open hP (Nat.le_trans (right_kind (fit_right da)) (by decide)) (fit_len da).1 (fit_len da).2.1 (fit_len da).2.2
  have hbn := bel_new w2 (.cells #[.int .u8 kx, .string Sx, .slice qlx nlx clx, .slice qhx nhx chx, .slice qzx nzx czx] 26)
  have HB2 := Lib.hid ((HB1.out.keep hb2).keep hbn)
  have HVx2 := Lib.hid (hVx.keep hbn)
  have HVb2 := Lib.hid ((HVb1.out.keep hb2).keep hbn)
  have HX2 := Lib.hid (heap_alloc_last w2 (.cells #[.int .u8 kx, .string Sx, .slice qlx nlx clx, .slice qhx nhx chx, .slice qzx nzx czx] 26))
  clear hP hVx hb2 hbn HB1 HVa1 HVb1 CS
  go_upto_region 3 with fail
  obtain ⟨g, hg⟩ : ∃ g, g = w2.heap.size := ⟨_, rfl⟩
  rw [← hg] at HX2 ⊢
  clear hg
  generalize w2.alloc _ = w3 at HB2 HVx2 HVb2 HX2 ⊢
  have CS := Lib.hid (rfit kb Sb qlb nlb clb qhb nhb chb qzb nzb czb db w3 HVb2.out hSb)
  go_wp2_with (with_reducible refine wpList_load_row rfl 26 (.tmp 3) rfl (w.heap.size + 1) rfl 26 #[.int .u8 kb, .string Sb, .slice qlb nlb clb, .slice qhb nhb chb, .slice qzb nzb czb] (0, 0) _ HB2.out.re Try.underlying26 rfl HCb.out ?_)
  with_reducible refine CS.out.mono ?_
  rintro e w4 hP
  obtain ⟨ky, Sy, qly, nly, cly, qhy, nhy, chy, qzy, nzy, czy, rfl, hVy, hb4⟩ := valP_open hP (Nat.le_trans (right_kind (fit_right db)) (by decide)) (fit_len db).1 (fit_len db).2.1 (fit_len db).2.2
  have hbn := bel_new w4 (.cells #[.int .u8 ky, .string Sy, .slice qly nly cly, .slice qhy nhy chy, .slice qzy nzy czy] 26)
  have HB4 := Lib.hid (((HB2.out.keep hb4).keep hbn).bl)
  have HVx4 := Lib.hid ((HVx2.out.keep hb4).keep hbn)
  have HVy4 := Lib.hid (hVy.keep hbn)
  have HX4 := Lib.hid (show (w4.alloc (.cells #[.int .u8 ky, .string Sy, .slice qly nly cly, .slice qhy nhy chy, .slice qzy nzy czy] 26)).heap[g]? = some (.cells #[.int .u8 kx, .string Sx, .slice qlx nlx clx, .slice qhx nhx chx, .slice qzx nzx czx] 26 (0, 0)) from by
    have hlt := (Array.getElem?_eq_some_iff.1 HX2.out).1
    rw [hbn.block g (by have := hb4.size; omega), hb4.block g hlt]
    exact HX2.out)
  have HY4 := Lib.hid (heap_alloc_last w4 (.cells #[.int .u8 ky, .string Sy, .slice qly nly cly, .slice qhy nhy chy, .slice qzy nzy czy] 26))
  clear hP hVy hb4 hbn HB2 HVx2 HVb2 HX2 CS HCa HCb
  go_upto_region 4 with fail
  obtain ⟨g2, hg2⟩ : ∃ g, g = w4.heap.size := ⟨_, rfl⟩
  rw [← hg2] at HY4 ⊢
  clear hg2
  generalize w4.alloc _ = w5 at HB4 HVx4 HVy4 HX4 HY4 ⊢
  have HCx := Lib.hid (show (Try.prog.info? 26).map (·.size) = some (#[.int .u8 kx, .string Sx, .slice qlx nlx clx, .slice qhx nhx chx, .slice qzx nzx czx] : Array Value).size from val_size)
  have HCy := Lib.hid (show (Try.prog.info? 26).map (·.size) = some (#[.int .u8 ky, .string Sy, .slice qly nly cly, .slice qhy nhy chy, .slice qzy nzy czy] : Array Value).size from val_size)
  have HCz := Lib.hid (show (Try.prog.info? 26).map (·.size) = some (#[.int .u8 (kx + 1), .string Sx, .slice qlx nlx clx, .slice qhx nhx chx, .slice qzx nzx czx] : Array Value).size from val_size)
  have HRx := Lib.hid (fit_right da)
  have HRy := Lib.hid (fit_right db)
  obtain ⟨dx, hdx⟩ : ∃ v, v = fitV da := ⟨_, rfl⟩
  obtain ⟨dy, hdy⟩ : ∃ v, v = fitV db := ⟨_, rfl⟩
  rw [← hdx] at HVx4 HRx
  rw [← hdy] at HVy4 HRy
  clear hdx hdy
  have hk5 := right_kind HRx.out
  have hl5 := right_kind HRy.out
  obtain ⟨K, hK⟩ : ∃ K, K = dx.kind := ⟨_, rfl⟩
  obtain ⟨L, hL⟩ : ∃ L, L = dy.kind := ⟨_, rfl⟩
  obtain rfl : kx = (K : Int) := by rw [hK]; exact HVx4.out.ek
  obtain rfl : ky = (L : Int) := by rw [hL]; exact HVy4.out.ek
  rw [← hK] at hk5
  rw [← hL] at hl5
  have HK := Lib.hid hK
  have HL := Lib.hid hL
  clear hK hL
  have hb6 := bel_new w5 (.cells #[.int .u8 (K : Int), .string Sx, .slice qlx nlx clx, .slice qhx nhx chx, .slice qzx nzx czx] 26)
  have x0 : (w5.alloc (.cells #[.int .u8 (K : Int), .string Sx, .slice qlx nlx clx, .slice qhx nhx chx, .slice qzx nzx czx] 26)).cell? ⟨g, 0, none⟩ = some (.int .u8 (K : Int)) := by rw [cell_of_row _ _ _ _ 26 _ ((hb6.block g (Array.getElem?_eq_some_iff.1 HX4.out).1).trans HX4.out)]; rfl
  have hbz := bel_new w5 (.cells #[.int .u8 ((K : Int) + 1), .string Sx, .slice qlx nlx clx, .slice qhx nhx chx, .slice qzx nzx czx] 26)
  have HBz := Lib.hid (HB4.out.trans (hbz.mono HB4.out.size))
  have HVx := Lib.hid (HVx4.out.keep hbz)
  have HVy := Lib.hid (HVy4.out.keep hbz)
  have HX := Lib.hid ((hbz.block g (Array.getElem?_eq_some_iff.1 HX4.out).1).trans HX4.out)
  have HY := Lib.hid ((hbz.block g2 (Array.getElem?_eq_some_iff.1 HY4.out).1).trans HY4.out)
  have HZ := Lib.hid (heap_alloc_last w5 (.cells #[.int .u8 ((K : Int) + 1), .string Sx, .slice qlx nlx clx, .slice qhx nhx chx, .slice qzx nzx czx] 26))
  go_wp2_with (with_reducible refine wpList_load_row rfl 26 (.tmp 6) rfl g rfl 26 _ (0, 0) _ HX4.out Try.underlying26 rfl HCx.out ?_)
  clear x0 hb6 hbz HVx4 HVy4 HX4 HY4 HB4
  obtain ⟨g3, hg3⟩ : ∃ g, g = w5.heap.size := ⟨_, rfl⟩
  rw [← hg3] at HZ ⊢
  clear hg3
  generalize w5.alloc _ = W at HBz HVx HVy HX HY HZ ⊢
  have HCz := Lib.hid (show (Try.prog.info? 26).map (·.size) = some (#[.int .u8 ((K : Int) + 1), .string Sx, .slice qlx nlx clx, .slice qhx nhx chx, .slice qzx nzx czx] : Array Value).size from val_size)
  have x0 := fun d os => cell_regrown (show W.cell? ⟨g, 0, none⟩ = some (.int .u8 (K : Int)) by rw [cell_of_row _ _ _ _ 26 _ HX.out]; rfl) d os
  have y0 := fun d os => cell_regrown (show W.cell? ⟨g2, 0, none⟩ = some (.int .u8 (L : Int)) by rw [cell_of_row _ _ _ _ 26 _ HY.out]; rfl) d os
  obtain ⟨TX, hTX⟩ : ∃ v : ByteArray, v = ⟨(typeL dx).toArray⟩ := ⟨_, rfl⟩
  obtain ⟨TY, hTY⟩ : ∃ v : ByteArray, v = ⟨(typeL dy).toArray⟩ := ⟨_, rfl⟩
  obtain ⟨NX, hNX⟩ : ∃ v : Int, v = (sizeN dx : Int) := ⟨_, rfl⟩
  obtain ⟨BS, hBS⟩ : ∃ v, v = sameB dx dy := ⟨_, rfl⟩
  obtain ⟨Z, hZ⟩ : ∃ v, v = decide (dx.kind = 0) := ⟨_, rfl⟩
  have tn : (TX.toList == (⟨#[110, 111, 110, 101]⟩ : ByteArray).toList) = Z := by
    rw [hTX, hZ]
    exact (bytes_eq (typeL dx) nNone).trans (by rw [Bool.eq_iff_iff, decide_eq_true_iff, decide_eq_true_iff]; exact right_type HRx.out)
  have tn2 : (TX.toList == [110, 111, 110, 101]) = Z := by
    rw [← tn, show (⟨#[110, 111, 110, 101]⟩ : ByteArray).toList = [110, 111, 110, 101] by rw [ByteArray.toList_eq]]
  have tz : (NX == 0) = Z := by
    rw [hNX, hZ, Bool.eq_iff_iff, beq_iff_eq, decide_eq_true_iff, ← right_size HRx.out]
    omega
  have tt : (TX.toList == TY.toList) = decide (K = L) := by
    rw [hTX, hTY, bytes_eq, HK.out, HL.out, Bool.eq_iff_iff, decide_eq_true_iff, decide_eq_true_iff]
    exact type_kind (right_kind HRx.out) (right_kind HRy.out)
  have te : ((K : Int) == (L : Int)) = decide (K = L) := by
    rw [Bool.eq_iff_iff, beq_iff_eq, decide_eq_true_iff]
    omega
  have hBS2 : K ≠ L → BS = false := fun h => by
    rw [hBS]
    exact same_kind (by rw [← HK.out, ← HL.out]; exact h)
  have hsz : sameB dx { dx with kind := K + 1 } = false := same_kind (by rw [← HK.out]; show K ≠ K + 1; omega)
  have hsy : sameB dy dx = BS := by rw [hBS, same_symm]
  have HVz := Lib.hid (vin_kind HVx.out (K + 1) (by omega))
  have Q1 := Lib.hid (fun d os => hBS ▸ Calls.regrown_of (same_any K Sx qlx nlx clx qhx nhx chx qzx nzx czx dx L Sy qly nly cly qhy nhy chy qzy nzy czy dy (grow (redrawn W d) os) (HVx.out.keep (below_regrown W d os)) (HVy.out.keep (below_regrown W d os))))
  have Q2 := Lib.hid (fun d os => hsy ▸ Calls.regrown_of (same_any L Sy qly nly cly qhy nhy chy qzy nzy czy dy K Sx qlx nlx clx qhx nhx chx qzx nzx czx dx (grow (redrawn W d) os) (HVy.out.keep (below_regrown W d os)) (HVx.out.keep (below_regrown W d os))))
  have Q3 := Lib.hid (fun d os => hsz ▸ Calls.regrown_of (same_any K Sx qlx nlx clx qhx nhx chx qzx nzx czx dx ((K + 1 : Nat) : Int) Sx qlx nlx clx qhx nhx chx qzx nzx czx { dx with kind := K + 1 } (grow (redrawn W d) os) (HVx.out.keep (below_regrown W d os)) (HVz.out.keep (below_regrown W d os))))
  have Q4 := Lib.hid (fun d os => hTX ▸ Calls.regrown_of (type_any K Sx qlx nlx clx qhx nhx chx qzx nzx czx dx (grow (redrawn W d) os) (HVx.out.keep (below_regrown W d os))))
  have Q5 := Lib.hid (fun d os => hTY ▸ Calls.regrown_of (type_any L Sy qly nly cly qhy nhy chy qzy nzy czy dy (grow (redrawn W d) os) (HVy.out.keep (below_regrown W d os))))
  have Q6 := Lib.hid (fun d os => hNX ▸ Calls.regrown_of (size_any K Sx qlx nlx clx qhx nhx chx qzx nzx czx dx (grow (redrawn W d) os) (HVx.out.keep (below_regrown W d os))))
  simp only [Int.natCast_add, Int.cast_ofNat_Int] at Q3
  clear hTX hTY hNX hBS hZ hsy hsz HVx HVy HVz HRx HRy HK HL
  by_cases hkl : K = L
  · have te1 : ((K : Int) == (L : Int)) = true := by rw [te]; exact decide_eq_true hkl
    have tt1 : (TX.toList == TY.toList) = true := by rw [tt]; exact decide_eq_true hkl
    clear te tt hkl hBS2 hk5 hl5
    refine wp_region_quiet_below (by kernel_rfl) (by kernel_rfl) ?_
    repeat (any_goals (first
      | (refine wpQuiet_step (fun K hK => ?_); rw [if_pos (by rfl)]; (first
          | (with_reducible refine quiet_load_rowB 26 (.tmp 6) rfl g rfl 26 _ HX.out _ Try.underlying26 rfl HCx ?_)
          | (with_reducible refine quiet_load_rowB 26 (.tmp 7) rfl g2 rfl 26 _ HY.out _ Try.underlying26 rfl HCy ?_)
          | (with_reducible refine quiet_load_rowB 26 (.tmp 8) rfl g3 rfl 26 _ HZ.out _ Try.underlying26 rfl HCz ?_)); go_simp; refine hK _ ?_; clear hK K)
      | go_big_quiet_step (first
          | (go_at_call 15; with_reducible exact Q1.out _ _)
          | (go_at_call 15; with_reducible exact Q2.out _ _)
          | (go_at_call 15; with_reducible exact Q3.out _ _)
          | (go_at_call 11; with_reducible exact Q4.out _ _)
          | (go_at_call 11; with_reducible exact Q5.out _ _)
          | (go_at_call 13; with_reducible exact Q6.out _ _))))
    with_reducible refine wpQuiet_nil ?_
    intro _ hw'
    obtain ⟨⟨dq, osq⟩, hw''⟩ := hw'
    subst hw''
    have HBq := Lib.hid (HBz.out.trans ((below_regrown W dq osq).mono HBz.out.size))
    clear Q1 Q2 Q3 Q4 Q5 Q6 x0 y0
    go_wp2_with fail
    go_ret
    exact ⟨rfl, HBq.out⟩
  · have te1 : ((K : Int) == (L : Int)) = false := by rw [te]; exact decide_eq_false hkl
    have tt1 : (TX.toList == TY.toList) = false := by rw [tt]; exact decide_eq_false hkl
    obtain rfl := hBS2 hkl
    clear te tt hkl hk5 hl5
    refine wp_region_quiet_below (by kernel_rfl) (by kernel_rfl) ?_
    repeat (any_goals (first
      | (refine wpQuiet_step (fun K hK => ?_); rw [if_pos (by rfl)]; (first
          | (with_reducible refine quiet_load_rowB 26 (.tmp 6) rfl g rfl 26 _ HX.out _ Try.underlying26 rfl HCx ?_)
          | (with_reducible refine quiet_load_rowB 26 (.tmp 7) rfl g2 rfl 26 _ HY.out _ Try.underlying26 rfl HCy ?_)
          | (with_reducible refine quiet_load_rowB 26 (.tmp 8) rfl g3 rfl 26 _ HZ.out _ Try.underlying26 rfl HCz ?_)); go_simp; refine hK _ ?_; clear hK K)
      | go_big_quiet_step (first
          | (go_at_call 15; with_reducible exact Q1.out _ _)
          | (go_at_call 15; with_reducible exact Q2.out _ _)
          | (go_at_call 15; with_reducible exact Q3.out _ _)
          | (go_at_call 11; with_reducible exact Q4.out _ _)
          | (go_at_call 11; with_reducible exact Q5.out _ _)
          | (go_at_call 13; with_reducible exact Q6.out _ _))))
    with_reducible refine wpQuiet_nil ?_
    intro _ hw'
    obtain ⟨⟨dq, osq⟩, hw''⟩ := hw'
    subst hw''
    have HBq := Lib.hid (HBz.out.trans ((below_regrown W dq osq).mono HBz.out.size))
    clear Q1 Q2 Q3 Q4 Q5 Q6 x0 y0
    go_wp2_with fail
    go_ret
    exact ⟨rfl, HBq.out⟩

end Go.Proofs.Ytljhcakfbdbmpaa.valueKinds
