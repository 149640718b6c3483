/-
  ValueAll: which values may be, their types and sizes, and which are the same, is as the document says.
-/
import Derived.Test.YtljhcakfbdbmpaaValLaw
import Derived.Test.YtljhcakfbdbmpaaRefVal2
import Derived.Test.YtljhcakfbdbmpaaRefVal3
namespace Go.Proofs.Ytljhcakfbdbmpaa.valueAll
open Go.Sort Go.RowKit Kit StrT RowG BOrd ValT RefV ValM ValL
set_option linter.unusedVariables false
set_option maxRecDepth 100000
-- ASKS: 
-- VSZ: 

set_option maxHeartbeats 8000000 in
theorem walk (ka : Int) (Sa : ByteArray) (qla : Option Addr) (nla cla : Nat) (qha : Option Addr) (nha cha : Nat) (qza : Option Addr) (nza cza : Nat) (da : V) (kb : Int) (Sb : ByteArray) (qlb : Option Addr) (nlb clb : Nat) (qhb : Option Addr) (nhb chb : Nat) (qzb : Option Addr) (nzb czb : Nat) (db : V) (w : World) (Ha : VArg w ka Sa qla nla cla qha nha cha qza nza cza da) (Hb : VArg w kb Sb qlb nlb clb qhb nhb chb qzb nzb czb db) :
    Calls Try.prog 3 #[.agg #[.int .u8 ka, .string Sa, .slice qla nla cla, .slice qha nha cha, .slice qza nza cza], .agg #[.int .u8 kb, .string Sb, .slice qlb nlb clb, .slice qhb nhb chb, .slice qzb nzb czb]] w fun e w' => e = .returned (.bool true) ∧ Below w.heap.size w w' := by
  have HBx := Lib.hid (SB.new w #[.int .u8 ka, .string Sa, .slice qla nla cla, .slice qha nha cha, .slice qza nza cza] #[.int .u8 kb, .string Sb, .slice qlb nlb clb, .slice qhb nhb chb, .slice qzb nzb czb])
  have HVa := Lib.hid (Ha.keep HBx.out.bl)
  have HVb := Lib.hid (Hb.keep HBx.out.bl)
  have HKa := Lib.hid (show (smallV da).kind ≤ 255 from Ha.kb)
  have HKb := Lib.hid (show (smallV db).kind ≤ 255 from Hb.kb)
  have C0 := Lib.hid (fun W => shown_any W)
  clear Ha Hb
  go_enter Try.func3, Try.ntmps3
  go_upto_region 1 with fail
  generalize ((w.alloc _).alloc _) = w0 at HBx HVa HVb ⊢
  go_wp2_with fail
  refine (C0.out _).mono ?_
  rintro e w1 ⟨rfl, hb1⟩
  have HB1 := Lib.hid (HBx.out.keep hb1)
  have HVa1 := Lib.hid (HVa.out.keep hb1)
  have HVb1 := Lib.hid (HVb.out.keep hb1)
  clear hb1 HBx HVa HVb C0
  have CS := Lib.hid (rsmall ka Sa qla nla cla qha nha cha qza nza cza da w1 HVa1.out)
  have HCa := Lib.hid (show (Try.prog.info? 26).map (·.size) = some (#[.int .u8 ka, .string Sa, .slice qla nla cla, .slice qha nha cha, .slice qza nza cza] : Array Value).size from val_size)
  have HCb := Lib.hid (show (Try.prog.info? 26).map (·.size) = some (#[.int .u8 kb, .string Sb, .slice qlb nlb clb, .slice qhb nhb chb, .slice qzb nzb czb] : Array Value).size from val_size)
  go_wp2_with (with_reducible refine wpList_load_row rfl 26 (.tmp 2) rfl w.heap.size rfl 26 #[.int .u8 ka, .string Sa, .slice qla nla cla, .slice qha nha cha, .slice qza nza cza] (0, 0) _ HB1.out.bx Try.underlying26 rfl HCa.out ?_)
  with_reducible refine CS.out.mono ?_
  rintro e w2 hP
  obtain ⟨kx, Sx, qlx, nlx, clx, qhx, nhx, chx, qzx, nzx, czx, rfl, hVx, hb2⟩ := valP_open hP HKa.out (small_len da).1 (small_len da).2.1 (small_len da).2.2
  have hbn := bel_new w2 (.cells #[.int .u8 kx, .string Sx, .slice qlx nlx clx, .slice qhx nhx chx, .slice qzx nzx czx] 26)
  have HB2 := Lib.hid ((HB1.out.keep hb2).keep hbn)
  have HVx2 := Lib.hid (hVx.keep hbn)
  have HVb2 := Lib.hid ((HVb1.out.keep hb2).keep hbn)
  have HX2 := Lib.hid (heap_alloc_last w2 (.cells #[.int .u8 kx, .string Sx, .slice qlx nlx clx, .slice qhx nhx chx, .slice qzx nzx czx] 26))
  clear hP hVx hb2 hbn HB1 HVa1 HVb1 CS
  go_upto_region 3 with fail
  obtain ⟨g, hg⟩ : ∃ g, g = w2.heap.size := ⟨_, rfl⟩
  rw [← hg] at HX2 ⊢
  clear hg
  generalize w2.alloc _ = w3 at HB2 HVx2 HVb2 HX2 ⊢
  have CS := Lib.hid (rsmall kb Sb qlb nlb clb qhb nhb chb qzb nzb czb db w3 HVb2.out)
  go_wp2_with (with_reducible refine wpList_load_row rfl 26 (.tmp 3) rfl (w.heap.size + 1) rfl 26 #[.int .u8 kb, .string Sb, .slice qlb nlb clb, .slice qhb nhb chb, .slice qzb nzb czb] (0, 0) _ HB2.out.re Try.underlying26 rfl HCb.out ?_)
  with_reducible refine CS.out.mono ?_
  rintro e w4 hP
  obtain ⟨ky, Sy, qly, nly, cly, qhy, nhy, chy, qzy, nzy, czy, rfl, hVy, hb4⟩ := valP_open hP HKb.out (small_len db).1 (small_len db).2.1 (small_len db).2.2
  have hbn := bel_new w4 (.cells #[.int .u8 ky, .string Sy, .slice qly nly cly, .slice qhy nhy chy, .slice qzy nzy czy] 26)
  have HB4 := Lib.hid (((HB2.out.keep hb4).keep hbn).bl)
  have HVx4 := Lib.hid ((HVx2.out.keep hb4).keep hbn)
  have HVy4 := Lib.hid (hVy.keep hbn)
  have HX4 := Lib.hid (show (w4.alloc (.cells #[.int .u8 ky, .string Sy, .slice qly nly cly, .slice qhy nhy chy, .slice qzy nzy czy] 26)).heap[g]? = some (.cells #[.int .u8 kx, .string Sx, .slice qlx nlx clx, .slice qhx nhx chx, .slice qzx nzx czx] 26 (0, 0)) from by
    have hlt := (Array.getElem?_eq_some_iff.1 HX2.out).1
    rw [hbn.block g (by have := hb4.size; omega), hb4.block g hlt]
    exact HX2.out)
  have HY4 := Lib.hid (heap_alloc_last w4 (.cells #[.int .u8 ky, .string Sy, .slice qly nly cly, .slice qhy nhy chy, .slice qzy nzy czy] 26))
  clear hP hVy hb4 hbn HB2 HVx2 HVb2 HX2 CS HCa HCb
  go_upto_region 4 with fail
  obtain ⟨g2, hg2⟩ : ∃ g, g = w4.heap.size := ⟨_, rfl⟩
  rw [← hg2] at HY4 ⊢
  clear hg2
  generalize w4.alloc _ = W at HB4 HVx4 HVy4 HX4 HY4 ⊢
  have HCx := Lib.hid (show (Try.prog.info? 26).map (·.size) = some (#[.int .u8 kx, .string Sx, .slice qlx nlx clx, .slice qhx nhx chx, .slice qzx nzx czx] : Array Value).size from val_size)
  have HCy := Lib.hid (show (Try.prog.info? 26).map (·.size) = some (#[.int .u8 ky, .string Sy, .slice qly nly cly, .slice qhy nhy chy, .slice qzy nzy czy] : Array Value).size from val_size)
  obtain ⟨dx, hdx⟩ : ∃ v, v = smallV da := ⟨_, rfl⟩
  obtain ⟨dy, hdy⟩ : ∃ v, v = smallV db := ⟨_, rfl⟩
  rw [← hdx] at HVx4
  rw [← hdy] at HVy4
  clear hdx hdy HKa HKb
  obtain ⟨BR, hBR⟩ : ∃ v, v = rightB dx := ⟨_, rfl⟩
  obtain ⟨BT, hBT⟩ : ∃ v : ByteArray, v = ⟨(typeL dx).toArray⟩ := ⟨_, rfl⟩
  obtain ⟨BN, hBN⟩ : ∃ v : Int, v = (sizeN dx : Int) := ⟨_, rfl⟩
  obtain ⟨BS, hBS⟩ : ∃ v, v = sameB dx dy := ⟨_, rfl⟩
  have Q1 := Lib.hid (fun d os => hBR ▸ Calls.regrown_of (right_any kx Sx qlx nlx clx qhx nhx chx qzx nzx czx dx (grow (redrawn W d) os) (HVx4.out.keep (below_regrown W d os))))
  have Q2 := Lib.hid (fun d os => hBR ▸ Calls.regrown_of (rright kx Sx qlx nlx clx qhx nhx chx qzx nzx czx dx (grow (redrawn W d) os) (HVx4.out.keep (below_regrown W d os))))
  have Q3 := Lib.hid (fun d os => hBT ▸ Calls.regrown_of (type_any kx Sx qlx nlx clx qhx nhx chx qzx nzx czx dx (grow (redrawn W d) os) (HVx4.out.keep (below_regrown W d os))))
  have Q4 := Lib.hid (fun d os => hBT ▸ Calls.regrown_of (rtype kx Sx qlx nlx clx qhx nhx chx qzx nzx czx dx (grow (redrawn W d) os) (HVx4.out.keep (below_regrown W d os))))
  have Q5 := Lib.hid (fun d os => hBN ▸ Calls.regrown_of (size_any kx Sx qlx nlx clx qhx nhx chx qzx nzx czx dx (grow (redrawn W d) os) (HVx4.out.keep (below_regrown W d os))))
  have Q6 := Lib.hid (fun d os => hBN ▸ Calls.regrown_of (rsize kx Sx qlx nlx clx qhx nhx chx qzx nzx czx dx (grow (redrawn W d) os) (HVx4.out.keep (below_regrown W d os))))
  have Q7 := Lib.hid (fun d os => hBS ▸ Calls.regrown_of (same_any kx Sx qlx nlx clx qhx nhx chx qzx nzx czx dx ky Sy qly nly cly qhy nhy chy qzy nzy czy dy (grow (redrawn W d) os) (HVx4.out.keep (below_regrown W d os)) (HVy4.out.keep (below_regrown W d os))))
  have Q8 := Lib.hid (fun d os => hBS ▸ Calls.regrown_of (rsame kx Sx qlx nlx clx qhx nhx chx qzx nzx czx dx ky Sy qly nly cly qhy nhy chy qzy nzy czy dy (grow (redrawn W d) os) (HVx4.out.keep (below_regrown W d os)) (HVy4.out.keep (below_regrown W d os))))
  have Q9 := Lib.hid (fun d os => (show sameB dx dx = true from decide_eq_true rfl) ▸ Calls.regrown_of (same_any kx Sx qlx nlx clx qhx nhx chx qzx nzx czx dx kx Sx qlx nlx clx qhx nhx chx qzx nzx czx dx (grow (redrawn W d) os) (HVx4.out.keep (below_regrown W d os)) (HVx4.out.keep (below_regrown W d os))))
  clear hBR hBT hBN hBS
  go_wp2_with fail
  refine wp_region_quiet_below (by kernel_rfl) (by kernel_rfl) ?_
  repeat (any_goals (first
    | (refine wpQuiet_step (fun K hK => ?_); rw [if_pos (by rfl)]; (first
        | (with_reducible refine quiet_load_rowB 26 (.tmp 6) rfl g rfl 26 _ HX4.out _ Try.underlying26 rfl HCx ?_)
        | (with_reducible refine quiet_load_rowB 26 (.tmp 7) rfl g2 rfl 26 _ HY4.out _ Try.underlying26 rfl HCy ?_)); go_simp; refine hK _ ?_; clear hK K)
    | go_big_quiet_step (first
        | (go_at_call 9; with_reducible exact Q1.out _ _)
        | (go_at_call 10; with_reducible exact Q2.out _ _)
        | (go_at_call 11; with_reducible exact Q3.out _ _)
        | (go_at_call 12; with_reducible exact Q4.out _ _)
        | (go_at_call 13; with_reducible exact Q5.out _ _)
        | (go_at_call 14; with_reducible exact Q6.out _ _)
        | (go_at_call 15; with_reducible exact Q7.out _ _)
        | (go_at_call 16; with_reducible exact Q8.out _ _)
        | (go_at_call 15; with_reducible exact Q9.out _ _))))
  with_reducible refine wpQuiet_nil ?_
  intro _ hw'
  obtain ⟨⟨dq, osq⟩, hw''⟩ := hw'
  subst hw''
  have HBq := Lib.hid (HB4.out.trans ((below_regrown W dq osq).mono HB4.out.size))
  clear Q1 Q2 Q3 Q4 Q5 Q6 Q7 Q8 Q9
  go_wp2_with fail
  go_ret
  exact ⟨rfl, HBq.out⟩

end Go.Proofs.Ytljhcakfbdbmpaa.valueAll
