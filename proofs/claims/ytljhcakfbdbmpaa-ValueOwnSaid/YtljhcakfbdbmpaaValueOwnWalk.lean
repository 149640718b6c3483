/-
  ValueOwn: a copy is the same value, and neither sees what becomes of the other's rows.
-/
import Derived.Test.YtljhcakfbdbmpaaValTurn
import Derived.Test.YtljhcakfbdbmpaaQuietTail
namespace Go.Proofs.Ytljhcakfbdbmpaa.valueOwn
open Go.Sort Go.RowKit Kit StrT RowG BOrd ValT RefV ValM ValL
set_option linter.unusedVariables false
set_option maxRecDepth 100000
-- ASKS: 
-- VSZ: l h z

set_option maxHeartbeats 8000000 in
theorem walk (ka : Int) (Sa : ByteArray) (qla : Option Addr) (nla cla : Nat) (qha : Option Addr) (nha cha : Nat) (qza : Option Addr) (nza cza : Nat) (da : V) (w : World) (Ha : VArg w ka Sa qla nla cla qha nha cha qza nza cza da) (hSl : ∀ s ∈ da.l, s.length ≤ 140737488351232) (hSh : ∀ p ∈ da.h, p.val.length ≤ 140737488351232) (hSz : ∀ m ∈ da.z, m.name.length ≤ 140737488351232) :
    Calls Try.prog 4 #[.agg #[.int .u8 ka, .string Sa, .slice qla nla cla, .slice qha nha cha, .slice qza nza cza]] w fun e w' => e = .returned (.bool true) ∧ Below w.heap.size w w' := by
  have hbx := bel_new w (.cells #[.int .u8 ka, .string Sa, .slice qla nla cla, .slice qha nha cha, .slice qza nza cza] 26)
  have HBx := Lib.hid hbx
  have HX := Lib.hid (heap_alloc_last w (.cells #[.int .u8 ka, .string Sa, .slice qla nla cla, .slice qha nha cha, .slice qza nza cza] 26))
  have HVa := Lib.hid (Ha.keep hbx)
  have HKb := Lib.hid (show (smallV da).kind ≤ 255 from Ha.kb)
  have HSl := Lib.hid (show ∀ s ∈ (smallV da).l, s.length ≤ 140737488351232 from fun s h => hSl s (List.mem_of_mem_take h))
  have HSh := Lib.hid (show ∀ p ∈ (smallV da).h, p.val.length ≤ 140737488351232 from fun s h => hSh s (List.mem_of_mem_take h))
  have HSz := Lib.hid (show ∀ p ∈ (smallV da).z, p.name.length ≤ 140737488351232 from fun s h => hSz s (List.mem_of_mem_take h))
  have C0 := Lib.hid (fun W => shown_any W)
  clear Ha hbx hSl hSh hSz
  go_enter Try.func4, Try.ntmps4
  go_upto_region 1 with fail
  obtain ⟨ga, hga⟩ : ∃ g, g = w.heap.size := ⟨_, rfl⟩
  have HGa := Lib.hid (show ga < (w.alloc (.cells #[.int .u8 ka, .string Sa, .slice qla nla cla, .slice qha nha cha, .slice qza nza cza] 26)).heap.size by rw [hga]; simp)
  rw [← hga] at HX ⊢
  clear hga
  generalize w.alloc _ = w0 at HBx HVa HX HGa ⊢
  go_wp2_with fail
  refine (C0.out _).mono ?_
  rintro e w1 ⟨rfl, hb1⟩
  have HB1 := Lib.hid (HBx.out.trans (hb1.mono HBx.out.size))
  have HX1 := Lib.hid ((hb1.block ga HGa.out).trans HX.out)
  have HVa1 := Lib.hid (HVa.out.keep hb1)
  have HGa1 := Lib.hid (show ga < w1.heap.size from Nat.lt_of_lt_of_le HGa.out hb1.size)
  clear hb1 HBx HVa HX HGa C0
  have CS1 := Lib.hid (rsmall ka Sa qla nla cla qha nha cha qza nza cza da w1 HVa1.out)
  have HCa := Lib.hid (show (Try.prog.info? 26).map (·.size) = some (#[.int .u8 ka, .string Sa, .slice qla nla cla, .slice qha nha cha, .slice qza nza cza] : Array Value).size from val_size)
  go_wp2_with (with_reducible refine wpList_load_row rfl 26 (.tmp 1) rfl ga rfl 26 #[.int .u8 ka, .string Sa, .slice qla nla cla, .slice qha nha cha, .slice qza nza cza] (0, 0) _ HX1.out Try.underlying26 rfl HCa.out ?_)
  with_reducible refine CS1.out.mono ?_
  rintro e w2 hP
  obtain ⟨kx, Sx, qlx, nlx, clx, qhx, nhx, chx, qzx, nzx, czx, rfl, hVx, hb2⟩ := valP_open hP HKb.out (small_len da).1 (small_len da).2.1 (small_len da).2.2
  have hbn := bel_new w2 (.cells #[.int .u8 kx, .string Sx, .slice qlx nlx clx, .slice qhx nhx chx, .slice qzx nzx czx] 26)
  have HB2 := Lib.hid ((HB1.out.trans (hb2.mono HB1.out.size)).trans (hbn.mono (HB1.out.trans (hb2.mono HB1.out.size)).size))
  have HX2 := Lib.hid ((hbn.block ga (Nat.lt_of_lt_of_le HGa1.out hb2.size)).trans ((hb2.block ga HGa1.out).trans HX1.out))
  have HVa2 := Lib.hid ((HVa1.out.keep hb2).keep hbn)
  have HVx2 := Lib.hid (hVx.keep hbn)
  have HY2 := Lib.hid (heap_alloc_last w2 (.cells #[.int .u8 kx, .string Sx, .slice qlx nlx clx, .slice qhx nhx chx, .slice qzx nzx czx] 26))
  clear hP hVx hb2 hbn HB1 HX1 HVa1 CS1 HGa1
  go_upto_region 3 with fail
  obtain ⟨g, hg⟩ : ∃ g, g = w2.heap.size := ⟨_, rfl⟩
  rw [← hg] at HY2 ⊢
  clear hg
  generalize w2.alloc _ = w3 at HB2 HX2 HVa2 HVx2 HY2 ⊢
  have CS1 := Lib.hid (rsmall ka Sa qla nla cla qha nha cha qza nza cza da w3 HVa2.out)
  go_wp2_with (with_reducible refine wpList_load_row rfl 26 (.tmp 1) rfl ga rfl 26 #[.int .u8 ka, .string Sa, .slice qla nla cla, .slice qha nha cha, .slice qza nza cza] (0, 0) _ HX2.out Try.underlying26 rfl HCa.out ?_)
  with_reducible refine CS1.out.mono ?_
  rintro e w4 hP
  obtain ⟨ky, Sy, qly, nly, cly, qhy, nhy, chy, qzy, nzy, czy, rfl, hVy, hb4⟩ := valP_open hP HKb.out (small_len da).1 (small_len da).2.1 (small_len da).2.2
  have hbn := bel_new w4 (.cells #[.int .u8 ky, .string Sy, .slice qly nly cly, .slice qhy nhy chy, .slice qzy nzy czy] 26)
  have hg3 : g < w3.heap.size := (Array.getElem?_eq_some_iff.1 HY2.out).1
  have HB4 := Lib.hid ((HB2.out.trans (hb4.mono HB2.out.size)).trans (hbn.mono (HB2.out.trans (hb4.mono HB2.out.size)).size))
  have HVx4 := Lib.hid ((HVx2.out.keep hb4).keep hbn)
  have HVy4 := Lib.hid (hVy.keep hbn)
  have HY4 := Lib.hid ((hbn.block g (Nat.lt_of_lt_of_le hg3 hb4.size)).trans ((hb4.block g hg3).trans HY2.out))
  have HZ4 := Lib.hid (heap_alloc_last w4 (.cells #[.int .u8 ky, .string Sy, .slice qly nly cly, .slice qhy nhy chy, .slice qzy nzy czy] 26))
  clear hP hVy hb4 hbn HB2 HX2 HVa2 HVx2 HY2 CS1 hg3 HCa
  go_upto_region 4 with fail
  obtain ⟨g2, hg2⟩ : ∃ g, g = w4.heap.size := ⟨_, rfl⟩
  rw [← hg2] at HZ4 ⊢
  clear hg2
  generalize w4.alloc _ = w5 at HB4 HVx4 HVy4 HY4 HZ4 ⊢
  have HL := Lib.hid (small_len da)
  obtain ⟨dx, hdx⟩ : ∃ v, v = smallV da := ⟨_, rfl⟩
  rw [← hdx] at HVx4 HVy4 HSl HSh HSz HKb HL
  clear hdx
  have HCx := Lib.hid (show (Try.prog.info? 26).map (·.size) = some (#[.int .u8 kx, .string Sx, .slice qlx nlx clx, .slice qhx nhx chx, .slice qzx nzx czx] : Array Value).size from val_size)
  have HCy := Lib.hid (show (Try.prog.info? 26).map (·.size) = some (#[.int .u8 ky, .string Sy, .slice qly nly cly, .slice qhy nhy chy, .slice qzy nzy czy] : Array Value).size from val_size)
  have CO := Lib.hid (own_any kx Sx qlx nlx clx qhx nhx chx qzx nzx czx dx w5 HVx4.out)
  unfold OwnP at CO
  go_wp2_with (with_reducible refine wpList_load_row rfl 26 (.tmp 4) rfl g rfl 26 #[.int .u8 kx, .string Sx, .slice qlx nlx clx, .slice qhx nhx chx, .slice qzx nzx czx] (0, 0) _ HY4.out Try.underlying26 rfl HCx.out ?_)
  with_reducible refine CO.out.mono ?_
  rintro e w6 ⟨Sc, vl, vh, vz, rfl, hSc, hl0, hh0, hz0, hb6⟩
  obtain ⟨qlc, clc, rfl, hl⟩ := RowO.roww hl0 (Nat.le_refl _)
  obtain ⟨qhc, chc, rfl, hh⟩ := RowO.roww hh0 (Nat.le_refl _)
  obtain ⟨qzc, czc, rfl, hz⟩ := RowO.roww hz0 (Nat.le_refl _)
  obtain ⟨kc, hkc⟩ : ∃ k : Int, k = (dx.kind : Int) := ⟨_, rfl⟩
  obtain ⟨nlc, hnl⟩ : ∃ n, n = dx.l.length := ⟨_, rfl⟩
  obtain ⟨nhc, hnh⟩ : ∃ n, n = dx.h.length := ⟨_, rfl⟩
  obtain ⟨nzc, hnz⟩ : ∃ n, n = dx.z.length := ⟨_, rfl⟩
  rw [← hkc, ← hnl, ← hnh, ← hnz]
  rw [← hnl] at hl
  rw [← hnh] at hh
  rw [← hnz] at hz
  have hbn := bel_new w6 (.cells #[.int .u8 kc, .string Sc, .slice qlc nlc clc, .slice qhc nhc chc, .slice qzc nzc czc] 26)
  have HCS := Lib.hid (show CS w5 (w6.alloc (.cells #[.int .u8 kc, .string Sc, .slice qlc nlc clc, .slice qhc nhc chc, .slice qzc nzc czc] 26)) w6.heap.size #[.int .u8 kc, .string Sc, .slice qlc nlc clc, .slice qhc nhc chc, .slice qzc nzc czc] qlc nlc clc qhc nhc chc qzc nzc czc dx.l dx.h dx.z from
    ⟨hb6.trans (hbn.mono hb6.size), heap_alloc_last w6 _, hb6.size, hl.keep hbn, hh.keep hbn, hz.keep hbn⟩)
  have HSc := Lib.hid hSc
  have HKc := Lib.hid hkc
  have HNl := Lib.hid hnl
  have HNh := Lib.hid hnh
  have HNz := Lib.hid hnz
  clear hb6 hbn hl hh hz hl0 hh0 hz0 hSc hkc hnl hnh hnz CO
  go_upto_region 5 with fail
  obtain ⟨gc, hgc⟩ : ∃ g, g = w6.heap.size := ⟨_, rfl⟩
  rw [← hgc] at HCS ⊢
  clear hgc
  generalize w6.alloc _ = w7 at HCS ⊢
  have HKl : Hid (dx.kind ≤ 255) := HKb
  have HVx := Lib.hid (HVx4.out.keep HCS.out.bl)
  have HVy := Lib.hid (HVy4.out.keep HCS.out.bl)
  have HY := Lib.hid ((HCS.out.bl.block g (Array.getElem?_eq_some_iff.1 HY4.out).1).trans HY4.out)
  have hvc := HCS.out.vin dx.kind Sc HKl.out (by rw [HNl.out]; exact HL.out.1) (by rw [HNh.out]; exact HL.out.2.1) (by rw [HNz.out]; exact HL.out.2.2)
  rw [HSc.out, ← HKc.out] at hvc
  have CSm := Lib.hid (same_any _ _ _ _ _ _ _ _ _ _ _ _ _ _ _ _ _ _ _ _ _ _ _ _ w7 hvc HVx.out)
  rw [show sameB ⟨dx.kind, dx.s, dx.l, dx.h, dx.z⟩ dx = true from decide_eq_true rfl] at CSm
  obtain ⟨-, -, a0, a1, a2, a3, a4⟩ := VCells.of HCS.out.cb
  obtain ⟨-, -, b0, b1, b2, b3, b4⟩ := VCells.of HY.out
  clear hvc
  go_wp2_with fail
  with_reducible refine CSm.out.mono ?_
  rintro e w8 ⟨rfl, hb8⟩
  have HCS8 := Lib.hid (HCS.out.keep hb8)
  clear hb8 CSm HCS HVx HVy HY a0 a1 a2 a3 a4 b0 b1 b2 b3 b4
  have HU0 := Lib.hid (show CS w5 w8 gc #[.int .u8 kc, .string Sc, .slice qlc nlc clc, .slice qhc nhc chc, .slice qzc nzc czc] qlc nlc clc qhc nhc chc qzc nzc czc (upd fL dx.l 0) dx.h dx.z by rw [upd_zero]; exact HCS8.out)
  have hnl8 : nlc ≤ 1048576 := by rw [HNl.out]; exact HL.out.1
  have hnh8 : nhc ≤ 1048576 := by rw [HNh.out]; exact HL.out.2.1
  have hnz8 : nzc ≤ 1048576 := by rw [HNz.out]; exact HL.out.2.2
  clear HCS8
  go_upto_region 8 with fail
  go_loopw [7] (fun i wr => ∃ k : Nat, k ≤ nlc ∧ i = .int .i64 k ∧ Hid (CS w5 wr gc #[.int .u8 kc, .string Sc, .slice qlc nlc clc, .slice qhc nhc chc, .slice qzc nzc czc] qlc nlc clc qhc nhc chc qzc nzc czc (upd fL dx.l k) dx.h dx.z)) (fun i _ => nlc - (intOf i).toNat)
  case atStart => exact ⟨0, Nat.zero_le _, rfl, HU0⟩
  case round =>
    obtain ⟨k, hk, rfl, HC⟩ := hrel
    clear HU0
    by_cases hlt : k < nlc
    · have d1 : decide ((k : Int) < (nlc : Int)) = true := decide_eq_true (by omega)
      have hk0 : (0 : Int) ≤ (k : Int) := by omega
      have hkn : (k : Int) < (nlc : Int) := by omega
      have hkl : k < dx.l.length := by rw [← HNl.out]; exact hlt
      have hku : k < (upd fL dx.l k).length := by rw [upd_len]; exact hkl
      obtain ⟨g1, e1, hge, hne, ho⟩ := HC.out.l.full k hku
      obtain ⟨t, ht⟩ : ∃ t, t = dx.l[k] := ⟨_, rfl⟩
      have ht8 : t.length ≤ 140737488351232 := by rw [ht]; exact HSl.out _ (List.getElem_mem hkl)
      obtain ⟨T, hT⟩ : ∃ T : ByteArray, T = ⟨t.toArray⟩ := ⟨_, rfl⟩
      have u0 : wr.cell? ⟨g1, k, none⟩ = some (.string T) := by
        have h := ho.cell k 0 hku (by decide)
        rw [show k * strE.sz + 0 = k from by show k * 1 + 0 = k; omega, upd_at fL dx.l k hkl, ← ht] at h
        rw [h, hT]
        rfl
      have f0 : wr.frozen? ⟨g1, k, none⟩ = false := ho.frz k
      have m2 : wr.cell? ⟨gc, 2, none⟩ = some (.slice qlc nlc clc) := by rw [cell_of_row _ _ _ _ 26 _ HC.out.cb]; rfl
      obtain ⟨V, hV⟩ : ∃ V : ByteArray, V = T ++ (⟨#[122]⟩ : ByteArray) := ⟨_, rfl⟩
      have hTs : T.size = t.length := by rw [hT]; rfl
      have add : ∀ W, (Op.stringOp .add T (⟨#[122]⟩ : ByteArray)).run Try.prog W = .ok (.string V) W := fun W => by
        rw [hV]
        exact run_string_add_sum W T _ (by rw [show (⟨#[122]⟩ : ByteArray).size = 1 from rfl]; omega)
      have hVt : Value.string V = .string ⟨(fL t).toArray⟩ := by
        have h : V = ⟨(fL t).toArray⟩ := by
          apply ByteArray.ext
          rw [hV, ByteArray.data_append, hT]
          apply Array.toList_inj.1
          rw [Array.toList_append]
          rfl
        rw [h]
      have HN := Lib.hid (fun (W : World) (h : CS w5 W gc #[.int .u8 kc, .string Sc, .slice qlc nlc clc, .slice qhc nhc chc, .slice qzc nzc czc] qlc nlc clc qhc nhc chc qzc nzc czc (upd fL dx.l k) dx.h dx.z) => (by
        have h2 := h.setL k hku (fL t) (.string V) hVt e1
        rw [ht, upd_succ fL dx.l k hkl] at h2
        exact h2 : CS w5 (W.setCell ⟨g1, k, none⟩ (.string V)) gc #[.int .u8 kc, .string Sc, .slice qlc nlc clc, .slice qhc nhc chc, .slice qzc nzc czc] qlc nlc clc qhc nhc chc qzc nzc czc (upd fL dx.l (k + 1)) dx.h dx.z))
      clear hTs hT hV hVt ht ho hge hne
      subst e1
      go_wp2_with fail
      refine wp_region_quiet_tail_lit 10 (by kernel_rfl) (by kernel_rfl) ?_
      simp only [List.take_succ_cons, List.take_zero, List.drop_succ_cons, List.drop_zero]
      repeat (go_big_quiet_step (fail))
      refine wpQuiet_nil ?_
      rintro _ ⟨nq, rfl⟩
      have HCq := Lib.hid (HC.out.keep (drewN_below (Below.refl wr.heap.size wr) nq))
      have u0q : (wr.drewN nq).cell? ⟨g1, k, none⟩ = some (.string T) := u0
      have f0q : (wr.drewN nq).frozen? ⟨g1, k, none⟩ = false := f0
      have HNq := Lib.hid (HN.out _ HCq.out)
      clear u0 f0 m2 HN HC
      generalize wr.drewN nq = wq at HCq HNq u0q f0q ⊢
      go_wp2_with fail
      go_roundw
      case rel => exact ⟨k + 1, hlt, by go_num, HNq⟩
      case measure => simp [intOf]; omega
    · have d1 : decide ((k : Int) < (nlc : Int)) = false := decide_eq_false (by omega)
      have HCA := Lib.hid (show CS w5 wr gc #[.int .u8 kc, .string Sc, .slice qlc nlc clc, .slice qhc nhc chc, .slice qzc nzc czc] qlc nlc clc qhc nhc chc qzc nzc czc (dx.l.map fL) dx.h dx.z by
        rw [← upd_all fL dx.l k (by rw [← HNl.out]; omega)]
        exact HC.out)
      have hkx : ¬ k < nlc := hlt
      clear HC hlt
      have hkk : (k : Int) = (nlc : Int) := by omega
      generalize wr = wA at HCA ⊢
      have m2 : wA.cell? ⟨gc, 2, none⟩ = some (.slice qlc nlc clc) := by rw [cell_of_row _ _ _ _ 26 _ HCA.out.cb]; rfl
      have HU0 := Lib.hid (show CS w5 wA gc #[.int .u8 kc, .string Sc, .slice qlc nlc clc, .slice qhc nhc chc, .slice qzc nzc czc] qlc nlc clc qhc nhc chc qzc nzc czc (dx.l.map fL) (upd fP dx.h 0) dx.z by rw [upd_zero]; exact HCA.out)
      clear HCA
      go_wp2_with fail
      clear m2
      go_loopw [8] (fun i wr => ∃ k : Nat, k ≤ nhc ∧ i = .int .i64 k ∧ Hid (CS w5 wr gc #[.int .u8 kc, .string Sc, .slice qlc nlc clc, .slice qhc nhc chc, .slice qzc nzc czc] qlc nlc clc qhc nhc chc qzc nzc czc (dx.l.map fL) (upd fP dx.h k) dx.z)) (fun i _ => nhc - (intOf i).toNat)
      case atStart => exact ⟨0, Nat.zero_le _, rfl, HU0⟩
      case round =>
        obtain ⟨k, hk, rfl, HC⟩ := hrel
        clear HU0
        by_cases hlt : k < nhc
        · have d1 : decide ((k : Int) < (nhc : Int)) = true := decide_eq_true (by omega)
          have hk0 : (0 : Int) ≤ (k : Int) := by omega
          have hkn : (k : Int) < (nhc : Int) := by omega
          have hkl : k < dx.h.length := by rw [← HNh.out]; exact hlt
          have hku : k < (upd fP dx.h k).length := by rw [upd_len]; exact hkl
          obtain ⟨g1, e1, hge, hne, ho⟩ := HC.out.h.full k hku
          obtain ⟨p, hp⟩ : ∃ p, p = dx.h[k] := ⟨_, rfl⟩
          have ht8 : p.val.length ≤ 140737488351232 := by rw [hp]; exact HSh.out _ (List.getElem_mem hkl)
          obtain ⟨T, hT⟩ : ∃ T : ByteArray, T = ⟨p.val.toArray⟩ := ⟨_, rfl⟩
          have u0 : wr.cell? ⟨g1, k * 2 + 1, none⟩ = some (.string T) := by
            have h := ho.cell k 1 hku (by decide)
            rw [show k * prE.sz + 1 = k * 2 + 1 from rfl, upd_at fP dx.h k hkl, ← hp] at h
            rw [h, hT]
            rfl
          have f0 : wr.frozen? ⟨g1, k * 2 + 1, none⟩ = false := ho.frz _
          have m2 : wr.cell? ⟨gc, 3, none⟩ = some (.slice qhc nhc chc) := by rw [cell_of_row _ _ _ _ 26 _ HC.out.cb]; rfl
          obtain ⟨V, hV⟩ : ∃ V : ByteArray, V = T ++ (⟨#[122]⟩ : ByteArray) := ⟨_, rfl⟩
          have hTs : T.size = p.val.length := by rw [hT]; rfl
          have add : ∀ W, (Op.stringOp .add T (⟨#[122]⟩ : ByteArray)).run Try.prog W = .ok (.string V) W := fun W => by
            rw [hV]
            exact run_string_add_sum W T _ (by rw [show (⟨#[122]⟩ : ByteArray).size = 1 from rfl]; omega)
          have hVt : Value.string V = .string ⟨(fP p).val.toArray⟩ := by
            have h : V = ⟨(fP p).val.toArray⟩ := by
              apply ByteArray.ext
              rw [hV, ByteArray.data_append, hT]
              apply Array.toList_inj.1
              rw [Array.toList_append]
              rfl
            rw [h]
          have HN := Lib.hid (fun (W : World) (h : CS w5 W gc #[.int .u8 kc, .string Sc, .slice qlc nlc clc, .slice qhc nhc chc, .slice qzc nzc czc] qlc nlc clc qhc nhc chc qzc nzc czc (dx.l.map fL) (upd fP dx.h k) dx.z) => (by
            have h2 := h.setH k hku (fP p) (.string V) hVt (by rw [upd_at fP dx.h k hkl, hp]; rfl) e1
            rw [hp, upd_succ fP dx.h k hkl] at h2
            exact h2 : CS w5 (W.setCell ⟨g1, k * 2 + 1, none⟩ (.string V)) gc #[.int .u8 kc, .string Sc, .slice qlc nlc clc, .slice qhc nhc chc, .slice qzc nzc czc] qlc nlc clc qhc nhc chc qzc nzc czc (dx.l.map fL) (upd fP dx.h (k + 1)) dx.z))
          clear hTs hT hV hVt hp ho hge hne
          subst e1
          go_wp2_with fail
          refine wp_region_quiet_tail_lit 12 (by kernel_rfl) (by kernel_rfl) ?_
          simp only [List.take_succ_cons, List.take_zero, List.drop_succ_cons, List.drop_zero]
          repeat (go_big_quiet_step (fail))
          refine wpQuiet_nil ?_
          rintro _ ⟨nq, rfl⟩
          have HCq := Lib.hid (HC.out.keep (drewN_below (Below.refl wr.heap.size wr) nq))
          have u0q : (wr.drewN nq).cell? ⟨g1, k * 2 + 1, none⟩ = some (.string T) := u0
          have f0q : (wr.drewN nq).frozen? ⟨g1, k * 2 + 1, none⟩ = false := f0
          have HNq := Lib.hid (HN.out _ HCq.out)
          clear u0 f0 m2 HN HC
          generalize wr.drewN nq = wq at HCq HNq u0q f0q ⊢
          go_wp2_with fail
          go_roundw
          case rel => exact ⟨k + 1, hlt, by go_num, HNq⟩
          case measure => simp [intOf]; omega
        · have d1 : decide ((k : Int) < (nhc : Int)) = false := decide_eq_false (by omega)
          have HCA := Lib.hid (show CS w5 wr gc #[.int .u8 kc, .string Sc, .slice qlc nlc clc, .slice qhc nhc chc, .slice qzc nzc czc] qlc nlc clc qhc nhc chc qzc nzc czc (dx.l.map fL) (dx.h.map fP) dx.z by
            rw [← upd_all fP dx.h k (by rw [← HNh.out]; omega)]
            exact HC.out)
          have hkx : ¬ k < nhc := hlt
          clear HC hlt
          have hkk : (k : Int) = (nhc : Int) := by omega
          generalize wr = wA at HCA ⊢
          have m2 : wA.cell? ⟨gc, 3, none⟩ = some (.slice qhc nhc chc) := by rw [cell_of_row _ _ _ _ 26 _ HCA.out.cb]; rfl
          have HU0 := Lib.hid (show CS w5 wA gc #[.int .u8 kc, .string Sc, .slice qlc nlc clc, .slice qhc nhc chc, .slice qzc nzc czc] qlc nlc clc qhc nhc chc qzc nzc czc (dx.l.map fL) (dx.h.map fP) (upd fM dx.z 0) by rw [upd_zero]; exact HCA.out)
          clear HCA
          go_wp2_with fail
          clear m2
          go_loopw [9] (fun i wr => ∃ k : Nat, k ≤ nzc ∧ i = .int .i64 k ∧ Hid (CS w5 wr gc #[.int .u8 kc, .string Sc, .slice qlc nlc clc, .slice qhc nhc chc, .slice qzc nzc czc] qlc nlc clc qhc nhc chc qzc nzc czc (dx.l.map fL) (dx.h.map fP) (upd fM dx.z k))) (fun i _ => nzc - (intOf i).toNat)
          case atStart => exact ⟨0, Nat.zero_le _, rfl, HU0⟩
          case round =>
            obtain ⟨k, hk, rfl, HC⟩ := hrel
            clear HU0
            by_cases hlt : k < nzc
            · have d1 : decide ((k : Int) < (nzc : Int)) = true := decide_eq_true (by omega)
              have hk0 : (0 : Int) ≤ (k : Int) := by omega
              have hkn : (k : Int) < (nzc : Int) := by omega
              have hkl : k < dx.z.length := by rw [← HNz.out]; exact hlt
              have hku : k < (upd fM dx.z k).length := by rw [upd_len]; exact hkl
              obtain ⟨g1, e1, hge, hne, ho⟩ := HC.out.z.full k hku
              obtain ⟨p, hp⟩ : ∃ p, p = dx.z[k] := ⟨_, rfl⟩
              have ht8 : p.name.length ≤ 140737488351232 := by rw [hp]; exact HSz.out _ (List.getElem_mem hkl)
              obtain ⟨T, hT⟩ : ∃ T : ByteArray, T = ⟨p.name.toArray⟩ := ⟨_, rfl⟩
              have u0 : wr.cell? ⟨g1, k * 2, none⟩ = some (.string T) := by
                have h := ho.cell k 0 hku (by decide)
                rw [show k * mkE.sz + 0 = k * 2 from rfl, upd_at fM dx.z k hkl, ← hp] at h
                rw [h, hT]
                rfl
              have f0 : wr.frozen? ⟨g1, k * 2, none⟩ = false := ho.frz _
              have m2 : wr.cell? ⟨gc, 4, none⟩ = some (.slice qzc nzc czc) := by rw [cell_of_row _ _ _ _ 26 _ HC.out.cb]; rfl
              obtain ⟨V, hV⟩ : ∃ V : ByteArray, V = T ++ (⟨#[122]⟩ : ByteArray) := ⟨_, rfl⟩
              have hTs : T.size = p.name.length := by rw [hT]; rfl
              have add : ∀ W, (Op.stringOp .add T (⟨#[122]⟩ : ByteArray)).run Try.prog W = .ok (.string V) W := fun W => by
                rw [hV]
                exact run_string_add_sum W T _ (by rw [show (⟨#[122]⟩ : ByteArray).size = 1 from rfl]; omega)
              have hVt : Value.string V = .string ⟨(fM p).name.toArray⟩ := by
                have h : V = ⟨(fM p).name.toArray⟩ := by
                  apply ByteArray.ext
                  rw [hV, ByteArray.data_append, hT]
                  apply Array.toList_inj.1
                  rw [Array.toList_append]
                  rfl
                rw [h]
              have HN := Lib.hid (fun (W : World) (h : CS w5 W gc #[.int .u8 kc, .string Sc, .slice qlc nlc clc, .slice qhc nhc chc, .slice qzc nzc czc] qlc nlc clc qhc nhc chc qzc nzc czc (dx.l.map fL) (dx.h.map fP) (upd fM dx.z k)) => (by
                have h2 := h.setZ k hku (fM p) (.string V) hVt (by rw [upd_at fM dx.z k hkl, hp]; rfl) e1
                rw [hp, upd_succ fM dx.z k hkl] at h2
                exact h2 : CS w5 (W.setCell ⟨g1, k * 2, none⟩ (.string V)) gc #[.int .u8 kc, .string Sc, .slice qlc nlc clc, .slice qhc nhc chc, .slice qzc nzc czc] qlc nlc clc qhc nhc chc qzc nzc czc (dx.l.map fL) (dx.h.map fP) (upd fM dx.z (k + 1))))
              clear hTs hT hV hVt hp ho hge hne
              subst e1
              go_wp2_with fail
              refine wp_region_quiet_tail_lit 12 (by kernel_rfl) (by kernel_rfl) ?_
              simp only [List.take_succ_cons, List.take_zero, List.drop_succ_cons, List.drop_zero]
              repeat (go_big_quiet_step (fail))
              refine wpQuiet_nil ?_
              rintro _ ⟨nq, rfl⟩
              have HCq := Lib.hid (HC.out.keep (drewN_below (Below.refl wr.heap.size wr) nq))
              have u0q : (wr.drewN nq).cell? ⟨g1, k * 2, none⟩ = some (.string T) := u0
              have f0q : (wr.drewN nq).frozen? ⟨g1, k * 2, none⟩ = false := f0
              have HNq := Lib.hid (HN.out _ HCq.out)
              clear u0 f0 m2 HN HC
              generalize wr.drewN nq = wq at HCq HNq u0q f0q ⊢
              go_wp2_with fail
              go_roundw
              case rel => exact ⟨k + 1, hlt, by go_num, HNq⟩
              case measure => simp [intOf]; omega
            · have d1 : decide ((k : Int) < (nzc : Int)) = false := decide_eq_false (by omega)
              have HCA := Lib.hid (show CS w5 wr gc #[.int .u8 kc, .string Sc, .slice qlc nlc clc, .slice qhc nhc chc, .slice qzc nzc czc] qlc nlc clc qhc nhc chc qzc nzc czc (dx.l.map fL) (dx.h.map fP) (dx.z.map fM) by
                rw [← upd_all fM dx.z k (by rw [← HNz.out]; omega)]
                exact HC.out)
              have hkx : ¬ k < nzc := hlt
              clear HC hlt
              have hkk : (k : Int) = (nzc : Int) := by omega
              generalize wr = wA at HCA ⊢
              have m2 : wA.cell? ⟨gc, 4, none⟩ = some (.slice qzc nzc czc) := by rw [cell_of_row _ _ _ _ 26 _ HCA.out.cb]; rfl
              go_wp2_with fail
              clear m2
              have HVx := Lib.hid (HVx4.out.keep HCA.out.bl)
              have HVy := Lib.hid (HVy4.out.keep HCA.out.bl)
              have HXX := Lib.hid ((HCA.out.bl.block g (Array.getElem?_eq_some_iff.1 HY4.out).1).trans HY4.out)
              have HYY := Lib.hid ((HCA.out.bl.block g2 (Array.getElem?_eq_some_iff.1 HZ4.out).1).trans HZ4.out)
              have HCC := Lib.hid HCA.out.cb
              have hvc := HCA.out.vin dx.kind Sc HKl.out hnl8 hnh8 hnz8
              rw [HSc.out, ← HKc.out] at hvc
              have HVc := Lib.hid hvc
              have HBW := Lib.hid (HB4.out.trans (HCA.out.bl.mono HB4.out.size))
              have HCc := Lib.hid (show (Try.prog.info? 26).map (·.size) = some (#[.int .u8 kc, .string Sc, .slice qlc nlc clc, .slice qhc nhc chc, .slice qzc nzc czc] : Array Value).size from val_size)
              obtain ⟨Z, hZ⟩ : ∃ b, b = decide (dx.l.length + dx.h.length + dx.z.length = 0) := ⟨_, rfl⟩
              have hq : sameB ⟨dx.kind, dx.s, dx.l.map fL, dx.h.map fP, dx.z.map fM⟩ dx = Z := by rw [hZ]; exact same_own dx
              have hxl : nlx ≤ 1048576 := HVx.out.fl
              have hxh : nhx ≤ 1048576 := HVx.out.fh
              have hxz : nzx ≤ 1048576 := HVx.out.fz
              have tz : ((nlx : Int) + (nhx : Int) + (nzx : Int) == 0) = Z := by
                rw [hZ, HVx.out.ll, HVx.out.lh, HVx.out.lz, Bool.eq_iff_iff, beq_iff_eq, decide_eq_true_iff]
                omega
              have x2 := fun d os => cell_regrown (show wA.cell? ⟨g, 2, none⟩ = some (.slice qlx nlx clx) by rw [cell_of_row _ _ _ _ 26 _ HXX.out]; rfl) d os
              have x3 := fun d os => cell_regrown (show wA.cell? ⟨g, 3, none⟩ = some (.slice qhx nhx chx) by rw [cell_of_row _ _ _ _ 26 _ HXX.out]; rfl) d os
              have x4 := fun d os => cell_regrown (show wA.cell? ⟨g, 4, none⟩ = some (.slice qzx nzx czx) by rw [cell_of_row _ _ _ _ 26 _ HXX.out]; rfl) d os
              have Q1 := Lib.hid (fun d os => (show sameB dx dx = true from decide_eq_true rfl) ▸ Calls.regrown_of (same_any _ _ _ _ _ _ _ _ _ _ _ _ _ _ _ _ _ _ _ _ _ _ _ _ (grow (redrawn wA d) os) (HVx.out.keep (below_regrown wA d os)) (HVy.out.keep (below_regrown wA d os))))
              have Q2 := Lib.hid (fun d os => hq ▸ Calls.regrown_of (same_any _ _ _ _ _ _ _ _ _ _ _ _ _ _ _ _ _ _ _ _ _ _ _ _ (grow (redrawn wA d) os) (HVc.out.keep (below_regrown wA d os)) (HVx.out.keep (below_regrown wA d os))))
              clear hvc hZ hq hkx hkk HCA
              refine wp_region_quiet_below (by kernel_rfl) (by kernel_rfl) ?_
              repeat (any_goals (first
                | (refine wpQuiet_step (fun K hK => ?_); rw [if_pos (by rfl)]; (first
                    | (with_reducible refine quiet_load_rowB 26 (.tmp 4) rfl g rfl 26 _ HXX.out _ Try.underlying26 rfl HCx ?_)
                    | (with_reducible refine quiet_load_rowB 26 (.tmp 5) rfl g2 rfl 26 _ HYY.out _ Try.underlying26 rfl HCy ?_)
                    | (with_reducible refine quiet_load_rowB 26 (.tmp 6) rfl gc rfl 26 _ HCC.out _ Try.underlying26 rfl HCc ?_)); go_simp; refine hK _ ?_; clear hK K)
                | go_big_quiet_step (first
                    | (go_at_call 15; with_reducible exact Q1.out _ _)
                    | (go_at_call 15; with_reducible exact Q2.out _ _))))
              with_reducible refine wpQuiet_nil ?_
              intro _ hw'
              obtain ⟨⟨dq, osq⟩, hw''⟩ := hw'
              subst hw''
              have HBq := Lib.hid (HBW.out.trans ((below_regrown wA dq osq).mono HBW.out.size))
              clear Q1 Q2 x2 x3 x4
              go_wp2_with fail
              go_ret
              exact ⟨rfl, HBq.out⟩

end Go.Proofs.Ytljhcakfbdbmpaa.valueOwn
