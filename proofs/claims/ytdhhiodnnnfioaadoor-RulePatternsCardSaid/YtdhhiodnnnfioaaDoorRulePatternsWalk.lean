/-
  RulePatterns: each word may be a pattern, of keys that are read, written, or both, or of channels; a text with a blank, or none, is none; whatever is behind a > is a password.
-/
import Derived.Test.YtdhhiodnnnfioaaDoorRuleLaw
namespace Go.Proofs.YtdhhiodnnnfioaaDoor.rulePatterns
open Go.RowKit Kit TableMath Low StrT RuleT RefRule RuleM RuleL
set_option linter.unusedVariables false
set_option maxRecDepth 100000
-- ASKS: NumL.Gd MacT.Mx

def cutS (s : ByteArray) : ByteArray := if 60 < s.size then s.extract 0 60 else s
theorem cutS_size (s : ByteArray) : (cutS s).size ≤ 60 := by
  unfold cutS
  split
  · rw [ByteArray.size_extract]; omega
  · omega
theorem add_str (M T V : ByteArray) (hz : T.size ≤ 60) (hM : M.size ≤ 4) (hV : V = M ++ T) (W : World) : (Op.stringOp .add M T).run Tryd.prog W = .ok (.string V) W := by
  rw [hV]
  exact run_string_add_sum W M T (by omega)
theorem rans_pat {o : Option RV} (k : Nat) (T : ByteArray) (r w : Bool) (h : o = some ⟨k, T.data.toList, r, w, 0⟩) : RAns o (k : Int) T r w 0 true := by
  subst h
  exact congrArg (fun s => Ending.returned (.tuple #[.agg #[.int .u8 (k : Int), .string s, .bool r, .bool w, .int .u64 0], .bool true])) (str_of (s := T) rfl).symm
theorem cat_list (M T V : ByteArray) (h : V = M ++ T) : V.data.toList = M.data.toList ++ T.data.toList := by
  rw [h]
  simp
theorem cat_size (M T V : ByteArray) (h : V = M ++ T) (hM : M.size ≤ 4) (hT : T.size ≤ 60) : V.size ≤ 1048000 := by
  rw [h, ByteArray.size_append]
  omega
/-- The row of marks. -/
def MAt (w : World) (g : Nat) : Prop := g < w.heap.size ∧ w.heap[g]? = some (.cells #[.string ⟨#[126]⟩, .string ⟨#[37, 82, 126]⟩, .string ⟨#[37, 87, 126]⟩, .string ⟨#[37, 82, 87, 126]⟩] 39 (0, 0))
theorem MAt.keep {w w' : World} {g : Nat} (h : MAt w g) (hb : Below w.heap.size w w') : MAt w' g := ⟨Nat.lt_of_lt_of_le h.1 hb.size, by rw [hb.block _ h.1]; exact h.2⟩
theorem MAt.cells {w : World} {g : Nat} (h : MAt w g) : w.cell? ⟨g, 0, none⟩ = some (.string ⟨#[126]⟩) ∧ w.cell? ⟨g, 1, none⟩ = some (.string ⟨#[37, 82, 126]⟩) ∧ w.cell? ⟨g, 2, none⟩ = some (.string ⟨#[37, 87, 126]⟩) ∧ w.cell? ⟨g, 3, none⟩ = some (.string ⟨#[37, 82, 87, 126]⟩) := by
  refine ⟨?_, ?_, ?_, ?_⟩ <;> rw [cell_of_row _ _ _ _ _ _ h.2] <;> rfl
theorem mat_new (w W : World) (g : Nat) (hW : W = w.alloc (.cells #[.string ⟨#[126]⟩, .string ⟨#[37, 82, 126]⟩, .string ⟨#[37, 87, 126]⟩, .string ⟨#[37, 82, 87, 126]⟩] 39)) (hg : g = w.heap.size) : MAt W g ∧ Below w.heap.size w W := by
  subst hW hg
  exact ⟨⟨by simp, heap_alloc_last _ _⟩, Kit.below1 _ _⟩
theorem build_m (w : World) : (Instr.build 39 #[(0, .string ⟨#[126]⟩), (1, .string ⟨#[37, 82, 126]⟩), (2, .string ⟨#[37, 87, 126]⟩), (3, .string ⟨#[37, 82, 87, 126]⟩)]).run Tryd.prog w = .ok (.agg #[.string ⟨#[126]⟩, .string ⟨#[37, 82, 126]⟩, .string ⟨#[37, 87, 126]⟩, .string ⟨#[37, 82, 87, 126]⟩]) w := run_build w 39 _ _ (by kernel_rfl)

set_option maxHeartbeats 4000000 in
theorem walk (s : ByteArray) (w : World) (hs : s.size ≤ 140737488351232) (hg1 : NumL.Gd w) (hg2 : MacT.Mx w) :
    Calls Tryd.prog 5 #[.string s] w fun e w' => e = .returned (.bool true) ∧ Below w.heap.size w w' := by
  have HG := Lib.hid (Gw.mk hg1 hg2)
  have C0 := Lib.hid (shown_any w HG.out)
  obtain ⟨T, hT⟩ : ∃ T, T = cutS s := ⟨_, rfl⟩
  have hTs : T.size ≤ 60 := by rw [hT]; exact cutS_size s
  have hcut : 60 < s.size → T = s.extract 0 60 := fun h => by rw [hT]; exact if_pos h
  have hsame : ¬ 60 < s.size → T = s := fun h => by rw [hT]; exact if_neg h
  clear hT hg1 hg2
  have CW := Lib.hid (fun W => Ref01.word_ref T W (by unfold maxLen; omega))
  obtain ⟨B, hB⟩ : ∃ B, B = NumW.wordB T.data.toList := ⟨_, rfl⟩
  rw [← hB] at CW
  have HBq := Lib.hid hB
  clear hB
  have bb1 := build_ks
  have bb2 := build_ksrw
  have bbm := build_m
  obtain ⟨V0, hV0⟩ : ∃ V : ByteArray, V = ⟨#[126]⟩ ++ T := ⟨_, rfl⟩
  have a0 := add_str ⟨#[126]⟩ T V0 hTs (by decide) hV0
  have l0 := cat_list _ _ _ hV0
  have z0 := cat_size _ _ _ hV0 (by decide) hTs
  obtain ⟨V1, hV1⟩ : ∃ V : ByteArray, V = ⟨#[37, 82, 126]⟩ ++ T := ⟨_, rfl⟩
  have a1 := add_str ⟨#[37, 82, 126]⟩ T V1 hTs (by decide) hV1
  have l1 := cat_list _ _ _ hV1
  have z1 := cat_size _ _ _ hV1 (by decide) hTs
  obtain ⟨V2, hV2⟩ : ∃ V : ByteArray, V = ⟨#[37, 87, 126]⟩ ++ T := ⟨_, rfl⟩
  have a2 := add_str ⟨#[37, 87, 126]⟩ T V2 hTs (by decide) hV2
  have l2 := cat_list _ _ _ hV2
  have z2 := cat_size _ _ _ hV2 (by decide) hTs
  obtain ⟨V3, hV3⟩ : ∃ V : ByteArray, V = ⟨#[37, 82, 87, 126]⟩ ++ T := ⟨_, rfl⟩
  have a3 := add_str ⟨#[37, 82, 87, 126]⟩ T V3 hTs (by decide) hV3
  have l3 := cat_list _ _ _ hV3
  have z3 := cat_size _ _ _ hV3 (by decide) hTs
  obtain ⟨Vc, hVc⟩ : ∃ V : ByteArray, V = ⟨#[38]⟩ ++ T := ⟨_, rfl⟩
  have ac := add_str ⟨#[38]⟩ T Vc hTs (by decide) hVc
  have lc := cat_list _ _ _ hVc
  have zc := cat_size _ _ _ hVc (by decide) hTs
  obtain ⟨Vp, hVp⟩ : ∃ V : ByteArray, V = ⟨#[62]⟩ ++ T := ⟨_, rfl⟩
  have ap := add_str ⟨#[62]⟩ T Vp hTs (by decide) hVp
  have lp := cat_list _ _ _ hVp
  have zp := cat_size _ _ _ hVp (by decide) hTs
  obtain ⟨Vx, hVx⟩ : ∃ V : ByteArray, V = ⟨#[37, 88, 126]⟩ ++ T := ⟨_, rfl⟩
  have ax := add_str ⟨#[37, 88, 126]⟩ T Vx hTs (by decide) hVx
  have lx := cat_list _ _ _ hVx
  have zx := cat_size _ _ _ hVx (by decide) hTs
  clear hV0 hV1 hV2 hV3 hVc hVp hVx
  go_enter Tryd.func5, Tryd.ntmps5
  go_wp2_with fail
  refine C0.out.mono ?_
  rintro e w1 ⟨rfl, hb1⟩
  have HB1 := Lib.hid hb1
  clear hb1 C0
  by_cases h60 : 60 < s.size
  all_goals
    first
      | have h60' : 60 < s.size := h60
        have s1 : ∀ W, (Instr.slice 9 (.string s) none (some (.int .i64 60)) none).run Tryd.prog W = .ok (.string T) W := fun W => by
          have h := run_slice_string_h (P := Tryd.prog) W 9 s Tryd.underlying9 .i64 60 (by omega) (by omega)
          rw [show (60 : Int).toNat = 60 from rfl, ← hcut h60] at h
          exact h
        have d1 : (60 : Int) < (s.size : Int) := by omega
        clear hcut hsame h60'
      | have e := hsame h60
        subst e
        have d1 : ¬ ((60 : Int) < (T.size : Int)) := by omega
        clear hcut hsame
    go_wp2_with fail
    refine (CW.out _).mono ?_
    rintro e w' ⟨rfl, rfl⟩
    obtain ⟨W2, hW⟩ : ∃ W, W = w1.alloc (.cells #[.string ⟨#[126]⟩, .string ⟨#[37, 82, 126]⟩, .string ⟨#[37, 87, 126]⟩, .string ⟨#[37, 82, 87, 126]⟩] 39) := ⟨_, rfl⟩
    obtain ⟨g5, hg⟩ : ∃ k, k = w1.heap.size := ⟨_, rfl⟩
    obtain ⟨hr, hb⟩ := mat_new w1 W2 g5 hW hg
    have HM0 := Lib.hid hr
    have HB0 := Lib.hid (HB1.out.trans (hb.mono HB1.out.size))
    clear hr hb HB1 CW
    go_upto_region 6 with fail
    rw [← hW, ← hg]
    clear hW hg
    rcases B with _ | _
    · have HWo := Lib.hid HBq.out.symm
      clear HBq
      go_wp2_with fail
      go_loopw [6] (fun i wr => ∃ k : Nat, k ≤ 4 ∧ i = .int .i64 k ∧ Hid (Below w.heap.size w wr) ∧ Hid (MAt wr g5)) (fun i _ => 4 - (intOf i).toNat)
      case atStart => exact ⟨0, by omega, rfl, HB0, HM0⟩
      case round =>
        obtain ⟨k, hk, hi, HB, HM⟩ := hrel
        by_cases hlt : k < 4
        · have hk4 : k = 0 ∨ k = 1 ∨ k = 2 ∨ k = 3 := by omega
          obtain ⟨m0, m1, m2, m3⟩ := HM.out.cells
          clear hk
          rcases hk4 with rfl | rfl | rfl | rfl
          · obtain rfl : u6 = .int .i64 0 := hi
            have C := Lib.hid (fun W hW => rule_is V0 z0 (show RAns (ruleD V0.data.toList) 0 ⟨#[]⟩ false false 0 false from rans_none (by rw [l0]; exact (rule_both _).trans (patD_no HWo.out))) W hW)
            clear hlt l0 z0 l1 z1 l2 z2 l3 z3 lc zc lp zp lx zx
            go_wp2_with fail
            refine (C.out _ (HG.out.keep HB.out)).mono ?_
            rintro e w1 ⟨rfl, hb⟩
            have HB_1 := Lib.hid (HB.out.trans (hb.mono HB.out.size))
            have HM_1 := Lib.hid (HM.out.keep hb)
            clear hb HB HM C
            obtain ⟨W2, hW⟩ : ∃ W, W = w1.alloc (.cells #[.int .u8 0, .string ⟨#[]⟩, .bool false, .bool false, .int .u64 0] 25) := ⟨_, rfl⟩
            obtain ⟨g_a, hg⟩ : ∃ k, k = w1.heap.size := ⟨_, rfl⟩
            obtain ⟨hr, hb⟩ := rat_new w1 0 ⟨#[]⟩ false false 0 W2 g_a hW hg
            have HB_2 := Lib.hid (HB_1.out.trans (hb.mono HB_1.out.size))
            have HM_2 := Lib.hid (HM_1.out.keep hb)
            have HRa_2 := Lib.hid hr
            clear hb hr HB_1 HM_1
            go_upto_region 10 with fail
            rw [← hW, ← hg]
            clear hW hg
            obtain ⟨a0, a1, a2, a3, a4⟩ := HRa_2.out.cells
            clear m0 m1 m2 m3
            go_wp2_with fail
            go_roundw
            case rel => exact ⟨1, by omega, rfl, HB_2, HM_2⟩
            case measure => simp [intOf]
          · obtain rfl : u6 = .int .i64 1 := hi
            have C := Lib.hid (fun W hW => rule_is V1 z1 (show RAns (ruleD V1.data.toList) 0 ⟨#[]⟩ false false 0 false from rans_none (by rw [l1]; exact (rule_read _).trans (patD_no HWo.out))) W hW)
            clear hlt l0 z0 l1 z1 l2 z2 l3 z3 lc zc lp zp lx zx
            go_wp2_with fail
            refine (C.out _ (HG.out.keep HB.out)).mono ?_
            rintro e w11 ⟨rfl, hb⟩
            have HB_11 := Lib.hid (HB.out.trans (hb.mono HB.out.size))
            have HM_11 := Lib.hid (HM.out.keep hb)
            clear hb HB HM C
            obtain ⟨W12, hW⟩ : ∃ W, W = w11.alloc (.cells #[.int .u8 0, .string ⟨#[]⟩, .bool false, .bool false, .int .u64 0] 25) := ⟨_, rfl⟩
            obtain ⟨g_a, hg⟩ : ∃ k, k = w11.heap.size := ⟨_, rfl⟩
            obtain ⟨hr, hb⟩ := rat_new w11 0 ⟨#[]⟩ false false 0 W12 g_a hW hg
            have HB_12 := Lib.hid (HB_11.out.trans (hb.mono HB_11.out.size))
            have HM_12 := Lib.hid (HM_11.out.keep hb)
            have HRa_12 := Lib.hid hr
            clear hb hr HB_11 HM_11
            go_upto_region 10 with fail
            rw [← hW, ← hg]
            clear hW hg
            obtain ⟨a0, a1, a2, a3, a4⟩ := HRa_12.out.cells
            clear m0 m1 m2 m3
            go_wp2_with fail
            go_roundw
            case rel => exact ⟨2, by omega, rfl, HB_12, HM_12⟩
            case measure => simp [intOf]
          · obtain rfl : u6 = .int .i64 2 := hi
            have C := Lib.hid (fun W hW => rule_is V2 z2 (show RAns (ruleD V2.data.toList) 0 ⟨#[]⟩ false false 0 false from rans_none (by rw [l2]; exact (rule_write _).trans (patD_no HWo.out))) W hW)
            clear hlt l0 z0 l1 z1 l2 z2 l3 z3 lc zc lp zp lx zx
            go_wp2_with fail
            refine (C.out _ (HG.out.keep HB.out)).mono ?_
            rintro e w21 ⟨rfl, hb⟩
            have HB_21 := Lib.hid (HB.out.trans (hb.mono HB.out.size))
            have HM_21 := Lib.hid (HM.out.keep hb)
            clear hb HB HM C
            obtain ⟨W22, hW⟩ : ∃ W, W = w21.alloc (.cells #[.int .u8 0, .string ⟨#[]⟩, .bool false, .bool false, .int .u64 0] 25) := ⟨_, rfl⟩
            obtain ⟨g_a, hg⟩ : ∃ k, k = w21.heap.size := ⟨_, rfl⟩
            obtain ⟨hr, hb⟩ := rat_new w21 0 ⟨#[]⟩ false false 0 W22 g_a hW hg
            have HB_22 := Lib.hid (HB_21.out.trans (hb.mono HB_21.out.size))
            have HM_22 := Lib.hid (HM_21.out.keep hb)
            have HRa_22 := Lib.hid hr
            clear hb hr HB_21 HM_21
            go_upto_region 10 with fail
            rw [← hW, ← hg]
            clear hW hg
            obtain ⟨a0, a1, a2, a3, a4⟩ := HRa_22.out.cells
            clear m0 m1 m2 m3
            go_wp2_with fail
            go_roundw
            case rel => exact ⟨3, by omega, rfl, HB_22, HM_22⟩
            case measure => simp [intOf]
          · obtain rfl : u6 = .int .i64 3 := hi
            have C := Lib.hid (fun W hW => rule_is V3 z3 (show RAns (ruleD V3.data.toList) 0 ⟨#[]⟩ false false 0 false from rans_none (by rw [l3]; exact (rule_rw _).trans (patD_no HWo.out))) W hW)
            clear hlt l0 z0 l1 z1 l2 z2 l3 z3 lc zc lp zp lx zx
            go_wp2_with fail
            refine (C.out _ (HG.out.keep HB.out)).mono ?_
            rintro e w31 ⟨rfl, hb⟩
            have HB_31 := Lib.hid (HB.out.trans (hb.mono HB.out.size))
            have HM_31 := Lib.hid (HM.out.keep hb)
            clear hb HB HM C
            obtain ⟨W32, hW⟩ : ∃ W, W = w31.alloc (.cells #[.int .u8 0, .string ⟨#[]⟩, .bool false, .bool false, .int .u64 0] 25) := ⟨_, rfl⟩
            obtain ⟨g_a, hg⟩ : ∃ k, k = w31.heap.size := ⟨_, rfl⟩
            obtain ⟨hr, hb⟩ := rat_new w31 0 ⟨#[]⟩ false false 0 W32 g_a hW hg
            have HB_32 := Lib.hid (HB_31.out.trans (hb.mono HB_31.out.size))
            have HM_32 := Lib.hid (HM_31.out.keep hb)
            have HRa_32 := Lib.hid hr
            clear hb hr HB_31 HM_31
            go_upto_region 10 with fail
            rw [← hW, ← hg]
            clear hW hg
            obtain ⟨a0, a1, a2, a3, a4⟩ := HRa_32.out.cells
            clear m0 m1 m2 m3
            go_wp2_with fail
            go_roundw
            case rel => exact ⟨4, by omega, rfl, HB_32, HM_32⟩
            case measure => simp [intOf]
        · have d4 : decide ((k : Int) < 4) = false := decide_eq_false (by omega)
          have d4n : decide (k < 4) = false := decide_eq_false hlt
          have Cc := Lib.hid (fun W hW => rule_is Vc zc (show RAns (ruleD Vc.data.toList) 0 ⟨#[]⟩ false false 0 false from rans_none (by rw [lc]; exact (rule_chan _).trans (patD_no HWo.out))) W hW)
          have Cp := Lib.hid (fun W hW => rule_is Vp zp (show RAns (ruleD Vp.data.toList) 5 T false false 0 true from rans_pat 5 T false false (by rw [lp]; exact rule_pass _)) W hW)
          have Cx := Lib.hid (fun W hW => rule_is Vx zx (show RAns (ruleD Vx.data.toList) 0 ⟨#[]⟩ false false 0 false from rans_none (by rw [lx]; exact rule_x _)) W hW)
          subst hi
          clear l0 z0 l1 z1 l2 z2 l3 z3 lc zc lp zp lx zx
          go_wp2_with fail
          refine (Cc.out _ (HG.out.keep HB.out)).mono ?_
          rintro e w61 ⟨rfl, hb⟩
          have HB_61 := Lib.hid (HB.out.trans (hb.mono HB.out.size))
          clear hb HB Cc
          obtain ⟨W62, hW⟩ : ∃ W, W = w61.alloc (.cells #[.int .u8 0, .string ⟨#[]⟩, .bool false, .bool false, .int .u64 0] 25) := ⟨_, rfl⟩
          obtain ⟨g_c, hg⟩ : ∃ k, k = w61.heap.size := ⟨_, rfl⟩
          obtain ⟨hr, hb⟩ := rat_new w61 0 ⟨#[]⟩ false false 0 W62 g_c hW hg
          have HB_62 := Lib.hid (HB_61.out.trans (hb.mono HB_61.out.size))
          have HRc_62 := Lib.hid hr
          clear hb hr HB_61
          go_upto_region 13 with fail
          rw [← hW, ← hg]
          clear hW hg
          go_wp2_with fail
          refine (Cp.out _ (HG.out.keep HB_62.out)).mono ?_
          rintro e w63 ⟨rfl, hb⟩
          have HB_63 := Lib.hid (HB_62.out.trans (hb.mono HB_62.out.size))
          have HRc_63 := Lib.hid (HRc_62.out.keep hb)
          clear hb HB_62 HRc_62 Cp
          obtain ⟨W64, hW⟩ : ∃ W, W = w63.alloc (.cells #[.int .u8 5, .string T, .bool false, .bool false, .int .u64 0] 25) := ⟨_, rfl⟩
          obtain ⟨g_p, hg⟩ : ∃ k, k = w63.heap.size := ⟨_, rfl⟩
          obtain ⟨hr, hb⟩ := rat_new w63 5 T false false 0 W64 g_p hW hg
          have HB_64 := Lib.hid (HB_63.out.trans (hb.mono HB_63.out.size))
          have HRc_64 := Lib.hid (HRc_63.out.keep hb)
          have HRp_64 := Lib.hid hr
          clear hb hr HB_63 HRc_63
          go_upto_region 14 with fail
          rw [← hW, ← hg]
          clear hW hg
          go_wp2_with fail
          refine (Cx.out _ (HG.out.keep HB_64.out)).mono ?_
          rintro e w65 ⟨rfl, hb⟩
          have HB_65 := Lib.hid (HB_64.out.trans (hb.mono HB_64.out.size))
          have HRc_65 := Lib.hid (HRc_64.out.keep hb)
          have HRp_65 := Lib.hid (HRp_64.out.keep hb)
          clear hb HB_64 HRc_64 HRp_64 Cx
          obtain ⟨W66, hW⟩ : ∃ W, W = w65.alloc (.cells #[.int .u8 0, .string ⟨#[]⟩, .bool false, .bool false, .int .u64 0] 25) := ⟨_, rfl⟩
          obtain ⟨g_x, hg⟩ : ∃ k, k = w65.heap.size := ⟨_, rfl⟩
          obtain ⟨hr, hb⟩ := rat_new w65 0 ⟨#[]⟩ false false 0 W66 g_x hW hg
          have HB_66 := Lib.hid (HB_65.out.trans (hb.mono HB_65.out.size))
          have HRc_66 := Lib.hid (HRc_65.out.keep hb)
          have HRp_66 := Lib.hid (HRp_65.out.keep hb)
          have HRx_66 := Lib.hid hr
          clear hb hr HB_65 HRc_65 HRp_65
          go_upto_region 15 with fail
          rw [← hW, ← hg]
          clear hW hg
          obtain ⟨c0, c1, c2, c3, c4⟩ := HRc_66.out.cells
          obtain ⟨p0, p1, p2, p3, p4⟩ := HRp_66.out.cells
          go_wp2_with fail
          go_ret
          exact ⟨rfl, HB_66.out⟩
    · have HWo := Lib.hid HBq.out.symm
      clear HBq
      go_wp2_with fail
      go_loopw [6] (fun i wr => ∃ k : Nat, k ≤ 4 ∧ i = .int .i64 k ∧ Hid (Below w.heap.size w wr) ∧ Hid (MAt wr g5)) (fun i _ => 4 - (intOf i).toNat)
      case atStart => exact ⟨0, by omega, rfl, HB0, HM0⟩
      case round =>
        obtain ⟨k, hk, hi, HB, HM⟩ := hrel
        by_cases hlt : k < 4
        · have hk4 : k = 0 ∨ k = 1 ∨ k = 2 ∨ k = 3 := by omega
          obtain ⟨m0, m1, m2, m3⟩ := HM.out.cells
          clear hk
          rcases hk4 with rfl | rfl | rfl | rfl
          · obtain rfl : u6 = .int .i64 0 := hi
            have C := Lib.hid (fun W hW => rule_is V0 z0 (show RAns (ruleD V0.data.toList) 10 T true true 0 true from rans_pat 10 T true true (by rw [l0]; exact (rule_both _).trans (patD_yes HWo.out))) W hW)
            clear hlt l0 z0 l1 z1 l2 z2 l3 z3 lc zc lp zp lx zx
            go_wp2_with fail
            refine (C.out _ (HG.out.keep HB.out)).mono ?_
            rintro e w1 ⟨rfl, hb⟩
            have HB_1 := Lib.hid (HB.out.trans (hb.mono HB.out.size))
            have HM_1 := Lib.hid (HM.out.keep hb)
            clear hb HB HM C
            obtain ⟨W2, hW⟩ : ∃ W, W = w1.alloc (.cells #[.int .u8 10, .string T, .bool true, .bool true, .int .u64 0] 25) := ⟨_, rfl⟩
            obtain ⟨g_a, hg⟩ : ∃ k, k = w1.heap.size := ⟨_, rfl⟩
            obtain ⟨hr, hb⟩ := rat_new w1 10 T true true 0 W2 g_a hW hg
            have HB_2 := Lib.hid (HB_1.out.trans (hb.mono HB_1.out.size))
            have HM_2 := Lib.hid (HM_1.out.keep hb)
            have HRa_2 := Lib.hid hr
            clear hb hr HB_1 HM_1
            go_upto_region 10 with fail
            rw [← hW, ← hg]
            clear hW hg
            obtain ⟨a0, a1, a2, a3, a4⟩ := HRa_2.out.cells
            clear m0 m1 m2 m3
            go_wp2_with fail
            go_roundw
            case rel => exact ⟨1, by omega, rfl, HB_2, HM_2⟩
            case measure => simp [intOf]
          · obtain rfl : u6 = .int .i64 1 := hi
            have C := Lib.hid (fun W hW => rule_is V1 z1 (show RAns (ruleD V1.data.toList) 10 T true false 0 true from rans_pat 10 T true false (by rw [l1]; exact (rule_read _).trans (patD_yes HWo.out))) W hW)
            clear hlt l0 z0 l1 z1 l2 z2 l3 z3 lc zc lp zp lx zx
            go_wp2_with fail
            refine (C.out _ (HG.out.keep HB.out)).mono ?_
            rintro e w11 ⟨rfl, hb⟩
            have HB_11 := Lib.hid (HB.out.trans (hb.mono HB.out.size))
            have HM_11 := Lib.hid (HM.out.keep hb)
            clear hb HB HM C
            obtain ⟨W12, hW⟩ : ∃ W, W = w11.alloc (.cells #[.int .u8 10, .string T, .bool true, .bool false, .int .u64 0] 25) := ⟨_, rfl⟩
            obtain ⟨g_a, hg⟩ : ∃ k, k = w11.heap.size := ⟨_, rfl⟩
            obtain ⟨hr, hb⟩ := rat_new w11 10 T true false 0 W12 g_a hW hg
            have HB_12 := Lib.hid (HB_11.out.trans (hb.mono HB_11.out.size))
            have HM_12 := Lib.hid (HM_11.out.keep hb)
            have HRa_12 := Lib.hid hr
            clear hb hr HB_11 HM_11
            go_upto_region 10 with fail
            rw [← hW, ← hg]
            clear hW hg
            obtain ⟨a0, a1, a2, a3, a4⟩ := HRa_12.out.cells
            clear m0 m1 m2 m3
            go_wp2_with fail
            go_roundw
            case rel => exact ⟨2, by omega, rfl, HB_12, HM_12⟩
            case measure => simp [intOf]
          · obtain rfl : u6 = .int .i64 2 := hi
            have C := Lib.hid (fun W hW => rule_is V2 z2 (show RAns (ruleD V2.data.toList) 10 T false true 0 true from rans_pat 10 T false true (by rw [l2]; exact (rule_write _).trans (patD_yes HWo.out))) W hW)
            clear hlt l0 z0 l1 z1 l2 z2 l3 z3 lc zc lp zp lx zx
            go_wp2_with fail
            refine (C.out _ (HG.out.keep HB.out)).mono ?_
            rintro e w21 ⟨rfl, hb⟩
            have HB_21 := Lib.hid (HB.out.trans (hb.mono HB.out.size))
            have HM_21 := Lib.hid (HM.out.keep hb)
            clear hb HB HM C
            obtain ⟨W22, hW⟩ : ∃ W, W = w21.alloc (.cells #[.int .u8 10, .string T, .bool false, .bool true, .int .u64 0] 25) := ⟨_, rfl⟩
            obtain ⟨g_a, hg⟩ : ∃ k, k = w21.heap.size := ⟨_, rfl⟩
            obtain ⟨hr, hb⟩ := rat_new w21 10 T false true 0 W22 g_a hW hg
            have HB_22 := Lib.hid (HB_21.out.trans (hb.mono HB_21.out.size))
            have HM_22 := Lib.hid (HM_21.out.keep hb)
            have HRa_22 := Lib.hid hr
            clear hb hr HB_21 HM_21
            go_upto_region 10 with fail
            rw [← hW, ← hg]
            clear hW hg
            obtain ⟨a0, a1, a2, a3, a4⟩ := HRa_22.out.cells
            clear m0 m1 m2 m3
            go_wp2_with fail
            go_roundw
            case rel => exact ⟨3, by omega, rfl, HB_22, HM_22⟩
            case measure => simp [intOf]
          · obtain rfl : u6 = .int .i64 3 := hi
            have C := Lib.hid (fun W hW => rule_is V3 z3 (show RAns (ruleD V3.data.toList) 10 T true true 0 true from rans_pat 10 T true true (by rw [l3]; exact (rule_rw _).trans (patD_yes HWo.out))) W hW)
            clear hlt l0 z0 l1 z1 l2 z2 l3 z3 lc zc lp zp lx zx
            go_wp2_with fail
            refine (C.out _ (HG.out.keep HB.out)).mono ?_
            rintro e w31 ⟨rfl, hb⟩
            have HB_31 := Lib.hid (HB.out.trans (hb.mono HB.out.size))
            have HM_31 := Lib.hid (HM.out.keep hb)
            clear hb HB HM C
            obtain ⟨W32, hW⟩ : ∃ W, W = w31.alloc (.cells #[.int .u8 10, .string T, .bool true, .bool true, .int .u64 0] 25) := ⟨_, rfl⟩
            obtain ⟨g_a, hg⟩ : ∃ k, k = w31.heap.size := ⟨_, rfl⟩
            obtain ⟨hr, hb⟩ := rat_new w31 10 T true true 0 W32 g_a hW hg
            have HB_32 := Lib.hid (HB_31.out.trans (hb.mono HB_31.out.size))
            have HM_32 := Lib.hid (HM_31.out.keep hb)
            have HRa_32 := Lib.hid hr
            clear hb hr HB_31 HM_31
            go_upto_region 10 with fail
            rw [← hW, ← hg]
            clear hW hg
            obtain ⟨a0, a1, a2, a3, a4⟩ := HRa_32.out.cells
            clear m0 m1 m2 m3
            go_wp2_with fail
            go_roundw
            case rel => exact ⟨4, by omega, rfl, HB_32, HM_32⟩
            case measure => simp [intOf]
        · have d4 : decide ((k : Int) < 4) = false := decide_eq_false (by omega)
          have d4n : decide (k < 4) = false := decide_eq_false hlt
          have Cc := Lib.hid (fun W hW => rule_is Vc zc (show RAns (ruleD Vc.data.toList) 12 T false false 0 true from rans_pat 12 T false false (by rw [lc]; exact (rule_chan _).trans (patD_yes HWo.out))) W hW)
          have Cp := Lib.hid (fun W hW => rule_is Vp zp (show RAns (ruleD Vp.data.toList) 5 T false false 0 true from rans_pat 5 T false false (by rw [lp]; exact rule_pass _)) W hW)
          have Cx := Lib.hid (fun W hW => rule_is Vx zx (show RAns (ruleD Vx.data.toList) 0 ⟨#[]⟩ false false 0 false from rans_none (by rw [lx]; exact rule_x _)) W hW)
          subst hi
          clear l0 z0 l1 z1 l2 z2 l3 z3 lc zc lp zp lx zx
          go_wp2_with fail
          refine (Cc.out _ (HG.out.keep HB.out)).mono ?_
          rintro e w61 ⟨rfl, hb⟩
          have HB_61 := Lib.hid (HB.out.trans (hb.mono HB.out.size))
          clear hb HB Cc
          obtain ⟨W62, hW⟩ : ∃ W, W = w61.alloc (.cells #[.int .u8 12, .string T, .bool false, .bool false, .int .u64 0] 25) := ⟨_, rfl⟩
          obtain ⟨g_c, hg⟩ : ∃ k, k = w61.heap.size := ⟨_, rfl⟩
          obtain ⟨hr, hb⟩ := rat_new w61 12 T false false 0 W62 g_c hW hg
          have HB_62 := Lib.hid (HB_61.out.trans (hb.mono HB_61.out.size))
          have HRc_62 := Lib.hid hr
          clear hb hr HB_61
          go_upto_region 13 with fail
          rw [← hW, ← hg]
          clear hW hg
          go_wp2_with fail
          refine (Cp.out _ (HG.out.keep HB_62.out)).mono ?_
          rintro e w63 ⟨rfl, hb⟩
          have HB_63 := Lib.hid (HB_62.out.trans (hb.mono HB_62.out.size))
          have HRc_63 := Lib.hid (HRc_62.out.keep hb)
          clear hb HB_62 HRc_62 Cp
          obtain ⟨W64, hW⟩ : ∃ W, W = w63.alloc (.cells #[.int .u8 5, .string T, .bool false, .bool false, .int .u64 0] 25) := ⟨_, rfl⟩
          obtain ⟨g_p, hg⟩ : ∃ k, k = w63.heap.size := ⟨_, rfl⟩
          obtain ⟨hr, hb⟩ := rat_new w63 5 T false false 0 W64 g_p hW hg
          have HB_64 := Lib.hid (HB_63.out.trans (hb.mono HB_63.out.size))
          have HRc_64 := Lib.hid (HRc_63.out.keep hb)
          have HRp_64 := Lib.hid hr
          clear hb hr HB_63 HRc_63
          go_upto_region 14 with fail
          rw [← hW, ← hg]
          clear hW hg
          go_wp2_with fail
          refine (Cx.out _ (HG.out.keep HB_64.out)).mono ?_
          rintro e w65 ⟨rfl, hb⟩
          have HB_65 := Lib.hid (HB_64.out.trans (hb.mono HB_64.out.size))
          have HRc_65 := Lib.hid (HRc_64.out.keep hb)
          have HRp_65 := Lib.hid (HRp_64.out.keep hb)
          clear hb HB_64 HRc_64 HRp_64 Cx
          obtain ⟨W66, hW⟩ : ∃ W, W = w65.alloc (.cells #[.int .u8 0, .string ⟨#[]⟩, .bool false, .bool false, .int .u64 0] 25) := ⟨_, rfl⟩
          obtain ⟨g_x, hg⟩ : ∃ k, k = w65.heap.size := ⟨_, rfl⟩
          obtain ⟨hr, hb⟩ := rat_new w65 0 ⟨#[]⟩ false false 0 W66 g_x hW hg
          have HB_66 := Lib.hid (HB_65.out.trans (hb.mono HB_65.out.size))
          have HRc_66 := Lib.hid (HRc_65.out.keep hb)
          have HRp_66 := Lib.hid (HRp_65.out.keep hb)
          have HRx_66 := Lib.hid hr
          clear hb hr HB_65 HRc_65 HRp_65
          go_upto_region 15 with fail
          rw [← hW, ← hg]
          clear hW hg
          obtain ⟨c0, c1, c2, c3, c4⟩ := HRc_66.out.cells
          obtain ⟨p0, p1, p2, p3, p4⟩ := HRp_66.out.cells
          go_wp2_with fail
          go_ret
          exact ⟨rfl, HB_66.out⟩

end Go.Proofs.YtdhhiodnnnfioaaDoor.rulePatterns
