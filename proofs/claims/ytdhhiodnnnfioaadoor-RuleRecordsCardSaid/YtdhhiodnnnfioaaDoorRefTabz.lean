/-
  Names and categories of the document (package tipstaffref07), for seats without Fits.
-/
import Derived.Test.YtdhhiodnnnfioaaDoorRefTabs
import Derived.Test.YtdhhiodnnnfioaaDoorLowRef
import Derived.Test.YtdhhiodnnnfioaaDoorStrRowz
import Derived.Lib.QuietBelow
import Derived.BigQuiet
import Derived.Deep.QuietTactic
import Derived.Deep.DeepCutAuto
namespace Go.Proofs.YtdhhiodnnnfioaaDoor.RefTab
open Go.RowKit Kit TableMath Low StrT
open Go.Sort (grow)
set_option linter.unusedVariables false
set_option maxRecDepth 100000

theorem beq_str (S T : ByteArray) (a b : List UInt8) (hS : S.data.toList = a) (hT : T.data.toList = b) : (S.toList == T.toList) = decide (a = b) := by
  rw [ByteArray.toList_eq, ByteArray.toList_eq, hS, hT, Bool.eq_iff_iff, beq_iff_eq, decide_eq_true_eq]

set_option maxHeartbeats 1000000 in
theorem find_any (s : ByteArray) (w : World) (hz : s.size ≤ 140737488351232) :
    Calls Tryd.prog 37 #[.string s] w fun e w' => e = .returned (.tuple #[.int .i64 (findV (lowL s.data.toList)), .bool (findB (lowL s.data.toList))]) ∧ Below w.heap.size w w' := by
  have CA := Lib.hid (all_any w)
  obtain ⟨T, hT⟩ : ∃ T : ByteArray, T = ⟨(lowL s.data.toList).toArray⟩ := ⟨_, rfl⟩
  have CL := Lib.hid (fun W => (hT ▸ LowR.lower_ref s W (by omega) hz : Calls Tryd.prog 38 #[.string s] W fun e w' => e = .returned (.string T) ∧ Below W.heap.size W w'))
  obtain ⟨l, hl⟩ : ∃ l, l = lowL s.data.toList := ⟨_, rfl⟩
  have HTd := Lib.hid (show T.data.toList = l by rw [hT, hl])
  rw [← hl]
  have HLe := Lib.hid (findK_le l)
  clear hT hl
  go_enter Tryd.func37, Tryd.ntmps37
  go_wp2_with fail
  refine CA.out.mono ?_
  rintro e w1 ⟨b, c, rfl, hTab, hc1, hc2, hb1⟩
  have HTab := Lib.hid hTab
  have HB1 := Lib.hid hb1
  clear hTab hb1 CA
  go_wp2_with fail
  go_loopw [5] (fun i wr => ∃ k : Nat, k ≤ 56 ∧ i = .int .i64 k ∧ Hid (k ≤ findK l) ∧ Hid (Below w.heap.size w wr) ∧ Hid (Below w1.heap.size w1 wr)) (fun i _ => 56 - (intOf i).toNat)
  case atStart => exact ⟨0, by omega, rfl, Lib.hid (Nat.zero_le _), HB1, Lib.hid (Below.refl _ _)⟩
  case round =>
    obtain ⟨k, hk, rfl, HK, HB, HBr⟩ := hrel
    by_cases hlt : k < 56
    · have d1 : decide ((k : Int) < 56) = true := decide_eq_true (by omega)
      obtain ⟨S, hS⟩ : ∃ S : ByteArray, S = ⟨(cmdAt k).name.toArray⟩ := ⟨_, rfl⟩
      have hcell : wr.cell? ⟨b, k * 3, none⟩ = some (.string S) := by rw [(HTab.out.keep HBr.out).name k hlt, hS]
      have hE := beq_str S T (cmdAt k).name l (by rw [hS]) HTd.out
      have hb := HB.out
      have k0 : (0 : Int) ≤ (k : Int) := by omega
      have CT := Lib.hid (fun dd os => Calls.regrown_of (CL.out (grow (redrawn wr dd) os)))
      have e1 := fun dd os => cell_regrown hcell dd os
      by_cases hn : (cmdAt k).name = l
      · have hE2 : (S.toList == T.toList) = true := by rw [hE]; exact decide_eq_true hn
        have HF := Lib.hid (findV_at hlt (findK_at hlt HK.out hn))
        clear hE hn hS HB
        go_wp2_with fail
        refine wp_region_quiet_below (by kernel_rfl) (by kernel_rfl) ?_
        repeat (any_goals (go_big_quiet_step ((go_at_call 38; with_reducible exact CT.out _ _))))
        refine wpQuiet_nil ?_
        intro _ hw'
        obtain ⟨⟨dq, osq⟩, hw''⟩ := hw'
        subst hw''
        replace hb := hb.trans ((below_regrown _ dq osq).mono hb.size)
        clear e1 CT hcell
        go_wp2_with fail
        go_ret2
        exact ⟨by rw [HF.out.1, HF.out.2]; rfl, hb⟩
      · have hE2 : (S.toList == T.toList) = false := by rw [hE]; exact decide_eq_false hn
        have HK2 := Lib.hid (findK_next hlt HK.out hn)
        have HB2 := Lib.hid (fun (W : World) (h : Below wr.heap.size wr W) => HBr.out.trans (h.mono HBr.out.size))
        clear hE hn hS HB
        have hb0 := hb
        replace hb := Below.refl wr.heap.size wr
        have HBo := Lib.hid hb0
        clear hb0
        go_wp2_with fail
        refine wp_region_quiet_below (by kernel_rfl) (by kernel_rfl) ?_
        repeat (any_goals (go_big_quiet_step ((go_at_call 38; with_reducible exact CT.out _ _))))
        refine wpQuiet_nil ?_
        intro _ hw'
        obtain ⟨⟨dq, osq⟩, hw''⟩ := hw'
        subst hw''
        replace hb := hb.trans ((below_regrown _ dq osq).mono hb.size)
        clear e1 CT hcell
        have HB3 := Lib.hid (HB2.out _ hb)
        have HB4 := Lib.hid (HBo.out.trans (hb.mono HBo.out.size))
        clear hb
        go_wp2_with fail
        go_roundw
        case rel => exact ⟨k + 1, by omega, by go_num, HK2, HB4, HB3⟩
        case measure => simp [intOf]; omega
    · have d1 : decide ((k : Int) < 56) = false := decide_eq_false (by omega)
      have HF := Lib.hid (findV_none (s := l) (by have := HK.out; omega))
      have HBo := HB
      clear HB HBr
      go_wp2_with fail
      go_ret2
      exact ⟨by rw [HF.out.1, HF.out.2]; rfl, HBo.out⟩

/-- Whether so many words fit, by the arity. -/
theorem fits_out {id words : Int} (h : atB id = false) : fitsB id words = false := by unfold fitsB; rw [h]; rfl
theorem fits_low {id words r : Int} (h : atB id = true) (hr : r = (atV id).ar) (h0 : r < 0) : fitsB id words = decide (-r ≤ words) := by
  unfold fitsB
  rw [h, ← hr, if_pos h0]
  rfl
theorem fits_same {id words r : Int} (h : atB id = true) (hr : r = (atV id).ar) (h0 : ¬ r < 0) : fitsB id words = decide (words = r) := by
  unfold fitsB
  rw [h, ← hr, if_neg h0]
  rfl
theorem ar_small (id : Int) : -3 ≤ (atV id).ar ∧ (atV id).ar ≤ 4 := by
  have hall : ∀ c ∈ cmds, -3 ≤ c.ar ∧ c.ar ≤ 4 := by decide
  unfold atV
  split
  · rename_i h
    rw [cmdAt_get id.toNat (by omega)]
    exact hall _ (List.getElem_mem _)
  · exact ⟨by decide, by decide⟩

end Go.Proofs.YtdhhiodnnnfioaaDoor.RefTab
namespace Go.Proofs.YtdhhiodnnnfioaaDoor.RefTab
open Go.RowKit Kit TableMath Low StrT
set_option linter.unusedVariables false
set_option maxRecDepth 100000

theorem cats_ss (w : World) : Ss (w.alloc (.cells (sv cats).toArray 9)) (some ⟨w.heap.size, 0, none⟩) cats := fun _ => ⟨w.heap.size, 0, rfl, by simp, fun j hj => by
  rw [Nat.zero_add, cell_of_row _ _ _ _ 9 _ (heap_alloc_last w _)]
  simpa using sv_at cats j hj⟩
set_option maxHeartbeats 1000000 in
theorem cats_any (w : World) : Calls Tryd.prog 11 #[] w fun e w' => ∃ b, e = .returned (.slice (some ⟨b, 0, none⟩) 12 12) ∧ Ss w' (some ⟨b, 0, none⟩) cats ∧ w.heap.size ≤ b ∧ Below w.heap.size w w' := by
  have HS := Lib.hid (cats_ss w)
  go_enter Tryd.func11, Tryd.ntmps11
  go_wp2_with fail
  go_ret
  exact ⟨_, rfl, HS.out, Nat.le_refl _, Kit.below1 _ _⟩

end Go.Proofs.YtdhhiodnnnfioaaDoor.RefTab
namespace Go.Proofs.YtdhhiodnnnfioaaDoor.RefTab
open Go.RowKit Kit TableMath Low StrT
set_option linter.unusedVariables false
set_option maxRecDepth 100000

theorem bit_at (g k : Nat) : (((g : Int) / 2 ^ k).tmod 2 == 1) = decide (g >>> k % 2 = 1) := by
  have e : (g : Int) / 2 ^ k = ((g / 2 ^ k : Nat) : Int) := by rw [Int.natCast_ediv, Int.natCast_pow]; rfl
  rw [e, Int.tmod_eq_emod_of_nonneg (Int.natCast_nonneg _), Nat.shiftRight_eq_div_pow, Bool.eq_iff_iff, beq_iff_eq, decide_eq_true_eq]
  omega

theorem shl_sum (M j : Nat) (hj : j < 56) (hM : M < 2 ^ j) : IntKind.u64.wrap ((M : Int) + IntKind.u64.wrap (2 ^ j)) = ((M + 2 ^ j : Nat) : Int) := by
  have h1 : 2 ^ j ≤ 2 ^ 55 := Nat.pow_le_pow_right (by decide) (by omega)
  have e : (2 : Int) ^ j = ((2 ^ j : Nat) : Int) := by rw [Int.natCast_pow]; rfl
  rw [e]
  obtain ⟨P, hP⟩ : ∃ P, P = 2 ^ j := ⟨_, rfl⟩
  rw [← hP] at h1 hM ⊢
  have e55 : (2 : Nat) ^ 55 = 36028797018963968 := by decide
  rw [e55] at h1
  rw [IntKind.wrap_u64, IntKind.wrap_u64]
  omega

set_option maxHeartbeats 2000000 in
theorem cat_any (s : ByteArray) (w : World) :
    Calls Tryd.prog 12 #[.string s] w fun e w' => e = .returned (.tuple #[.int .u64 (catV s.data.toList : Int), .bool (catB s.data.toList)]) ∧ Below w.heap.size w w' := by
  have CA := Lib.hid (all_any w)
  have CC := Lib.hid (fun W => cats_any W)
  obtain ⟨l, hl⟩ : ∃ l, l = s.data.toList := ⟨_, rfl⟩
  have HS := Lib.hid hl.symm
  rw [← hl]
  have HLe := Lib.hid (catK_le l)
  clear hl
  go_enter Tryd.func12, Tryd.ntmps12
  go_wp2_with fail
  refine CA.out.mono ?_
  rintro e w1 ⟨b, c, rfl, hTab, hc1, hc2, hb1⟩
  have HTab := Lib.hid hTab
  have HB1 := Lib.hid hb1
  clear hTab hb1 CA
  go_wp2_with fail
  refine (CC.out w1).mono ?_
  rintro e w2 ⟨b2, rfl, hS2, hge, hb2⟩
  have HTab2 := Lib.hid (HTab.out.keep hb2)
  have HSs := Lib.hid hS2
  have HB2 := Lib.hid (HB1.out.trans (hb2.mono HB1.out.size))
  clear hS2 hb2 CC HTab HB1 hge
  go_wp2_with fail
  go_loopw [6] (fun i wr => ∃ k : Nat, k ≤ 13 ∧ i = .int .i64 k ∧ Hid (k ≤ catK l) ∧ wr = w2) (fun i _ => 13 - (intOf i).toNat)
  case atStart => exact ⟨0, by omega, rfl, Lib.hid (Nat.zero_le _), rfl⟩
  case round =>
    obtain ⟨k, hk, rfl, HK, rfl⟩ := hrel
    by_cases hlt : k < 13
    · have d1 : decide ((k : Int) ≤ 12) = true := decide_eq_true (by omega)
      have hn := names_len
      by_cases hne : names[k]'(by rw [names_len]; exact hlt) = s.data.toList
      · have HF := Lib.hid (catV_at hlt (catK_at hlt HK.out (by rw [HS.out] at hne; exact hne)))
        by_cases hk12 : k < 12
        · have d2 : decide ((k : Int) < 12) = true := decide_eq_true (by omega)
          obtain ⟨b', off, e1, hbl, hc⟩ := HSs.out (by decide)
          injection e1 with e1
          injection e1 with e2 e3 e4
          subst e2 e3
          have hu := hc k (by rw [cats_len]; exact hk12)
          rw [Nat.zero_add] at hu
          obtain ⟨S, hS⟩ : ∃ S : ByteArray, S = ⟨(cats[k]'(by rw [cats_len]; exact hk12)).toArray⟩ := ⟨_, rfl⟩
          rw [← hS] at hu
          have hE : (S.toList != s.toList) = false := by
            rw [bne, beq_str S s _ _ (by rw [hS]) rfl]
            have h4 : (cats[k]'(by rw [cats_len]; exact hk12)) = s.data.toList := by
              rw [← hne]
              exact (List.getElem_append_left (bs := [allN]) (by rw [cats_len]; exact hk12)).symm
            rw [decide_eq_true h4]
            rfl
          have hE2 : (S.toList == s.toList) = true := by simpa using hE
          have t12 : ((k : Int) == 12) = false := by rw [beq_eq_false_iff_ne]; omega
          clear hS hc hne
          go_wp2_with fail
          go_loopw [7, 8] (fun m i wx => ∃ j : Nat, j ≤ 56 ∧ i = .int .i64 j ∧ m = .int .u64 (maskK k j : Int) ∧ wx = wr) (fun _ i _ => 56 - (intOf i).toNat)
          case atStart => exact ⟨0, by omega, rfl, rfl, rfl⟩
          case round =>
            obtain ⟨j, hj, rfl, rfl, rfl⟩ := hrel
            by_cases hj56 : j < 56
            · have d3 : decide ((j : Int) < 56) = true := decide_eq_true (by omega)
              have hct := HTab2.out.ct j hj56
              have hsm := ct_small j hj56
              have hm := maskK_lt k j
              have HY := Lib.hid (fun h => maskK_yes k j h)
              have HNo := Lib.hid (fun h => maskK_no k j h)
              have hbit := bit_at (cmdAt j).ct k
              obtain ⟨g, hg⟩ : ∃ g, g = (cmdAt j).ct := ⟨_, rfl⟩
              rw [← hg] at hct hsm hbit HY HNo
              obtain ⟨M, hM⟩ : ∃ M, M = maskK k j := ⟨_, rfl⟩
              rw [← hM] at hm HY HNo ⊢
              clear hg hM
              by_cases hy : g >>> k % 2 = 1
              · have hbt : (((g : Int) / 2 ^ k).tmod 2 == 1) = true := by rw [hbit]; exact decide_eq_true hy
                have HE := Lib.hid (HY.out (Or.inr hy))
                clear hbit hy HY HNo
                go_wp2_with fail
                go_roundw
                case rel => exact ⟨j + 1, by omega, by go_num, by rw [HE.out]; exact congrArg (Value.int .u64) (shl_sum M j hj56 hm), trivial⟩
                case measure => simp [intOf]; omega
              · have hbt : (((g : Int) / 2 ^ k).tmod 2 == 1) = false := by rw [hbit]; exact decide_eq_false hy
                have HE := Lib.hid (HNo.out (by rintro (h | h); omega; exact hy h))
                clear hbit hy HY HNo
                go_wp2_with fail
                go_roundw
                case rel => exact ⟨j + 1, by omega, by go_num, by rw [HE.out], trivial⟩
                case measure => simp [intOf]; omega
            · have d3 : decide ((j : Int) < 56) = false := decide_eq_false (by omega)
              obtain rfl : j = 56 := by omega
              go_wp2_with fail
              go_ret2
              exact ⟨by rw [HF.out.1, HF.out.2]; rfl, HB2.out⟩
        · have d2 : decide ((k : Int) < 12) = false := decide_eq_false (by omega)
          have e12 : k = 12 := by omega
          have t12 : ((k : Int) == 12) = true := by rw [e12]; rfl
          have hall : s.data.toList = allN := by
            rw [← hne]
            subst e12
            rfl
          have hA : (s.toList == [97, 108, 108]) = true := by rw [ByteArray.toList_eq, hall]; rfl
          have hA2 : (s.toList == (⟨#[97, 108, 108]⟩ : ByteArray).toList) = true := by rw [ByteArray.toList_eq, ByteArray.toList_eq, hall]; rfl
          have HK12 := Lib.hid e12
          clear hne hall e12
          go_wp2_with fail
          go_loopw [7, 8] (fun m i wx => ∃ j : Nat, j ≤ 56 ∧ i = .int .i64 j ∧ m = .int .u64 (maskK k j : Int) ∧ wx = wr) (fun _ i _ => 56 - (intOf i).toNat)
          case atStart => exact ⟨0, by omega, rfl, rfl, rfl⟩
          case round =>
            obtain ⟨j, hj, rfl, rfl, rfl⟩ := hrel
            by_cases hj56 : j < 56
            · have d3 : decide ((j : Int) < 56) = true := decide_eq_true (by omega)
              have hm := maskK_lt k j
              have HE := Lib.hid (maskK_yes k j (Or.inl HK12.out))
              obtain ⟨M, hM⟩ : ∃ M, M = maskK k j := ⟨_, rfl⟩
              rw [← hM] at hm HE ⊢
              clear hM
              go_wp2_with fail
              go_roundw
              case rel => exact ⟨j + 1, by omega, by go_num, by rw [HE.out]; exact congrArg (Value.int .u64) (shl_sum M j hj56 hm), trivial⟩
              case measure => simp [intOf]; omega
            · have d3 : decide ((j : Int) < 56) = false := decide_eq_false (by omega)
              obtain rfl : j = 56 := by omega
              go_wp2_with fail
              go_ret2
              exact ⟨by rw [HF.out.1, HF.out.2]; rfl, HB2.out⟩
      · have HK2 := Lib.hid (catK_next hlt HK.out (by rw [HS.out] at hne; exact hne))
        by_cases hk12 : k < 12
        · have d2 : decide ((k : Int) < 12) = true := decide_eq_true (by omega)
          obtain ⟨b', off, e1, hbl, hc⟩ := HSs.out (by decide)
          injection e1 with e1
          injection e1 with e2 e3 e4
          subst e2 e3
          have hu := hc k (by rw [cats_len]; exact hk12)
          rw [Nat.zero_add] at hu
          obtain ⟨S, hS⟩ : ∃ S : ByteArray, S = ⟨(cats[k]'(by rw [cats_len]; exact hk12)).toArray⟩ := ⟨_, rfl⟩
          rw [← hS] at hu
          have hE2 : (S.toList == s.toList) = false := by
            rw [beq_str S s _ _ (by rw [hS]) rfl]
            refine decide_eq_false fun h4 => hne ?_
            rw [← h4]
            exact List.getElem_append_left (bs := [allN]) (by rw [cats_len]; exact hk12)
          have hE : (S.toList != s.toList) = true := by rw [bne, hE2]; rfl
          clear hS hc hne
          go_wp2_with fail
          go_roundw
          case rel => exact ⟨k + 1, by omega, by go_num, HK2, trivial⟩
          case measure => simp [intOf]; omega
        · have d2 : decide ((k : Int) < 12) = false := decide_eq_false (by omega)
          have e12 : k = 12 := by omega
          have t12 : ((k : Int) == 12) = true := by rw [e12]; rfl
          have hall : s.data.toList ≠ allN := fun h => hne (by
            rw [h]
            subst e12
            rfl)
          have hA : (s.toList == [97, 108, 108]) = false := by
            rw [ByteArray.toList_eq, beq_eq_false_iff_ne]
            exact hall
          have hA2 : (s.toList == (⟨#[97, 108, 108]⟩ : ByteArray).toList) = false := by
            rw [ByteArray.toList_eq, ByteArray.toList_eq, beq_eq_false_iff_ne]
            exact hall
          clear hne hall e12
          go_wp2_with fail
          go_roundw
          case rel => exact ⟨k + 1, by omega, by go_num, HK2, trivial⟩
          case measure => simp [intOf]; omega
    · have d1 : decide ((k : Int) ≤ 12) = false := decide_eq_false (by omega)
      have HF := Lib.hid (catV_none (s := l) (by have := HK.out; omega))
      go_wp2_with fail
      go_ret2
      exact ⟨by rw [HF.out.1, HF.out.2]; rfl, HB2.out⟩

end Go.Proofs.YtdhhiodnnnfioaaDoor.RefTab
