/-
  What the document's own answers of layer 7 (package tipstaffref07) tell of a category.
-/
import Derived.Test.YthmkcdlchkdehaaRefTable3
import Derived.Deep.DeepCutAuto
namespace Go.Proofs.Ythmkcdlchkdehaa.RefTab
open Go.RowKit Kit TableMath Low StrT
set_option linter.unusedVariables false
set_option maxRecDepth 100000

theorem bit_at (g k : Nat) : (((g : Int) / 2 ^ k).tmod 2 == 1) = decide (g >>> k % 2 = 1) := by
  have e : (g : Int) / 2 ^ k = ((g / 2 ^ k : Nat) : Int) := by rw [Int.natCast_ediv, Int.natCast_pow]; rfl
  rw [e, Int.tmod_eq_emod_of_nonneg (Int.natCast_nonneg _), Nat.shiftRight_eq_div_pow, Bool.eq_iff_iff, beq_iff_eq, decide_eq_true_eq]
  omega

theorem shl_sum (M j : Nat) (hj : j < 56) (hM : M < 2 ^ j) : IntKind.u64.wrap ((M : Int) + IntKind.u64.wrap (2 ^ j)) = ((M + 2 ^ j : Nat) : Int) := by
  have h1 : 2 ^ j ≤ 2 ^ 55 := Nat.pow_le_pow_right (by decide) (by omega)
  have e : (2 : Int) ^ j = ((2 ^ j : Nat) : Int) := by rw [Int.natCast_pow]; rfl
  rw [e]
  obtain ⟨P, hP⟩ : ∃ P, P = 2 ^ j := ⟨_, rfl⟩
  rw [← hP] at h1 hM ⊢
  have e55 : (2 : Nat) ^ 55 = 36028797018963968 := by decide
  rw [e55] at h1
  rw [IntKind.wrap_u64, IntKind.wrap_u64]
  omega

set_option maxHeartbeats 2000000 in
theorem cat_any (s : ByteArray) (w : World) :
    Calls Try.prog 14 #[.string s] w fun e w' => e = .returned (.tuple #[.int .u64 (catV s.data.toList : Int), .bool (catB s.data.toList)]) ∧ Below w.heap.size w w' := by
  have CA := Lib.hid (all_any w)
  have CC := Lib.hid (fun W => cats_any W)
  obtain ⟨l, hl⟩ : ∃ l, l = s.data.toList := ⟨_, rfl⟩
  have HS := Lib.hid hl.symm
  rw [← hl]
  have HLe := Lib.hid (catK_le l)
  clear hl
  go_enter Try.func14, Try.ntmps14
  go_wp2_with fail
  refine CA.out.mono ?_
  rintro e w1 ⟨b, c, rfl, hTab, hc1, hc2, hb1⟩
  have HTab := Lib.hid hTab
  have HB1 := Lib.hid hb1
  clear hTab hb1 CA
  go_wp2_with fail
  refine (CC.out w1).mono ?_
  rintro e w2 ⟨b2, rfl, hS2, hge, hb2⟩
  have HTab2 := Lib.hid (HTab.out.keep hb2)
  have HSs := Lib.hid hS2
  have HB2 := Lib.hid (HB1.out.trans (hb2.mono HB1.out.size))
  clear hS2 hb2 CC HTab HB1 hge
  go_wp2_with fail
  go_loopw [6] (fun i wr => ∃ k : Nat, k ≤ 13 ∧ i = .int .i64 k ∧ Hid (k ≤ catK l) ∧ wr = w2) (fun i _ => 13 - (intOf i).toNat)
  case atStart => exact ⟨0, by omega, rfl, Lib.hid (Nat.zero_le _), rfl⟩
  case round =>
    obtain ⟨k, hk, rfl, HK, rfl⟩ := hrel
    by_cases hlt : k < 13
    · have d1 : decide ((k : Int) ≤ 12) = true := decide_eq_true (by omega)
      have hn := names_len
      by_cases hne : names[k]'(by rw [names_len]; exact hlt) = s.data.toList
      · have HF := Lib.hid (catV_at hlt (catK_at hlt HK.out (by rw [HS.out] at hne; exact hne)))
        by_cases hk12 : k < 12
        · have d2 : decide ((k : Int) < 12) = true := decide_eq_true (by omega)
          obtain ⟨b', off, e1, hbl, hc⟩ := HSs.out (by decide)
          injection e1 with e1
          injection e1 with e2 e3 e4
          subst e2 e3
          have hu := hc k (by rw [cats_len]; exact hk12)
          rw [Nat.zero_add] at hu
          obtain ⟨S, hS⟩ : ∃ S : ByteArray, S = ⟨(cats[k]'(by rw [cats_len]; exact hk12)).toArray⟩ := ⟨_, rfl⟩
          rw [← hS] at hu
          have hE : (S.toList != s.toList) = false := by
            rw [bne, beq_str S s _ _ (by rw [hS]) rfl]
            have h4 : (cats[k]'(by rw [cats_len]; exact hk12)) = s.data.toList := by
              rw [← hne]
              exact (List.getElem_append_left (bs := [allN]) (by rw [cats_len]; exact hk12)).symm
            rw [decide_eq_true h4]
            rfl
          have hE2 : (S.toList == s.toList) = true := by simpa using hE
          have t12 : ((k : Int) == 12) = false := by rw [beq_eq_false_iff_ne]; omega
          clear hS hc hne
          go_wp2_with fail
          go_loopw [7, 8] (fun m i wx => ∃ j : Nat, j ≤ 56 ∧ i = .int .i64 j ∧ m = .int .u64 (maskK k j : Int) ∧ wx = wr) (fun _ i _ => 56 - (intOf i).toNat)
          case atStart => exact ⟨0, by omega, rfl, rfl, rfl⟩
          case round =>
            obtain ⟨j, hj, rfl, rfl, rfl⟩ := hrel
            by_cases hj56 : j < 56
            · have d3 : decide ((j : Int) < 56) = true := decide_eq_true (by omega)
              have hct := HTab2.out.ct j hj56
              have hsm := ct_small j hj56
              have hm := maskK_lt k j
              have HY := Lib.hid (fun h => maskK_yes k j h)
              have HNo := Lib.hid (fun h => maskK_no k j h)
              have hbit := bit_at (cmdAt j).ct k
              obtain ⟨g, hg⟩ : ∃ g, g = (cmdAt j).ct := ⟨_, rfl⟩
              rw [← hg] at hct hsm hbit HY HNo
              obtain ⟨M, hM⟩ : ∃ M, M = maskK k j := ⟨_, rfl⟩
              rw [← hM] at hm HY HNo ⊢
              clear hg hM
              by_cases hy : g >>> k % 2 = 1
              · have hbt : (((g : Int) / 2 ^ k).tmod 2 == 1) = true := by rw [hbit]; exact decide_eq_true hy
                have HE := Lib.hid (HY.out (Or.inr hy))
                clear hbit hy HY HNo
                go_wp2_with fail
                go_roundw
                case rel => exact ⟨j + 1, by omega, by go_num, by rw [HE.out]; exact congrArg (Value.int .u64) (shl_sum M j hj56 hm), trivial⟩
                case measure => simp [intOf]; omega
              · have hbt : (((g : Int) / 2 ^ k).tmod 2 == 1) = false := by rw [hbit]; exact decide_eq_false hy
                have HE := Lib.hid (HNo.out (by rintro (h | h); omega; exact hy h))
                clear hbit hy HY HNo
                go_wp2_with fail
                go_roundw
                case rel => exact ⟨j + 1, by omega, by go_num, by rw [HE.out], trivial⟩
                case measure => simp [intOf]; omega
            · have d3 : decide ((j : Int) < 56) = false := decide_eq_false (by omega)
              obtain rfl : j = 56 := by omega
              go_wp2_with fail
              go_ret2
              exact ⟨by rw [HF.out.1, HF.out.2]; rfl, HB2.out⟩
        · have d2 : decide ((k : Int) < 12) = false := decide_eq_false (by omega)
          have e12 : k = 12 := by omega
          have t12 : ((k : Int) == 12) = true := by rw [e12]; rfl
          have hall : s.data.toList = allN := by
            rw [← hne]
            subst e12
            rfl
          have hA : (s.toList == [97, 108, 108]) = true := by rw [ByteArray.toList_eq, hall]; rfl
          have hA2 : (s.toList == (⟨#[97, 108, 108]⟩ : ByteArray).toList) = true := by rw [ByteArray.toList_eq, ByteArray.toList_eq, hall]; rfl
          have HK12 := Lib.hid e12
          clear hne hall e12
          go_wp2_with fail
          go_loopw [7, 8] (fun m i wx => ∃ j : Nat, j ≤ 56 ∧ i = .int .i64 j ∧ m = .int .u64 (maskK k j : Int) ∧ wx = wr) (fun _ i _ => 56 - (intOf i).toNat)
          case atStart => exact ⟨0, by omega, rfl, rfl, rfl⟩
          case round =>
            obtain ⟨j, hj, rfl, rfl, rfl⟩ := hrel
            by_cases hj56 : j < 56
            · have d3 : decide ((j : Int) < 56) = true := decide_eq_true (by omega)
              have hm := maskK_lt k j
              have HE := Lib.hid (maskK_yes k j (Or.inl HK12.out))
              obtain ⟨M, hM⟩ : ∃ M, M = maskK k j := ⟨_, rfl⟩
              rw [← hM] at hm HE ⊢
              clear hM
              go_wp2_with fail
              go_roundw
              case rel => exact ⟨j + 1, by omega, by go_num, by rw [HE.out]; exact congrArg (Value.int .u64) (shl_sum M j hj56 hm), trivial⟩
              case measure => simp [intOf]; omega
            · have d3 : decide ((j : Int) < 56) = false := decide_eq_false (by omega)
              obtain rfl : j = 56 := by omega
              go_wp2_with fail
              go_ret2
              exact ⟨by rw [HF.out.1, HF.out.2]; rfl, HB2.out⟩
      · have HK2 := Lib.hid (catK_next hlt HK.out (by rw [HS.out] at hne; exact hne))
        by_cases hk12 : k < 12
        · have d2 : decide ((k : Int) < 12) = true := decide_eq_true (by omega)
          obtain ⟨b', off, e1, hbl, hc⟩ := HSs.out (by decide)
          injection e1 with e1
          injection e1 with e2 e3 e4
          subst e2 e3
          have hu := hc k (by rw [cats_len]; exact hk12)
          rw [Nat.zero_add] at hu
          obtain ⟨S, hS⟩ : ∃ S : ByteArray, S = ⟨(cats[k]'(by rw [cats_len]; exact hk12)).toArray⟩ := ⟨_, rfl⟩
          rw [← hS] at hu
          have hE2 : (S.toList == s.toList) = false := by
            rw [beq_str S s _ _ (by rw [hS]) rfl]
            refine decide_eq_false fun h4 => hne ?_
            rw [← h4]
            exact List.getElem_append_left (bs := [allN]) (by rw [cats_len]; exact hk12)
          have hE : (S.toList != s.toList) = true := by rw [bne, hE2]; rfl
          clear hS hc hne
          go_wp2_with fail
          go_roundw
          case rel => exact ⟨k + 1, by omega, by go_num, HK2, trivial⟩
          case measure => simp [intOf]; omega
        · have d2 : decide ((k : Int) < 12) = false := decide_eq_false (by omega)
          have e12 : k = 12 := by omega
          have t12 : ((k : Int) == 12) = true := by rw [e12]; rfl
          have hall : s.data.toList ≠ allN := fun h => hne (by
            rw [h]
            subst e12
            rfl)
          have hA : (s.toList == [97, 108, 108]) = false := by
            rw [ByteArray.toList_eq, beq_eq_false_iff_ne]
            exact hall
          have hA2 : (s.toList == (⟨#[97, 108, 108]⟩ : ByteArray).toList) = false := by
            rw [ByteArray.toList_eq, ByteArray.toList_eq, beq_eq_false_iff_ne]
            exact hall
          clear hne hall e12
          go_wp2_with fail
          go_roundw
          case rel => exact ⟨k + 1, by omega, by go_num, HK2, trivial⟩
          case measure => simp [intOf]; omega
    · have d1 : decide ((k : Int) ≤ 12) = false := decide_eq_false (by omega)
      have HF := Lib.hid (catV_none (s := l) (by have := HK.out; omega))
      go_wp2_with fail
      go_ret2
      exact ⟨by rw [HF.out.1, HF.out.2]; rfl, HB2.out⟩

end Go.Proofs.Ythmkcdlchkdehaa.RefTab
