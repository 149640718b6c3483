/-
  Names and categories of the landed table, for seats without At, Fits, Count.
-/
import Derived.Test.YtdhhiodnnnfioaaDoorTableRows2
import Derived.Test.YtdhhiodnnnfioaaDoorRefTabz
import Derived.Test.YtdhhiodnnnfioaaDoorLowNum
import Derived.Test.YtdhhiodnnnfioaaDoorTableIds
namespace Go.Proofs.YtdhhiodnnnfioaaDoor.TableM
open Go.RowKit Kit TableMath
open RefTab (build_nil results_cell_slot atV_in atV_out cmd_size fits_out fits_low fits_same ar_small)
set_option linter.unusedVariables false
set_option maxRecDepth 100000



end Go.Proofs.YtdhhiodnnnfioaaDoor.TableM
namespace Go.Proofs.YtdhhiodnnnfioaaDoor.TableM
open Go.RowKit Kit TableMath Low StrT
open RefTab (beq_str)
set_option linter.unusedVariables false
set_option maxRecDepth 100000

set_option maxHeartbeats 1000000 in
theorem find_any (s : ByteArray) (w : World) (hz : s.size ≤ 140737488351232) :
    Calls Tryd.prog 48 #[.string s] w fun e w' => e = .returned (.tuple #[.int .i64 (findV (lowL s.data.toList)), .bool (findB (lowL s.data.toList))]) ∧ Below w.heap.size w w' := by
  have hv := (zero_of_info rows_info).1
  have HI := Lib.hid (zero_of_info rows_info).2
  have CA := Lib.hid (fun W => rows_any W)
  have HTs := Lib.hid (fun W => tab_set W rows0)
  have hz0 := Lib.hid (show rows0.size = 168 by decide +kernel)
  have HO := Lib.hid rowsC_one
  have hzc := Lib.hid rowsC_size
  generalize rowsC = C at CA HTs hzc HO
  generalize rows0 = Z at hv HTs hz0
  obtain ⟨T, hT⟩ : ∃ T : ByteArray, T = ⟨(lowL s.data.toList).toArray⟩ := ⟨_, rfl⟩
  have CL := Lib.hid (hT ▸ LowN.lower_any s w (by unfold maxLen; omega) : Calls Tryd.prog 49 #[.string s] w fun e w' => e = .returned (.string T) ∧ Below w.heap.size w w')
  obtain ⟨l, hl⟩ : ∃ l, l = lowL s.data.toList := ⟨_, rfl⟩
  have HTd := Lib.hid (show T.data.toList = l by rw [hT, hl])
  rw [← hl]
  have HLe := Lib.hid (findK_le l)
  clear hT hl
  go_enter Tryd.func48, Tryd.ntmps48
  go_wp2_with fail
  refine CL.out.mono ?_
  rintro e w0 ⟨rfl, hb0⟩
  go_wp2_with fail
  refine (CA.out _).mono ?_
  rintro e w1 ⟨rfl, hb1⟩
  have HB1 := Lib.hid (hb0.trans (hb1.mono hb0.size))
  clear hb0 hb1 CA CL
  go_wp2_with (with_reducible refine wpList_store_row rfl 80 (.tmp 5) (.tmp 9) rfl w1.heap.size C rfl rfl 80 _ (heap_alloc_last _ _) (by rw [HI.out, hzc.out]) (by rw [hzc.out, hz0.out]) HO.out ?_)
  have HTab := Lib.hid (HTs.out w1)
  have HB := Lib.hid (below_setRow (HB1.out.alloc HB1.out.size (.cells Z 80)) HB1.out.size C)
  clear HB1 HTs hv
  generalize World.setRow _ _ _ = w2 at HTab HB ⊢
  go_wp2_with fail
  go_loopw [10] (fun i wr => ∃ k : Nat, k ≤ 56 ∧ i = .int .i64 k ∧ Hid (k ≤ findK l) ∧ wr = w2) (fun i _ => 56 - (intOf i).toNat)
  case atStart => exact ⟨0, by omega, rfl, Lib.hid (Nat.zero_le _), rfl⟩
  case round =>
    obtain ⟨k, hk, rfl, HK, rfl⟩ := hrel
    by_cases hlt : k < 56
    · have d1 : decide ((k : Int) < 56) = true := decide_eq_true (by omega)
      obtain ⟨S, hS⟩ : ∃ S : ByteArray, S = ⟨(cmdAt k).name.toArray⟩ := ⟨_, rfl⟩
      have hcell := HTab.out.name k hlt
      rw [← hS] at hcell
      have hE := beq_str S T (cmdAt k).name l (by rw [hS]) HTd.out
      have k0 : (0 : Int) ≤ (k : Int) := by omega
      by_cases hn : (cmdAt k).name = l
      · have hE2 : (S.toList == T.toList) = true := by rw [hE]; exact decide_eq_true hn
        have HF := Lib.hid (findV_at hlt (findK_at hlt HK.out hn))
        clear hE hn hS
        go_wp2_with fail
        go_ret2
        exact ⟨by rw [HF.out.1, HF.out.2]; rfl, HB.out⟩
      · have hE2 : (S.toList == T.toList) = false := by rw [hE]; exact decide_eq_false hn
        have HK2 := Lib.hid (findK_next hlt HK.out hn)
        clear hE hn hS
        go_wp2_with fail
        go_roundw
        case rel => exact ⟨k + 1, by omega, by go_num, HK2, trivial⟩
        case measure => simp [intOf]; omega
    · have d1 : decide ((k : Int) < 56) = false := decide_eq_false (by omega)
      have HF := Lib.hid (findV_none (s := l) (by have := HK.out; omega))
      go_wp2_with fail
      go_ret2
      exact ⟨by rw [HF.out.1, HF.out.2]; rfl, HB.out⟩

end Go.Proofs.YtdhhiodnnnfioaaDoor.TableM
namespace Go.Proofs.YtdhhiodnnnfioaaDoor.TableM
open Go.RowKit Kit TableMath Low StrT
open RefTab (cats_ss beq_str)
set_option linter.unusedVariables false
set_option maxRecDepth 100000

set_option maxHeartbeats 1000000 in
theorem cats12 (w : World) : Calls Tryd.prog 44 #[] w fun e w' => ∃ b, e = .returned (.slice (some ⟨b, 0, none⟩) 12 12) ∧ Ss w' (some ⟨b, 0, none⟩) cats ∧ w.heap.size ≤ b ∧ Below w.heap.size w w' := by
  have HS := Lib.hid (cats_ss w)
  go_enter Tryd.func44, Tryd.ntmps44
  go_wp2_with fail
  go_ret
  exact ⟨_, rfl, HS.out, Nat.le_refl _, Kit.below1 _ _⟩
theorem cats_any (w : World) : Calls Tryd.prog 44 #[] w fun e w' => ∃ b o c, e = .returned (.slice (some ⟨b, o, none⟩) 12 c) ∧ Ss w' (some ⟨b, o, none⟩) cats ∧ Below w.heap.size w w' :=
  (cats12 w).mono fun _ _ ⟨b, he, hs, _, hb⟩ => ⟨b, 0, 12, he, hs, hb⟩

theorem pow16 (k : Nat) (hk : k < 12) : IntKind.u16.wrap (2 ^ k) = ((2 ^ k : Nat) : Int) := by
  have h1 : 2 ^ k ≤ 2 ^ 11 := Nat.pow_le_pow_right (by decide) (by omega)
  have e : (2 : Nat) ^ 11 = 2048 := by decide
  have e2 : (2 : Int) ^ k = ((2 ^ k : Nat) : Int) := by rw [Int.natCast_pow]; rfl
  rw [e2]
  generalize 2 ^ k = P at h1
  rw [IntKind.wrap_u16]
  omega
theorem catK_lo {s : List UInt8} {k : Nat} (hk : k < 12) (hle : k ≤ catK s) (h : cats[k]'(by rw [cats_len]; exact hk) = s) : catK s = k :=
  catK_at (k := k) (by omega) hle (by rw [← h]; exact List.getElem_append_left (bs := [allN]) (by rw [cats_len]; exact hk))
theorem catK_up {s : List UInt8} {k : Nat} (hk : k < 12) (hle : k ≤ catK s) (h : cats[k]'(by rw [cats_len]; exact hk) ≠ s) : k + 1 ≤ catK s :=
  catK_next (k := k) (by omega) hle (fun e => h (by rw [← e]; exact (List.getElem_append_left (bs := [allN]) (by rw [cats_len]; exact hk)).symm))
theorem mask_all : maskK 12 56 = 72057594037927935 := by decide +kernel
theorem catV_all {s : List UInt8} (h : s = allN) : catV s = 72057594037927935 ∧ catB s = true := by
  subst h
  decide +kernel
theorem catV_not {s : List UInt8} (h : s ≠ allN) (hle : 12 ≤ catK s) : catV s = 0 ∧ catB s = false :=
  catV_none (catK_next (k := 12) (by decide) hle (fun e => h (by rw [← e]; rfl)))
set_option maxHeartbeats 2000000 in
theorem cat_any (s : ByteArray) (w : World) (hz : s.size ≤ 140737488351232) :
    Calls Tryd.prog 31 #[.string s] w fun e w' => e = .returned (.tuple #[.int .u64 (catV s.data.toList : Int), .bool (catB s.data.toList)]) ∧ Below w.heap.size w w' := by
  have CC := Lib.hid (fun W => cats12 W)
  obtain ⟨l, hl⟩ : ∃ l, l = s.data.toList := ⟨_, rfl⟩
  have HS := Lib.hid hl.symm
  rw [← hl]
  by_cases hall : l = allN
  · have HF := Lib.hid (catV_all hall)
    have hA : (s.toList == [97, 108, 108]) = true := by rw [ByteArray.toList_eq, ← hl, hall]; rfl
    have hA2 : (s.toList == (⟨#[97, 108, 108]⟩ : ByteArray).toList) = true := by rw [ByteArray.toList_eq, ByteArray.toList_eq, ← hl, hall]; rfl
    clear hl hall CC
    go_enter Tryd.func31, Tryd.ntmps31
    go_wp2_with fail
    go_ret2
    exact ⟨by rw [HF.out.1, HF.out.2]; rfl, Below.refl _ _⟩
  · have hA : (s.toList == [97, 108, 108]) = false := by
      rw [ByteArray.toList_eq, beq_eq_false_iff_ne, ← hl]
      exact hall
    have hA2 : (s.toList == (⟨#[97, 108, 108]⟩ : ByteArray).toList) = false := by
      rw [ByteArray.toList_eq, ByteArray.toList_eq, beq_eq_false_iff_ne, ← hl]
      exact hall
    have HNA := Lib.hid hall
    clear hl hall
    go_enter Tryd.func31, Tryd.ntmps31
    go_wp2_with fail
    refine (CC.out _).mono ?_
    rintro e w2 ⟨b2, rfl, hS2, hge, hb2⟩
    have HSs := Lib.hid hS2
    have HB2 := Lib.hid hb2
    clear hS2 hb2 CC hge
    go_wp2_with fail
    go_loopw [10] (fun i wr => ∃ k : Nat, k ≤ 12 ∧ i = .int .i64 k ∧ Hid (k ≤ catK l) ∧ wr = w2) (fun i _ => 12 - (intOf i).toNat)
    case atStart => exact ⟨0, by omega, rfl, Lib.hid (Nat.zero_le _), rfl⟩
    case round =>
      obtain ⟨k, hk, rfl, HK, rfl⟩ := hrel
      by_cases hk12 : k < 12
      · have d2 : decide ((k : Int) < 12) = true := decide_eq_true (by omega)
        obtain ⟨b', off, e1, hbl, hc⟩ := HSs.out (by decide)
        injection e1 with e1
        injection e1 with e2 e3 e4
        subst e2 e3
        have hu := hc k (by rw [cats_len]; exact hk12)
        rw [Nat.zero_add] at hu
        obtain ⟨S, hS⟩ : ∃ S : ByteArray, S = ⟨(cats[k]'(by rw [cats_len]; exact hk12)).toArray⟩ := ⟨_, rfl⟩
        rw [← hS] at hu
        have hE := beq_str S s _ _ (by rw [hS]) HS.out
        clear hS hc
        by_cases hne : cats[k]'(by rw [cats_len]; exact hk12) = l
        · have HF := Lib.hid (catV_at (show k < 13 by omega) (catK_lo hk12 HK.out hne))
          have hE2 : (S.toList == s.toList) = true := by rw [hE]; exact decide_eq_true hne
          have CI := Lib.hid (fun W => ids_any k hk12 W)
          have HP := Lib.hid (pow16 k hk12)
          clear hE hne
          go_wp2_with fail
          rw [show IntKind.u16.wrap (2 ^ k) = ((2 ^ k : Nat) : Int) from HP.out]
          refine (CI.out _).mono ?_
          rintro e w3 ⟨rfl, hb3⟩
          have HB3 := Lib.hid (HB2.out.trans (hb3.mono HB2.out.size))
          clear hb3 CI HB2 HSs
          go_wp2_with fail
          go_ret2
          exact ⟨by rw [HF.out.1, HF.out.2]; rfl, HB3.out⟩
        · have HK2 := Lib.hid (catK_up hk12 HK.out hne)
          have hE2 : (S.toList == s.toList) = false := by rw [hE]; exact decide_eq_false hne
          clear hE hne
          go_wp2_with fail
          go_roundw
          case rel => exact ⟨k + 1, by omega, by go_num, HK2, trivial⟩
          case measure => simp [intOf]; omega
      · have d2 : decide ((k : Int) < 12) = false := decide_eq_false (by omega)
        have HF := Lib.hid (catV_not HNA.out (by have := HK.out; omega))
        go_wp2_with fail
        go_ret2
        exact ⟨by rw [HF.out.1, HF.out.2]; rfl, HB2.out⟩

end Go.Proofs.YtdhhiodnnnfioaaDoor.TableM
