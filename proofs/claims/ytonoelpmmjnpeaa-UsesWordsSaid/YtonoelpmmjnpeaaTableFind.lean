/-
  The landed code of layer 7: the id of a name.
-/
import Derived.Test.YtonoelpmmjnpeaaTableAt
import Derived.Test.YtonoelpmmjnpeaaLowNum
namespace Go.Proofs.Ytonoelpmmjnpeaa.TableM
open Go.RowKit Kit TableMath Low StrT
open RefTab (beq_str)
set_option linter.unusedVariables false
set_option maxRecDepth 100000

set_option maxHeartbeats 1000000 in
theorem find_any (s : ByteArray) (w : World) (hz : s.size ≤ 140737488351232) :
    Calls Try.prog 23 #[.string s] w fun e w' => e = .returned (.tuple #[.int .i64 (findV (lowL s.data.toList)), .bool (findB (lowL s.data.toList))]) ∧ Below w.heap.size w w' := by
  have hv := (zero_of_info rows_info).1
  have HI := Lib.hid (zero_of_info rows_info).2
  have CA := Lib.hid (fun W => rows_any W)
  have HTs := Lib.hid (fun W => tab_set W rows0)
  have hz0 := Lib.hid (show rows0.size = 168 by decide +kernel)
  have HO := Lib.hid rowsC_one
  have hzc := Lib.hid rowsC_size
  generalize rowsC = C at CA HTs hzc HO
  generalize rows0 = Z at hv HTs hz0
  obtain ⟨T, hT⟩ : ∃ T : ByteArray, T = ⟨(lowL s.data.toList).toArray⟩ := ⟨_, rfl⟩
  have CL := Lib.hid (hT ▸ LowN.lower_any s w (by unfold maxLen; omega) : Calls Try.prog 34 #[.string s] w fun e w' => e = .returned (.string T) ∧ Below w.heap.size w w')
  obtain ⟨l, hl⟩ : ∃ l, l = lowL s.data.toList := ⟨_, rfl⟩
  have HTd := Lib.hid (show T.data.toList = l by rw [hT, hl])
  rw [← hl]
  have HLe := Lib.hid (findK_le l)
  clear hT hl
  go_enter Try.func23, Try.ntmps23
  go_wp2_with fail
  refine CL.out.mono ?_
  rintro e w0 ⟨rfl, hb0⟩
  go_wp2_with fail
  refine (CA.out _).mono ?_
  rintro e w1 ⟨rfl, hb1⟩
  have HB1 := Lib.hid (hb0.trans (hb1.mono hb0.size))
  clear hb0 hb1 CA CL
  go_wp2_with (with_reducible refine wpList_store_row rfl 63 (.tmp 5) (.tmp 9) rfl w1.heap.size C rfl rfl 63 _ (heap_alloc_last _ _) (by rw [HI.out, hzc.out]) (by rw [hzc.out, hz0.out]) HO.out ?_)
  have HTab := Lib.hid (HTs.out w1)
  have HB := Lib.hid (below_setRow (HB1.out.alloc HB1.out.size (.cells Z 63)) HB1.out.size C)
  clear HB1 HTs hv
  generalize World.setRow _ _ _ = w2 at HTab HB ⊢
  go_wp2_with fail
  go_loopw [10] (fun i wr => ∃ k : Nat, k ≤ 56 ∧ i = .int .i64 k ∧ Hid (k ≤ findK l) ∧ wr = w2) (fun i _ => 56 - (intOf i).toNat)
  case atStart => exact ⟨0, by omega, rfl, Lib.hid (Nat.zero_le _), rfl⟩
  case round =>
    obtain ⟨k, hk, rfl, HK, rfl⟩ := hrel
    by_cases hlt : k < 56
    · have d1 : decide ((k : Int) < 56) = true := decide_eq_true (by omega)
      obtain ⟨S, hS⟩ : ∃ S : ByteArray, S = ⟨(cmdAt k).name.toArray⟩ := ⟨_, rfl⟩
      have hcell := HTab.out.name k hlt
      rw [← hS] at hcell
      have hE := beq_str S T (cmdAt k).name l (by rw [hS]) HTd.out
      have k0 : (0 : Int) ≤ (k : Int) := by omega
      by_cases hn : (cmdAt k).name = l
      · have hE2 : (S.toList == T.toList) = true := by rw [hE]; exact decide_eq_true hn
        have HF := Lib.hid (findV_at hlt (findK_at hlt HK.out hn))
        clear hE hn hS
        go_wp2_with fail
        go_ret2
        exact ⟨by rw [HF.out.1, HF.out.2]; rfl, HB.out⟩
      · have hE2 : (S.toList == T.toList) = false := by rw [hE]; exact decide_eq_false hn
        have HK2 := Lib.hid (findK_next hlt HK.out hn)
        clear hE hn hS
        go_wp2_with fail
        go_roundw
        case rel => exact ⟨k + 1, by omega, by go_num, HK2, trivial⟩
        case measure => simp [intOf]; omega
    · have d1 : decide ((k : Int) < 56) = false := decide_eq_false (by omega)
      have HF := Lib.hid (findV_none (s := l) (by have := HK.out; omega))
      go_wp2_with fail
      go_ret2
      exact ⟨by rw [HF.out.1, HF.out.2]; rfl, HB.out⟩

end Go.Proofs.Ytonoelpmmjnpeaa.TableM
