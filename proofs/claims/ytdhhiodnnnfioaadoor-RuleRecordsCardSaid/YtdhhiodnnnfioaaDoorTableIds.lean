/-
  The landed code of layer 7: the bits of a category.
-/
import Derived.Test.YtdhhiodnnnfioaaDoorTableRows2
import Derived.Test.YtdhhiodnnnfioaaDoorTableBits
namespace Go.Proofs.YtdhhiodnnnfioaaDoor.TableM
open Go.RowKit Kit TableMath
set_option linter.unusedVariables false
set_option maxRecDepth 100000

theorem or_next (M j : Nat) (hj : j < 56) (hM : M < 2 ^ j) : bits .or .u64 (M : Int) (IntKind.u64.wrap (2 ^ j)) = ((M + 2 ^ j : Nat) : Int) := by
  have h1 : 2 ^ j ≤ 2 ^ 55 := Nat.pow_le_pow_right (by decide) (by omega)
  have e : (2 : Int) ^ j = ((2 ^ j : Nat) : Int) := by rw [Int.natCast_pow]; rfl
  have h2 := Nat.two_pow_add_eq_or_of_lt hM 1
  rw [Nat.mul_one] at h2
  rw [e]
  obtain ⟨P, hP⟩ : ∃ P, P = 2 ^ j := ⟨_, rfl⟩
  rw [← hP] at h1 hM h2 ⊢
  have e55 : (2 : Nat) ^ 55 = 36028797018963968 := by decide
  rw [e55] at h1
  rw [show IntKind.u64.wrap (P : Int) = (P : Int) by rw [IntKind.wrap_u64]; omega, bits_or_u64_nat M P (by omega) (by omega), Nat.or_comm, ← h2, Nat.add_comm]
theorem and16 (a b : Nat) (ha : a < 65536) (hb : b < 65536) : bits .and .u16 (a : Int) (b : Int) = ((a &&& b : Nat) : Int) := by
  have hx : a &&& b ≤ a := Nat.and_le_left
  have h1 : (BitVec.ofInt 16 (a : Int)).toNat = a := by
    rw [BitVec.ofInt_natCast, BitVec.toNat_ofNat]; exact Nat.mod_eq_of_lt (by omega)
  have h2 : (BitVec.ofInt 16 (b : Int)).toNat = b := by
    rw [BitVec.ofInt_natCast, BitVec.toNat_ofNat]; exact Nat.mod_eq_of_lt (by omega)
  show IntKind.u16.wrap ((BitVec.ofInt 16 (a : Int) &&& BitVec.ofInt 16 (b : Int)).toNat : Int) = _
  rw [BitVec.toNat_and, h1, h2, IntKind.wrap_u16]
  omega
theorem and_pow (g k : Nat) : g &&& 2 ^ k ≠ 0 ↔ g / 2 ^ k % 2 = 1 := by
  have hb : g.testBit k = decide (g / 2 ^ k % 2 = 1) := Nat.testBit_eq_decide_div_mod_eq
  have h1 : (g &&& 2 ^ k).testBit k = g.testBit k := by rw [Nat.testBit_and, Nat.testBit_two_pow_self, Bool.and_true]
  constructor
  · intro h
    by_cases hd : g / 2 ^ k % 2 = 1
    · exact hd
    · refine absurd (Nat.eq_of_testBit_eq fun i => ?_) h
      rw [Nat.zero_testBit, Nat.testBit_and, Nat.testBit_two_pow]
      by_cases hi : k = i
      · subst hi
        rw [hb, decide_eq_false hd]
        rfl
      · simp [hi]
  · intro h e
    rw [e, Nat.zero_testBit, hb, decide_eq_true h] at h1
    cases h1
theorem bit_of (g k : Nat) (hk : k < 12) (hg : g < 4096) : (bits .and .u16 (g : Int) ((2 ^ k : Nat) : Int) != 0) = decide (g >>> k % 2 = 1) := by
  have h1 : 2 ^ k ≤ 2 ^ 11 := Nat.pow_le_pow_right (by decide) (by omega)
  have e : (2 : Nat) ^ 11 = 2048 := by decide
  have h2 := and_pow g k
  rw [and16 g (2 ^ k) (by omega) (by omega), Nat.shiftRight_eq_div_pow, Bool.eq_iff_iff, bne_iff_ne, decide_eq_true_eq, ← h2]
  omega
set_option maxHeartbeats 2000000 in
theorem ids_any (k : Nat) (hk : k < 12) (w : World) :
    Calls Tryd.prog 45 #[.int .u16 ((2 ^ k : Nat) : Int)] w fun e w' => e = .returned (.int .u64 (maskK k 56 : Int)) ∧ Below w.heap.size w w' := by
  have hv := (zero_of_info rows_info).1
  have HI := Lib.hid (zero_of_info rows_info).2
  have CR := Lib.hid (fun W => rows_any W)
  have HT := Lib.hid (fun W => tab_set W rows0)
  have hz0 := Lib.hid (show rows0.size = 168 by decide +kernel)
  have HO := Lib.hid rowsC_one
  have hz := Lib.hid rowsC_size
  have hbit := Lib.hid (fun g hg => bit_of g k hk hg)
  have hpl : 0 ≤ ((2 ^ k : Nat) : Int) := Int.natCast_nonneg _
  have hpu : ((2 ^ k : Nat) : Int) ≤ 2048 := by
    have := Nat.pow_le_pow_right (n := 2) (by decide) (show k ≤ 11 by omega)
    have e : (2 : Nat) ^ 11 = 2048 := by decide
    omega
  generalize ((2 ^ k : Nat) : Int) = c at hbit hpl hpu ⊢
  generalize rowsC = C at CR HT hz HO
  generalize rows0 = Z at hv HT hz0
  go_enter Tryd.func45, Tryd.ntmps45
  go_wp2_with fail
  refine (CR.out _).mono ?_
  rintro e w1 ⟨rfl, hb1⟩
  go_wp2_with (with_reducible refine wpList_store_row rfl 80 (.tmp 4) (.tmp 6) rfl w1.heap.size C rfl rfl 80 _ (heap_alloc_last _ _) (by rw [HI.out, hz.out]) (by rw [hz.out, hz0.out]) HO.out ?_)
  have HTab := Lib.hid (HT.out w1)
  have HB := Lib.hid (below_setRow (hb1.alloc hb1.size (.cells Z 80)) hb1.size C)
  clear hb1 HT CR hv
  generalize World.setRow _ _ _ = w2 at HTab HB ⊢
  go_wp2_with fail
  go_loopw [3, 7] (fun m i wx => ∃ j : Nat, j ≤ 56 ∧ i = .int .i64 j ∧ m = .int .u64 (maskK k j : Int) ∧ wx = w2) (fun _ i _ => 56 - (intOf i).toNat)
  case atStart => exact ⟨0, by omega, rfl, rfl, rfl⟩
  case round =>
    obtain ⟨j, hj, rfl, rfl, rfl⟩ := hrel
    by_cases hj56 : j < 56
    · have d3 : decide ((j : Int) < 56) = true := decide_eq_true (by omega)
      have hct := HTab.out.ct j hj56
      have hsm := ct_small j hj56
      have hm := maskK_lt k j
      have HY := Lib.hid (fun h => maskK_yes k j h)
      have HNo := Lib.hid (fun h => maskK_no k j h)
      have hb := hbit.out (cmdAt j).ct hsm
      obtain ⟨g, hg⟩ : ∃ g, g = (cmdAt j).ct := ⟨_, rfl⟩
      rw [← hg] at hct hsm hb HY HNo
      obtain ⟨M, hM⟩ : ∃ M, M = maskK k j := ⟨_, rfl⟩
      rw [← hM] at hm HY HNo ⊢
      clear hg hM
      by_cases hy : g >>> k % 2 = 1
      · have hbt : (bits .and .u16 (g : Int) c != 0) = true := by rw [hb]; exact decide_eq_true hy
        have HE := Lib.hid (HY.out (Or.inr hy))
        clear hb hy HY HNo
        go_wp2_with fail
        go_roundw
        case rel => exact ⟨j + 1, by omega, by go_num, by rw [HE.out]; exact congrArg (Value.int .u64) (or_next M j hj56 hm), trivial⟩
        case measure => simp [intOf]; omega
      · have hbt : (bits .and .u16 (g : Int) c != 0) = false := by rw [hb]; exact decide_eq_false hy
        have HE := Lib.hid (HNo.out (by rintro (h | h); omega; exact hy h))
        clear hb hy HY HNo
        go_wp2_with fail
        go_roundw
        case rel => exact ⟨j + 1, by omega, by go_num, by rw [HE.out], trivial⟩
        case measure => simp [intOf]; omega
    · have d3 : decide ((j : Int) < 56) = false := decide_eq_false (by omega)
      obtain rfl : j = 56 := by omega
      go_wp2_with fail
      go_ret
      exact ⟨rfl, HB.out⟩

end Go.Proofs.YtdhhiodnnnfioaaDoor.TableM
