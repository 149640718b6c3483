/-
  The document's own root.
-/
import Derived.Test.YtnleddfojejbeaaDoorRefFits
namespace Go.Proofs.YtnleddfojejbeaaDoor.RootT
open Go.RowKit Kit ShaMath RefT RootM
set_option linter.unusedVariables false

theorem run_step (p k n low bit : Nat) : rootRun p k (n + 1) low bit = rootRun p k n (bif decide ((low + bit) ^ k ≤ p * 65536 ^ (2 * k)) then low + bit else low) (bit / 2) := rfl
theorem run_step' (p k n low bit R : Nat) (b : Bool) (hb : decide ((low + bit) ^ k ≤ p * 65536 ^ (2 * k)) = b) (h : rootRun p k (n + 1) low bit = R) : rootRun p k n (bif b then low + bit else low) (bit / 2) = R := by
  subst hb
  rw [← run_step]
  exact h

set_option maxHeartbeats 2000000 in
theorem root_any (p k : Nat) (hk : 2 ≤ k) (hk3 : k ≤ 3) (hp : p < 65536) (w : World) :
    Calls Tryd.prog 26 #[.int .u64 p, .int .i64 k] w fun e w' => e = .returned (.int .u64 ((rootOf p k % 4294967296 : Nat) : Int)) ∧ Below w.heap.size w w' := by
  unfold rootOf
  rw [Int.natCast_emod]
  obtain ⟨R, hR0⟩ : ∃ R, rootRun p k 37 0 68719476736 = R := ⟨_, rfl⟩
  rw [hR0]
  go_enter Tryd.func26, Tryd.ntmps26
  go_wp2_with fail
  go_loopw [5, 6] (fun lv bv wr => ∃ (n low bit : Nat), lv = .int .u64 low ∧ bv = .int .u64 bit ∧ bit < 2 ^ n ∧ low + 2 * bit ≤ 137438953472 ∧ rootRun p k n low bit = R ∧ Below w.heap.size w wr) (fun _ bv _ => (intOf bv).toNat)
  case atStart => exact ⟨37, 0, 68719476736, rfl, rfl, by decide, by decide, hR0, Below.refl _ _⟩
  case round =>
    obtain ⟨n, low, bit, rfl, rfl, hbn, hlow, hrun, hb⟩ := hrel
    have HRUN := Lib.hid hrun
    have HBN := Lib.hid hbn
    clear hrun hbn hR0
    by_cases h0 : 0 < bit
    · have hd : decide ((0 : Int) < (bit : Int)) = true := decide_eq_true (by omega)
      go_wp2_with fail
      have HL := Lib.hid (show ((low : Int) + (bit : Int)) = ((low + bit : Nat) : Int) by omega)
      rw [HL.out]
      refine (fits_any (low + bit) p k hk hk3 (by omega) hp _).mono ?_
      rintro e w1 ⟨rfl, hb1⟩
      have hB := hb.trans (hb1.mono hb.size)
      clear hb hb1
      obtain ⟨m, rfl⟩ : ∃ m, n = m + 1 := ⟨n - 1, by
        have := HBN.out
        cases n with
        | zero => simp at this; omega
        | succ n => rfl⟩
      have hm : bit / 2 < 2 ^ m := by have := HBN.out; rw [Nat.pow_succ] at this; omega
      obtain ⟨b, hbb⟩ : ∃ b, decide ((low + bit) ^ k ≤ p * 65536 ^ (2 * k)) = b := ⟨_, rfl⟩
      have HS := Lib.hid (run_step' p k m low bit R b hbb HRUN.out)
      rw [hbb]
      clear hbb
      cases b with
      | true =>
        go_wp2_with fail
        go_roundw
        case rel => exact ⟨m, low + bit, bit / 2, by go_num, by go_num, hm, by omega, HS.out, hB⟩
        case measure => simp [intOf]; omega
      | false =>
        go_wp2_with fail
        go_roundw
        case rel => exact ⟨m, low, bit / 2, by go_num, by go_num, hm, by omega, HS.out, hB⟩
        case measure => simp [intOf]; omega
    · obtain rfl : bit = 0 := by omega
      have HLR := Lib.hid (show low = R by rw [← HRUN.out, rootRun_zero])
      have hd : decide ((0 : Int) < ((0 : Nat) : Int)) = false := by decide
      go_wp2_with fail
      refine (whole_q (low : Int) _ (by omega) (by omega)).mono ?_
      rintro e w1 ⟨rfl, rfl⟩
      go_wp2_with fail
      go_ret
      exact ⟨by rw [← HLR.out]; rfl, hb⟩

end Go.Proofs.YtnleddfojejbeaaDoor.RootT
