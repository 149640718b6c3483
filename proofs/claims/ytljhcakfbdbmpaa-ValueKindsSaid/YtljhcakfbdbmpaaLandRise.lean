/-
  The landed code of layer 9: comparisons, and whether a row rises.
-/
import Derived.Test.YtljhcakfbdbmpaaShelf
import Derived.Test.YtljhcakfbdbmpaaRefVal1
import Derived.Test.YtljhcakfbdbmpaaLandMath
import Derived.Test.YtljhcakfbdbmpaaQuietTail
import Derived.Lib.QuietBelow
import Derived.BigQuiet
import Derived.Deep.QuietTactic
import Derived.StillTailTactics
namespace Go.Proofs.Ytljhcakfbdbmpaa.ValM
open Go.RowKit Kit StrT RowG BOrd ValT RefV
open Go.Op (bytesLess)
set_option linter.unusedVariables false
set_option maxRecDepth 100000

set_option maxHeartbeats 2000000 in
theorem byName_any (A B C D : ByteArray) (w : World) :
    Calls Try.prog 21 #[.agg #[.string A, .string B], .agg #[.string C, .string D]] w fun e w' => e = .returned (.int .i64 (Lib.compareBytes A.data.toList C.data.toList)) ∧ Below w.heap.size w w' := by
  have c0 : ((w.alloc (.cells #[.string A, .string B] 34)).alloc (.cells #[.string C, .string D] 34)).cell? ⟨w.heap.size, 0, none⟩ = some (.string A) := by
    rw [cell_of_row _ _ _ _ 34 _ (heap_alloc2_old w _ _)]
    rfl
  have d0 : ((w.alloc (.cells #[.string A, .string B] 34)).alloc (.cells #[.string C, .string D] 34)).cell? ⟨w.heap.size + 1, 0, none⟩ = some (.string C) := by
    rw [cell_of_row _ _ _ _ 34 _ (heap_alloc2_new w _ _)]
    rfl
  have HB := Lib.hid (show Below w.heap.size w ((w.alloc (.cells #[.string A, .string B] 34)).alloc (.cells #[.string C, .string D] 34)) from ((Below.refl _ _).alloc (Nat.le_refl _) _).alloc (by simp) _)
  have CC := Lib.hid (fun W => Try.strings_Compare A C W)
  go_enter Try.func21, Try.ntmps21
  go_wp2_with (go_at_call 23; with_reducible refine (CC.out _).mono ?_; rintro e w1 ⟨rfl, rfl⟩)
  go_ret
  exact ⟨rfl, HB.out⟩

set_option maxHeartbeats 4000000 in
theorem rising_s (q : Option Addr) (L : List (List UInt8)) (n c : Nat) (w : World) (hn : L.length = n) (h : Ss w q L) (hz : n ≤ 1048576) :
    Calls Try.prog 22 #[.slice q n c, .func (.func 23) #[] #[]] w fun e w' => e = .returned (.bool (chainB cmpS L)) ∧ Below w.heap.size w w' := by
  have HS := Lib.hid h
  have HN := Lib.hid hn
  clear h hn
  go_enter Try.func22, Try.ntmps22
  go_wp2_with fail
  go_loopw [5] (fun i wr => ∃ k : Nat, i = .int .i64 ((k : Int) + 1) ∧ k ≤ n ∧ Hid (∀ j (hj : j < k) (h : j + 1 < L.length), cmpS L[j] L[j + 1] < 0) ∧ Hid (Below w.heap.size w wr)) (fun i _ => n + 2 - (intOf i).toNat)
  case atStart => exact ⟨0, rfl, Nat.zero_le _, Lib.hid (fun j hj => absurd hj (by omega)), Lib.hid (Below.refl _ _)⟩
  case round =>
    obtain ⟨k, rfl, hk, HR, HB⟩ := hrel
    by_cases hlt : k + 1 < n
    · have d1 : decide ((k : Int) + 1 < (n : Int)) = true := decide_eq_true (by omega)
      have hk0 : (0 : Int) ≤ (k : Int) := by omega
      have hkn : (k : Int) < (n : Int) := by omega
      have hkn1 : (k : Int) + 1 < (n : Int) := by omega
      obtain ⟨b, off, rfl, hbl, u0⟩ := ss_at (HS.out.keep HB.out) k (by rw [HN.out]; omega)
      obtain ⟨b', off', e1, -, u1⟩ := ss_at (HS.out.keep HB.out) (k + 1) (by rw [HN.out]; omega)
      injection e1 with e1
      injection e1 with e2 e3
      subst e2 e3
      have HSt := Lib.hid (show cmpS (L[k]'(by rw [HN.out]; omega)) (L[k + 1]'(by rw [HN.out]; omega)) < 0 → ∀ j (hj : j < k + 1) (h : j + 1 < L.length), cmpS L[j] L[j + 1] < 0 from fun h0 j hj h => by
        rcases Nat.lt_or_ge j k with h1 | h1
        · exact HR.out j h1 h
        · obtain rfl : j = k := by omega
          exact h0)
      have HNo := Lib.hid (show ¬ cmpS (L[k]'(by rw [HN.out]; omega)) (L[k + 1]'(by rw [HN.out]; omega)) < 0 → chainB cmpS L = false from fun h0 => chainB_false fun h => h0 (h k (by rw [HN.out]; omega)))
      obtain ⟨X, hX⟩ : ∃ X, X = L[k]'(by rw [HN.out]; omega) := ⟨_, rfl⟩
      obtain ⟨Y, hY⟩ : ∃ Y, Y = L[k + 1]'(by rw [HN.out]; omega) := ⟨_, rfl⟩
      rw [← hX] at u0 HSt HNo
      rw [← hY] at u1 HSt HNo
      obtain ⟨A, hA⟩ : ∃ A : ByteArray, A = ⟨X.toArray⟩ := ⟨_, rfl⟩
      obtain ⟨B, hB⟩ : ∃ B : ByteArray, B = ⟨Y.toArray⟩ := ⟨_, rfl⟩
      obtain ⟨V, hV⟩ : ∃ V, V = cmpS X Y := ⟨_, rfl⟩
      have CF := Lib.hid (show ∀ W, Calls Try.prog 23 #[.string A, .string B] W fun e w' => e = .returned (.int .i64 V) ∧ w' = W from fun W => by
        have h := Try.strings_Compare A B W
        rw [hV, hA, hB]
        rw [hA, hB] at h
        exact h)
      rw [← hV] at HSt HNo
      rw [← hA] at u0
      rw [← hB] at u1
      clear hX hY hA hB hV hbl
      by_cases hc : V < 0
      · have HG := Lib.hid (HSt.out hc)
        have hd : decide (0 ≤ V) = false := decide_eq_false (by omega)
        have hd2 : decide (V < 0) = true := decide_eq_true hc
        go_wp2_with fail
        go_quiet ((go_at_call 23; with_reducible exact Calls.quiet_of_same (CF.out _)))
        have hbq := drewN_below HB.out nq
        clear u0 u1
        generalize wr.drewN nq = wq at hbq ⊢
        go_wp2_with fail
        go_roundw
        case rel => exact ⟨k + 1, by go_num, by omega, HG, Lib.hid hbq⟩
        case measure => simp [intOf]; omega
      · have HG := Lib.hid (HNo.out hc)
        have hd : decide (0 ≤ V) = true := decide_eq_true (by omega)
        have hd2 : decide (V < 0) = false := decide_eq_false hc
        go_wp2_with fail
        go_quiet ((go_at_call 23; with_reducible exact Calls.quiet_of_same (CF.out _)))
        have hbq := drewN_below HB.out nq
        clear u0 u1
        generalize wr.drewN nq = wq at hbq ⊢
        go_wp2_with fail
        go_ret
        exact ⟨ret_bool HG.out.symm, hbq⟩
    · have d1 : decide ((k : Int) + 1 < (n : Int)) = false := decide_eq_false (by omega)
      have HX := Lib.hid (show chainB cmpS L = true from chainB_true fun j h => HR.out j (by have := HN.out; omega) h)
      go_wp2_with fail
      go_ret
      exact ⟨ret_bool HX.out.symm, HB.out⟩

end Go.Proofs.Ytljhcakfbdbmpaa.ValM
