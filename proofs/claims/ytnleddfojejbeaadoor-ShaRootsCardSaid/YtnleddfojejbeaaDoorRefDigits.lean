/-
  The document's own digits: numbers told by sixteen digits.
-/
import Derived.Test.YtnleddfojejbeaaDoorRefTurn
import Derived.Test.YtnleddfojejbeaaDoorRootMath
namespace Go.Proofs.YtnleddfojejbeaaDoor.RootT
open Go.RowKit Kit ShaMath RefT RootM
set_option linter.unusedVariables false

theorem info_16 : (Tryd.prog.info? 58).map (fun i => (i.zero, i.size)) = some (some (.agg (row .u64 16 fun _ => 0)), 16) := by kernel_rfl
theorem build_16 (w : World) : (Instr.build 58 #[]).run Tryd.prog w = .ok (.agg (row .u64 16 fun _ => 0)) w := run_build w 58 _ _ (by kernel_rfl)

/-- What lies in memory: the answer's place, and what is being told. -/
structure Two (w : World) (f : Nat → Nat) (wr : World) : Prop where
  b : Below w.heap.size w wr
  z : Arr wr w.heap.size .u64 16 58 (fun _ => 0)
  o : Arr wr (w.heap.size + 1) .u64 16 58 f
theorem Two.put {w : World} {f : Nat → Nat} {wr : World} (h : Two w f wr) (k v : Nat) (x : Int) (hx : x = (v : Int)) : Two w (upd f k v) (wr.setCell ⟨w.heap.size + 1, k, none⟩ (.int .u64 x)) := by
  subst hx
  exact ⟨h.b.setCell (by simp) _, h.z.other _ _ (by simp), h.o.set _ _⟩
theorem dig_next (x k : Nat) : upd (dig x k) k (x / 65536 ^ k % 65536) = dig x (k + 1) := by
  funext j
  unfold upd dig
  by_cases h : j = k
  · subst h; rw [if_pos rfl, if_pos (by omega)]
  · rw [if_neg h]
    by_cases h2 : j < k
    · rw [if_pos h2, if_pos (by omega)]
    · rw [if_neg h2, if_neg (by omega)]
theorem dig_zero (x : Nat) : dig x 0 = fun _ => 0 := by
  funext j
  unfold dig
  rw [if_neg (by omega)]
theorem quo_next (x k : Nat) : x / 65536 ^ k / 65536 = x / 65536 ^ (k + 1) := by rw [Nat.div_div_eq_div_mul, Nat.pow_succ]

set_option maxHeartbeats 1000000 in
theorem digits_any (x : Nat) (w : World) (hx : x < 18446744073709551616) :
    Calls Tryd.prog 35 #[.int .u64 x, .int .i64 4] w fun e w' => e = .returned (.agg (row .u64 16 (dig x 4))) ∧ Below w.heap.size w w' := by
  obtain ⟨hz, hn⟩ := zero_of_info info_16
  have HN := Lib.hid hn
  clear hn
  have hb16 := build_16
  go_enter Tryd.func35, Tryd.ntmps35
  go_wp2_with (with_reducible refine wpList_store_arr rfl 58 (.tmp 5) (.tmp 7) rfl (w.heap.size + 1) .u64 16 (fun _ => 0) rfl rfl 58 _ Arr.new1 HN ?_)
  go_loopw [0, 6] (fun v i wr => ∃ (k y : Nat), k ≤ 4 ∧ y = x / 65536 ^ k ∧ y < 18446744073709551616 ∧ v = .int .u64 y ∧ i = .int .i64 k ∧ Two w (dig x k) wr) (fun _ i _ => 4 - (intOf i).toNat)
  case atStart => exact ⟨0, x, by decide, by simp, hx, rfl, rfl, below_setRow (below2 _ _ _) (by simp) _, (Arr.new.al _).setRow_ne _ (by simp), by rw [dig_zero]; exact Arr.new1.setRow _⟩
  case round =>
    obtain ⟨k, y, hk, hy, hy2, rfl, rfl, hR⟩ := hrel
    have HY := Lib.hid hy
    clear hy
    by_cases hlt : k < 4
    · have c0 := hR.o.at_ k (by omega)
      have z0 := hR.o.frz k
      go_wp2_with fail
      go_roundw
      case rel => exact ⟨k + 1, y / 65536, by omega, by rw [HY.out, quo_next], by omega, by go_num, by go_num, by
        rw [← dig_next]
        exact hR.put k _ _ (by rw [← HY.out]; omega)⟩
      case measure => simp [intOf]; omega
    · obtain rfl : k = 4 := by omega
      go_wp2_with (first | (with_reducible refine wpList_load_arr rfl 58 (.tmp 5) rfl (w.heap.size + 1) rfl .u64 16 58 (dig x 4) hR.o _ Tryd.underlying58 rfl HN ?_) | (with_reducible refine wpList_store_arr rfl 58 (.tmp 4) (.tmp 19) rfl w.heap.size .u64 16 (dig x 4) rfl rfl 58 _ hR.z HN ?_))
      exact bodyPost_ret (results_arr rfl _ _ w.heap.size 58 .u64 16 (dig x 4) _ rfl (hR.z.setRow _) Tryd.underlying58 rfl HN) rfl ⟨rfl, below_setRow hR.b (by omega) _⟩

end Go.Proofs.YtnleddfojejbeaaDoor.RootT
