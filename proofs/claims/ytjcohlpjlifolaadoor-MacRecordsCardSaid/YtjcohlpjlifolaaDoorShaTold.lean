/-
  What sha.told comes to: eight words as 32 bytes.
-/
import Derived.Test.YtjcohlpjlifolaaDoorRow
import Derived.Test.YtjcohlpjlifolaaDoorShaTurn
namespace Go.Proofs.YtjcohlpjlifolaaDoor.ShaT
open Go.RowKit Kit ShaMath
set_option linter.unusedVariables false
set_option maxRecDepth 100000

theorem c8_row (s : W8) : c8 s = row .u32 8 s.get := rfl
/-- A byte of what is told. -/
def tb (s : W8) (i : Nat) : Nat := s.get (i / 4) / 2 ^ (24 - 8 * (i % 4)) % 256

theorem info_32 : (Tryd.prog.info? 25).map (fun i => (i.zero, i.size)) = some (some (.agg (row .u8 32 fun _ => 0)), 32) := by kernel_rfl
theorem info_8 : (Tryd.prog.info? 59).map (fun i => (i.zero, i.size)) = some (some (.agg (row .u32 8 fun _ => 0)), 8) := by kernel_rfl
theorem size_u32 (w : World) : (sizeOf 58).run Tryd.prog w = .ok 1 w := by kernel_rfl
theorem agg_u32 (w : World) : (isAgg 58).run Tryd.prog w = .ok false w := by kernel_rfl

/-- After so many words. -/
def ToldRel (s : W8) (w : World) (k : Nat) (wr : World) : Prop :=
  Arr wr (w.heap.size + 1) .u8 32 25 (fun _ => 0) ∧ ∃ f, Arr wr (w.heap.size + 1 + 1) .u8 32 25 f ∧ ∀ j, j < 4 * k → f j = tb s j

theorem tb_at (s : W8) (k i : Nat) (h : i < 4) : tb s (4 * k + i) = s.get k / 2 ^ (24 - 8 * i) % 256 := by
  unfold tb
  rw [show (4 * k + i) / 4 = k by omega, show (4 * k + i) % 4 = i by omega]
theorem told_step {s : W8} {w wr : World} {k : Nat} {f : Nat → Nat} (hR0 : Arr wr (w.heap.size + 1) .u8 32 25 (fun _ => 0)) (hR : Arr wr (w.heap.size + 1 + 1) .u8 32 25 f) (hf : ∀ j, j < 4 * k → f j = tb s j) :
    ToldRel s w (k + 1) ((((wr.setCell ⟨w.heap.size + 1 + 1, 4 * k, none⟩ (.int .u8 ((s.get k : Int) / 16777216 % 256))).setCell ⟨w.heap.size + 1 + 1, 4 * k + 1, none⟩ (.int .u8 ((s.get k : Int) / 65536 % 256))).setCell ⟨w.heap.size + 1 + 1, 4 * k + 2, none⟩ (.int .u8 ((s.get k : Int) / 256 % 256))).setCell ⟨w.heap.size + 1 + 1, 4 * k + 3, none⟩ (.int .u8 ((s.get k : Int) % 256))) := by
  have e0 : (s.get k : Int) / 16777216 % 256 = ((s.get k / 16777216 % 256 : Nat) : Int) := by simp
  have e1 : (s.get k : Int) / 65536 % 256 = ((s.get k / 65536 % 256 : Nat) : Int) := by simp
  have e2 : (s.get k : Int) / 256 % 256 = ((s.get k / 256 % 256 : Nat) : Int) := by simp
  have e3 : (s.get k : Int) % 256 = ((s.get k % 256 : Nat) : Int) := by simp
  rw [e0, e1, e2, e3]
  refine ⟨(((hR0.other _ _ (by simp)).other _ _ (by simp)).other _ _ (by simp)).other _ _ (by simp), _, (((hR.set _ _).set _ _).set _ _).set _ _, fun j hj => ?_⟩
  by_cases h3 : j = 4 * k + 3
  · subst h3; rw [upd_same, tb_at s k 3 (by decide)]; simp
  rw [upd_other _ _ _ _ h3]
  by_cases h2 : j = 4 * k + 2
  · subst h2; rw [upd_same, tb_at s k 2 (by decide)]
  rw [upd_other _ _ _ _ h2]
  by_cases h1 : j = 4 * k + 1
  · subst h1; rw [upd_same, tb_at s k 1 (by decide)]
  rw [upd_other _ _ _ _ h1]
  by_cases h0 : j = 4 * k
  · subst h0; rw [upd_same]; have := tb_at s k 0 (by decide); rw [Nat.add_zero] at this; rw [this]
  rw [upd_other _ _ _ _ h0]
  exact hf j (by omega)

set_option maxHeartbeats 1000000 in
theorem told_any (s : W8) (w : World) (hs : s.Ok) :
    Calls Tryd.prog 39 #[.agg (row .u32 8 s.get)] w fun e w' => e = .returned (.agg (row .u8 32 (tb s))) ∧ Below w.heap.size w w' := by
  obtain ⟨hz, hn⟩ := zero_of_info info_32
  have HN := Lib.hid hn
  have H8 := Lib.hid (zero_of_info info_8).2
  clear hn
  go_enter Tryd.func39, Tryd.ntmps39
  go_wp2_with (with_reducible refine wpList_load_arr rfl 59 (.tmp 1) rfl w.heap.size rfl .u32 8 59 s.get ((Arr.new.al _).al _) _ Tryd.underlying59 rfl H8 ?_)
  go_loopw [7] (fun i wr => ∃ k : Nat, k ≤ 8 ∧ i = .int .i64 k ∧ Below w.heap.size w wr ∧ ToldRel s w k wr) (fun i _ => 8 - (intOf i).toNat)
  case atStart => exact ⟨0, by decide, rfl, below3 _ _ _ _, Arr.new1.al _, _, Arr.new2, fun j hj => by omega⟩
  case round =>
    obtain ⟨k, hk, rfl, hb, hR0, f, hR, hf⟩ := hrel
    have HF := Lib.hid hf
    clear hf
    by_cases hlt : k < 8
    · have hix := run_index_row (P := Tryd.prog) 59 58 8 .u32 s.get k Tryd.underlying59 size_u32 agg_u32 hlt
      have c0 := hR.at_ (4 * k) (by omega)
      have c1 := hR.at_ (4 * k + 1) (by omega)
      have c2 := hR.at_ (4 * k + 2) (by omega)
      have c3 := hR.at_ (4 * k + 3) (by omega)
      have z0 := hR.frz (4 * k)
      have z1 := hR.frz (4 * k + 1)
      have z2 := hR.frz (4 * k + 2)
      have z3 := hR.frz (4 * k + 3)
      go_wp2
      go_roundw
      case rel => exact ⟨k + 1, by omega, by go_num, (((hb.setCell (by simp; omega) _).setCell (by simp; omega) _).setCell (by simp; omega) _).setCell (by simp; omega) _, told_step hR0 hR HF.out⟩
      case measure => simp [intOf]; omega
    · have hR2 : Arr wr (w.heap.size + 1 + 1) .u8 32 25 (tb s) := hR.congr fun j hj => HF.out j (by omega)
      clear HF hR
      go_wp2_with (first | (with_reducible refine wpList_load_arr rfl 25 (.tmp 3) rfl (w.heap.size + 1 + 1) rfl .u8 32 25 (tb s) hR2 _ Tryd.underlying25 rfl HN ?_) | (with_reducible refine wpList_store_arr rfl 25 (.tmp 2) (.tmp 38) rfl (w.heap.size + 1) .u8 32 (tb s) rfl rfl 25 _ hR0 HN ?_))
      exact bodyPost_ret (results_arr rfl _ _ (w.heap.size + 1) 25 .u8 32 (tb s) _ rfl (hR0.setRow _) Tryd.underlying25 rfl HN) rfl ⟨rfl, below_setRow hb (by omega) _⟩

end Go.Proofs.YtjcohlpjlifolaaDoor.ShaT
