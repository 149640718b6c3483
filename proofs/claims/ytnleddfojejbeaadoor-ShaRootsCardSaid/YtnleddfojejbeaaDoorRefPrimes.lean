/-
  The document's own primes.
-/
import Derived.Test.YtnleddfojejbeaaDoorRefTurn
import Derived.Test.YtnleddfojejbeaaDoorRootTab
namespace Go.Proofs.YtnleddfojejbeaaDoor.RootT
open Go.RowKit Kit ShaMath RefT RootM
set_option linter.unusedVariables false

theorem build_p (w : World) : (Instr.build 46 #[]).run Tryd.prog w = .ok (.agg (row .u64 64 fun _ => 0)) w := run_build w 46 _ _ (by kernel_rfl)
/-- What lies in memory: the answer's place, and what is being told. -/
structure PRel (w : World) (f : Nat → Nat) (wr : World) : Prop where
  below : Below w.heap.size w wr
  z : Arr wr w.heap.size .u64 64 46 (fun _ => 0)
  o : Arr wr (w.heap.size + 1) .u64 64 46 f
theorem PRel.put {w : World} {f : Nat → Nat} {wr : World} (h : PRel w f wr) (k v : Nat) (x : Int) (hx : x = (v : Int)) : PRel w (upd f k v) (wr.setCell ⟨w.heap.size + 1, k, none⟩ (.int .u64 x)) := by
  subst hx
  exact ⟨h.below.setCell (by simp) _, h.z.other _ _ (by simp), h.o.set _ _⟩
theorem mod_ne (p d : Nat) : ((p : Int) % (d : Int) != 0) = (p % d != 0) := by
  rw [← Int.natCast_emod, Bool.eq_iff_iff]
  simp only [bne_iff_ne, ne_eq]
  omega
theorem pr_next (p d : Nat) (b : Bool) (h : 2 ≤ d) (hb : isPr p d = b) : isPr p (d + 1) = (b && p % d != 0) := by
  subst hb
  exact isPr_next p d h

set_option maxHeartbeats 2000000 in
theorem primes_any (w : World) :
    Calls Tryd.prog 24 #[] w fun e w' => e = .returned (.agg (row .u64 64 primeAt)) ∧ Below w.heap.size w w' := by
  obtain ⟨hz, hn⟩ := zero_of_info info_r64
  have HN := Lib.hid hn
  clear hn
  have hbp := build_p
  go_enter Tryd.func24, Tryd.ntmps24
  go_wp2_with (with_reducible refine wpList_store_arr rfl 46 (.tmp 1) (.tmp 6) rfl (w.heap.size + 1) .u64 64 (fun _ => 0) rfl rfl 46 _ Arr.new1 HN ?_)
  have hS : PRel w (fun _ => 0) (((w.alloc (.cells (row .u64 64 fun _ => 0) 46)).alloc (.cells (row .u64 64 fun _ => 0) 46)).setRow (w.heap.size + 1) (row .u64 64 fun _ => 0)) :=
    ⟨below_setRow (below2 _ _ _) (by omega) _, (Arr.new.al _).setRow_ne _ (by omega), Arr.new1.setRow _⟩
  generalize World.setRow _ _ _ = w3 at hS ⊢
  go_loopw [2, 3] (fun nv pv wr => ∃ (p c : Nat) (f : Nat → Nat), c = cnt p ∧ 2 ≤ p ∧ p ≤ 312 ∧ nv = .int .i64 c ∧ pv = .int .u64 p ∧ PRel w f wr ∧ ∀ j, j < c → f j = primeAt j) (fun _ pv _ => 312 - (intOf pv).toNat)
  case atStart => exact ⟨2, 0, fun _ => 0, cnt_two.symm, by decide, by decide, rfl, rfl, hS, fun j hj => by omega⟩
  case round =>
    obtain ⟨p, c, f, hc, hp2, hp, rfl, rfl, hR, hf⟩ := hrel
    have HF := Lib.hid hf
    have HC := Lib.hid hc
    clear hf hc hS
    by_cases hlt : c < 64
    · have hp3 : p < 312 := by
        rcases Nat.lt_or_ge p 312 with h | h
        · exact h
        · have h1 := HC.out
          rw [show p = 312 by omega, cnt_end] at h1
          omega
      go_wp2_with fail
      go_loopw [4, 5] (fun bv dv wr => ∃ (d : Nat) (b : Bool), 2 ≤ d ∧ d ≤ p ∧ bv = .bool b ∧ dv = .int .u64 d ∧ isPr p d = b ∧ PRel w f wr) (fun _ dv _ => p - (intOf dv).toNat)
      case atStart => exact ⟨2, true, by decide, by omega, rfl, rfl, isPr_two p, hR⟩
      case round =>
        obtain ⟨d, b, hd2, hdp, rfl, rfl, hb, hR⟩ := hrel
        have HB := Lib.hid hb
        clear hb
        by_cases hlp : d < p
        · have HNX := Lib.hid (pr_next p d b hd2 HB.out)
          cases b with
          | true =>
            go_wp2_with fail
            go_roundw
            case rel => exact ⟨d + 1, (p % d != 0), by omega, by omega, by rw [mod_ne], by go_num, HNX.out, hR⟩
            case measure => simp [intOf]; omega
          | false =>
            go_wp2_with fail
            go_roundw
            case rel => exact ⟨d + 1, false, by omega, by omega, rfl, by go_num, HNX.out, hR⟩
            case measure => simp [intOf]; omega
        · obtain rfl : d = p := by omega
          cases b with
          | true =>
            have HP := Lib.hid (cnt_prime d hp2 hp3 HB.out)
            have c0 := hR.o.at_ c hlt
            have z0 := hR.o.frz c
            go_wp2_with fail
            go_roundw
            case rel => exact ⟨d + 1, c + 1, upd f c d, by rw [HC.out]; exact HP.out.2.symm, by omega, by omega, by go_num, by go_num, hR.put c d _ rfl, fun j hj => by
              by_cases h : j = c
              · rw [h, upd_same, HC.out]; exact HP.out.1.symm
              · rw [upd_other _ _ _ _ h]; exact HF.out j (by omega)⟩
            case measure => simp [intOf]; omega
          | false =>
            have HP := Lib.hid (cnt_not d hp2 hp3 HB.out)
            go_wp2_with fail
            go_roundw
            case rel => exact ⟨d + 1, c, f, by rw [HC.out]; exact HP.out.symm, by omega, by omega, rfl, by go_num, hR, HF.out⟩
            case measure => simp [intOf]; omega
    · have hR2 : PRel w primeAt wr := ⟨hR.below, hR.z, hR.o.congr fun j hj => HF.out j (by omega)⟩
      clear hR HF
      go_wp2_with (first | (with_reducible refine wpList_load_arr rfl 46 (.tmp 1) rfl (w.heap.size + 1) rfl .u64 64 46 primeAt hR2.o _ Tryd.underlying46 rfl HN ?_) | (with_reducible refine wpList_store_arr rfl 46 (.tmp 0) (.tmp 29) rfl w.heap.size .u64 64 primeAt rfl rfl 46 _ hR2.z HN ?_))
      exact bodyPost_ret (results_arr rfl _ _ w.heap.size 46 .u64 64 primeAt _ rfl (hR2.z.setRow _) Tryd.underlying46 rfl HN) rfl ⟨rfl, below_setRow hR2.below (by omega) _⟩

end Go.Proofs.YtnleddfojejbeaaDoor.RootT
