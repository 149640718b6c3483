/-
  The document's own fits: whether a power is not above a prime.
-/
import Derived.Test.YtnleddfojejbeaaDoorRefTimes
namespace Go.Proofs.YtnleddfojejbeaaDoor.RootT
open Go.RowKit Kit ShaMath RefT RootM
set_option linter.unusedVariables false

theorem pow_small (x j : Nat) (hx : x < 137438953472) (hj : j + 1 ≤ 3) : x ^ j * x < 65536 ^ 16 := by
  have h1 : x ^ (j + 1) ≤ 137438953472 ^ (j + 1) := Nat.pow_le_pow_left (by omega) _
  have h2 : 137438953472 ^ (j + 1) ≤ 137438953472 ^ 3 := Nat.pow_le_pow_right (by decide) hj
  have h3 : 137438953472 ^ 3 < 65536 ^ 16 := by decide +kernel
  rw [← Nat.pow_succ]
  exact Nat.lt_of_le_of_lt (Nat.le_trans h1 h2) h3
theorem arr_at {w : World} {b n : Nat} {k : IntKind} {t : TypeId} {f : Nat → Nat} (hb : w.heap.size = b) : Arr (w.alloc (.cells (row k n f) t)) b k n t f := by subst hb; exact Arr.new
/-- What lies in memory: a number, a power of it. -/
structure Pow (w : World) (g : Nat) (a f : Nat → Nat) (wr : World) : Prop where
  below : Below w.heap.size w wr
  gt : w.heap.size ≤ g
  a1 : Arr wr g .u64 16 58 a
  p1 : Arr wr (g + 1) .u64 16 58 f
theorem Pow.keep {w : World} {g : Nat} {a f : Nat → Nat} {wr w' : World} (h : Pow w g a f wr) (hb : Below wr.heap.size wr w') : Pow w g a f w' := ⟨h.below.trans (hb.mono h.below.size), h.gt, h.a1.keep hb h.a1.lt, h.p1.keep hb h.p1.lt⟩
theorem Pow.put {w : World} {g : Nat} {a f : Nat → Nat} {wr : World} (h : Pow w g a f wr) (f' : Nat → Nat) : Pow w g a f' (wr.setRow (g + 1) (row .u64 16 f')) := by
  have := h.gt
  exact ⟨below_setRow h.below (by omega) _, h.gt, h.a1.setRow_ne _ (by omega), h.p1.setRow _⟩
/-- What lies in memory when digits are compared. -/
structure Cmp (w : World) (g gw : Nat) (f t : Nat → Nat) (wr : World) : Prop where
  below : Below w.heap.size w wr
  p1 : Arr wr g .u64 16 58 f
  w1 : Arr wr gw .u64 16 58 t
theorem cmp_start {w : World} {g : Nat} {a f : Nat → Nat} {wr : World} (h : Pow w g a f wr) (i p : Nat) : Cmp w (g + 1) wr.heap.size f (upd (fun _ => 0) i p) (((wr.alloc (.cells (row .u64 16 fun _ => 0) 58)).setRow wr.heap.size (row .u64 16 fun _ => 0)).setCell ⟨wr.heap.size, i, none⟩ (.int .u64 (p : Int))) := by
  have h1 := h.below.size
  have h2 := h.p1.lt
  exact ⟨(below_setRow (h.below.alloc h1 _) h1 _).setCell (by show w.heap.size ≤ wr.heap.size; omega) _, ((h.p1.al _).setRow_ne _ (by omega)).other _ _ (by show g + 1 ≠ wr.heap.size; omega), (Arr.new.setRow _).set _ _⟩
theorem Cmp.drewN {w : World} {g gw : Nat} {f t : Nat → Nat} {wr : World} (h : Cmp w g gw f t wr) (q : Nat) : Cmp w g gw f t (wr.drewN q) := ⟨h.below.trans ⟨rfl, rfl, rfl, Nat.le_refl _, fun _ _ => rfl⟩, h.p1.drewN q, h.w1.drewN q⟩

set_option maxHeartbeats 2000000 in
theorem fits_any (x p k : Nat) (hk : 2 ≤ k) (hk3 : k ≤ 3) (hx : x < 137438953472) (hp : p < 65536) (w : World) :
    Calls Tryd.prog 34 #[.int .u64 x, .int .u64 p, .int .i64 k] w fun e w' => e = .returned (.bool (decide (x ^ k ≤ p * 65536 ^ (2 * k)))) ∧ Below w.heap.size w w' := by
  obtain ⟨hz, hn⟩ := zero_of_info info_16
  have HN := Lib.hid hn
  clear hn
  have hb16 := build_16
  have HT := tells_dig x (by omega)
  go_enter Tryd.func34, Tryd.ntmps34
  go_wp2_with fail
  refine (digits_any x _ (by omega)).mono ?_
  rintro e w1 ⟨rfl, hb1⟩
  obtain ⟨a, ha⟩ : ∃ a, a = dig x 4 := ⟨_, rfl⟩
  rw [← ha] at HT ⊢
  clear ha
  go_wp2_with (first | (with_reducible refine wpList_store_arr rfl 58 (.tmp 7) (.tmp 13) rfl w1.heap.size .u64 16 a rfl rfl 58 _ Arr.new HN ?_) | (with_reducible refine wpList_load_arr rfl 58 (.tmp 7) rfl w1.heap.size rfl .u64 16 58 a (Arr.new.setRow _) _ Tryd.underlying58 rfl HN ?_) | (with_reducible refine wpList_store_arr rfl 58 (.tmp 8) (.tmp 14) rfl (w1.heap.size + 1) .u64 16 a rfl rfl 58 _ (arr_at (by simp)) HN ?_))
  have hS : Pow w w1.heap.size a a ((((w1.alloc (.cells (row .u64 16 fun _ => 0) 58)).setRow w1.heap.size (row .u64 16 a)).alloc (.cells (row .u64 16 fun _ => 0) 58)).setRow (w1.heap.size + 1) (row .u64 16 a)) := by
    have h1 := hb1.size
    exact ⟨below_setRow ((below_setRow (hb1.alloc h1 _) h1 _).alloc (by simp; omega) _) (by omega) _, h1, ((Arr.new.setRow _).al _).setRow_ne _ (by omega), (arr_at (by simp)).setRow _⟩
  clear hb1
  generalize World.setRow _ _ _ = w3 at hS ⊢
  generalize w1.heap.size = g at hS ⊢
  have HTA := Lib.hid HT
  go_loopw [9] (fun i wr => ∃ (j : Nat) (f : Nat → Nat), 1 ≤ j ∧ j ≤ k ∧ i = .int .i64 j ∧ Pow w g a f wr ∧ Tells f (x ^ j)) (fun i _ => k - (intOf i).toNat)
  case atStart => exact ⟨1, a, by decide, by omega, rfl, hS, by rw [Nat.pow_one]; exact HT⟩
  case round =>
    obtain ⟨j, f, hj1, hjk, rfl, hR, hF⟩ := hrel
    have HF := Lib.hid hF
    clear hF hS HT
    by_cases hlt : j < k
    · go_wp2_with (first | (with_reducible refine wpList_load_arr rfl 58 (.tmp 8) rfl (g + 1) rfl .u64 16 58 f hR.p1 _ Tryd.underlying58 rfl HN ?_) | (with_reducible refine wpList_load_arr rfl 58 (.tmp 7) rfl g rfl .u64 16 58 a hR.a1 _ Tryd.underlying58 rfl HN ?_))
      refine (times_any f a HF.out.d HTA.out.d _).mono ?_
      rintro e w4 ⟨c, rfl, hc, hb4⟩
      have hR4 := hR.keep hb4
      have HC := Lib.hid (show Tells c (x ^ (j + 1)) from hc.tells HF.out HTA.out (pow_small x j hx (by omega)))
      clear hR hb4 hc
      go_wp2_with (with_reducible refine wpList_store_arr rfl 58 (.tmp 8) (.tmp 22) rfl (g + 1) .u64 16 c rfl rfl 58 _ hR4.p1 HN ?_)
      go_roundw
      case rel => exact ⟨j + 1, c, by omega, by omega, by go_num, hR4.put c, HC.out⟩
      case measure => simp [intOf]; omega
    · obtain rfl : j = k := by omega
      have hW : Arr ((wr.alloc (.cells (row .u64 16 fun _ => 0) 58)).setRow wr.heap.size (row .u64 16 fun _ => 0)) wr.heap.size .u64 16 58 (fun _ => 0) := Arr.new.setRow _
      have c0 := hW.at_ (2 * j) (by omega)
      have z0 := hW.frz (2 * j)
      clear hW
      have hC := cmp_start hR (2 * j) p
      have HG := Lib.hid (tells_one (2 * j) p (by omega) hp)
      clear hR
      go_wp2_with (with_reducible refine wpList_store_arr rfl 58 (.tmp 10) (.tmp 23) rfl wr.heap.size .u64 16 (fun _ => 0) rfl rfl 58 _ Arr.new HN ?_)
      clear c0 z0
      obtain ⟨t, ht⟩ : ∃ t, t = upd (fun _ => 0) (2 * j) p := ⟨_, rfl⟩
      rw [← ht] at hC HG
      clear ht
      generalize World.setCell _ _ _ = w5 at hC ⊢
      generalize wr.heap.size = gw at hC ⊢
      go_loopw [11] (fun i wr => ∃ m : Nat, m ≤ 16 ∧ i = .int .i64 ((m : Int) - 1) ∧ Cmp w (g + 1) gw f t wr ∧ ∀ l, m ≤ l → l < 16 → f l = t l) (fun i _ => (intOf i + 1).toNat)
      case atStart => exact ⟨16, by decide, rfl, hC, fun l h1 h2 => by omega⟩
      case round =>
        obtain ⟨m, hm, rfl, hR, he⟩ := hrel
        have HE := Lib.hid he
        clear he hC
        cases m with
        | zero =>
          have HL := Lib.hid (tells_same HF.out HG.out (fun l hl => HE.out l (by omega) hl))
          rw [show ((0 : Nat) : Int) - 1 = -1 from rfl]
          go_wp2_with fail
          go_ret
          exact ⟨by rw [decide_eq_true (by rw [HL.out]; exact Nat.le_refl _)]; rfl, hR.below⟩
        | succ m =>
          rw [show ((m + 1 : Nat) : Int) - 1 = (m : Int) by omega]
          have c0 := hR.p1.at_ m (by omega)
          have c1 := hR.w1.at_ m (by omega)
          by_cases hme : f m = t m
          · have hd : ((f m : Int) != (t m : Int)) = false := by simp [hme]
            go_wp2_with fail
            go_quiet (fail)
            have hRd := hR.drewN nq
            clear hR c0 c1
            generalize wr.drewN nq = wr at hRd ⊢
            go_wp2_with fail
            go_roundw
            case rel => exact ⟨m, by omega, by go_num, hRd, fun l h1 h2 => by
              rcases Nat.eq_or_lt_of_le h1 with h | h
              · rw [← h]; exact hme
              · exact HE.out l (by omega) h2⟩
            case measure => simp [intOf]
          · have hd : ((f m : Int) != (t m : Int)) = true := by simp; omega
            have HDD := Lib.hid (show decide (f m < t m) = decide (x ^ j ≤ p * 65536 ^ (2 * j)) from fits_decide HF.out HG.out (show m < 16 by omega) (fun l h1 h2 => HE.out l (by omega) h2) hme)
            go_wp2_with fail
            go_quiet (fail)
            have hRd := hR.drewN nq
            clear hR c0 c1
            generalize wr.drewN nq = wr at hRd ⊢
            have c0 := hRd.p1.at_ m (by omega)
            have c1 := hRd.w1.at_ m (by omega)
            go_wp2_with fail
            go_quiet (fail)
            have hRe := hRd.drewN nq
            clear hRd c0 c1
            generalize wr.drewN nq = wr at hRe ⊢
            go_wp2_with fail
            go_ret
            exact ⟨by rw [← HDD.out]; rfl, hRe.below⟩

end Go.Proofs.YtnleddfojejbeaaDoor.RootT
