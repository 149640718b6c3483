/-
  The document's own times: a product by digits.
-/
import Derived.Test.YtnleddfojejbeaaDoorRefDigits
import Derived.Test.YtnleddfojejbeaaDoorRootRel
import Derived.BigQuiet
namespace Go.Proofs.YtnleddfojejbeaaDoor.RootT
open Go.RowKit Kit ShaMath RefT RootM
set_option linter.unusedVariables false

/-- What lies in memory: the two numbers, the answer's place, and what is being told. -/
structure Four (w : World) (a b f : Nat → Nat) (wr : World) : Prop where
  below : Below w.heap.size w wr
  a1 : Arr wr w.heap.size .u64 16 58 a
  b1 : Arr wr (w.heap.size + 1) .u64 16 58 b
  z : Arr wr (w.heap.size + 1 + 1) .u64 16 58 (fun _ => 0)
  o : Arr wr (w.heap.size + 1 + 1 + 1) .u64 16 58 f
theorem Four.drewN {w : World} {a b f : Nat → Nat} {wr : World} (h : Four w a b f wr) (q : Nat) : Four w a b f (wr.drewN q) := ⟨h.below.trans ⟨rfl, rfl, rfl, Nat.le_refl _, fun _ _ => rfl⟩, h.a1.drewN q, h.b1.drewN q, h.z.drewN q, h.o.drewN q⟩
theorem Four.put {w : World} {a b f : Nat → Nat} {wr : World} (h : Four w a b f wr) (k v : Nat) (x : Int) (hx : x = (v : Int)) : Four w a b (upd f k v) (wr.setCell ⟨w.heap.size + 1 + 1 + 1, k, none⟩ (.int .u64 x)) := by
  subst hx
  exact ⟨h.below.setCell (by simp <;> omega) _, h.a1.other _ _ (by simp <;> omega), h.b1.other _ _ (by simp <;> omega), h.z.other _ _ (by simp), h.o.set _ _⟩
set_option maxHeartbeats 2000000 in
theorem times_any (a b : Nat → Nat) (ha : Digs a) (hb : Digs b) (w : World) :
    Calls Tryd.prog 36 #[.agg (row .u64 16 a), .agg (row .u64 16 b)] w fun e w' => ∃ c, e = .returned (.agg (row .u64 16 c)) ∧ IsProd a b c ∧ Below w.heap.size w w' := by
  obtain ⟨hz, hn⟩ := zero_of_info info_16
  have HN := Lib.hid hn
  have HA := Lib.hid ha
  have HB := Lib.hid hb
  clear hn ha hb
  have hb16 := build_16
  go_enter Tryd.func36, Tryd.ntmps36
  go_wp2_with (with_reducible refine wpList_store_arr rfl 58 (.tmp 5) (.tmp 10) rfl (w.heap.size + 1 + 1 + 1) .u64 16 (fun _ => 0) rfl rfl 58 _ Arr.new3 HN ?_)
  have hS : Four w a b (fun _ => 0) (((((w.alloc (.cells (row .u64 16 a) 58)).alloc (.cells (row .u64 16 b) 58)).alloc (.cells (row .u64 16 fun _ => 0) 58)).alloc (.cells (row .u64 16 fun _ => 0) 58)).setRow (w.heap.size + 1 + 1 + 1) (row .u64 16 fun _ => 0)) :=
    ⟨below_setRow (below4 _ _ _ _ _) (by omega) _, (((Arr.new.al _).al _).al _).setRow_ne _ (by omega), ((Arr.new1.al _).al _).setRow_ne _ (by omega), (Arr.new2.al _).setRow_ne _ (by omega), Arr.new3.setRow _⟩
  generalize World.setRow _ _ _ = w3 at hS ⊢
  go_loopw [6] (fun i wr => ∃ (k : Nat) (o : Nat → Nat), k ≤ 16 ∧ i = .int .i64 k ∧ Four w a b o wr ∧ Digs o ∧ Outer a b o k) (fun i _ => 16 - (intOf i).toNat)
  case atStart => exact ⟨0, fun _ => 0, by decide, rfl, hS, digs_zero, outer_start a b⟩
  case round =>
    obtain ⟨i, o, hi, rfl, hR, hD, hV⟩ := hrel
    have HV := Lib.hid hV
    have HD := Lib.hid hD
    clear hV hD hS
    by_cases hlt : i < 16
    · have HAi := HA.out i hlt
      go_wp2_with fail
      go_loopw [7, 8] (fun c j wr => ∃ (k cy : Nat) (o1 : Nat → Nat), i + k ≤ 16 ∧ c = .int .u64 cy ∧ j = .int .i64 k ∧ cy < 65536 ∧ Four w a b o1 wr ∧ Digs o1 ∧ Inner a b o o1 i k cy) (fun _ j _ => 16 - i - (intOf j).toNat)
      case atStart => exact ⟨0, 0, o, by omega, rfl, rfl, by decide, hR, HD.out, inner_start a b o i⟩
      case round =>
        obtain ⟨k, cy, o1, hk, rfl, rfl, hcy, hR, hD1, hV1⟩ := hrel
        have HV1 := Lib.hid hV1
        have HD1 := Lib.hid hD1
        clear hV1 hD1
        by_cases hlk : i + k < 16
        · have hd : decide ((i : Int) + (k : Int) < 16) = true := decide_eq_true (by omega)
          have c0 := hR.o.at_ (i + k) hlk
          have c1 := hR.a1.at_ i hlt
          have c2 := hR.b1.at_ k (by omega)
          have z0 := hR.o.frz (i + k)
          have hcl := carry_le (o1 (i + k)) (a i) (b k) cy (HD1.out _ hlk) HAi (HB.out k (by omega)) hcy
          go_wp2_with fail
          go_quiet (fail)
          obtain ⟨n, hn⟩ : ∃ n, n = o1 (i + k) + a i * b k + cy := ⟨_, rfl⟩
          have hni : ((o1 (i + k) : Int) + (a i : Int) * (b k : Int) + (cy : Int)) = (n : Int) := by rw [hn]; simp
          rw [hni]
          rw [← hn] at hcl
          have HN2 := Lib.hid hn
          clear hn hni c0 c1 c2 z0
          have hRd := hR.drewN nq
          clear hR
          generalize wr.drewN nq = wr at hRd ⊢
          have c0 := hRd.o.at_ (i + k) hlk
          have z0 := hRd.o.frz (i + k)
          go_wp2_with fail
          go_roundw
          case rel => exact ⟨k + 1, n / 65536, upd o1 (i + k) (n % 65536), by omega, by go_num, by go_num, by omega, hRd.put (i + k) (n % 65536) _ (by omega), HD1.out.upd _ _ (by omega), HV1.out.next hlk n HN2.out⟩
          case measure => simp [intOf]; omega
        · have hd : decide ((i : Int) + (k : Int) < 16) = false := decide_eq_false (by omega)
          have HO := Lib.hid (HV.out.next hlt (by omega) HV1.out)
          clear HV HD HV1
          go_wp2_with fail
          go_roundw
          case rel => exact ⟨i + 1, o1, by omega, by go_num, hR, HD1.out, HO.out⟩
          case measure => simp [intOf]; omega
    · obtain rfl : i = 16 := by omega
      have HP := Lib.hid (HV.out.done HD.out)
      go_wp2_with (first | (with_reducible refine wpList_load_arr rfl 58 (.tmp 5) rfl (w.heap.size + 1 + 1 + 1) rfl .u64 16 58 o hR.o _ Tryd.underlying58 rfl HN ?_) | (with_reducible refine wpList_store_arr rfl 58 (.tmp 4) (.tmp 44) rfl (w.heap.size + 1 + 1) .u64 16 o rfl rfl 58 _ hR.z HN ?_))
      exact bodyPost_ret (results_arr rfl _ _ (w.heap.size + 1 + 1) 58 .u64 16 o _ rfl (hR.z.setRow _) Tryd.underlying58 rfl HN) rfl ⟨o, rfl, HP.out, below_setRow hR.below (by omega) _⟩

end Go.Proofs.YtnleddfojejbeaaDoor.RootT
