/-
  TableGroups: categories have commands that are theirs alone, but for reading and writing.
-/
import Derived.Test.YthmkcdlchkdehaaTableLaw
import Derived.Test.YthmkcdlchkdehaaTableBits
import Derived.Laws.Concat
import Derived.Lib.QuietBelow
import Derived.BigQuiet
import Derived.Deep.QuietTactic
namespace Go.Proofs.Ythmkcdlchkdehaa.tableGroups
open Go.RowKit Kit TableMath Low StrT TableM TableL
open Go.Sort (grow)
set_option linter.unusedVariables false
set_option maxRecDepth 100000
-- ASKS: 

/-- The name of a category, as it lies in the row that was told. -/
theorem cat_cell {w : World} {b o : Nat} (h : Ss w (some ⟨b, o, none⟩) cats) (k : Nat) (hk : k < 12) : ∃ S : ByteArray, S.data.toList = catAt k ∧ S.size ≤ 100 ∧ b < w.heap.size ∧ w.cell? ⟨b, o + k, none⟩ = some (.string S) := by
  obtain ⟨b', o', e1, hbl, hc⟩ := h (by decide)
  injection e1 with e1
  injection e1 with e2 e3 e4
  subst e2 e3
  refine ⟨⟨(cats[k]'(by rw [cats_len]; exact hk)).toArray⟩, by rw [catAt_get k hk], ?_, hbl, hc k (by rw [cats_len]; exact hk)⟩
  have := catAt_len k hk
  rw [catAt_get k hk] at this
  simpa [ByteArray.size] using this

set_option maxHeartbeats 4000000 in
theorem walk0 (n m : Nat) (w : World) (hn : n ≤ 255) (hm : m ≤ 255) :
    Calls Try.prog 7 #[.int .u8 (n : Int), .int .u8 (m : Int)] w fun e w' => e = .returned (.bool true) ∧ Below w.heap.size w w' := by
  have C0 := Lib.hid (shown_any w)
  have CS := Lib.hid (fun W => cats_any W)
  obtain ⟨i, hi⟩ : ∃ i : Nat, (2 : Int) + (n : Int) % 10 = (i : Int) := ⟨2 + n % 10, by omega⟩
  obtain ⟨j, hj⟩ : ∃ j : Nat, (2 : Int) + (m : Int) % 10 = (j : Int) := ⟨2 + m % 10, by omega⟩
  have hi2 : 2 ≤ i := by omega
  have hi12 : i < 12 := by omega
  have hj2 : 2 ≤ j := by omega
  have hj12 : j < 12 := by omega
  go_enter Try.func7, Try.ntmps7
  go_wp2_with fail
  refine C0.out.mono ?_
  rintro e w1 ⟨rfl, hb1⟩
  have HB1 := Lib.hid hb1
  clear hb1 C0
  go_wp2_with fail
  refine (CS.out _).mono ?_
  rintro e w2 ⟨b, o, c, rfl, hs2, hb2⟩
  have HB2 := Lib.hid (HB1.out.trans (hb2.mono HB1.out.size))
  have HS2 := Lib.hid hs2
  clear hb2 CS HB1 hs2
  go_upto_region 7 with fail
  have HIm := Lib.hid hi
  have HJm := Lib.hid hj
  clear hi hj
  obtain ⟨S, hSd, hSz, hbl, hu⟩ := cat_cell HS2.out i hi12
  have CX := Lib.hid (cat_any S w2 (by omega))
  rw [hSd, (cat_at i hi12).1, (cat_at i hi12).2] at CX
  have HSd := Lib.hid hSd
  have i0 : (0 : Int) ≤ (i : Int) := by omega
  have i1 : (i : Int) < 12 := by omega
  have j0 : (0 : Int) ≤ (j : Int) := by omega
  have j1 : (j : Int) < 12 := by omega
  clear hSd
  go_wp2_with fail
  refine CX.out.mono ?_
  rintro e w3 ⟨rfl, hb3⟩
  have HB3 := Lib.hid (HB2.out.trans (hb3.mono HB2.out.size))
  have HS3 := Lib.hid (HS2.out.keep hb3)
  clear hb3 CX HB2 HS2 hu hbl
  obtain ⟨T, hTd, hTz, hbl, hu⟩ := cat_cell HS3.out j hj12
  have CY := Lib.hid (cat_any T w3 (by omega))
  rw [hTd, (cat_at j hj12).1, (cat_at j hj12).2] at CY
  have HTd := Lib.hid hTd
  clear hTd
  go_wp2_with fail
  refine CY.out.mono ?_
  rintro e w4 ⟨rfl, hb4⟩
  have HB4 := Lib.hid (HB3.out.trans (hb4.mono HB3.out.size))
  have HS4 := Lib.hid (HS3.out.keep hb4)
  have hxy := fun h => apart i j hi12 hj12 hi2 hj2 h
  have hlx := mk_lt i
  have hly := mk_lt j
  obtain ⟨X, hX⟩ : ∃ X, X = mk i := ⟨_, rfl⟩
  obtain ⟨Y, hY⟩ : ∃ Y, Y = mk j := ⟨_, rfl⟩
  rw [← hX] at hxy hlx ⊢
  rw [← hY] at hxy hly ⊢
  have HXY := Lib.hid (fun h => show bits .and .u64 (X : Int) (Y : Int) = 0 by rw [and2 X Y hlx hly, hxy h]; rfl)
  clear hb4 CY HB3 HS3 hu hbl hX hY hxy hlx hly hSz hTz
  go_wp2_with fail
  go_loopw [13, 14] (fun mm ii wr => ∃ k : Nat, 2 ≤ k ∧ k ≤ 12 ∧ ii = .int .i64 k ∧ mm = .int .u64 (orK k : Int) ∧ Hid (Below w.heap.size w wr) ∧ Hid (Below w4.heap.size w4 wr)) (fun _ ii _ => 12 - (intOf ii).toNat)
  case atStart => exact ⟨2, by decide, by decide, rfl, rfl, HB4, Lib.hid (Below.refl _ _)⟩
  case round =>
    obtain ⟨k, hk2, hk, rfl, rfl, HB, HBr⟩ := hrel
    by_cases hlt : k < 12
    · have d1 : decide ((k : Int) < 12) = true := decide_eq_true (by omega)
      obtain ⟨Z, hZd, hZz, hbl, hu⟩ := cat_cell (HS4.out.keep HBr.out) k hlt
      have CC := Lib.hid (cat_any Z wr (by omega))
      rw [hZd, (cat_at k hlt).1, (cat_at k hlt).2] at CC
      have hmk := mk_lt k
      have hsome := mk_some k hlt
      have hol := orK_lt k
      have hnx := or_step k hk2
      obtain ⟨M, hM⟩ : ∃ M, M = mk k := ⟨_, rfl⟩
      rw [← hM] at CC hmk hsome hnx
      obtain ⟨O, hO⟩ : ∃ O, O = orK k := ⟨_, rfl⟩
      rw [← hO] at hol hnx ⊢
      have ho := (or2 O M hol hmk).1
      obtain ⟨O', hO'⟩ : ∃ O', O' = O ||| M := ⟨_, rfl⟩
      rw [← hO'] at ho hnx
      have HNx := Lib.hid hnx
      have zM : ((M : Int) == 0) = false := by rw [beq_eq_false_iff_ne]; omega
      clear hZd hM hO hO' hnx
      go_wp2_with fail
      refine CC.out.mono ?_
      rintro e w5 ⟨rfl, hb5⟩
      have HB5 := Lib.hid (HB.out.trans (hb5.mono HB.out.size))
      have HBr5 := Lib.hid (HBr.out.trans (hb5.mono HBr.out.size))
      clear hb5 CC HB HBr
      go_wp2_with fail
      go_roundw
      case rel => exact ⟨k + 1, by omega, by omega, by go_num, by rw [HNx.out], HB5, HBr5⟩
      case measure => simp [intOf]; omega
    · have d1 : decide ((k : Int) < 12) = false := decide_eq_false (by omega)
      obtain rfl : k = 12 := by omega
      rw [or_all]
      obtain ⟨S5, hS5d, hS5z, hbl, hu⟩ := cat_cell (HS4.out.keep HBr.out) i hi12
      obtain ⟨T5, hT5d, hT5z, -, hv⟩ := cat_cell (HS4.out.keep HBr.out) j hj12
      obtain ⟨ST, hST⟩ : ∃ ST, ST = S5 ++ T5 := ⟨_, rfl⟩
      have ad : ∀ W, (Op.stringOp .add S5 T5).run Try.prog W = .ok (.string ST) W := fun W => by rw [hST]; exact run_string_add_sum W S5 T5 (by omega)
      have hSTd : ST.data.toList = catAt i ++ catAt j := by rw [hST, ← hS5d, ← hT5d]; simp
      have hSTz : ST.size ≤ 200 := by rw [hST, ByteArray.size_append]; omega
      have hnone := pair_none i j hi12 hj12
      obtain ⟨cv, hcv⟩ : ∃ cv : Int, cv = (catV ST.data.toList : Int) := ⟨_, rfl⟩
      have CT := Lib.hid (fun dd os => Calls.regrown_of (show Calls Try.prog 13 #[.string ST] (grow (redrawn wr dd) os) (fun e w' => e = .returned (.tuple #[.int .u64 cv, .bool false]) ∧ Below (grow (redrawn wr dd) os).heap.size (grow (redrawn wr dd) os) w') from by
        rw [hcv, ← hnone, ← hSTd]
        exact cat_any ST (grow (redrawn wr dd) os) (by omega)))
      have e1 := fun dd os => cell_regrown hu dd os
      have e2 := fun dd os => cell_regrown hv dd os
      have hb := HB.out
      have hov : ¬ (9223372036854775807 < S5.size + T5.size) := by omega
      clear hST hSTd hnone hcv hS5d hT5d hu hv
      go_wp2_with fail
      refine wp_region_quiet_below (by kernel_rfl) (by kernel_rfl) ?_
      repeat (any_goals (go_big_quiet_step ((go_at_call 13; with_reducible exact CT.out _ _))))
      refine wpQuiet_nil ?_
      intro _ hw'
      obtain ⟨⟨dq, osq⟩, hw''⟩ := hw'
      subst hw''
      replace hb := hb.trans ((below_regrown _ dq osq).mono hb.size)
      clear e1 e2 CT ad
      by_cases hij : i = j
      · have tij : ((i : Int) == (j : Int)) = true := by rw [hij]; exact beq_self_eq_true _
        clear hij
        go_wp2_with fail
        go_ret
        exact ⟨rfl, hb⟩
      · have tij : ((i : Int) == (j : Int)) = false := by rw [beq_eq_false_iff_ne]; omega
        have zz := HXY.out hij
        clear hij
        go_wp2_with fail
        go_ret
        exact ⟨rfl, hb⟩

theorem walk (n m : Int) (w : World) (h0 : 0 ≤ n) (h1 : n ≤ 255) (h2 : 0 ≤ m) (h3 : m ≤ 255) :
    Calls Try.prog 7 #[.int .u8 n, .int .u8 m] w fun e w' => e = .returned (.bool true) ∧ Below w.heap.size w w' := by
  obtain ⟨k, rfl⟩ := Int.eq_ofNat_of_zero_le h0
  obtain ⟨j, rfl⟩ := Int.eq_ofNat_of_zero_le h2
  exact walk0 k j w (by omega) (by omega)

end Go.Proofs.Ythmkcdlchkdehaa.tableGroups
