/-
  What the document's own Part of layer 1 (package tipstaffref01) comes to: place by place.
-/
import Derived.Test.YtioleajmfgglhaaDoorRef01c
namespace Go.Proofs.YtioleajmfgglhaaDoor.Ref01
set_option linter.unusedVariables false
open Go.RowKit Kit NumMath NumW NumL

/-- What the first k places come to. -/
def stP (k X hi : Int) : Int × Int := if min (k - 1) hi < X then (0, 0) else (X, min (k - 1) hi + 1)
/-- A place that is in, the first one. -/
theorem st_first {k X hi : Int} (h0 : 0 ≤ X) (hk : X ≤ k) (hh : k ≤ hi) (ht : (stP k X hi).2 = 0) (h0k : 0 ≤ k) : stP (k + 1) X hi = (k, k + 1) ∧ (stP k X hi).1 = 0 := by
  unfold stP at *
  split at ht
  · rename_i h
    rw [if_pos h, if_neg (by omega)]
    constructor
    · congr 1 <;> omega
    · rfl
  · simp at ht
    omega
/-- A place that is in, a later one. -/
theorem st_later {k X hi : Int} (h0 : 0 ≤ X) (hk : X ≤ k) (hh : k ≤ hi) (ht : (stP k X hi).2 ≠ 0) : stP (k + 1) X hi = ((stP k X hi).1, k + 1) := by
  unfold stP at *
  split at ht
  · exact absurd rfl ht
  · rename_i h
    rw [if_neg h, if_neg (by omega)]
    congr 1
    omega
/-- A place that is not in. -/
theorem st_out {k X hi : Int} (h0 : 0 ≤ X) (h : k < X ∨ hi < k) (h0k : 0 ≤ k) : stP (k + 1) X hi = stP k X hi := by
  unfold stP
  by_cases h1 : min (k - 1) hi < X
  · rw [if_pos h1, if_pos (by omega)]
  · rw [if_neg h1, if_neg (by omega)]
    congr 1
    omega
theorem st_zero {X hi : Int} (h0 : 0 ≤ X) : stP 0 X hi = (0, 0) := by
  unfold stP
  rw [if_pos (by omega)]
theorem st_bounds (k X hi : Int) : 0 ≤ (stP k X hi).2 ∨ (stP k X hi).2 < 0 := by omega
theorem st_end (many x y : Int) (h0 : 0 ≤ many) : stP many (max 0 (placeI many x)) (placeI many y) = ((partR many x y true true).1, (partR many x y true true).2.1) := by
  unfold stP
  simp only [partR]
  by_cases hm : many ≤ 0
  · rw [if_pos hm, if_pos (by omega)]
  · rw [if_neg hm]
    unfold boundsI
    simp only

theorem i64_eq {a b : Int} (h : a = b) : Value.int .i64 a = Value.int .i64 b := by rw [h]

set_option maxHeartbeats 1600000 in
theorem part_pos_pos (M : Nat) (many x y : Int) (hM : many = M) (a b : ByteArray) (hx0 : -9223372036854775808 ≤ x) (hx1 : x ≤ 9223372036854775807) (hy0 : -9223372036854775808 ≤ y) (hy1 : y ≤ 9223372036854775807) (hm0 : 0 ≤ many) (hm1 : many ≤ 1000) (hxs : 0 ≤ x) (hys : 0 ≤ y)
    (ca : ∀ W, Calls Tryd.prog 13 #[.string a] W fun e w' => e = .returned (.tuple #[.int .i64 x, .bool true]) ∧ Below W.heap.size W w')
    (cb : ∀ W, Calls Tryd.prog 13 #[.string b] W fun e w' => e = .returned (.tuple #[.int .i64 y, .bool true]) ∧ Below W.heap.size W w') (w : World) :
    Calls Tryd.prog 23 #[.int .i64 many, .string a, .string b] w fun e w' =>
      e = .returned (.tuple #[.int .i64 (partR many x y true true).1, .int .i64 (partR many x y true true).2.1, .bool true]) ∧ Below w.heap.size w w' := by
  have CA := Lib.hid ca
  have CB := Lib.hid cb
  have HE := Lib.hid (st_end many x y hm0)
  obtain ⟨X, hX⟩ : ∃ X, X = max 0 (placeI many x) := ⟨_, rfl⟩
  obtain ⟨Y, hY⟩ : ∃ Y, Y = placeI many y := ⟨_, rfl⟩
  rw [← hX, ← hY] at HE
  have hXd0 : X = max 0 (x) := by rw [hX]; congr 1; exact if_neg (by omega)
  have hYd0 : Y = y := by rw [hY]; exact if_neg (by omega)
  have HXY := Lib.hid (show X = max 0 (x) ∧ Y = y from ⟨hXd0, hYd0⟩)
  have hX00 : 0 ≤ X := by omega
  have HM := Lib.hid hM
  have d1 : decide (0 ≤ x) = true := decide_eq_true (by omega)
  have d2 : decide (0 ≤ y) = true := decide_eq_true (by omega)
  have d3 : decide (x < 0) = false := decide_eq_false (by omega)
  have d4 : decide (y < 0) = false := decide_eq_false (by omega)
  clear ca cb hX hY hXd0 hYd0 hM
  go_enter Tryd.func23, Tryd.ntmps23
  go_wp2_with fail
  with_reducible refine (CA.out _).mono ?_
  rintro e w1 ⟨rfl, hb⟩
  go_wp2_with fail
  with_reducible refine (CB.out _).mono ?_
  rintro e w2 ⟨rfl, hbn⟩
  replace hb := hb.trans (hbn.mono hb.size)
  clear hbn
  go_wp2
  go_loop [13, 14, 15] (fun f t i => ∃ k : Nat, (k : Int) ≤ many ∧ i = .int .i64 k ∧ f = .int .i64 (stP k X Y).1 ∧ t = .int .i64 (stP k X Y).2) (fun _ _ i => M - (intOf i).toNat)
  case atStart => exact ⟨0, by omega, rfl, i64_eq (by rw [show ((0 : Nat) : Int) = 0 from rfl, st_zero hX00]), i64_eq (by rw [show ((0 : Nat) : Int) = 0 from rfl, st_zero hX00])⟩
  case round =>
    obtain ⟨k, hk, rfl, rfl, rfl⟩ := hrel
    obtain ⟨F, hF⟩ : ∃ F, F = (stP k X Y).1 := ⟨_, rfl⟩
    obtain ⟨T, hT⟩ : ∃ T, T = (stP k X Y).2 := ⟨_, rfl⟩
    rw [← hF, ← hT]
    have HF := Lib.hid hF
    have HT := Lib.hid hT
    clear hF hT
    by_cases hlt : (k : Int) < many
    · obtain ⟨hXd, hYd⟩ := HXY.out
      have hX0 := hX00
      have hXY := trivial
      have hkM : k < M := by have := HM.out; omega
      by_cases q1 : X ≤ (k : Int)
      · by_cases q2 : (k : Int) ≤ Y
        · by_cases q3 : T = 0
          · have c1 : decide (x ≤ (k : Int)) = true := decide_eq_true (by omega)
            have c2 : decide ((k : Int) ≤ y) = true := decide_eq_true (by omega)
            have c3 : (T == 0) = true := by rw [beq_iff_eq]; omega
            have HS := Lib.hid (st_first (k := (k : Int)) hX0 (hi := Y) (by omega) (by omega) (by rw [← HT.out]; omega) (by omega)).1
            clear hXd hYd hX0 hXY
            go_wp2
            go_round
            case rel => exact ⟨k + 1, by omega, by go_num, i64_eq (by rw [Int.natCast_add, Int.natCast_one, HS.out]), i64_eq (by rw [Int.natCast_add, Int.natCast_one, HS.out])⟩
            case measure => simp [intOf]; omega
          · have c1 : decide (x ≤ (k : Int)) = true := decide_eq_true (by omega)
            have c2 : decide ((k : Int) ≤ y) = true := decide_eq_true (by omega)
            have c3 : (T == 0) = false := by rw [beq_eq_false_iff_ne]; omega
            have HS := Lib.hid (st_later (k := (k : Int)) hX0 (hi := Y) (by omega) (by omega) (by rw [← HT.out]; omega))
            clear hXd hYd hX0 hXY
            go_wp2
            go_round
            case rel => exact ⟨k + 1, by omega, by go_num, i64_eq (by rw [Int.natCast_add, Int.natCast_one, HS.out, ← HF.out]), i64_eq (by rw [Int.natCast_add, Int.natCast_one, HS.out])⟩
            case measure => simp [intOf]; omega
        · have c1 : decide (x ≤ (k : Int)) = true := decide_eq_true (by omega)
          have c2 : decide ((k : Int) ≤ y) = false := decide_eq_false (by omega)
          have HS := Lib.hid (st_out (k := (k : Int)) hX0 (hi := Y) (by omega) (by omega))
          clear hXd hYd hX0 hXY
          go_wp2
          go_round
          case rel => exact ⟨k + 1, by omega, by go_num, i64_eq (by rw [Int.natCast_add, Int.natCast_one, HS.out, ← HF.out]), i64_eq (by rw [Int.natCast_add, Int.natCast_one, HS.out, ← HT.out])⟩
          case measure => simp [intOf]; omega
      · have c1 : decide (x ≤ (k : Int)) = false := decide_eq_false (by omega)
        have HS := Lib.hid (st_out (k := (k : Int)) hX0 (hi := Y) (by omega) (by omega))
        clear hXd hYd hX0 hXY
        go_wp2
        go_round
        case rel => exact ⟨k + 1, by omega, by go_num, i64_eq (by rw [Int.natCast_add, Int.natCast_one, HS.out, ← HF.out]), i64_eq (by rw [Int.natCast_add, Int.natCast_one, HS.out, ← HT.out])⟩
        case measure => simp [intOf]; omega
    · have hkm : (k : Int) = many := by omega
      have e := HE.out
      rw [← hkm] at e
      have H := Lib.hid (show F = (partR many x y true true).1 ∧ T = (partR many x y true true).2.1 from by rw [HF.out, HT.out, ← hkm, e]; exact ⟨rfl, rfl⟩)
      clear hkm e
      go_wp2
      go_ret3
      exact ⟨ret_iib H.out.1 H.out.2 rfl, hb⟩

set_option maxHeartbeats 1600000 in
theorem part_pos_neg (M : Nat) (many x y : Int) (hM : many = M) (a b : ByteArray) (hx0 : -9223372036854775808 ≤ x) (hx1 : x ≤ 9223372036854775807) (hy0 : -9223372036854775808 ≤ y) (hy1 : y ≤ 9223372036854775807) (hm0 : 0 ≤ many) (hm1 : many ≤ 1000) (hxs : 0 ≤ x) (hys : y < 0)
    (ca : ∀ W, Calls Tryd.prog 13 #[.string a] W fun e w' => e = .returned (.tuple #[.int .i64 x, .bool true]) ∧ Below W.heap.size W w')
    (cb : ∀ W, Calls Tryd.prog 13 #[.string b] W fun e w' => e = .returned (.tuple #[.int .i64 y, .bool true]) ∧ Below W.heap.size W w') (w : World) :
    Calls Tryd.prog 23 #[.int .i64 many, .string a, .string b] w fun e w' =>
      e = .returned (.tuple #[.int .i64 (partR many x y true true).1, .int .i64 (partR many x y true true).2.1, .bool true]) ∧ Below w.heap.size w w' := by
  have CA := Lib.hid ca
  have CB := Lib.hid cb
  have HE := Lib.hid (st_end many x y hm0)
  obtain ⟨X, hX⟩ : ∃ X, X = max 0 (placeI many x) := ⟨_, rfl⟩
  obtain ⟨Y, hY⟩ : ∃ Y, Y = placeI many y := ⟨_, rfl⟩
  rw [← hX, ← hY] at HE
  have hXd0 : X = max 0 (x) := by rw [hX]; congr 1; exact if_neg (by omega)
  have hYd0 : Y = many + y := by rw [hY]; exact if_pos hys
  have HXY := Lib.hid (show X = max 0 (x) ∧ Y = many + y from ⟨hXd0, hYd0⟩)
  have hX00 : 0 ≤ X := by omega
  have HM := Lib.hid hM
  have d1 : decide (0 ≤ x) = true := decide_eq_true (by omega)
  have d2 : decide (0 ≤ y) = false := decide_eq_false (by omega)
  have d3 : decide (x < 0) = false := decide_eq_false (by omega)
  have d4 : decide (y < 0) = true := decide_eq_true (by omega)
  clear ca cb hX hY hXd0 hYd0 hM
  go_enter Tryd.func23, Tryd.ntmps23
  go_wp2_with fail
  with_reducible refine (CA.out _).mono ?_
  rintro e w1 ⟨rfl, hb⟩
  go_wp2_with fail
  with_reducible refine (CB.out _).mono ?_
  rintro e w2 ⟨rfl, hbn⟩
  replace hb := hb.trans (hbn.mono hb.size)
  clear hbn
  go_wp2
  go_loop [13, 14, 15] (fun f t i => ∃ k : Nat, (k : Int) ≤ many ∧ i = .int .i64 k ∧ f = .int .i64 (stP k X Y).1 ∧ t = .int .i64 (stP k X Y).2) (fun _ _ i => M - (intOf i).toNat)
  case atStart => exact ⟨0, by omega, rfl, i64_eq (by rw [show ((0 : Nat) : Int) = 0 from rfl, st_zero hX00]), i64_eq (by rw [show ((0 : Nat) : Int) = 0 from rfl, st_zero hX00])⟩
  case round =>
    obtain ⟨k, hk, rfl, rfl, rfl⟩ := hrel
    obtain ⟨F, hF⟩ : ∃ F, F = (stP k X Y).1 := ⟨_, rfl⟩
    obtain ⟨T, hT⟩ : ∃ T, T = (stP k X Y).2 := ⟨_, rfl⟩
    rw [← hF, ← hT]
    have HF := Lib.hid hF
    have HT := Lib.hid hT
    clear hF hT
    by_cases hlt : (k : Int) < many
    · obtain ⟨hXd, hYd⟩ := HXY.out
      have hX0 := hX00
      have hXY := trivial
      have hkM : k < M := by have := HM.out; omega
      by_cases q1 : X ≤ (k : Int)
      · by_cases q2 : (k : Int) ≤ Y
        · by_cases q3 : T = 0
          · have c1 : decide (x ≤ (k : Int)) = true := decide_eq_true (by omega)
            have c2 : decide ((k : Int) - many ≤ y) = true := decide_eq_true (by omega)
            have c3 : (T == 0) = true := by rw [beq_iff_eq]; omega
            have HS := Lib.hid (st_first (k := (k : Int)) hX0 (hi := Y) (by omega) (by omega) (by rw [← HT.out]; omega) (by omega)).1
            clear hXd hYd hX0 hXY
            go_wp2
            go_round
            case rel => exact ⟨k + 1, by omega, by go_num, i64_eq (by rw [Int.natCast_add, Int.natCast_one, HS.out]), i64_eq (by rw [Int.natCast_add, Int.natCast_one, HS.out])⟩
            case measure => simp [intOf]; omega
          · have c1 : decide (x ≤ (k : Int)) = true := decide_eq_true (by omega)
            have c2 : decide ((k : Int) - many ≤ y) = true := decide_eq_true (by omega)
            have c3 : (T == 0) = false := by rw [beq_eq_false_iff_ne]; omega
            have HS := Lib.hid (st_later (k := (k : Int)) hX0 (hi := Y) (by omega) (by omega) (by rw [← HT.out]; omega))
            clear hXd hYd hX0 hXY
            go_wp2
            go_round
            case rel => exact ⟨k + 1, by omega, by go_num, i64_eq (by rw [Int.natCast_add, Int.natCast_one, HS.out, ← HF.out]), i64_eq (by rw [Int.natCast_add, Int.natCast_one, HS.out])⟩
            case measure => simp [intOf]; omega
        · have c1 : decide (x ≤ (k : Int)) = true := decide_eq_true (by omega)
          have c2 : decide ((k : Int) - many ≤ y) = false := decide_eq_false (by omega)
          have HS := Lib.hid (st_out (k := (k : Int)) hX0 (hi := Y) (by omega) (by omega))
          clear hXd hYd hX0 hXY
          go_wp2
          go_round
          case rel => exact ⟨k + 1, by omega, by go_num, i64_eq (by rw [Int.natCast_add, Int.natCast_one, HS.out, ← HF.out]), i64_eq (by rw [Int.natCast_add, Int.natCast_one, HS.out, ← HT.out])⟩
          case measure => simp [intOf]; omega
      · have c1 : decide (x ≤ (k : Int)) = false := decide_eq_false (by omega)
        have HS := Lib.hid (st_out (k := (k : Int)) hX0 (hi := Y) (by omega) (by omega))
        clear hXd hYd hX0 hXY
        go_wp2
        go_round
        case rel => exact ⟨k + 1, by omega, by go_num, i64_eq (by rw [Int.natCast_add, Int.natCast_one, HS.out, ← HF.out]), i64_eq (by rw [Int.natCast_add, Int.natCast_one, HS.out, ← HT.out])⟩
        case measure => simp [intOf]; omega
    · have hkm : (k : Int) = many := by omega
      have e := HE.out
      rw [← hkm] at e
      have H := Lib.hid (show F = (partR many x y true true).1 ∧ T = (partR many x y true true).2.1 from by rw [HF.out, HT.out, ← hkm, e]; exact ⟨rfl, rfl⟩)
      clear hkm e
      go_wp2
      go_ret3
      exact ⟨ret_iib H.out.1 H.out.2 rfl, hb⟩

set_option maxHeartbeats 1600000 in
theorem part_neg_pos (M : Nat) (many x y : Int) (hM : many = M) (a b : ByteArray) (hx0 : -9223372036854775808 ≤ x) (hx1 : x ≤ 9223372036854775807) (hy0 : -9223372036854775808 ≤ y) (hy1 : y ≤ 9223372036854775807) (hm0 : 0 ≤ many) (hm1 : many ≤ 1000) (hxs : x < 0) (hys : 0 ≤ y)
    (ca : ∀ W, Calls Tryd.prog 13 #[.string a] W fun e w' => e = .returned (.tuple #[.int .i64 x, .bool true]) ∧ Below W.heap.size W w')
    (cb : ∀ W, Calls Tryd.prog 13 #[.string b] W fun e w' => e = .returned (.tuple #[.int .i64 y, .bool true]) ∧ Below W.heap.size W w') (w : World) :
    Calls Tryd.prog 23 #[.int .i64 many, .string a, .string b] w fun e w' =>
      e = .returned (.tuple #[.int .i64 (partR many x y true true).1, .int .i64 (partR many x y true true).2.1, .bool true]) ∧ Below w.heap.size w w' := by
  have CA := Lib.hid ca
  have CB := Lib.hid cb
  have HE := Lib.hid (st_end many x y hm0)
  obtain ⟨X, hX⟩ : ∃ X, X = max 0 (placeI many x) := ⟨_, rfl⟩
  obtain ⟨Y, hY⟩ : ∃ Y, Y = placeI many y := ⟨_, rfl⟩
  rw [← hX, ← hY] at HE
  have hXd0 : X = max 0 (many + x) := by rw [hX]; congr 1; exact if_pos hxs
  have hYd0 : Y = y := by rw [hY]; exact if_neg (by omega)
  have HXY := Lib.hid (show X = max 0 (many + x) ∧ Y = y from ⟨hXd0, hYd0⟩)
  have hX00 : 0 ≤ X := by omega
  have HM := Lib.hid hM
  have d1 : decide (0 ≤ x) = false := decide_eq_false (by omega)
  have d2 : decide (0 ≤ y) = true := decide_eq_true (by omega)
  have d3 : decide (x < 0) = true := decide_eq_true (by omega)
  have d4 : decide (y < 0) = false := decide_eq_false (by omega)
  clear ca cb hX hY hXd0 hYd0 hM
  go_enter Tryd.func23, Tryd.ntmps23
  go_wp2_with fail
  with_reducible refine (CA.out _).mono ?_
  rintro e w1 ⟨rfl, hb⟩
  go_wp2_with fail
  with_reducible refine (CB.out _).mono ?_
  rintro e w2 ⟨rfl, hbn⟩
  replace hb := hb.trans (hbn.mono hb.size)
  clear hbn
  go_wp2
  go_loop [13, 14, 15] (fun f t i => ∃ k : Nat, (k : Int) ≤ many ∧ i = .int .i64 k ∧ f = .int .i64 (stP k X Y).1 ∧ t = .int .i64 (stP k X Y).2) (fun _ _ i => M - (intOf i).toNat)
  case atStart => exact ⟨0, by omega, rfl, i64_eq (by rw [show ((0 : Nat) : Int) = 0 from rfl, st_zero hX00]), i64_eq (by rw [show ((0 : Nat) : Int) = 0 from rfl, st_zero hX00])⟩
  case round =>
    obtain ⟨k, hk, rfl, rfl, rfl⟩ := hrel
    obtain ⟨F, hF⟩ : ∃ F, F = (stP k X Y).1 := ⟨_, rfl⟩
    obtain ⟨T, hT⟩ : ∃ T, T = (stP k X Y).2 := ⟨_, rfl⟩
    rw [← hF, ← hT]
    have HF := Lib.hid hF
    have HT := Lib.hid hT
    clear hF hT
    by_cases hlt : (k : Int) < many
    · obtain ⟨hXd, hYd⟩ := HXY.out
      have hX0 := hX00
      have hXY := trivial
      have hkM : k < M := by have := HM.out; omega
      by_cases q1 : X ≤ (k : Int)
      · by_cases q2 : (k : Int) ≤ Y
        · by_cases q3 : T = 0
          · have c1 : decide (x ≤ (k : Int) - many) = true := decide_eq_true (by omega)
            have c2 : decide ((k : Int) ≤ y) = true := decide_eq_true (by omega)
            have c3 : (T == 0) = true := by rw [beq_iff_eq]; omega
            have HS := Lib.hid (st_first (k := (k : Int)) hX0 (hi := Y) (by omega) (by omega) (by rw [← HT.out]; omega) (by omega)).1
            clear hXd hYd hX0 hXY
            go_wp2
            go_round
            case rel => exact ⟨k + 1, by omega, by go_num, i64_eq (by rw [Int.natCast_add, Int.natCast_one, HS.out]), i64_eq (by rw [Int.natCast_add, Int.natCast_one, HS.out])⟩
            case measure => simp [intOf]; omega
          · have c1 : decide (x ≤ (k : Int) - many) = true := decide_eq_true (by omega)
            have c2 : decide ((k : Int) ≤ y) = true := decide_eq_true (by omega)
            have c3 : (T == 0) = false := by rw [beq_eq_false_iff_ne]; omega
            have HS := Lib.hid (st_later (k := (k : Int)) hX0 (hi := Y) (by omega) (by omega) (by rw [← HT.out]; omega))
            clear hXd hYd hX0 hXY
            go_wp2
            go_round
            case rel => exact ⟨k + 1, by omega, by go_num, i64_eq (by rw [Int.natCast_add, Int.natCast_one, HS.out, ← HF.out]), i64_eq (by rw [Int.natCast_add, Int.natCast_one, HS.out])⟩
            case measure => simp [intOf]; omega
        · have c1 : decide (x ≤ (k : Int) - many) = true := decide_eq_true (by omega)
          have c2 : decide ((k : Int) ≤ y) = false := decide_eq_false (by omega)
          have HS := Lib.hid (st_out (k := (k : Int)) hX0 (hi := Y) (by omega) (by omega))
          clear hXd hYd hX0 hXY
          go_wp2
          go_round
          case rel => exact ⟨k + 1, by omega, by go_num, i64_eq (by rw [Int.natCast_add, Int.natCast_one, HS.out, ← HF.out]), i64_eq (by rw [Int.natCast_add, Int.natCast_one, HS.out, ← HT.out])⟩
          case measure => simp [intOf]; omega
      · have c1 : decide (x ≤ (k : Int) - many) = false := decide_eq_false (by omega)
        have HS := Lib.hid (st_out (k := (k : Int)) hX0 (hi := Y) (by omega) (by omega))
        clear hXd hYd hX0 hXY
        go_wp2
        go_round
        case rel => exact ⟨k + 1, by omega, by go_num, i64_eq (by rw [Int.natCast_add, Int.natCast_one, HS.out, ← HF.out]), i64_eq (by rw [Int.natCast_add, Int.natCast_one, HS.out, ← HT.out])⟩
        case measure => simp [intOf]; omega
    · have hkm : (k : Int) = many := by omega
      have e := HE.out
      rw [← hkm] at e
      have H := Lib.hid (show F = (partR many x y true true).1 ∧ T = (partR many x y true true).2.1 from by rw [HF.out, HT.out, ← hkm, e]; exact ⟨rfl, rfl⟩)
      clear hkm e
      go_wp2
      go_ret3
      exact ⟨ret_iib H.out.1 H.out.2 rfl, hb⟩

set_option maxHeartbeats 1600000 in
theorem part_neg_neg (M : Nat) (many x y : Int) (hM : many = M) (a b : ByteArray) (hx0 : -9223372036854775808 ≤ x) (hx1 : x ≤ 9223372036854775807) (hy0 : -9223372036854775808 ≤ y) (hy1 : y ≤ 9223372036854775807) (hm0 : 0 ≤ many) (hm1 : many ≤ 1000) (hxs : x < 0) (hys : y < 0)
    (ca : ∀ W, Calls Tryd.prog 13 #[.string a] W fun e w' => e = .returned (.tuple #[.int .i64 x, .bool true]) ∧ Below W.heap.size W w')
    (cb : ∀ W, Calls Tryd.prog 13 #[.string b] W fun e w' => e = .returned (.tuple #[.int .i64 y, .bool true]) ∧ Below W.heap.size W w') (w : World) :
    Calls Tryd.prog 23 #[.int .i64 many, .string a, .string b] w fun e w' =>
      e = .returned (.tuple #[.int .i64 (partR many x y true true).1, .int .i64 (partR many x y true true).2.1, .bool true]) ∧ Below w.heap.size w w' := by
  have CA := Lib.hid ca
  have CB := Lib.hid cb
  have HE := Lib.hid (st_end many x y hm0)
  obtain ⟨X, hX⟩ : ∃ X, X = max 0 (placeI many x) := ⟨_, rfl⟩
  obtain ⟨Y, hY⟩ : ∃ Y, Y = placeI many y := ⟨_, rfl⟩
  rw [← hX, ← hY] at HE
  have hXd0 : X = max 0 (many + x) := by rw [hX]; congr 1; exact if_pos hxs
  have hYd0 : Y = many + y := by rw [hY]; exact if_pos hys
  have HXY := Lib.hid (show X = max 0 (many + x) ∧ Y = many + y from ⟨hXd0, hYd0⟩)
  have hX00 : 0 ≤ X := by omega
  have HM := Lib.hid hM
  have d1 : decide (0 ≤ x) = false := decide_eq_false (by omega)
  have d2 : decide (0 ≤ y) = false := decide_eq_false (by omega)
  have d3 : decide (x < 0) = true := decide_eq_true (by omega)
  have d4 : decide (y < 0) = true := decide_eq_true (by omega)
  clear ca cb hX hY hXd0 hYd0 hM
  go_enter Tryd.func23, Tryd.ntmps23
  go_wp2_with fail
  with_reducible refine (CA.out _).mono ?_
  rintro e w1 ⟨rfl, hb⟩
  go_wp2_with fail
  with_reducible refine (CB.out _).mono ?_
  rintro e w2 ⟨rfl, hbn⟩
  replace hb := hb.trans (hbn.mono hb.size)
  clear hbn
  go_wp2
  go_loop [13, 14, 15] (fun f t i => ∃ k : Nat, (k : Int) ≤ many ∧ i = .int .i64 k ∧ f = .int .i64 (stP k X Y).1 ∧ t = .int .i64 (stP k X Y).2) (fun _ _ i => M - (intOf i).toNat)
  case atStart => exact ⟨0, by omega, rfl, i64_eq (by rw [show ((0 : Nat) : Int) = 0 from rfl, st_zero hX00]), i64_eq (by rw [show ((0 : Nat) : Int) = 0 from rfl, st_zero hX00])⟩
  case round =>
    obtain ⟨k, hk, rfl, rfl, rfl⟩ := hrel
    obtain ⟨F, hF⟩ : ∃ F, F = (stP k X Y).1 := ⟨_, rfl⟩
    obtain ⟨T, hT⟩ : ∃ T, T = (stP k X Y).2 := ⟨_, rfl⟩
    rw [← hF, ← hT]
    have HF := Lib.hid hF
    have HT := Lib.hid hT
    clear hF hT
    by_cases hlt : (k : Int) < many
    · obtain ⟨hXd, hYd⟩ := HXY.out
      have hX0 := hX00
      have hXY := trivial
      have hkM : k < M := by have := HM.out; omega
      by_cases q1 : X ≤ (k : Int)
      · by_cases q2 : (k : Int) ≤ Y
        · by_cases q3 : T = 0
          · have c1 : decide (x ≤ (k : Int) - many) = true := decide_eq_true (by omega)
            have c2 : decide ((k : Int) - many ≤ y) = true := decide_eq_true (by omega)
            have c3 : (T == 0) = true := by rw [beq_iff_eq]; omega
            have HS := Lib.hid (st_first (k := (k : Int)) hX0 (hi := Y) (by omega) (by omega) (by rw [← HT.out]; omega) (by omega)).1
            clear hXd hYd hX0 hXY
            go_wp2
            go_round
            case rel => exact ⟨k + 1, by omega, by go_num, i64_eq (by rw [Int.natCast_add, Int.natCast_one, HS.out]), i64_eq (by rw [Int.natCast_add, Int.natCast_one, HS.out])⟩
            case measure => simp [intOf]; omega
          · have c1 : decide (x ≤ (k : Int) - many) = true := decide_eq_true (by omega)
            have c2 : decide ((k : Int) - many ≤ y) = true := decide_eq_true (by omega)
            have c3 : (T == 0) = false := by rw [beq_eq_false_iff_ne]; omega
            have HS := Lib.hid (st_later (k := (k : Int)) hX0 (hi := Y) (by omega) (by omega) (by rw [← HT.out]; omega))
            clear hXd hYd hX0 hXY
            go_wp2
            go_round
            case rel => exact ⟨k + 1, by omega, by go_num, i64_eq (by rw [Int.natCast_add, Int.natCast_one, HS.out, ← HF.out]), i64_eq (by rw [Int.natCast_add, Int.natCast_one, HS.out])⟩
            case measure => simp [intOf]; omega
        · have c1 : decide (x ≤ (k : Int) - many) = true := decide_eq_true (by omega)
          have c2 : decide ((k : Int) - many ≤ y) = false := decide_eq_false (by omega)
          have HS := Lib.hid (st_out (k := (k : Int)) hX0 (hi := Y) (by omega) (by omega))
          clear hXd hYd hX0 hXY
          go_wp2
          go_round
          case rel => exact ⟨k + 1, by omega, by go_num, i64_eq (by rw [Int.natCast_add, Int.natCast_one, HS.out, ← HF.out]), i64_eq (by rw [Int.natCast_add, Int.natCast_one, HS.out, ← HT.out])⟩
          case measure => simp [intOf]; omega
      · have c1 : decide (x ≤ (k : Int) - many) = false := decide_eq_false (by omega)
        have HS := Lib.hid (st_out (k := (k : Int)) hX0 (hi := Y) (by omega) (by omega))
        clear hXd hYd hX0 hXY
        go_wp2
        go_round
        case rel => exact ⟨k + 1, by omega, by go_num, i64_eq (by rw [Int.natCast_add, Int.natCast_one, HS.out, ← HF.out]), i64_eq (by rw [Int.natCast_add, Int.natCast_one, HS.out, ← HT.out])⟩
        case measure => simp [intOf]; omega
    · have hkm : (k : Int) = many := by omega
      have e := HE.out
      rw [← hkm] at e
      have H := Lib.hid (show F = (partR many x y true true).1 ∧ T = (partR many x y true true).2.1 from by rw [HF.out, HT.out, ← hkm, e]; exact ⟨rfl, rfl⟩)
      clear hkm e
      go_wp2
      go_ret3
      exact ⟨ret_iib H.out.1 H.out.2 rfl, hb⟩

theorem part_no (many x y : Int) (p q : Bool) (hpq : p = false ∨ q = false) (a b : ByteArray)
    (ca : ∀ W, Calls Tryd.prog 13 #[.string a] W fun e w' => e = .returned (.tuple #[.int .i64 x, .bool p]) ∧ Below W.heap.size W w')
    (cb : ∀ W, Calls Tryd.prog 13 #[.string b] W fun e w' => e = .returned (.tuple #[.int .i64 y, .bool q]) ∧ Below W.heap.size W w') (w : World) :
    Calls Tryd.prog 23 #[.int .i64 many, .string a, .string b] w fun e w' => e = .returned (.tuple #[.int .i64 0, .int .i64 0, .bool false]) ∧ Below w.heap.size w w' := by
  have CA := Lib.hid ca
  have CB := Lib.hid cb
  clear ca cb
  cases p <;> cases q
  · skip
    go_enter Tryd.func23, Tryd.ntmps23
    go_wp2_with fail
    with_reducible refine (CA.out _).mono ?_
    rintro e w1 ⟨rfl, hb⟩
    go_wp2_with fail
    with_reducible refine (CB.out _).mono ?_
    rintro e w2 ⟨rfl, hbn⟩
    replace hb := hb.trans (hbn.mono hb.size)
    clear hbn
    go_wp2
    go_ret3
    exact ⟨rfl, hb⟩
  · skip
    go_enter Tryd.func23, Tryd.ntmps23
    go_wp2_with fail
    with_reducible refine (CA.out _).mono ?_
    rintro e w1 ⟨rfl, hb⟩
    go_wp2_with fail
    with_reducible refine (CB.out _).mono ?_
    rintro e w2 ⟨rfl, hbn⟩
    replace hb := hb.trans (hbn.mono hb.size)
    clear hbn
    go_wp2
    go_ret3
    exact ⟨rfl, hb⟩
  · skip
    go_enter Tryd.func23, Tryd.ntmps23
    go_wp2_with fail
    with_reducible refine (CA.out _).mono ?_
    rintro e w1 ⟨rfl, hb⟩
    go_wp2_with fail
    with_reducible refine (CB.out _).mono ?_
    rintro e w2 ⟨rfl, hbn⟩
    replace hb := hb.trans (hbn.mono hb.size)
    clear hbn
    go_wp2
    go_ret3
    exact ⟨rfl, hb⟩
  · rcases hpq with h | h <;> cases h

theorem part_ref (many : Int) (a b : ByteArray) (ha : a.size ≤ 281474976710656) (hb : b.size ≤ 281474976710656) (hm0 : 0 ≤ many) (hm1 : many ≤ 1000) (w : World) :
    Calls Tryd.prog 23 #[.int .i64 many, .string a, .string b] w fun e w' =>
      e = .returned (.tuple #[.int .i64 (partV many a.data.toList b.data.toList).1, .int .i64 (partV many a.data.toList b.data.toList).2.1, .bool (partV many a.data.toList b.data.toList).2.2]) ∧ Below w.heap.size w w' := by
  obtain ⟨M, hM⟩ := Int.eq_ofNat_of_zero_le hm0
  have ca := fun W => parse_ref a W ha
  have cb := fun W => parse_ref b W hb
  obtain ⟨x0, x1⟩ := pV_bounds a.data.toList
  obtain ⟨y0, y1⟩ := pV_bounds b.data.toList
  unfold partV
  generalize pV a.data.toList = x at *
  generalize pV b.data.toList = y at *
  generalize pB a.data.toList = p at *
  generalize pB b.data.toList = q at *
  by_cases hpq : p = true ∧ q = true
  · obtain ⟨rfl, rfl⟩ := hpq
    have e3 : (partR many x y true true).2.2 = true := by simp only [partR]; split <;> rfl
    rw [e3]
    rcases Int.lt_or_le x 0 with hx | hx <;> rcases Int.lt_or_le y 0 with hy | hy
    · exact part_neg_neg M many x y hM a b x0 x1 y0 y1 hm0 hm1 hx hy ca cb w
    · exact part_neg_pos M many x y hM a b x0 x1 y0 y1 hm0 hm1 hx hy ca cb w
    · exact part_pos_neg M many x y hM a b x0 x1 y0 y1 hm0 hm1 hx hy ca cb w
    · exact part_pos_pos M many x y hM a b x0 x1 y0 y1 hm0 hm1 hx hy ca cb w
  · have hpq' : p = false ∨ q = false := by cases p <;> cases q <;> simp_all
    have e : partR many x y p q = (0, 0, false) := by
      rcases hpq' with h | h <;> subst h
      · cases q <;> rfl
      · cases p <;> rfl
    rw [e]
    exact part_no many x y p q hpq' a b ca cb w

end Go.Proofs.YtioleajmfgglhaaDoor.Ref01
