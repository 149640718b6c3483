/-
  What sha.turn and sha.round come to.
-/
import Derived.Test.YtjcohlpjlifolaaDoorChecked
import Derived.Test.YtjcohlpjlifolaaDoorKit
import Derived.Test.YtjcohlpjlifolaaDoorShaMath
import Derived.BigQuiet
import Derived.Deep.QuietTactic
import Derived.Lib.Hide
import Derived.Outline
namespace Go.Proofs.YtjcohlpjlifolaaDoor.ShaT
open Go.RowKit Kit ShaMath
set_option linter.unusedVariables false

/-- sha.turn. -/
theorem turn_val (x n : Nat) (hx : x < 4294967296) (hn : n ≤ 32) :
    bits .or .u32 ((x : Int) / 2 ^ n) ((x : Int) * 2 ^ (32 - n) % 4294967296) = (rot x n : Int) := by
  rw [← rot_or x n hx hn]
  have h1 : (x : Int) / 2 ^ n = ((x / 2 ^ n : Nat) : Int) := by simp
  have h2 : (x : Int) * 2 ^ (32 - n) % 4294967296 = ((x * 2 ^ (32 - n) % 4294967296 : Nat) : Int) := by simp
  rw [h1, h2]
  exact u32_or_nat _ _ (Nat.lt_of_le_of_lt (Nat.div_le_self _ _) hx) (Nat.mod_lt _ (by decide))

set_option maxHeartbeats 400000 in
theorem turn_any (x : Nat) (n : Nat) (w : World) (hx : x < 4294967296) (h0 : 0 < n) (hn : n < 32) :
    Calls Tryd.prog 54 #[.int .u32 x, .int .u32 n] w fun e w' => e = .returned (.int .u32 (rot x n)) ∧ w = w' := by
  have HV := Lib.hid (turn_val x n hx (by omega))
  go_enter Tryd.func54, Tryd.ntmps54
  go_wp2
  go_ret
  exact ⟨ret_int HV.out, rfl⟩

theorem turn_2 (x : Nat) (w : World) (hx : x < 4294967296) : Calls Tryd.prog 54 #[.int .u32 x, .int .u32 2] w fun e w' => e = .returned (.int .u32 (rot x 2)) ∧ w = w' := turn_any x 2 w hx (by decide) (by decide)
theorem turn_6 (x : Nat) (w : World) (hx : x < 4294967296) : Calls Tryd.prog 54 #[.int .u32 x, .int .u32 6] w fun e w' => e = .returned (.int .u32 (rot x 6)) ∧ w = w' := turn_any x 6 w hx (by decide) (by decide)
theorem turn_7 (x : Nat) (w : World) (hx : x < 4294967296) : Calls Tryd.prog 54 #[.int .u32 x, .int .u32 7] w fun e w' => e = .returned (.int .u32 (rot x 7)) ∧ w = w' := turn_any x 7 w hx (by decide) (by decide)
theorem turn_11 (x : Nat) (w : World) (hx : x < 4294967296) : Calls Tryd.prog 54 #[.int .u32 x, .int .u32 11] w fun e w' => e = .returned (.int .u32 (rot x 11)) ∧ w = w' := turn_any x 11 w hx (by decide) (by decide)
theorem turn_13 (x : Nat) (w : World) (hx : x < 4294967296) : Calls Tryd.prog 54 #[.int .u32 x, .int .u32 13] w fun e w' => e = .returned (.int .u32 (rot x 13)) ∧ w = w' := turn_any x 13 w hx (by decide) (by decide)
theorem turn_17 (x : Nat) (w : World) (hx : x < 4294967296) : Calls Tryd.prog 54 #[.int .u32 x, .int .u32 17] w fun e w' => e = .returned (.int .u32 (rot x 17)) ∧ w = w' := turn_any x 17 w hx (by decide) (by decide)
theorem turn_18 (x : Nat) (w : World) (hx : x < 4294967296) : Calls Tryd.prog 54 #[.int .u32 x, .int .u32 18] w fun e w' => e = .returned (.int .u32 (rot x 18)) ∧ w = w' := turn_any x 18 w hx (by decide) (by decide)
theorem turn_19 (x : Nat) (w : World) (hx : x < 4294967296) : Calls Tryd.prog 54 #[.int .u32 x, .int .u32 19] w fun e w' => e = .returned (.int .u32 (rot x 19)) ∧ w = w' := turn_any x 19 w hx (by decide) (by decide)
theorem turn_22 (x : Nat) (w : World) (hx : x < 4294967296) : Calls Tryd.prog 54 #[.int .u32 x, .int .u32 22] w fun e w' => e = .returned (.int .u32 (rot x 22)) ∧ w = w' := turn_any x 22 w hx (by decide) (by decide)
theorem turn_25 (x : Nat) (w : World) (hx : x < 4294967296) : Calls Tryd.prog 54 #[.int .u32 x, .int .u32 25] w fun e w' => e = .returned (.int .u32 (rot x 25)) ∧ w = w' := turn_any x 25 w hx (by decide) (by decide)

/-- The cells of eight words. -/
def c8 (s : W8) : Array Value := #[.int .u32 s.a, .int .u32 s.b, .int .u32 s.c, .int .u32 s.d, .int .u32 s.e, .int .u32 s.f, .int .u32 s.g, .int .u32 s.h]

theorem bigE_val (e : Nat) (h : e < 4294967296) : bits .xor .u32 (bits .xor .u32 (rot e 6 : Int) (rot e 11 : Int)) (rot e 25 : Int) = (bigE e : Int) := by
  rw [u32_xor_nat _ _ (rot_lt _ _ h (by decide)) (rot_lt _ _ h (by decide)), u32_xor_nat _ _ (xor_lt _ _ (rot_lt _ _ h (by decide)) (rot_lt _ _ h (by decide))) (rot_lt _ _ h (by decide))]
  rfl
theorem bigA_val (e : Nat) (h : e < 4294967296) : bits .xor .u32 (bits .xor .u32 (rot e 2 : Int) (rot e 13 : Int)) (rot e 22 : Int) = (bigA e : Int) := by
  rw [u32_xor_nat _ _ (rot_lt _ _ h (by decide)) (rot_lt _ _ h (by decide)), u32_xor_nat _ _ (xor_lt _ _ (rot_lt _ _ h (by decide)) (rot_lt _ _ h (by decide))) (rot_lt _ _ h (by decide))]
  rfl
theorem u32_not (e : Nat) (h : e < 4294967296) : bits .xor .u32 IntKind.u32.max (e : Int) = ((4294967295 - e : Nat) : Int) := by
  rw [show IntKind.u32.max = ((4294967295 : Nat) : Int) by decide, u32_xor_nat _ _ (by decide) h]
  congr 1
  apply Nat.eq_of_testBit_eq
  intro i
  have h1 : (4294967295 - e).testBit i = (decide (i < 32) && !e.testBit i) := by
    have := Nat.testBit_two_pow_sub_succ (n := 32) (x := e) (by simpa using h) i
    rw [← this]
    congr 1
    omega
  have h2 : (4294967295 : Nat).testBit i = decide (i < 32) := by
    rw [show 4294967295 = 2 ^ 32 - 1 by decide, Nat.testBit_two_pow_sub_one]
  rw [Nat.testBit_xor, h1, h2]
  by_cases hi : i < 32
  · simp [hi]
  · have : e.testBit i = false := Nat.testBit_lt_two_pow (Nat.lt_of_lt_of_le h (by
      have : 2 ^ 32 ≤ 2 ^ i := Nat.pow_le_pow_right (by omega) (by omega)
      simpa using this))
    simp [hi, this]
theorem pick_val (e f g : Nat) (he : e < 4294967296) (hf : f < 4294967296) (hg : g < 4294967296) : bits .or .u32 (bits .and .u32 (e : Int) (f : Int)) (bits .and .u32 (bits .xor .u32 IntKind.u32.max (e : Int)) (g : Int)) = (pick e f g : Int) := by
  rw [u32_not e he, u32_and_nat _ _ he hf, u32_and_nat _ _ (by omega) hg, u32_or_nat _ _ (and_lt _ _ he) (Nat.lt_of_le_of_lt Nat.and_le_right hg)]
  rfl
theorem most_val (a b c : Nat) (ha : a < 4294967296) (hb : b < 4294967296) (hc : c < 4294967296) : bits .or .u32 (bits .or .u32 (bits .and .u32 (a : Int) (b : Int)) (bits .and .u32 (a : Int) (c : Int))) (bits .and .u32 (b : Int) (c : Int)) = (most a b c : Int) := by
  rw [u32_and_nat _ _ ha hb, u32_and_nat _ _ ha hc, u32_and_nat _ _ hb hc, u32_or_nat _ _ (and_lt _ _ ha) (and_lt _ _ ha), u32_or_nat _ _ (or_lt _ _ (and_lt _ _ ha) (and_lt _ _ ha)) (and_lt _ _ hb)]
  rfl
theorem rnd_val (a b c d e f g h kw : Nat) : (Ending.returned (.agg #[.int .u32 (((h : Int) + (bigE e : Int) + (pick e f g : Int) + (kw : Int) + ((bigA a : Int) + (most a b c : Int))) % 4294967296), .int .u32 a, .int .u32 b, .int .u32 c, .int .u32 (((d : Int) + ((h : Int) + (bigE e : Int) + (pick e f g : Int) + (kw : Int))) % 4294967296), .int .u32 e, .int .u32 f, .int .u32 g]) : Ending) = .returned (.agg (c8 (rnd ⟨a, b, c, d, e, f, g, h⟩ kw))) := by
  have e1 : (((h : Int) + (bigE e : Int) + (pick e f g : Int) + (kw : Int) + ((bigA a : Int) + (most a b c : Int))) % 4294967296) = (((tt ⟨a, b, c, d, e, f, g, h⟩ kw + uu ⟨a, b, c, d, e, f, g, h⟩) % 4294967296 : Nat) : Int) := by
    unfold tt uu; simp only [Int.natCast_emod, Int.natCast_add]; omega
  have e2 : (((d : Int) + ((h : Int) + (bigE e : Int) + (pick e f g : Int) + (kw : Int))) % 4294967296) = (((d + tt ⟨a, b, c, d, e, f, g, h⟩ kw) % 4294967296 : Nat) : Int) := by
    unfold tt; simp only [Int.natCast_emod, Int.natCast_add]; omega
  rw [e1, e2]
  rfl

set_option maxHeartbeats 1000000 in
theorem round_any (a b c d e f g h kw : Nat) (w : World) (ha : a < 4294967296) (hb : b < 4294967296) (hc : c < 4294967296) (he : e < 4294967296) (hf : f < 4294967296) (hg : g < 4294967296) :
    Calls Tryd.prog 53 #[.agg #[.int .u32 a, .int .u32 b, .int .u32 c, .int .u32 d, .int .u32 e, .int .u32 f, .int .u32 g, .int .u32 h], .int .u32 kw] w fun en w' => en = .returned (.agg (c8 (rnd ⟨a, b, c, d, e, f, g, h⟩ kw))) ∧ Below w.heap.size w w' := by
  have HR := Lib.hid (rnd_val a b c d e f g h kw)
  have v1 := bigE_val e he
  have v2 := bigA_val a ha
  have v3 := pick_val e f g he hf hg
  have v4 := most_val a b c ha hb hc
  have hsg : IntKind.u32.signed = false := rfl
  go_enter Tryd.func53, Tryd.ntmps53
  go_wp2_with fail
  go_quiet (fail)
  go_wp2_with (go_at_call 54; (first | (with_reducible refine (turn_6 _ _ he).mono ?_) | (with_reducible refine (turn_11 _ _ he).mono ?_) | (with_reducible refine (turn_25 _ _ he).mono ?_) | (with_reducible refine (turn_2 _ _ ha).mono ?_) | (with_reducible refine (turn_13 _ _ ha).mono ?_) | (with_reducible refine (turn_22 _ _ ha).mono ?_)); rintro e w' ⟨rfl, rfl⟩)
  clear v1 v2 v3 v4
  refine bodyPost_ret (v := .agg #[.int .u32 (((h : Int) + (bigE e : Int) + (pick e f g : Int) + (kw : Int) + ((bigA a : Int) + (most a b c : Int))) % 4294967296), .int .u32 a, .int .u32 b, .int .u32 c, .int .u32 (((d : Int) + ((h : Int) + (bigE e : Int) + (pick e f g : Int) + (kw : Int))) % 4294967296), .int .u32 e, .int .u32 f, .int .u32 g]) (by simp [results, Tryd.results53, go_sem]) rfl ⟨HR.out, ?_⟩
  have hb0 : Below w.heap.size w ((w.alloc (.cells #[.int .u32 a, .int .u32 b, .int .u32 c, .int .u32 d, .int .u32 e, .int .u32 f, .int .u32 g, .int .u32 h] 59)).alloc (.cells #[.int .u32 0, .int .u32 0, .int .u32 0, .int .u32 0, .int .u32 0, .int .u32 0, .int .u32 0, .int .u32 0] 59)) := ((Below.refl _ _).alloc (Nat.le_refl _) _).alloc (by simp) _
  refine Below.setCell ?_ (by simp) _
  refine Below.setCell ?_ (by simp) _
  refine Below.setCell ?_ (by simp) _
  refine Below.setCell ?_ (by simp) _
  refine Below.setCell ?_ (by simp) _
  refine Below.setCell ?_ (by simp) _
  refine Below.setCell ?_ (by simp) _
  refine Below.setCell ?_ (by simp) _
  exact ⟨hb0.os, hb0.tape, hb0.output, hb0.size, hb0.block⟩

end Go.Proofs.YtjcohlpjlifolaaDoor.ShaT
