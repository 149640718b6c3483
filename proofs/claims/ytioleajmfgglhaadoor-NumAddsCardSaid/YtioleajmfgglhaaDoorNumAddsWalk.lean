/-
  The walk of the law NumAdds: what was added is taken away again, where it fits.
-/
-- ASKS: NumL.Gd
import Derived.Test.YtioleajmfgglhaaDoorNumLib
namespace Go.Proofs.YtioleajmfgglhaaDoor.numAdds
open Go.RowKit Kit NumMath NumW NumL

theorem add_fits (a b : Int) (w : World) (ha0 : -9223372036854775808 ≤ a) (ha1 : a ≤ 9223372036854775807) (hb0 : -9223372036854775808 ≤ b) (hb1 : b ≤ 9223372036854775807) (h0 : -9223372036854775808 ≤ a + b) (h1 : a + b ≤ 9223372036854775807) :
    Calls Tryd.prog 14 #[.int .i64 a, .int .i64 b] w fun e w' => e = .returned (.tuple #[.int .i64 (a + b), .bool true]) ∧ w = w' :=
  (add_any a b w ha0 ha1 hb0 hb1).mono fun e w' ⟨he, hw⟩ => ⟨by rw [he, (add_yes ⟨h0, h1⟩).1, (add_yes ⟨h0, h1⟩).2], hw⟩
theorem add_not (a b : Int) (w : World) (ha0 : -9223372036854775808 ≤ a) (ha1 : a ≤ 9223372036854775807) (hb0 : -9223372036854775808 ≤ b) (hb1 : b ≤ 9223372036854775807) (h : ¬ (-9223372036854775808 ≤ a + b ∧ a + b ≤ 9223372036854775807)) :
    Calls Tryd.prog 14 #[.int .i64 a, .int .i64 b] w fun e w' => e = .returned (.tuple #[.int .i64 0, .bool false]) ∧ w = w' :=
  (add_any a b w ha0 ha1 hb0 hb1).mono fun e w' ⟨he, hw⟩ => ⟨by rw [he, (add_no h).1, (add_no h).2], hw⟩
theorem add_some (a b : Int) (w : World) (ha0 : -9223372036854775808 ≤ a) (ha1 : a ≤ 9223372036854775807) (hb0 : -9223372036854775808 ≤ b) (hb1 : b ≤ 9223372036854775807) :
    ∃ x y, Calls Tryd.prog 14 #[.int .i64 a, .int .i64 b] w fun e w' => e = .returned (.tuple #[.int .i64 x, .bool y]) ∧ w = w' := ⟨_, _, add_any a b w ha0 ha1 hb0 hb1⟩

theorem walk_fits (a b : Int) (w : World) (a0 : -9223372036854775808 ≤ a) (a1 : a ≤ 9223372036854775807) (b0 : -9223372036854775808 < b) (b1 : b ≤ 9223372036854775807) (h0 : -9223372036854775808 ≤ a + b) (h1 : a + b ≤ 9223372036854775807) (hg : Gd w) :
    Calls Tryd.prog 5 #[.int .i64 a, .int .i64 b] w fun e w' => e = .returned (.bool true) ∧ Below w.heap.size w w' := by
  have G := Lib.hid hg
  clear hg
  have hne : (b == -9223372036854775808) = false := by rw [beq_eq_false_iff_ne]; omega
  by_cases hb : 0 ≤ b
  · go_enter Tryd.func5, Tryd.ntmps5
    go_wp2_with fail
    with_reducible refine (shown_any _ G.out).mono ?_
    rintro e w1 ⟨rfl, hb1⟩
    go_wp2_with fail
    with_reducible refine (add_fits a b _ a0 a1 (by omega) b1 h0 h1).mono ?_
    rintro e w2 ⟨rfl, rfl⟩
    go_wp2_with fail
    with_reducible refine (add_fits b a _ (by omega) b1 a0 a1 (by omega) (by omega)).mono ?_
    rintro e w2 ⟨rfl, rfl⟩
    rw [show b + a = a + b from Int.add_comm b a]
    go_wp2_with fail
    with_reducible refine (add_fits (a + b) (-b) _ h0 h1 (by omega) (by omega) (by omega) (by omega)).mono ?_
    rintro e w2 ⟨rfl, rfl⟩
    rw [show a + b + -b = a by omega]
    go_wp2
    go_ret
    exact ⟨rfl, hb1⟩
  · go_enter Tryd.func5, Tryd.ntmps5
    go_wp2_with fail
    with_reducible refine (shown_any _ G.out).mono ?_
    rintro e w1 ⟨rfl, hb1⟩
    go_wp2_with fail
    with_reducible refine (add_fits a b _ a0 a1 (by omega) b1 h0 h1).mono ?_
    rintro e w2 ⟨rfl, rfl⟩
    go_wp2_with fail
    with_reducible refine (add_fits b a _ (by omega) b1 a0 a1 (by omega) (by omega)).mono ?_
    rintro e w2 ⟨rfl, rfl⟩
    rw [show b + a = a + b from Int.add_comm b a]
    go_wp2_with fail
    with_reducible refine (add_fits (a + b) (-b) _ h0 h1 (by omega) (by omega) (by omega) (by omega)).mono ?_
    rintro e w2 ⟨rfl, rfl⟩
    rw [show a + b + -b = a by omega]
    go_wp2
    go_ret
    exact ⟨rfl, hb1⟩

/-- b is the least int: it is its own negative. -/
theorem walk_least (a b : Int) (w : World) (a0 : 0 ≤ a) (a1 : a ≤ 9223372036854775807) (b0 : -9223372036854775808 ≤ b) (b1 : b ≤ -9223372036854775808) (hg : Gd w) :
    Calls Tryd.prog 5 #[.int .i64 a, .int .i64 b] w fun e w' => e = .returned (.bool true) ∧ Below w.heap.size w w' := by
  have G := Lib.hid hg
  clear hg
  obtain ⟨d, hd0, hd1, hd⟩ : ∃ d : Int, -9223372036854775808 ≤ d ∧ d ≤ 9223372036854775807 ∧ wrap64 (-b) = d := ⟨wrap64 (-b), by unfold wrap64; omega, by unfold wrap64; omega, rfl⟩
  have hq : (b == -9223372036854775808) = true := by rw [beq_iff_eq]; omega
  have hx : decide (-9223372036854775808 - b ≤ a) = true := decide_eq_true (by omega)
  go_enter Tryd.func5, Tryd.ntmps5
  go_wp2_with fail
  with_reducible refine (shown_any _ G.out).mono ?_
  rintro e w1 ⟨rfl, hb1⟩
  go_wp2_with fail
  with_reducible refine (add_fits a b _ (by omega) a1 b0 (by omega) (by omega) (by omega)).mono ?_
  rintro e w2 ⟨rfl, rfl⟩
  go_wp2_with fail
  with_reducible refine (add_fits b a _ b0 (by omega) (by omega) a1 (by omega) (by omega)).mono ?_
  rintro e w2 ⟨rfl, rfl⟩
  rw [show b + a = a + b from Int.add_comm b a]
  go_wp2_with fail
  with_reducible refine (add_any (a + b) d _ (by omega) (by omega) hd0 hd1).mono ?_
  rintro e w2 ⟨rfl, rfl⟩
  go_wp2
  go_ret
  exact ⟨rfl, hb1⟩

theorem walk_not (a b : Int) (w : World) (a0 : -9223372036854775808 ≤ a) (a1 : a ≤ 9223372036854775807) (b0 : -9223372036854775808 ≤ b) (b1 : b ≤ 9223372036854775807) (hn : ¬ (-9223372036854775808 ≤ a + b ∧ a + b ≤ 9223372036854775807)) (hg : Gd w) :
    Calls Tryd.prog 5 #[.int .i64 a, .int .i64 b] w fun e w' => e = .returned (.bool true) ∧ Below w.heap.size w w' := by
  have G := Lib.hid hg
  have HN := Lib.hid hn
  clear hg
  obtain ⟨d, hd0, hd1, hd⟩ : ∃ d : Int, -9223372036854775808 ≤ d ∧ d ≤ 9223372036854775807 ∧ wrap64 (-b) = d := ⟨wrap64 (-b), by unfold wrap64; omega, by unfold wrap64; omega, rfl⟩
  by_cases hb : 0 ≤ b
  · have hx : decide (a ≤ 9223372036854775807 - b) = false := decide_eq_false (by omega)
    clear hn
    go_enter Tryd.func5, Tryd.ntmps5
    go_wp2_with fail
    with_reducible refine (shown_any _ G.out).mono ?_
    rintro e w1 ⟨rfl, hb1⟩
    go_wp2_with fail
    with_reducible refine (add_not a b _ a0 a1 b0 b1 HN.out).mono ?_
    rintro e w2 ⟨rfl, rfl⟩
    go_wp2_with fail
    with_reducible refine (add_not b a _ b0 b1 a0 a1 (by have := HN.out; omega)).mono ?_
    rintro e w2 ⟨rfl, rfl⟩
    go_wp2_with fail
    with_reducible refine (add_any 0 (-b) _ (by omega) (by omega) (by omega) (by omega)).mono ?_
    rintro e w2 ⟨rfl, rfl⟩
    go_wp2
    go_ret
    exact ⟨rfl, hb1⟩
  · have hx : decide (-9223372036854775808 - b ≤ a) = false := decide_eq_false (by omega)
    clear hn
    go_enter Tryd.func5, Tryd.ntmps5
    go_wp2_with fail
    with_reducible refine (shown_any _ G.out).mono ?_
    rintro e w1 ⟨rfl, hb1⟩
    go_wp2_with fail
    with_reducible refine (add_not a b _ a0 a1 b0 b1 HN.out).mono ?_
    rintro e w2 ⟨rfl, rfl⟩
    go_wp2_with fail
    with_reducible refine (add_not b a _ b0 b1 a0 a1 (by have := HN.out; omega)).mono ?_
    rintro e w2 ⟨rfl, rfl⟩
    go_wp2_with fail
    with_reducible refine (add_any 0 _ _ (by omega) (by omega) hd0 hd1).mono ?_
    rintro e w2 ⟨rfl, rfl⟩
    go_wp2
    go_ret
    exact ⟨rfl, hb1⟩

theorem walk (a b : Int) (w : World) (a0 : -9223372036854775808 ≤ a) (a1 : a ≤ 9223372036854775807) (b0 : -9223372036854775808 ≤ b) (b1 : b ≤ 9223372036854775807) (hg : Gd w) :
    Calls Tryd.prog 5 #[.int .i64 a, .int .i64 b] w fun e w' => e = .returned (.bool true) ∧ Below w.heap.size w w' := by
  by_cases h : -9223372036854775808 ≤ a + b ∧ a + b ≤ 9223372036854775807
  · by_cases hb : b = -9223372036854775808
    · exact walk_least a b w (by omega) a1 b0 (by omega) hg
    · exact walk_fits a b w a0 a1 (by omega) b1 h.1 h.2 hg
  · exact walk_not a b w a0 a1 b0 b1 h hg
end Go.Proofs.YtioleajmfgglhaaDoor.numAdds
