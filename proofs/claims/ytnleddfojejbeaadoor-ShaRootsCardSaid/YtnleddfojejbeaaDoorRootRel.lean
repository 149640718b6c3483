/-
  What stands before and behind each round of a product by digits, in words that no walk looks into.
-/
import Derived.Test.YtnleddfojejbeaaDoorRootMath
namespace Go.Proofs.YtnleddfojejbeaaDoor.RootM
open Kit ShaMath

theorem V_nil (f : Nat → Nat) : V f 0 = 0 := rfl
def Digs (f : Nat → Nat) : Prop := ∀ j, j < 16 → f j < 65536
theorem Digs.upd {f : Nat → Nat} (h : Digs f) (k v : Nat) (hv : v < 65536) : Digs (upd f k v) := by
  intro j hj
  unfold Kit.upd
  split
  · exact hv
  · exact h j hj
theorem digs_zero : Digs fun _ => 0 := fun _ _ => Nat.zero_lt_succ _
theorem digs_dig (x n : Nat) : Digs (dig x n) := fun j _ => dig_lt x n j
structure Outer (a b o : Nat → Nat) (k : Nat) : Prop where
  e : V o 16 % 65536 ^ 16 = V a k * V b 16 % 65536 ^ 16
theorem outer_start (a b : Nat → Nat) : Outer a b (fun _ => 0) 0 := ⟨by rw [V_zero, V_nil, Nat.zero_mul]⟩
structure Inner (a b o o1 : Nat → Nat) (i k cy : Nat) : Prop where
  e : V o1 16 + cy * 65536 ^ (i + k) = V o 16 + a i * 65536 ^ i * V b k
theorem inner_start (a b o : Nat → Nat) (i : Nat) : Inner a b o o i 0 0 := ⟨by rw [V_nil, Nat.zero_mul, Nat.mul_zero]⟩
theorem Inner.next {a b o o1 : Nat → Nat} {i k cy : Nat} (h : Inner a b o o1 i k cy) (hik : i + k < 16) (n : Nat) (hn : n = o1 (i + k) + a i * b k + cy) : Inner a b o (upd o1 (i + k) (n % 65536)) i (k + 1) (n / 65536) := by
  subst hn
  exact ⟨times_in o o1 cy (a i) i k b hik h.e⟩
theorem Outer.next {a b o o1 : Nat → Nat} {i k cy : Nat} (h : Outer a b o i) (hi : i < 16) (hk : i + k = 16) (h1 : Inner a b o o1 i k cy) : Outer a b o1 (i + 1) := by
  obtain rfl : k = 16 - i := by omega
  exact ⟨times_out a b o o1 cy i hi h.e h1.e⟩
/-- c is the product of a and b, as far as sixteen digits hold it. -/
structure IsProd (a b c : Nat → Nat) : Prop where
  d : Digs c
  e : V c 16 = V a 16 * V b 16 % 65536 ^ 16
theorem Outer.done {a b o : Nat → Nat} (h : Outer a b o 16) (hd : Digs o) : IsProd a b o := ⟨hd, by rw [← h.e]; exact (Nat.mod_eq_of_lt (V_lt o 16 hd)).symm⟩
/-- f tells y. -/
structure Tells (f : Nat → Nat) (y : Nat) : Prop where
  d : Digs f
  e : V f 16 = y
theorem tells_dig (x : Nat) (h : x < 18446744073709551616) : Tells (dig x 4) x := ⟨digs_dig x 4, V_dig4 x h⟩
theorem IsProd.tells {a b c : Nat → Nat} {x y : Nat} (h : IsProd a b c) (ha : Tells a x) (hb : Tells b y) (hl : x * y < 65536 ^ 16) : Tells c (x * y) := ⟨h.d, by rw [h.e, ha.e, hb.e, Nat.mod_eq_of_lt hl]⟩
theorem tells_one (i p : Nat) (hi : i < 16) (hp : p < 65536) : Tells (upd (fun _ => 0) i p) (p * 65536 ^ i) := ⟨digs_zero.upd i p hp, V_one i p 16 hi⟩
/-- The highest digit in which they differ. -/
theorem tells_less {f g : Nat → Nat} {x y i : Nat} (hf : Tells f x) (hg : Tells g y) (hi : i < 16) (he : ∀ j, i < j → j < 16 → f j = g j) : f i < g i → x < y := by
  intro h
  rw [← hf.e, ← hg.e]
  exact V_less f g i (fun j hj => hf.d j (by omega)) h 16 hi he
theorem tells_same {f g : Nat → Nat} {x y : Nat} (hf : Tells f x) (hg : Tells g y) (he : ∀ j, j < 16 → f j = g j) : x = y := by
  rw [← hf.e, ← hg.e]
  exact V_congr 16 he
theorem fits_decide {f g : Nat → Nat} {x y i : Nat} (hf : Tells f x) (hg : Tells g y) (hi : i < 16) (he : ∀ j, i < j → j < 16 → f j = g j) (hne : f i ≠ g i) : decide (f i < g i) = decide (x ≤ y) := by
  rcases Nat.lt_or_ge (f i) (g i) with h | h
  · have := tells_less hf hg hi he h
    rw [decide_eq_true h, decide_eq_true (by omega)]
  · have := tells_less hg hf hi (fun j h1 h2 => (he j h1 h2).symm) (by omega)
    rw [decide_eq_false (by omega), decide_eq_false (by omega)]

end Go.Proofs.YtnleddfojejbeaaDoor.RootM
