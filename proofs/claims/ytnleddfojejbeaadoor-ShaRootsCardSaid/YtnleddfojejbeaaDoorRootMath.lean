/-
  The arithmetic of the document's roots: numbers told by digits to the base 65536, products, powers compared, roots found bit by bit, primes counted.
-/
import Derived.Test.YtnleddfojejbeaaDoorRow
import Derived.Test.YtnleddfojejbeaaDoorShaMath
namespace Go.Proofs.YtnleddfojejbeaaDoor.RootM
open Kit ShaMath

/-- The value of the lowest n digits. -/
def V (f : Nat → Nat) : Nat → Nat
  | 0 => 0
  | n + 1 => V f n + f n * 65536 ^ n
theorem V_congr {f g : Nat → Nat} : ∀ n, (∀ j, j < n → f j = g j) → V f n = V g n
  | 0, _ => rfl
  | n + 1, h => by
    unfold V
    rw [V_congr n (fun j hj => h j (by omega)), h n (by omega)]
theorem V_upd (f : Nat → Nat) (j v : Nat) : ∀ n, j < n → V (upd f j v) n + f j * 65536 ^ j = V f n + v * 65536 ^ j
  | 0, h => by omega
  | n + 1, h => by
    unfold V
    by_cases hj : j = n
    · subst hj
      rw [upd_same, V_congr (f := upd f j v) (g := f) j (fun i hi => upd_other _ _ _ _ (by omega))]
      omega
    · rw [upd_other _ _ _ _ (fun e => hj e.symm)]
      have := V_upd f j v n (by omega)
      omega
theorem V_lt (f : Nat → Nat) : ∀ n, (∀ j, j < n → f j < 65536) → V f n < 65536 ^ n
  | 0, _ => by simp [V]
  | n + 1, h => by
    unfold V
    have h1 := V_lt f n (fun j hj => h j (by omega))
    have h2 := h n (by omega)
    have h3 : (f n + 1) * 65536 ^ n ≤ 65536 * 65536 ^ n := Nat.mul_le_mul_right _ (by omega)
    rw [Nat.pow_succ]
    grind
theorem V_split (f : Nat → Nat) (i : Nat) : ∀ n, V f (i + n) = V f i + 65536 ^ i * V (fun j => f (i + j)) n
  | 0 => by simp [V]
  | n + 1 => by
    rw [← Nat.add_assoc]
    show V f (i + n) + f (i + n) * 65536 ^ (i + n) = V f i + 65536 ^ i * (V (fun j => f (i + j)) n + f (i + n) * 65536 ^ n)
    rw [V_split f i n, Nat.pow_add]
    generalize V f i = a
    generalize V _ n = b
    grind
theorem V_zero : ∀ n, V (fun _ => 0) n = 0
  | 0 => rfl
  | n + 1 => by unfold V; rw [V_zero n]; simp
theorem V_le (f : Nat → Nat) : ∀ n m, n ≤ m → V f n ≤ V f m
  | n, 0, h => by obtain rfl : n = 0 := by omega
                  exact Nat.le_refl _
  | n, m + 1, h => by
    rcases Nat.lt_or_ge n (m + 1) with h' | h'
    · have := V_le f n m (by omega)
      show V f n ≤ V f m + f m * 65536 ^ m
      omega
    · obtain rfl : n = m + 1 := by omega
      exact Nat.le_refl _
/-- The highest digit in which two numbers differ decides. -/
theorem V_less (f g : Nat → Nat) (i : Nat) (hf : ∀ j, j < i → f j < 65536) (h : f i < g i) : ∀ n, i < n → (∀ j, i < j → j < n → f j = g j) → V f n < V g n
  | 0, h0, _ => by omega
  | n + 1, h0, he => by
    show V f n + f n * 65536 ^ n < V g n + g n * 65536 ^ n
    by_cases hi : i = n
    · subst hi
      have h1 := V_lt f i hf
      have h2 : (f i + 1) * 65536 ^ i ≤ g i * 65536 ^ i := Nat.mul_le_mul_right _ (by omega)
      rw [Nat.add_mul] at h2
      omega
    · have := V_less f g i hf h n (by omega) (fun j h1 h2 => he j h1 (by omega))
      rw [he n (by omega) (by omega)]
      omega
theorem times_step (vo vo' vo'' c ai bk n B X Y o q r W : Nat) (h1 : vo' + c * (X*Y) = vo + ai * X * W) (h2 : n = o + ai * bk + c) (h3 : vo'' + o * (X*Y) = vo' + r * (X*Y)) (h4 : r + q * B = n) : vo'' + q * (X*Y*B) = vo + ai * X * (W + bk * Y) := by grind
/-- One round of the inner loop of a product. -/
theorem times_in (o o1 : Nat → Nat) (c ai i k : Nat) (b : Nat → Nat) (hik : i + k < 16) (h : V o1 16 + c * 65536 ^ (i + k) = V o 16 + ai * 65536 ^ i * V b k) :
    V (upd o1 (i + k) ((o1 (i + k) + ai * b k + c) % 65536)) 16 + (o1 (i + k) + ai * b k + c) / 65536 * 65536 ^ (i + (k + 1)) = V o 16 + ai * 65536 ^ i * V b (k + 1) := by
  show _ = V o 16 + ai * 65536 ^ i * (V b k + b k * 65536 ^ k)
  rw [← Nat.add_assoc, Nat.pow_succ, Nat.pow_add]
  rw [Nat.pow_add] at h
  have h3 := V_upd o1 (i + k) ((o1 (i + k) + ai * b k + c) % 65536) 16 hik
  rw [Nat.pow_add] at h3
  refine times_step _ _ _ _ _ _ _ _ _ _ _ _ _ _ h rfl h3 ?_
  have := Nat.mod_add_div (o1 (i + k) + ai * b k + c) 65536
  rw [Nat.mul_comm 65536 _] at this
  exact this
/-- One round of the outer loop. -/
theorem times_out (a b o o1 : Nat → Nat) (c i : Nat) (hi : i < 16) (hin : V o 16 % 65536 ^ 16 = V a i * V b 16 % 65536 ^ 16) (h : V o1 16 + c * 65536 ^ (i + (16 - i)) = V o 16 + a i * 65536 ^ i * V b (16 - i)) :
    V o1 16 % 65536 ^ 16 = V a (i + 1) * V b 16 % 65536 ^ 16 := by
  have hs := V_split b (16 - i) i
  rw [show 16 - i + i = 16 by omega] at hs
  rw [show i + (16 - i) = 16 by omega] at h
  have hp : 65536 ^ i * 65536 ^ (16 - i) = 65536 ^ 16 := by rw [← Nat.pow_add]; congr 1; omega
  generalize V (fun j => b (16 - i + j)) i = X at hs
  generalize hM : 65536 ^ 16 = M at *
  have e1 : V o1 16 % M = (V o1 16 + c * M) % M := by rw [Nat.add_mul_mod_self_right]
  have e2 : V o 16 + a i * 65536 ^ i * V b (16 - i) + a i * X * M = V o 16 + a i * 65536 ^ i * V b 16 := by
    rw [hs, ← hp]; grind
  rw [e1, h, ← Nat.add_mul_mod_self_right _ (a i * X) M, e2]
  show _ = (V a i + a i * 65536 ^ i) * V b 16 % M
  rw [Nat.add_mul, Nat.add_mod, hin, ← Nat.add_mod]
theorem carry_le (o ai bk c : Nat) (h1 : o < 65536) (h2 : ai < 65536) (h3 : bk < 65536) (h4 : c < 65536) : o + ai * bk + c < 4294967296 ∧ (o + ai * bk + c) / 65536 < 65536 := by
  have : ai * bk ≤ 65535 * 65535 := Nat.mul_le_mul (by omega) (by omega)
  omega
/-- The digits of a number. -/
def dig (x n i : Nat) : Nat := if i < n then x / 65536 ^ i % 65536 else 0
theorem dig_lt (x n i : Nat) : dig x n i < 65536 := by unfold dig; split <;> omega
theorem V_dig (x n : Nat) : ∀ m, m ≤ n → V (dig x n) m = x % 65536 ^ m
  | 0, _ => by simp [V, Nat.mod_one]
  | m + 1, h => by
    show V (dig x n) m + dig x n m * 65536 ^ m = _
    rw [V_dig x n m (by omega), dig, if_pos (by omega), Nat.pow_succ, Nat.mod_mul, Nat.mul_comm]
theorem V_dig4 (x : Nat) (h : x < 18446744073709551616) : V (dig x 4) 16 = x := by
  have h1 := V_split (dig x 4) 4 12
  rw [V_dig x 4 4 (by omega), V_congr (f := fun j => dig x 4 (4 + j)) (g := fun _ => 0) 12 (fun j _ => by unfold dig; rw [if_neg (by omega)]), V_zero] at h1
  rw [show (16 : Nat) = 4 + 12 from rfl, h1]
  rw [Nat.mod_eq_of_lt (by simpa using h)]
  omega
theorem V_one (i p n : Nat) (hi : i < n) : V (upd (fun _ => 0) i p) n = p * 65536 ^ i := by
  have := V_upd (fun _ => 0) i p n hi
  rw [V_zero] at this
  simp only [Nat.zero_mul, Nat.add_zero, Nat.zero_add] at this
  exact this

/-- The bits of a root, one after another. -/
def rootRun (p k : Nat) : Nat → Nat → Nat → Nat
  | 0, low, _ => low
  | n + 1, low, bit => rootRun p k n (bif (low + bit) ^ k ≤ p * 65536 ^ (2 * k) then low + bit else low) (bit / 2)
theorem rootRun_zero (p k : Nat) : ∀ n low, rootRun p k n low 0 = low
  | 0, _ => rfl
  | n + 1, low => by unfold rootRun; rw [Nat.add_zero, Bool.cond_self, Nat.zero_div]; exact rootRun_zero p k n low
def rootOf (p k : Nat) : Nat := rootRun p k 37 0 68719476736

def primeL : List Nat := [2, 3, 5, 7, 11, 13, 17, 19, 23, 29, 31, 37, 41, 43, 47, 53, 59, 61, 67, 71, 73, 79, 83, 89, 97, 101, 103, 107, 109, 113, 127, 131, 137, 139, 149, 151, 157, 163, 167, 173, 179, 181, 191, 193, 197, 199, 211, 223, 227, 229, 233, 239, 241, 251, 257, 263, 269, 271, 277, 281, 283, 293, 307, 311]
def primeAt (i : Nat) : Nat := primeL.getD i 0
def isPr (p d : Nat) : Bool := (List.range d).all fun e => Nat.blt e 2 || !(Nat.beq (p % e) 0)
theorem beq_same (a b : Nat) : Nat.beq a b = (a == b) := by rw [Bool.eq_iff_iff]; simp [Nat.beq_eq]
theorem isPr_two (p : Nat) : isPr p 2 = true := by simp [isPr, List.range_succ]
theorem isPr_next (p d : Nat) (h : 2 ≤ d) : isPr p (d + 1) = (isPr p d && p % d != 0) := by
  unfold isPr
  rw [List.range_succ, List.all_append]
  congr 1
  have : Nat.blt d 2 = false := by rw [Bool.eq_false_iff, ne_eq, Nat.blt_eq]; omega
  simp [this, bne, beq_same]
def cnt (p : Nat) : Nat := (primeL.filter fun q => Nat.blt q p).length
end Go.Proofs.YtnleddfojejbeaaDoor.RootM
