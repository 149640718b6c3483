/-
  Bytes as digits to the base 16, and back. Plain mathematics: nothing here is of a program.
-/
import Derived.Test.YtdhhiodnnnfioaaDoorKit
namespace Go.Proofs.YtdhhiodnnnfioaaDoor.HexMath
open Go
set_option linter.unusedVariables false

/-- A digit's letter. -/
def hexD (n : Nat) : UInt8 := if n < 10 then UInt8.ofNat (48 + n) else UInt8.ofNat (87 + n)
/-- Of each byte two digits, the higher first. -/
def hexL : List UInt8 → List UInt8
  | [] => []
  | c :: r => hexD (c.toNat / 16) :: hexD (c.toNat % 16) :: hexL r
/-- What a letter says. -/
def digV (c : UInt8) : Option Nat := if 48 ≤ c.toNat ∧ c.toNat ≤ 57 then some (c.toNat - 48) else if 97 ≤ c.toNat ∧ c.toNat ≤ 102 then some (c.toNat - 87) else none
/-- The bytes that a text tells. -/
def unhexL : List UInt8 → Option (List UInt8)
  | [] => some []
  | [_] => none
  | a :: b :: r => match digV a, digV b, unhexL r with
    | some x, some y, some out => some (UInt8.ofNat (16 * x + y) :: out)
    | _, _, _ => none

theorem unhexL_cons (a b : UInt8) (r : List UInt8) : unhexL (a :: b :: r) = match digV a, digV b, unhexL r with
    | some x, some y, some out => some (UInt8.ofNat (16 * x + y) :: out)
    | _, _, _ => none := by rw [unhexL]
theorem hexL_length : ∀ l : List UInt8, (hexL l).length = 2 * l.length
  | [] => rfl
  | c :: r => by simp only [hexL, List.length_cons, hexL_length r]; omega
theorem hexL_append : ∀ a b : List UInt8, hexL (a ++ b) = hexL a ++ hexL b
  | [], b => rfl
  | c :: r, b => by simp only [hexL, List.cons_append, hexL_append r b]
theorem hexL_snoc (l : List UInt8) (c : UInt8) : hexL (l ++ [c]) = hexL l ++ [hexD (c.toNat / 16), hexD (c.toNat % 16)] := by rw [hexL_append]; rfl
theorem digV_lt {c : UInt8} {x : Nat} (h : digV c = some x) : x < 16 := by
  unfold digV at h
  split at h
  · injection h; omega
  · split at h
    · injection h; omega
    · cases h
theorem digV_hexD : ∀ n, n < 16 → digV (hexD n) = some n := by decide
theorem hexD_digV {c : UInt8} {x : Nat} (h : digV c = some x) : hexD x = c := by
  have key : ∀ n : Nat, n < 256 → ∀ y, digV (UInt8.ofNat n) = some y → hexD y = UInt8.ofNat n := by
    intro n hn y hy
    have hy16 := digV_lt hy
    have := (show ∀ n, n < 256 → ∀ y, y < 16 → digV (UInt8.ofNat n) = some y → hexD y = UInt8.ofNat n by decide +kernel) n hn y hy16 hy
    exact this
  have := key c.toNat (UInt8.toNat_lt c) x (by rw [UInt8.ofNat_toNat]; exact h)
  rwa [UInt8.ofNat_toNat] at this
theorem byte_of (c : UInt8) : UInt8.ofNat (16 * (c.toNat / 16) + c.toNat % 16) = c := by
  rw [Nat.div_add_mod, UInt8.ofNat_toNat]
theorem pair_div {x y : Nat} (hx : x < 16) (hy : y < 16) : (UInt8.ofNat (16 * x + y)).toNat / 16 = x ∧ (UInt8.ofNat (16 * x + y)).toNat % 16 = y := by
  have h : (UInt8.ofNat (16 * x + y)).toNat = (16 * x + y) % 256 := UInt8.toNat_ofNat'
  rw [h]
  omega
/-- What was told is taken. -/
theorem unhex_hex : ∀ l : List UInt8, unhexL (hexL l) = some l
  | [] => rfl
  | c :: r => by
    have h0 := UInt8.toNat_lt c
    simp only [hexL, unhexL, digV_hexD _ (show c.toNat / 16 < 16 by have : c.toNat < 256 := h0; omega), digV_hexD _ (show c.toNat % 16 < 16 by omega), unhex_hex r, byte_of]
/-- What is taken is told so. -/
theorem hex_unhex : ∀ (s out : List UInt8), unhexL s = some out → hexL out = s
  | [], out, h => by injection h with h; subst h; rfl
  | [_], out, h => by cases h
  | a :: b :: r, out, h => by
    unfold unhexL at h
    split at h
    · rename_i x y o hx hy ho
      injection h with h
      subst h
      obtain ⟨e1, e2⟩ := pair_div (digV_lt hx) (digV_lt hy)
      rw [hexL, e1, e2, hexD_digV hx, hexD_digV hy, hex_unhex r o ho]
    · cases h
/-- An odd number of letters tells nothing. -/
theorem unhex_odd : ∀ s : List UInt8, s.length % 2 = 1 → unhexL s = none
  | [], h => by simp at h
  | [_], _ => rfl
  | a :: b :: r, h => by
    have := unhex_odd r (by simp at h; omega)
    unfold unhexL
    rw [this]
    split <;> simp_all
/-- So many pairs ahead, and what follows. -/
theorem unhex_append : ∀ (a b x : List UInt8), unhexL a = some x → unhexL (a ++ b) = (unhexL b).map (x ++ ·)
  | [], b, x, h => by injection h with h; subst h; simp
  | [_], b, x, h => by cases h
  | p :: q :: r, b, x, h => by
    unfold unhexL at h
    split at h
    · rename_i u v o hu hv ho
      injection h with h
      subst h
      show unhexL (p :: q :: (r ++ b)) = _
      rw [unhexL_cons, hu, hv, unhex_append r b o ho]
      cases unhexL b <;> rfl
    · cases h
theorem unhex_pair (a b : UInt8) (x y : Nat) (ha : digV a = some x) (hb : digV b = some y) : unhexL [a, b] = some [UInt8.ofNat (16 * x + y)] := by
  unfold unhexL
  rw [ha, hb]
  rfl
theorem unhex_bad (a b : UInt8) (r : List UInt8) (h : digV a = none ∨ digV b = none) : unhexL (a :: b :: r) = none := by
  rw [unhexL_cons]
  rcases h with h | h
  · rw [h]
  · rw [h]; split <;> simp_all
theorem take_two (s : List UInt8) (k : Nat) (h : k + 1 < s.length) : s.take (k + 2) = s.take k ++ [s[k], s[k + 1]] := by
  rw [List.take_succ_eq_append_getElem (by omega), List.take_succ_eq_append_getElem (by omega), List.append_assoc]
  rfl
theorem drop_two (s : List UInt8) (k : Nat) (h : k + 1 < s.length) : s.drop k = s[k] :: s[k + 1] :: s.drop (k + 2) := by
  rw [List.drop_eq_getElem_cons (by omega), List.drop_eq_getElem_cons (by omega)]
/-- One pair more. -/
theorem unhex_next (s out : List UInt8) (k x y : Nat) (hk : k + 1 < s.length) (h : unhexL (s.take k) = some out) (hx : digV s[k] = some x) (hy : digV s[k + 1] = some y) : unhexL (s.take (k + 2)) = some (out ++ [UInt8.ofNat (16 * x + y)]) := by
  rw [take_two s k hk, unhex_append _ _ _ h, unhex_pair _ _ _ _ hx hy]
  rfl
theorem unhex_stop (s out : List UInt8) (k : Nat) (hk : k + 1 < s.length) (h : unhexL (s.take k) = some out) (hb : digV s[k] = none ∨ digV s[k + 1] = none) : unhexL s = none := by
  have e : s = s.take k ++ s.drop k := (List.take_append_drop k s).symm
  rw [e, unhex_append _ _ _ h, drop_two s k hk, unhex_bad _ _ _ hb]
  rfl

end Go.Proofs.YtdhhiodnnnfioaaDoor.HexMath
