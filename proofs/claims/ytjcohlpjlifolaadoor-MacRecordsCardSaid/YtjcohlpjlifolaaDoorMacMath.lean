/-
  Sums with a key, what is derived of a password, and records, over lists of bytes. Plain mathematics: nothing here is of a program.
-/
import Derived.Test.YtjcohlpjlifolaaDoorShaSum
import Derived.Test.YtjcohlpjlifolaaDoorHexMath
import Derived.Lib.SplitLaws
namespace Go.Proofs.YtjcohlpjlifolaaDoor.MacM
open Go Kit ShaMath ShaT HexMath
set_option linter.unusedVariables false

/-- So many bytes, told by the place. -/
def bytesOf (n : Nat) (f : Nat → Nat) : List UInt8 := (List.range n).map fun j => UInt8.ofNat (f j)
theorem bytesOf_length (n : Nat) (f : Nat → Nat) : (bytesOf n f).length = n := by simp [bytesOf]
theorem bytesOf_getD (n : Nat) (f : Nat → Nat) (j : Nat) (h : j < n) : (bytesOf n f).getD j 0 = UInt8.ofNat (f j) := by
  rw [List.getD_eq_getElem?_getD]
  simp [bytesOf, h]
theorem bytesOf_at (n : Nat) (f : Nat → Nat) (j : Nat) (h : j < (bytesOf n f).length) : (bytesOf n f)[j] = UInt8.ofNat (f j) := by simp [bytesOf]
theorem byte_bytesOf (n : Nat) (f : Nat → Nat) (hf : ∀ j, f j < 256) (j : Nat) (h : j < n) : byte (bytesOf n f) j = f j := by
  unfold byte
  rw [bytesOf_getD n f j h, UInt8.toNat_ofNat']
  exact Nat.mod_eq_of_lt (hf j)
theorem bytesOf_congr (n : Nat) (f g : Nat → Nat) (h : ∀ j, j < n → f j = g j) : bytesOf n f = bytesOf n g := by
  unfold bytesOf
  apply List.map_congr_left
  intro j hj
  rw [h j (List.mem_range.1 hj)]
theorem bytesOf_inj (n : Nat) (f g : Nat → Nat) (hf : ∀ j, f j < 256) (hg : ∀ j, g j < 256) (h : bytesOf n f = bytesOf n g) (j : Nat) (hj : j < n) : f j = g j := by
  rw [← byte_bytesOf n f hf j hj, h, byte_bytesOf n g hg j hj]
theorem bytesOf_byte (l : List UInt8) : bytesOf l.length (byte l) = l := by
  apply List.ext_getElem
  · simp [bytesOf]
  · intro j h1 h2
    rw [bytesOf_at]
    unfold byte
    rw [List.getD_eq_getElem?_getD, List.getElem?_eq_getElem h2]
    simp
theorem sumAt_lt (l : List UInt8) (j : Nat) : sumAt l j < 256 := by unfold sumAt tb; omega

/-- The sum's bytes. -/
def sumList (l : List UInt8) : List UInt8 := bytesOf 32 (sumAt l)
theorem sumList_length (l : List UInt8) : (sumList l).length = 32 := bytesOf_length _ _
/-- A key that is too long is its sum. -/
def shortKey (key : List UInt8) : List UInt8 := if 64 < key.length then sumList key else key
theorem shortKey_length (key : List UInt8) : (shortKey key).length ≤ 64 := by
  unfold shortKey
  split
  · rw [sumList_length]; decide
  · omega
theorem shortKey_long {key : List UInt8} (h : 64 < key.length) : shortKey key = sumList key := if_pos h
theorem shortKey_short {key : List UInt8} (h : ¬ 64 < key.length) : shortKey key = key := if_neg h
/-- A key's 64 bytes. -/
def keyAt (key : List UInt8) : Nat → Nat := byte (shortKey key)
theorem keyAt_lt (key : List UInt8) (j : Nat) : keyAt key j < 256 := byte_lt _ _
/-- The sum with 64 bytes of a key. -/
def padAt (k : Nat → Nat) (v : Nat) : Nat → Nat := fun j => k j ^^^ v
theorem padAt_lt (k : Nat → Nat) (hk : ∀ j, k j < 256) (v : Nat) (hv : v < 256) (j : Nat) : padAt k v j < 256 := Nat.xor_lt_two_pow (n := 8) (hk j) hv
def padL (k : Nat → Nat) (v : Nat) : List UInt8 := bytesOf 64 (padAt k v)
theorem padL_length (k : Nat → Nat) (v : Nat) : (padL k v).length = 64 := bytesOf_length _ _
def keyedAt (k : Nat → Nat) (msg : List UInt8) : Nat → Nat := sumAt (padL k 92 ++ sumList (padL k 54 ++ msg))
theorem keyedAt_lt (k : Nat → Nat) (msg : List UInt8) (j : Nat) : keyedAt k msg j < 256 := sumAt_lt _ _
def macAt (key msg : List UInt8) : Nat → Nat := keyedAt (keyAt key) msg
theorem macAt_lt (key msg : List UInt8) (j : Nat) : macAt key msg j < 256 := sumAt_lt _ _
theorem keyedAt_congr {k k' : Nat → Nat} (h : ∀ j, j < 64 → k j = k' j) (msg : List UInt8) : keyedAt k msg = keyedAt k' msg := by
  have e : ∀ v, padL k v = padL k' v := fun v => bytesOf_congr _ _ _ fun j hj => by unfold padAt; rw [h j hj]
  unfold keyedAt
  rw [e, e]
/-- A key that is longer stands for its sum. -/
theorem mac_long {key : List UInt8} (h : 64 < key.length) (msg : List UInt8) : macAt (sumList key) msg = macAt key msg := by
  unfold macAt keyAt
  rw [shortKey_long h, shortKey_short (by rw [sumList_length]; decide)]
/-- Bytes 0 behind a key. -/
theorem mac_zeros {key : List UInt8} (n : Nat) (h : key.length + n ≤ 64) (msg : List UInt8) : macAt (key ++ List.replicate n 0) msg = macAt key msg := by
  unfold macAt
  apply keyedAt_congr
  intro j hj
  unfold keyAt
  rw [shortKey_short (by simp; omega), shortKey_short (by omega)]
  unfold byte
  rw [List.getD_eq_getElem?_getD, List.getD_eq_getElem?_getD, List.getElem?_append]
  split
  · rfl
  · rw [List.getElem?_replicate, List.getElem?_eq_none (by omega)]
    split <;> rfl

/-- The salt, and the number of the one block. -/
def firstMsg (salt : List UInt8) : List UInt8 := salt ++ [0, 0, 0, 1]
/-- What the round's sum is of. -/
def msgAt (key : Nat → Nat) (salt : List UInt8) : Nat → List UInt8
  | 0 => firstMsg salt
  | i + 1 => bytesOf 32 (keyedAt key (msgAt key salt i))
theorem msgAt_zero (key : Nat → Nat) (salt : List UInt8) : msgAt key salt 0 = firstMsg salt := rfl
theorem msgAt_succ (key : Nat → Nat) (salt : List UInt8) (i : Nat) : msgAt key salt (i + 1) = bytesOf 32 (keyedAt key (msgAt key salt i)) := by rw [msgAt]
/-- The round's sum. -/
def uAt (key : Nat → Nat) (salt : List UInt8) (i : Nat) : Nat → Nat := keyedAt key (msgAt key salt i)
theorem uAt_lt (key : Nat → Nat) (salt : List UInt8) (i j : Nat) : uAt key salt i j < 256 := sumAt_lt _ _
theorem uAt_succ (key : Nat → Nat) (salt : List UInt8) (i : Nat) : uAt key salt (i + 1) = keyedAt key (bytesOf 32 (uAt key salt i)) := by
  unfold uAt
  rw [msgAt_succ]
/-- So many rounds. -/
def mixAt (key : Nat → Nat) (salt : List UInt8) : Nat → Nat → Nat
  | 0 => fun _ => 0
  | i + 1 => fun j => mixAt key salt i j ^^^ uAt key salt i j
theorem mixAt_succ (key : Nat → Nat) (salt : List UInt8) (i j : Nat) : mixAt key salt (i + 1) j = mixAt key salt i j ^^^ uAt key salt i j := by rw [mixAt]
theorem mixAt_one (key : Nat → Nat) (salt : List UInt8) (j : Nat) : mixAt key salt 1 j = uAt key salt 0 j := by
  rw [mixAt_succ]
  show 0 ^^^ _ = _
  rw [Nat.zero_xor]
theorem mixAt_lt (key : Nat → Nat) (salt : List UInt8) (j : Nat) : ∀ i, mixAt key salt i j < 256
  | 0 => by show 0 < 256; decide
  | i + 1 => by rw [mixAt_succ]; exact Nat.xor_lt_two_pow (n := 8) (mixAt_lt key salt j i) (uAt_lt _ _ _ _)
/-- What is derived. -/
def derAt (pass salt : List UInt8) (r : Int) : Nat → Nat := if 1 ≤ r ∧ r ≤ 64 then mixAt (keyAt pass) salt r.toNat else fun _ => 0
theorem derAt_in {pass salt : List UInt8} {r : Int} (h : 1 ≤ r ∧ r ≤ 64) : derAt pass salt r = mixAt (keyAt pass) salt r.toNat := if_pos h
theorem derAt_out {pass salt : List UInt8} {r : Int} (h : ¬ (1 ≤ r ∧ r ≤ 64)) : derAt pass salt r = fun _ => 0 := if_neg h
theorem derAt_lt (pass salt : List UInt8) (r : Int) (j : Nat) : derAt pass salt r j < 256 := by
  unfold derAt
  split
  · exact mixAt_lt _ _ _ _
  · show 0 < 256; decide
def derL (pass salt : List UInt8) (r : Int) : List UInt8 := bytesOf 32 (derAt pass salt r)
theorem derL_length (pass salt : List UInt8) (r : Int) : (derL pass salt r).length = 32 := bytesOf_length _ _

/-- A text up to its first colon, and what is behind it. -/
def cutL : List UInt8 → Option (List UInt8 × List UInt8)
  | [] => none
  | c :: r => if c = 58 then some ([], r) else match cutL r with
    | none => none
    | some (a, b) => some (c :: a, b)
theorem cutL_some : ∀ {l a b : List UInt8}, cutL l = some (a, b) → l = a ++ 58 :: b ∧ ¬ (58 : UInt8) ∈ a
  | [], a, b, h => by cases h
  | c :: r, a, b, h => by
    unfold cutL at h
    by_cases hc : c = 58
    · rw [if_pos hc] at h
      injection h with h
      injection h with h1 h2
      subst h1 h2 hc
      exact ⟨rfl, by simp⟩
    · rw [if_neg hc] at h
      split at h
      · cases h
      · rename_i x y hxy
        injection h with h
        injection h with h1 h2
        subst h1 h2
        obtain ⟨h3, h4⟩ := cutL_some hxy
        refine ⟨by rw [h3]; rfl, ?_⟩
        intro hm
        rcases List.mem_cons.1 hm with hm | hm
        · exact hc hm.symm
        · exact h4 hm
theorem cutL_none : ∀ {l : List UInt8}, cutL l = none → ¬ (58 : UInt8) ∈ l
  | [], h => by simp
  | c :: r, h => by
    unfold cutL at h
    by_cases hc : c = 58
    · rw [if_pos hc] at h; cases h
    · rw [if_neg hc] at h
      split at h
      · rename_i hn
        intro hm
        rcases List.mem_cons.1 hm with hm | hm
        · exact hc hm.symm
        · exact cutL_none hn hm
      · cases h
theorem cutL_join : ∀ (a b : List UInt8), ¬ (58 : UInt8) ∈ a → cutL (a ++ 58 :: b) = some (a, b)
  | [], b, h => by simp [cutL]
  | c :: r, b, h => by
    have hc : ¬ c = 58 := fun e => h (by simp [e])
    have hr : ¬ (58 : UInt8) ∈ r := fun e => h (by simp [e])
    show cutL (c :: (r ++ 58 :: b)) = _
    rw [cutL, if_neg hc, cutL_join r b hr]
theorem cutL_free : ∀ (l : List UInt8), ¬ (58 : UInt8) ∈ l → cutL l = none
  | [], h => rfl
  | c :: r, h => by
    have hc : ¬ c = 58 := fun e => h (by simp [e])
    have hr : ¬ (58 : UInt8) ∈ r := fun e => h (by simp [e])
    rw [cutL, if_neg hc, cutL_free r hr]
/-- Where the library finds the colon. -/
theorem index_cut : ∀ (l : List UInt8), Lib.indexByte l 58 = match cutL l with | none => -1 | some (a, _) => (a.length : Int)
  | [] => rfl
  | c :: r => by
    have ih := index_cut r
    unfold Lib.indexByte cutL
    by_cases hc : c = 58
    · subst hc
      simp
    · rw [if_neg hc]
      rcases h : cutL r with _ | ⟨a, b⟩
      · rw [h] at ih
        simp [hc, ih]
      · rw [h] at ih
        simp only at ih
        simp [hc, ih] <;> omega

/-- The three parts. -/
def three (l : List UInt8) : Option (List UInt8 × List UInt8 × List UInt8) :=
  match cutL l with
  | none => none
  | some (a, r) => match cutL r with
    | none => none
    | some (b, c) => some (a, b, c)
theorem three_join (a b c : List UInt8) (ha : ¬ (58 : UInt8) ∈ a) (hb : ¬ (58 : UInt8) ∈ b) : three (a ++ 58 :: (b ++ 58 :: c)) = some (a, b, c) := by
  unfold three
  rw [cutL_join _ _ ha]
  simp only
  rw [cutL_join _ _ hb]
theorem digV_colon : digV 58 = none := by decide
theorem unhex_colon : ∀ (l : List UInt8), (58 : UInt8) ∈ l → unhexL l = none
  | [], h => by simp at h
  | [_], _ => rfl
  | a :: b :: r, h => by
    rcases List.mem_cons.1 h with h | h
    · exact unhex_bad _ _ _ (Or.inl (by rw [← h]; exact digV_colon))
    · rcases List.mem_cons.1 h with h | h
      · exact unhex_bad _ _ _ (Or.inr (by rw [← h]; exact digV_colon))
      · rw [unhexL_cons, unhex_colon r h]
        split <;> simp_all
theorem hexD_colon : ∀ n, n < 16 → hexD n ≠ 58 := by decide
theorem hexL_colon : ∀ l : List UInt8, ¬ (58 : UInt8) ∈ hexL l
  | [] => by simp [hexL]
  | c :: r => by
    have h256 : c.toNat < 256 := UInt8.toNat_lt c
    have h1 := hexD_colon (c.toNat / 16) (by omega)
    have h2 := hexD_colon (c.toNat % 16) (by omega)
    have h3 := hexL_colon r
    simp only [hexL, List.mem_cons, not_or]
    exact ⟨fun e => h1 e.symm, fun e => h2 e.symm, h3⟩

end Go.Proofs.YtjcohlpjlifolaaDoor.MacM
