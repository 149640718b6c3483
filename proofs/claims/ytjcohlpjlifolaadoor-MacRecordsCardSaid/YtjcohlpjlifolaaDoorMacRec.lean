/-
  Records of passwords over lists of bytes: how one is told, what a text says. Plain mathematics: nothing here is of a program.
-/
import Derived.Test.YtjcohlpjlifolaaDoorMacMath
import Derived.Test.YtjcohlpjlifolaaDoorNumMath
namespace Go.Proofs.YtjcohlpjlifolaaDoor.MacM
open Go Kit ShaMath ShaT HexMath NumMath
set_option linter.unusedVariables false

/-- A record's text. -/
def recL (r : Int) (salt d : List UInt8) : List UInt8 := Lib.itoa r ++ 58 :: (hexL salt ++ 58 :: hexL d)
/-- What three texts say. -/
def recOf3 (a b c : List UInt8) : Option (Int × List UInt8 × List UInt8) :=
  match parse a, unhexL b, unhexL c with
  | some r, some salt, some d => if 1 ≤ r ∧ r ≤ 64 ∧ salt.length ≤ 32 ∧ d.length = 32 then some (r, salt, d) else none
  | _, _, _ => none
/-- What a text says. -/
def recOf (l : List UInt8) : Option (Int × List UInt8 × List UInt8) :=
  match three l with
  | some (a, b, c) => recOf3 a b c
  | none => none
def rightB (l : List UInt8) : Bool := (recOf l).isSome
def checkB (l pass : List UInt8) : Bool :=
  match recOf l with
  | some (r, salt, d) => decide (derL pass salt r = d)
  | none => false
theorem recOf_three {l a b c : List UInt8} (h : three l = some (a, b, c)) : recOf l = recOf3 a b c := by
  unfold recOf; rw [h]
theorem recOf_no {l : List UInt8} (h : three l = none) : recOf l = none := by
  unfold recOf; rw [h]
theorem recOf3_some {a b c : List UInt8} {r : Int} {salt d : List UInt8} (ha : parse a = some r) (hb : unhexL b = some salt) (hc : unhexL c = some d) (h : 1 ≤ r ∧ r ≤ 64 ∧ salt.length ≤ 32 ∧ d.length = 32) : recOf3 a b c = some (r, salt, d) := by
  unfold recOf3
  rw [ha, hb, hc]
  exact if_pos h
theorem recOf3_out {a b c : List UInt8} {r : Int} {salt d : List UInt8} (ha : parse a = some r) (hb : unhexL b = some salt) (hc : unhexL c = some d) (h : ¬ (1 ≤ r ∧ r ≤ 64 ∧ salt.length ≤ 32 ∧ d.length = 32)) : recOf3 a b c = none := by
  unfold recOf3
  rw [ha, hb, hc]
  exact if_neg h
theorem recOf3_a {a b c : List UInt8} (ha : parse a = none) : recOf3 a b c = none := by
  unfold recOf3
  rw [ha]
theorem recOf3_b {a b c : List UInt8} (hb : unhexL b = none) : recOf3 a b c = none := by
  unfold recOf3
  rw [hb]
  split <;> simp_all
theorem recOf3_c {a b c : List UInt8} (hc : unhexL c = none) : recOf3 a b c = none := by
  unfold recOf3
  rw [hc]
  split <;> simp_all
theorem recOf3_inv {a b c : List UInt8} {r : Int} {salt d : List UInt8} (h : recOf3 a b c = some (r, salt, d)) : parse a = some r ∧ unhexL b = some salt ∧ unhexL c = some d ∧ 1 ≤ r ∧ r ≤ 64 ∧ salt.length ≤ 32 ∧ d.length = 32 := by
  unfold recOf3 at h
  split at h
  · rename_i x y z h1 h2 h3
    split at h
    · rename_i hh
      simp only [Option.some.injEq, Prod.mk.injEq] at h
      obtain ⟨rfl, rfl, rfl⟩ := h
      exact ⟨h1, h2, h3, hh.1, hh.2.1, hh.2.2.1, hh.2.2.2⟩
    · cases h
  · cases h
theorem itoa_colon (r : Int) : ¬ (58 : UInt8) ∈ Lib.itoa r := by
  intro h
  rcases itoa_mem r 58 h with h | h
  · exact absurd h (by decide)
  · exact absurd h.2 (by decide)
theorem three_rec (r : Int) (salt d : List UInt8) : three (recL r salt d) = some (Lib.itoa r, hexL salt, hexL d) :=
  three_join _ _ _ (itoa_colon r) (hexL_colon salt)
/-- What was told is taken. -/
theorem recOf_recL {r : Int} {salt d : List UInt8} (h : 1 ≤ r ∧ r ≤ 64 ∧ salt.length ≤ 32 ∧ d.length = 32) : recOf (recL r salt d) = some (r, salt, d) := by
  rw [recOf_three (three_rec r salt d)]
  exact recOf3_some (parse_itoa r (by omega) (by omega)) (unhex_hex _) (unhex_hex _) h
theorem right_recL {r : Int} {salt d : List UInt8} (h : 1 ≤ r ∧ r ≤ 64 ∧ salt.length ≤ 32 ∧ d.length = 32) : rightB (recL r salt d) = true := by
  unfold rightB
  rw [recOf_recL h]
  rfl
theorem check_recL {r : Int} {salt d : List UInt8} (h : 1 ≤ r ∧ r ≤ 64 ∧ salt.length ≤ 32 ∧ d.length = 32) (pass : List UInt8) : checkB (recL r salt d) pass = decide (derL pass salt r = d) := by
  unfold checkB
  rw [recOf_recL h]
theorem check_none {l : List UInt8} (h : recOf l = none) (pass : List UInt8) : checkB l pass = false := by
  unfold checkB
  rw [h]
theorem right_none {l : List UInt8} (h : recOf l = none) : rightB l = false := by
  unfold rightB
  rw [h]
  rfl
/-- A record with something else as its last part. -/
theorem recOf_last {r : Int} {salt c : List UInt8} : recOf (Lib.itoa r ++ 58 :: (hexL salt ++ 58 :: c)) = recOf3 (Lib.itoa r) (hexL salt) c :=
  recOf_three (three_join _ _ _ (itoa_colon r) (hexL_colon salt))
theorem last_len {r : Int} {salt c d : List UInt8} (hr : -9223372036854775808 ≤ r ∧ r ≤ 9223372036854775807) (hc : unhexL c = some d) (h : d.length ≠ 32) : recOf (Lib.itoa r ++ 58 :: (hexL salt ++ 58 :: c)) = none := by
  rw [recOf_last]
  exact recOf3_out (parse_itoa r hr.1 hr.2) (unhex_hex _) hc (by omega)
theorem last_none {r : Int} {salt c : List UInt8} (hc : unhexL c = none) : recOf (Lib.itoa r ++ 58 :: (hexL salt ++ 58 :: c)) = none := by
  rw [recOf_last]
  exact recOf3_c hc
theorem last_some {r : Int} {salt c d : List UInt8} (hr : 1 ≤ r ∧ r ≤ 64) (hs : salt.length ≤ 32) (hc : unhexL c = some d) (h : d.length = 32) : recOf (Lib.itoa r ++ 58 :: (hexL salt ++ 58 :: c)) = some (r, salt, d) := by
  rw [recOf_last]
  exact recOf3_some (parse_itoa r (by omega) (by omega)) (unhex_hex _) hc ⟨hr.1, hr.2, hs, h⟩
/-- A colon ahead. -/
theorem rec_colon {r : Int} {salt d : List UInt8} : recOf (58 :: recL r salt d) = none := by
  have h : three (58 :: recL r salt d) = some ([], Lib.itoa r, hexL salt ++ 58 :: hexL d) := by
    have := three_join [] (Lib.itoa r) (hexL salt ++ 58 :: hexL d) (by simp) (itoa_colon r)
    exact this
  rw [recOf_three h]
  exact recOf3_a (by decide +kernel)
/-- A nought ahead. -/
theorem rec_nought {r : Int} {salt d : List UInt8} : recOf (48 :: recL r salt d) = none := by
  have h : three (48 :: recL r salt d) = some (48 :: Lib.itoa r, hexL salt, hexL d) := by
    have := three_join (48 :: Lib.itoa r) (hexL salt) (hexL d) (by have := itoa_colon r; simp [this]) (hexL_colon salt)
    exact this
  rw [recOf_three h]
  exact recOf3_a (parse_zero_more r)
/-- One digit of the last part changed. -/
theorem unhexL_set : ∀ (l : List UInt8) (k : Nat) (c : UInt8) (d : List UInt8), unhexL l = some d → (digV c).isSome = true → k < l.length → ∃ d', unhexL (l.set k c) = some d' ∧ d'.length = d.length
  | [], k, c, d, h, hc, hk => by simp at hk
  | [_], k, c, d, h, hc, hk => by cases h
  | a :: b :: r, k, c, d, h, hc, hk => by
    rw [unhexL_cons] at h
    split at h
    · rename_i x y o hx hy ho
      injection h with h
      subst h
      obtain ⟨v, hv⟩ := Option.isSome_iff_exists.1 hc
      match k, hk with
      | 0, _ => exact ⟨UInt8.ofNat (16 * v + y) :: o, by rw [List.set_cons_zero, unhexL_cons, hv, hy, ho], by simp⟩
      | 1, _ => exact ⟨UInt8.ofNat (16 * x + v) :: o, by rw [List.set_cons_succ, List.set_cons_zero, unhexL_cons, hx, hv, ho], by simp⟩
      | k + 2, hk =>
        obtain ⟨o', h1, h2⟩ := unhexL_set r k c o ho hc (by simp at hk; omega)
        exact ⟨UInt8.ofNat (16 * x + y) :: o', by rw [List.set_cons_succ, List.set_cons_succ, unhexL_cons, hx, hy, h1], by simp [h2]⟩
    · cases h
theorem set_ne {l : List UInt8} {k : Nat} {c : UInt8} (hk : k < l.length) (hc : l[k] ≠ c) : l.set k c ≠ l := by
  intro e
  have : (l.set k c)[k]'(by simpa using hk) = l[k] := by simp only [e]
  rw [List.getElem_set_self] at this
  exact hc this.symm
theorem hex_changed (d : List UInt8) (k : Nat) (c : UInt8) (hk : k < (hexL d).length) (hc : (digV c).isSome = true) (hne : (hexL d)[k] ≠ c) : ∃ d', unhexL ((hexL d).set k c) = some d' ∧ d'.length = d.length ∧ d' ≠ d := by
  obtain ⟨d', h1, h2⟩ := unhexL_set (hexL d) k c d (unhex_hex d) hc hk
  refine ⟨d', h1, h2, fun e => ?_⟩
  subst e
  exact set_ne hk hne (hex_unhex _ _ h1).symm
theorem recL_length (r : Int) (salt d : List UInt8) (h : (Lib.itoa r).length = 1) (hd : d.length = 32) : (recL r salt d).length = 2 * salt.length + 67 := by
  simp [recL, hexL_length, h, hd]
  omega
theorem itoa_1 : Lib.itoa 1 = [49] := by decide +kernel
theorem itoa_2 : Lib.itoa 2 = [50] := by decide +kernel
theorem itoa_3 : Lib.itoa 3 = [51] := by decide +kernel
theorem itoa_4 : Lib.itoa 4 = [52] := by decide +kernel
theorem itoa_small (r : Int) (h : 1 ≤ r ∧ r ≤ 64) : (Lib.itoa r).length ≤ 2 := by
  have key : ∀ n : Nat, n ≤ 64 → (Lib.itoa (n : Int)).length ≤ 2 := by decide +kernel
  have := key r.toNat (by omega)
  rwa [show ((r.toNat : Nat) : Int) = r by omega] at this

end Go.Proofs.YtjcohlpjlifolaaDoor.MacM
