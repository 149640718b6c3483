/-
  Records as texts: their places, their parts, what becomes of them with a part changed.
-/
import Derived.Test.YtjcohlpjlifolaaDoorMacLaw
namespace Go.Proofs.YtjcohlpjlifolaaDoor.MacT
open Go.RowKit Kit ShaMath ShaT MacM HexMath NumMath
set_option linter.unusedVariables false
set_option maxRecDepth 100000

/-- A place of a text. -/
theorem idx_at (R : ByteArray) (i : Nat) (c : UInt8) (h : R.data.toList[i]? = some c) (k : Int) (hk : k = (i : Int)) (w : World) : (Instr.index 9 (.string R) (.int .i64 k)).run Tryd.prog w = .ok (.int .u8 (c.toNat : Int)) w := by
  subst hk
  have hl : R.data.toList.length = R.size := by simp
  have hi : i < R.size := by
    rcases Nat.lt_or_ge i R.size with h' | h'
    · exact h'
    · rw [List.getElem?_eq_none (by omega)] at h; cases h
  rw [run_index_string _ _ _ _ _ Tryd.underlying9, dif_pos ⟨by omega, by omega⟩]
  have e : R[i] = c := by
    rw [List.getElem?_eq_getElem (by omega)] at h
    injection h
  simp only [Int.toNat_natCast, e]
theorem itoa_digit (r : Nat) (h0 : 1 ≤ r) (h1 : r ≤ 3) : Lib.itoa (r : Int) = [UInt8.ofNat (48 + r)] := by
  match r, h0, h1 with
  | 1, _, _ => exact itoa_1
  | 2, _, _ => exact itoa_2
  | 3, _, _ => exact itoa_3
theorem rec_list (r : Nat) (h0 : 1 ≤ r) (h1 : r ≤ 3) (salt d : List UInt8) : recL r salt d = UInt8.ofNat (48 + r) :: 58 :: (hexL salt ++ 58 :: hexL d) := by
  unfold recL
  rw [itoa_digit r h0 h1]
  rfl
theorem hexL_take : ∀ (d : List UInt8) (k : Nat), (hexL d).take (2 * k) = hexL (d.take k)
  | [], k => by simp [hexL]
  | c :: r, 0 => by simp [hexL]
  | c :: r, k + 1 => by
    rw [show 2 * (k + 1) = 2 * k + 1 + 1 by omega]
    simp only [hexL, List.take_succ_cons, hexL_take r k]
theorem unhex_more (d : List UInt8) : unhexL (hexL d ++ [48, 48]) = some (d ++ [0]) := by
  rw [unhex_append _ _ _ (unhex_hex d)]
  have : unhexL [48, 48] = some [0] := by decide +kernel
  rw [this]
  rfl
theorem unhex_blank (d : List UInt8) : unhexL (hexL d ++ [32]) = none := by
  apply unhex_odd
  rw [List.length_append, hexL_length]
  simp
theorem rec_cut {r : Int} (hr : 1 ≤ r ∧ r ≤ 64) (salt d : List UInt8) (hd : d.length = 32) : recOf ((recL r salt d).take ((recL r salt d).length - 2)) = none := by
  have e : (recL r salt d).take ((recL r salt d).length - 2) = Lib.itoa r ++ 58 :: (hexL salt ++ 58 :: hexL (d.take 31)) := by
    unfold recL
    have hl : (hexL d).length = 64 := by rw [hexL_length, hd]
    have e2 : (Lib.itoa r ++ 58 :: (hexL salt ++ 58 :: hexL d)).length - 2 = (Lib.itoa r ++ 58 :: (hexL salt ++ [58])).length + 62 := by
      simp [hl]
      omega
    have e3 : Lib.itoa r ++ 58 :: (hexL salt ++ 58 :: hexL d) = (Lib.itoa r ++ 58 :: (hexL salt ++ [58])) ++ hexL d := by simp
    rw [e2, e3, List.take_length_add_append, hexL_take d 31]
    simp
  rw [e]
  exact last_len (by omega) (unhex_hex _) (by rw [List.length_take]; omega)
theorem rec_more {r : Int} (hr : 1 ≤ r ∧ r ≤ 64) (salt d : List UInt8) (hd : d.length = 32) : recOf (recL r salt d ++ [48, 48]) = none := by
  have e : recL r salt d ++ [48, 48] = Lib.itoa r ++ 58 :: (hexL salt ++ 58 :: (hexL d ++ [48, 48])) := by unfold recL; simp
  rw [e]
  exact last_len (by omega) (unhex_more d) (by simp; omega)
theorem rec_blank {r : Int} (salt d : List UInt8) : recOf (recL r salt d ++ [32]) = none := by
  have e : recL r salt d ++ [32] = Lib.itoa r ++ 58 :: (hexL salt ++ 58 :: (hexL d ++ [32])) := by unfold recL; simp
  rw [e]
  exact last_none (unhex_blank d)

theorem rec_parts (r : Int) (salt d : List UInt8) : recL r salt d = (Lib.itoa r ++ 58 :: (hexL salt ++ [58])) ++ hexL d := by unfold recL; simp
/-- One digit of the last part changed. -/
theorem rec_set {r : Int} (hr : 1 ≤ r ∧ r ≤ 64) (salt d : List UInt8) (hs : salt.length ≤ 32) (hd : d.length = 32) (k : Nat) (hk1 : (recL r salt d).length - 64 ≤ k) (hk2 : k < (recL r salt d).length) (c : UInt8) (hc : (digV c).isSome = true) (hne : (recL r salt d)[k] ≠ c) :
    ∃ d', recOf ((recL r salt d).set k c) = some (r, salt, d') ∧ d ≠ d' := by
  have hl : (hexL d).length = 64 := by rw [hexL_length, hd]
  obtain ⟨pre, hp⟩ : ∃ pre, pre = Lib.itoa r ++ 58 :: (hexL salt ++ [58]) := ⟨_, rfl⟩
  have e0 : recL r salt d = pre ++ hexL d := by rw [hp]; exact rec_parts r salt d
  have hlen : (recL r salt d).length = pre.length + 64 := by rw [e0, List.length_append, hl]
  have hpk : pre.length ≤ k := by omega
  have hj : k - pre.length < (hexL d).length := by omega
  have hne2 : (hexL d)[k - pre.length] ≠ c := by
    intro e
    apply hne
    rw [← e]
    simp only [e0]
    rw [List.getElem_append_right hpk]
  obtain ⟨d', h1, h2, h3⟩ := hex_changed d (k - pre.length) c hj hc hne2
  refine ⟨d', ?_, fun e => h3 e.symm⟩
  have e1 : (recL r salt d).set k c = Lib.itoa r ++ 58 :: (hexL salt ++ 58 :: (hexL d).set (k - pre.length) c) := by
    rw [e0, List.set_append_right _ _ hpk, hp]
    simp
  rw [e1]
  exact last_some hr hs h1 (by omega)
theorem rec_tail (r : Int) (salt d : List UInt8) (hd : d.length = 32) : (recL r salt d).drop ((recL r salt d).length - 64) = hexL d := by
  have hl : (hexL d).length = 64 := by rw [hexL_length, hd]
  rw [rec_parts]
  rw [List.length_append, hl, Nat.add_sub_cancel]
  exact List.drop_left

end Go.Proofs.YtjcohlpjlifolaaDoor.MacT
