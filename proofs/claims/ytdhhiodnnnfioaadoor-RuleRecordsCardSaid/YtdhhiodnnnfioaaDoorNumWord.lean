/-
  What num's functions that call no library come to: Word, Lower.
-/
import Derived.Test.YtdhhiodnnnfioaaDoorChecked
import Derived.Test.YtdhhiodnnnfioaaDoorKit
import Derived.BigQuiet
import Derived.Deep.QuietTactic
import Derived.Lib.Hide
namespace Go.Proofs.YtdhhiodnnnfioaaDoor.NumW
open Go.RowKit Kit
set_option maxRecDepth 100000

/-- A byte of a word. -/
def okByte (c : UInt8) : Bool := decide (33 ≤ c.toNat) && decide (c.toNat ≤ 126)
/-- num.Word. -/
def wordB (l : List UInt8) : Bool := l.all okByte && !l.isEmpty

theorem okByte_yes {c : UInt8} (h1 : 33 ≤ c.toNat) (h2 : c.toNat ≤ 126) : okByte c = true := by simp [okByte, h1, h2]
theorem all_snoc (s : ByteArray) (k : Nat) (h : k < s.size) (ha : (s.data.toList.take k).all okByte = true) (h1 : 33 ≤ s[k].toNat) (h2 : s[k].toNat ≤ 126) : (s.data.toList.take (k + 1)).all okByte = true := by
  rw [take_snoc s k h, List.all_append, ha]
  simp [okByte_yes h1 h2]
theorem word_no (s : ByteArray) (k : Nat) (h : k < s.size) (hb : ¬ (33 ≤ s[k].toNat ∧ s[k].toNat ≤ 126)) : wordB s.data.toList = false := by
  have hm : s[k] ∈ s.data.toList := by
    have : s[k] = s.data.toList[k]'(by simpa using h) := rfl
    rw [this]; exact List.getElem_mem _
  have : s.data.toList.all okByte = false := by
    rw [List.all_eq_false]
    refine ⟨_, hm, ?_⟩
    simp [okByte]
    omega
  simp [wordB, this]

set_option maxHeartbeats 400000 in
theorem word_any (s : ByteArray) (w : World) (hs : s.size ≤ maxLen) :
    Calls Tryd.prog 36 #[.string s] w fun e w' => e = .returned (.bool (wordB s.data.toList)) ∧ w = w' := by
  unfold maxLen at hs
  go_enter Tryd.func36, Tryd.ntmps36
  go_wp2
  go_loop [3] (fun i => ∃ k : Nat, k ≤ s.size ∧ i = .int .i64 k ∧ (s.data.toList.take k).all okByte = true) (fun i => s.size - (intOf i).toNat)
  case atStart => exact ⟨0, Nat.zero_le _, rfl, rfl⟩
  case round =>
    obtain ⟨k, hk, rfl, hall⟩ := hrel
    have HA := hall
    have HAh : Hid ((s.data.toList.take k).all okByte = true) := HA
    clear hall HA
    by_cases hlt : k < s.size
    · by_cases h1 : 33 ≤ s[k].toNat
      · by_cases h2 : s[k].toNat ≤ 126
        · go_wp2
          go_round
          case rel => exact ⟨k + 1, by omega, by go_num, all_snoc s k hlt HAh.out h1 h2⟩
          case measure => simp [intOf]; omega
        · have HN : Hid (wordB s.data.toList = false) := word_no s k hlt (by omega)
          go_wp2
          go_ret
          exact ⟨ret_bool HN.out.symm, rfl⟩
      · have HN : Hid (wordB s.data.toList = false) := word_no s k hlt (by omega)
        go_wp2
        go_ret
        exact ⟨ret_bool HN.out.symm, rfl⟩
    · have HN : Hid (wordB s.data.toList = !s.data.toList.isEmpty) := by
        have e : s.data.toList.take k = s.data.toList := List.take_of_length_le (by simp; omega)
        have := HAh.out
        rw [e] at this
        show wordB _ = _
        simp [wordB, this]
      go_wp2
      go_ret
      exact ⟨ret_bool (by rw [HN.out, ByteArray.toList_eq]), rfl⟩

/-- num.Lower. -/
def lowByte (c : UInt8) : UInt8 := if 65 ≤ c.toNat ∧ c.toNat ≤ 90 then c + 32 else c
def lowL (l : List UInt8) : List UInt8 := l.map lowByte
def mixL (k : Nat) (l : List UInt8) : List UInt8 := lowL (l.take k) ++ l.drop k
theorem mixL_length (k : Nat) (l : List UInt8) : (mixL k l).length = l.length := by simp [mixL, lowL]; omega
theorem mixL_at (k : Nat) (l : List UInt8) (h : k < l.length) : (mixL k l)[k]'(by rw [mixL_length]; exact h) = l[k] := by
  unfold mixL lowL
  rw [List.getElem_append_right (by simp; omega)]
  simp [Nat.min_eq_left (Nat.le_of_lt h)]
theorem mixL_set (k : Nat) (l : List UInt8) (h : k < l.length) : (mixL k l).set k (lowByte l[k]) = mixL (k + 1) l := by
  unfold mixL lowL
  have e : (List.map lowByte (List.take k l)).length = k := by simp; omega
  rw [List.set_append_right _ _ (by omega), e, Nat.sub_self, List.drop_eq_getElem_cons h, List.set_cons_zero, List.take_succ_eq_append_getElem h, List.map_append]
  simp
theorem mixL_same (k : Nat) (l : List UInt8) (h : k < l.length) (hn : lowByte l[k] = l[k]) : mixL (k + 1) l = mixL k l := by
  rw [← mixL_set k l h, hn, ← mixL_at k l h, List.set_getElem_self]
theorem mixL_all (k : Nat) (l : List UInt8) (h : ¬ k < l.length) : mixL k l = lowL l := by
  unfold mixL
  rw [List.take_of_length_le (by omega), List.drop_eq_nil_of_le (by omega), List.append_nil]
theorem low_up {c : UInt8} (h1 : 65 ≤ c.toNat) (h2 : c.toNat ≤ 90) : ((lowByte c).toNat : Int) = (c.toNat : Int) + 97 - 65 := by
  unfold lowByte
  rw [if_pos ⟨h1, h2⟩, UInt8.toNat_add]
  have : (32 : UInt8).toNat = 32 := rfl
  omega
theorem low_not {c : UInt8} (h : ¬ (65 ≤ c.toNat ∧ c.toNat ≤ 90)) : lowByte c = c := if_neg h

set_option maxHeartbeats 400000 in
theorem lower_any (s : ByteArray) (w : World) (hs : s.size ≤ maxLen) :
    Calls Tryd.prog 49 #[.string s] w fun e w' => e = .returned (.string ⟨(lowL s.data.toList).toArray⟩) ∧ Below w.heap.size w w' := by
  unfold maxLen at hs
  have hconv := fun W => Lib.run_convert_string_bytes (P := Tryd.prog) W 9 40 5 s Tryd.underlying9 Tryd.underlying40 Tryd.underlying5
  have HL := Lib.hid (show s.data.toList.length = s.size by simp)
  go_enter Tryd.func49, Tryd.ntmps49
  go_wp2
  go_loopw [10] (fun i wr => ∃ k : Nat, k ≤ s.size ∧ i = .int .i64 k ∧ Below w.heap.size w wr ∧ Row8 wr w.heap.size (mixL k s.data.toList)) (fun i _ => s.size - (intOf i).toNat)
  case atStart => exact ⟨0, Nat.zero_le _, rfl, bytesWorld_below _ _ _, bytesWorld_row _ _ _⟩
  case round =>
    obtain ⟨k, hk, rfl, hb, hrow⟩ := hrel
    clear hconv
    have HR := Lib.hid hrow
    clear hrow
    by_cases hlt : k < s.size
    · have hlt' : k < s.data.toList.length := by rw [HL.out]; exact hlt
      have hltm : k < (mixL k s.data.toList).length := by rw [mixL_length]; exact hlt'
      have hcell := HR.out.at_ k hltm
      rw [mixL_at k _ hlt'] at hcell
      have hfrz := HR.out.frz k hltm
      obtain ⟨c, hc⟩ : ∃ c, c = s.data.toList[k] := ⟨_, rfl⟩
      rw [← hc] at hcell
      have HC := Lib.hid hc
      clear hc
      have hc255 : c.toNat < 256 := c.toNat_lt
      by_cases h1 : 65 ≤ c.toNat
      · by_cases h2 : c.toNat ≤ 90
        · have hup := Lib.hid (low_up h1 h2)
          go_wp2
          go_roundw
          case rel =>
            refine ⟨k + 1, by omega, by go_num, hb.setCell (Nat.le_refl _) _, ?_⟩
            rw [← mixL_set k _ hlt', ← HC.out]
            have := HR.out.set k hltm (lowByte c)
            rw [hup.out] at this
            exact this
          case measure => simp [intOf]; omega
        · have hn := Lib.hid (low_not (c := c) (by omega))
          go_wp2
          go_roundw
          case rel => exact ⟨k + 1, by omega, by go_num, hb, by rw [mixL_same k _ hlt' (by rw [← HC.out, hn.out])]; exact HR.out⟩
          case measure => simp [intOf]; omega
      · have hn := Lib.hid (low_not (c := c) (by omega))
        go_wp2
        go_roundw
        case rel => exact ⟨k + 1, by omega, by go_num, hb, by rw [mixL_same k _ hlt' (by rw [← HC.out, hn.out])]; exact HR.out⟩
        case measure => simp [intOf]; omega
    · have hrow := HR.out
      rw [mixL_all k _ (by rw [HL.out]; exact hlt)] at hrow
      have hback := fun cap => run_row_string (P := Tryd.prog) wr 40 5 9 Tryd.underlying40 Tryd.underlying5 Tryd.underlying9 w.heap.size _ hrow s.size cap (by rw [lowL, List.length_map, HL.out])
      clear hrow
      go_wp2
      go_ret
      exact ⟨rfl, hb⟩

end Go.Proofs.YtdhhiodnnnfioaaDoor.NumW
