/-
  What the document's own Word of layer 1 (package tipstaffref01) comes to.
-/
import Derived.Test.YtdhhiodnnnfioaaDoorNumWord
namespace Go.Proofs.YtdhhiodnnnfioaaDoor.Ref01
set_option linter.unusedVariables false
set_option maxRecDepth 100000
open Go.RowKit Kit NumW

set_option maxHeartbeats 400000 in
theorem word_ref (s : ByteArray) (w : World) (hs : s.size ≤ maxLen) :
    Calls Tryd.prog 13 #[.string s] w fun e w' => e = .returned (.bool (wordB s.data.toList)) ∧ w = w' := by
  unfold maxLen at hs
  go_enter Tryd.func13, Tryd.ntmps13
  go_wp2
  go_loop [3] (fun i => ∃ k : Nat, k ≤ s.size ∧ i = .int .i64 k ∧ (s.data.toList.take k).all okByte = true) (fun i => s.size - (intOf i).toNat)
  case atStart => exact ⟨0, Nat.zero_le _, rfl, rfl⟩
  case round =>
    obtain ⟨k, hk, rfl, hall⟩ := hrel
    have HA := hall
    have HAh : Hid ((s.data.toList.take k).all okByte = true) := HA
    clear hall HA
    by_cases hlt : k < s.size
    · by_cases h1 : 33 ≤ s[k].toNat
      · by_cases h2 : s[k].toNat ≤ 126
        · go_wp2
          go_round
          case rel => exact ⟨k + 1, by omega, by go_num, all_snoc s k hlt HAh.out h1 h2⟩
          case measure => simp [intOf]; omega
        · have HN : Hid (wordB s.data.toList = false) := word_no s k hlt (by omega)
          go_wp2
          go_ret
          exact ⟨ret_bool HN.out.symm, rfl⟩
      · have HN : Hid (wordB s.data.toList = false) := word_no s k hlt (by omega)
        go_wp2
        go_ret
        exact ⟨ret_bool HN.out.symm, rfl⟩
    · have HN : Hid (wordB s.data.toList = decide (0 < s.size)) := by
        have e : s.data.toList.take k = s.data.toList := List.take_of_length_le (by simp; omega)
        have := HAh.out
        rw [e] at this
        show wordB _ = _
        rw [show wordB s.data.toList = !s.data.toList.isEmpty by simp [wordB, this]]
        have hl : s.data.toList.length = s.size := by simp
        cases hd : s.data.toList with
        | nil => rw [hd] at hl; simp at hl; rw [decide_eq_false (by omega)]; rfl
        | cons x y => rw [hd] at hl; simp at hl; rw [decide_eq_true (by omega)]; rfl
      go_wp2
      go_ret
      exact ⟨ret_bool (by rw [HN.out]), rfl⟩


end Go.Proofs.YtdhhiodnnnfioaaDoor.Ref01
