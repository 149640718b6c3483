/-
  num.Lower.
-/
import Derived.Test.YtdhhiodnnnfioaaDoorChecked
import Derived.Test.YtdhhiodnnnfioaaDoorLow
import Derived.BigQuiet
import Derived.Deep.QuietTactic
import Derived.Lib.Hide
namespace Go.Proofs.YtdhhiodnnnfioaaDoor.LowN
open Go.RowKit Kit Low
set_option linter.unusedVariables false
set_option maxRecDepth 100000

set_option maxHeartbeats 400000 in
theorem lower_any (s : ByteArray) (w : World) (hs : s.size ≤ maxLen) :
    Calls Tryd.prog 49 #[.string s] w fun e w' => e = .returned (.string ⟨(lowL s.data.toList).toArray⟩) ∧ Below w.heap.size w w' := by
  unfold maxLen at hs
  have hconv := fun W => Lib.run_convert_string_bytes (P := Tryd.prog) W 9 40 5 s Tryd.underlying9 Tryd.underlying40 Tryd.underlying5
  have HL := Lib.hid (show s.data.toList.length = s.size by simp)
  go_enter Tryd.func49, Tryd.ntmps49
  go_wp2
  go_loopw [10] (fun i wr => ∃ k : Nat, k ≤ s.size ∧ i = .int .i64 k ∧ Below w.heap.size w wr ∧ Row8 wr w.heap.size (mixL k s.data.toList)) (fun i _ => s.size - (intOf i).toNat)
  case atStart => exact ⟨0, Nat.zero_le _, rfl, bytesWorld_below _ _ _, bytesWorld_row _ _ _⟩
  case round =>
    obtain ⟨k, hk, rfl, hb, hrow⟩ := hrel
    clear hconv
    have HR := Lib.hid hrow
    clear hrow
    by_cases hlt : k < s.size
    · have hlt' : k < s.data.toList.length := by rw [HL.out]; exact hlt
      have hltm : k < (mixL k s.data.toList).length := by rw [mixL_length]; exact hlt'
      have hcell := HR.out.at_ k hltm
      rw [mixL_at k _ hlt'] at hcell
      have hfrz := HR.out.frz k hltm
      obtain ⟨c, hc⟩ : ∃ c, c = s.data.toList[k] := ⟨_, rfl⟩
      rw [← hc] at hcell
      have HC := Lib.hid hc
      clear hc
      have hc255 : c.toNat < 256 := c.toNat_lt
      by_cases h1 : 65 ≤ c.toNat
      · by_cases h2 : c.toNat ≤ 90
        · have hup := Lib.hid (low_up h1 h2)
          go_wp2
          go_roundw
          case rel =>
            refine ⟨k + 1, by omega, by go_num, hb.setCell (Nat.le_refl _) _, ?_⟩
            rw [← mixL_set k _ hlt', ← HC.out]
            have := HR.out.set k hltm (lowByte c)
            rw [hup.out] at this
            exact this
          case measure => simp [intOf]; omega
        · have hn := Lib.hid (low_not (c := c) (by omega))
          go_wp2
          go_roundw
          case rel => exact ⟨k + 1, by omega, by go_num, hb, by rw [mixL_same k _ hlt' (by rw [← HC.out, hn.out])]; exact HR.out⟩
          case measure => simp [intOf]; omega
      · have hn := Lib.hid (low_not (c := c) (by omega))
        go_wp2
        go_roundw
        case rel => exact ⟨k + 1, by omega, by go_num, hb, by rw [mixL_same k _ hlt' (by rw [← HC.out, hn.out])]; exact HR.out⟩
        case measure => simp [intOf]; omega
    · have hrow := HR.out
      rw [mixL_all k _ (by rw [HL.out]; exact hlt)] at hrow
      have hback := fun cap => run_row_string (P := Tryd.prog) wr 40 5 9 Tryd.underlying40 Tryd.underlying5 Tryd.underlying9 w.heap.size _ hrow s.size cap (by rw [lowL, List.length_map, HL.out])
      clear hrow
      go_wp2
      go_ret
      exact ⟨rfl, hb⟩

end Go.Proofs.YtdhhiodnnnfioaaDoor.LowN
