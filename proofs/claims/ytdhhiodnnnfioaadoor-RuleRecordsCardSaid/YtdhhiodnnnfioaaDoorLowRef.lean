/-
  The document's own Lower of layer 1 (package tipstaffref01).
-/
import Derived.Test.YtdhhiodnnnfioaaDoorChecked
import Derived.Test.YtdhhiodnnnfioaaDoorLow
import Derived.OwnWalk
import Derived.Laws.OwnMore
import Derived.BigQuiet
import Derived.Lib.Hide
namespace Go.Proofs.YtdhhiodnnnfioaaDoor.LowR
open Go.RowKit Kit Low
set_option linter.unusedVariables false
set_option maxRecDepth 100000

theorem u8_info : (Tryd.prog.info? 5).map (fun i => (i.zero, i.size, i.bytes)) = some (some (.int .u8 0), 1, 1) := by kernel_rfl

set_option maxHeartbeats 800000 in
theorem lower_ref (s : ByteArray) (w : World) (hz : s.size ≤ 281474976710656) (hz2 : s.size ≤ 140737488351232) :
    Calls Tryd.prog 38 #[.string s] w fun e w' => e = .returned (.string ⟨(lowL s.data.toList).toArray⟩) ∧ Below w.heap.size w w' := by
  obtain ⟨i0, hi0, hz0, hz1, hzb⟩ := info_parts u8_info
  have HL := Lib.hid (show s.data.toList.length = s.size by simp)
  go_enter Tryd.func38, Tryd.ntmps38
  go_wp2
  go_loopw [3, 4] (fun v i wr => ∃ k : Nat, k ≤ s.size ∧ i = .int .i64 k ∧ Below w.heap.size w wr ∧ wr.ownsRow w.heap.size 5 1 v k (bv (lowL (s.data.toList.take k)))) (fun _ i _ => s.size - (intOf i).toNat)
  case atStart => exact ⟨0, Nat.zero_le _, rfl, (Below.refl _ _).alloc (Nat.le_refl _) _, World.ownsRow_lit w #[] 0 (Nat.le_refl _) (by simp [maxLen]) rfl⟩
  case round =>
    obtain ⟨k, hk, rfl, hb, hown⟩ := hrel
    have hbs := hb.size
    by_cases hlt : k < s.size
    · obtain ⟨c, hc⟩ : ∃ c, c = s[k] := ⟨_, rfl⟩
      have hsn : lowL (s.data.toList.take (k + 1)) = lowL (s.data.toList.take k) ++ [lowByte s[k]] := by rw [take_snoc s k hlt]; simp [lowL]
      have HSN := Lib.hid hsn
      clear hsn
      by_cases h1 : 65 ≤ s[k].toNat
      · by_cases h2 : s[k].toNat ≤ 90
        · have hup := Lib.hid (low_up h1 h2)
          go_wp2_with (at_builtin; refine wpList_append_own _ rfl (.tmp 24) (.tmp 26) 40 rfl w.heap.size 5 i0 (.int .u8 0) 1 1 Tryd.underlying40 hi0 hz0 hz1 hzb rfl (by decide) u3 k _ rfl (hown.alloc _) ⟨wr.heap.size, 0, none⟩ 1 1 [.int .u8 ((s[k].toNat : Int) + 32)] rfl rfl (one_news _ _ _) (by simp [Value.oneCell']) (by unfold maxLen; omega) (by omega) (by simp; omega) ?_; intro v' w1 hown1 hgrow _)
          go_roundw
          case rel => exact ⟨k + 1, by omega, by go_num, (hb.alloc hbs _).grown hgrow (by simp; omega) (own_base hown), by rw [HSN.out, bv_snoc, show ((lowByte s[k]).toNat : Int) = (s[k].toNat : Int) + 32 by rw [hup.out]; omega]; exact hown1⟩
          case measure => simp [intOf]; omega
        · have hno := Lib.hid (low_not (c := s[k]) (by omega))
          go_wp2_with (at_builtin; refine wpList_append_own _ rfl (.tmp 24) (.tmp 26) 40 rfl w.heap.size 5 i0 (.int .u8 0) 1 1 Tryd.underlying40 hi0 hz0 hz1 hzb rfl (by decide) u3 k _ rfl (hown.alloc _) ⟨wr.heap.size, 0, none⟩ 1 1 [.int .u8 ((s[k].toNat : Int))] rfl rfl (one_news _ _ _) (by simp [Value.oneCell']) (by unfold maxLen; omega) (by omega) (by simp; omega) ?_; intro v' w1 hown1 hgrow _)
          go_roundw
          case rel => exact ⟨k + 1, by omega, by go_num, (hb.alloc hbs _).grown hgrow (by simp; omega) (own_base hown), by rw [HSN.out, bv_snoc, hno.out]; exact hown1⟩
          case measure => simp [intOf]; omega
      · have hno := Lib.hid (low_not (c := s[k]) (by omega))
        go_wp2_with (at_builtin; refine wpList_append_own _ rfl (.tmp 24) (.tmp 26) 40 rfl w.heap.size 5 i0 (.int .u8 0) 1 1 Tryd.underlying40 hi0 hz0 hz1 hzb rfl (by decide) u3 k _ rfl (hown.alloc _) ⟨wr.heap.size, 0, none⟩ 1 1 [.int .u8 ((s[k].toNat : Int))] rfl rfl (one_news _ _ _) (by simp [Value.oneCell']) (by unfold maxLen; omega) (by omega) (by simp; omega) ?_; intro v' w1 hown1 hgrow _)
        go_roundw
        case rel => exact ⟨k + 1, by omega, by go_num, (hb.alloc hbs _).grown hgrow (by simp; omega) (own_base hown), by rw [HSN.out, bv_snoc, hno.out]; exact hown1⟩
        case measure => simp [intOf]; omega
    · have e : lowL (s.data.toList.take k) = lowL s.data.toList := by rw [List.take_of_length_le (by rw [HL.out]; omega)]
      rw [e] at hown
      have hback := run_own_string Tryd.underlying40 Tryd.underlying5 Tryd.underlying9 hown
      clear hown e
      go_wp2
      go_ret
      exact ⟨rfl, hb⟩

end Go.Proofs.YtdhhiodnnnfioaaDoor.LowR
