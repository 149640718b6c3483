/-
  What the document's own Add, Word, Lower and Part of layer 1 (package tipstaffref01) come to.
-/
import Derived.Test.YtioleajmfgglhaaDoorRef01b
namespace Go.Proofs.YtioleajmfgglhaaDoor.Ref01
set_option linter.unusedVariables false
open Go.RowKit Kit NumMath NumW NumL

theorem u8_info : (Tryd.prog.info? 5).map (fun i => (i.zero, i.size, i.bytes)) = some (some (.int .u8 0), 1, 1) := by kernel_rfl

set_option maxHeartbeats 800000 in
theorem lower_ref (s : ByteArray) (w : World) (hz : s.size ≤ 281474976710656) (hz2 : s.size ≤ 140737488351232) :
    Calls Tryd.prog 19 #[.string s] w fun e w' => e = .returned (.string ⟨(lowL s.data.toList).toArray⟩) ∧ Below w.heap.size w w' := by
  obtain ⟨i0, hi0, hz0, hz1, hzb⟩ := info_parts u8_info
  have HL := Lib.hid (show s.data.toList.length = s.size by simp)
  go_enter Tryd.func19, Tryd.ntmps19
  go_wp2
  go_loopw [3, 4] (fun v i wr => ∃ k : Nat, k ≤ s.size ∧ i = .int .i64 k ∧ Below w.heap.size w wr ∧ wr.ownsRow w.heap.size 5 1 v k (bv (lowL (s.data.toList.take k)))) (fun _ i _ => s.size - (intOf i).toNat)
  case atStart => exact ⟨0, Nat.zero_le _, rfl, (Below.refl _ _).alloc (Nat.le_refl _) _, World.ownsRow_lit w #[] 0 (Nat.le_refl _) (by simp [maxLen]) rfl⟩
  case round =>
    obtain ⟨k, hk, rfl, hb, hown⟩ := hrel
    have hbs := hb.size
    by_cases hlt : k < s.size
    · obtain ⟨c, hc⟩ : ∃ c, c = s[k] := ⟨_, rfl⟩
      have hsn : lowL (s.data.toList.take (k + 1)) = lowL (s.data.toList.take k) ++ [lowByte s[k]] := by rw [take_snoc s k hlt]; simp [lowL]
      have HSN := Lib.hid hsn
      clear hsn
      by_cases h1 : 65 ≤ s[k].toNat
      · by_cases h2 : s[k].toNat ≤ 90
        · have hup := Lib.hid (low_up h1 h2)
          go_wp2_with (at_builtin; refine wpList_append_own _ rfl (.tmp 24) (.tmp 26) 42 rfl w.heap.size 5 i0 (.int .u8 0) 1 1 Tryd.underlying42 hi0 hz0 hz1 hzb rfl (by decide) u3 k _ rfl (hown.alloc _) ⟨wr.heap.size, 0, none⟩ 1 1 [.int .u8 ((s[k].toNat : Int) + 32)] rfl rfl (one_news _ _ _) (by simp [Value.oneCell']) (by unfold maxLen; omega) (by omega) (by simp; omega) ?_; intro v' w1 hown1 hgrow _)
          go_roundw
          case rel => exact ⟨k + 1, by omega, by go_num, (hb.alloc hbs _).grown hgrow (by simp; omega) (own_base hown), by rw [HSN.out, bv_snoc, show ((lowByte s[k]).toNat : Int) = (s[k].toNat : Int) + 32 by rw [hup.out]; omega]; exact hown1⟩
          case measure => simp [intOf]; omega
        · have hno := Lib.hid (low_not (c := s[k]) (by omega))
          go_wp2_with (at_builtin; refine wpList_append_own _ rfl (.tmp 24) (.tmp 26) 42 rfl w.heap.size 5 i0 (.int .u8 0) 1 1 Tryd.underlying42 hi0 hz0 hz1 hzb rfl (by decide) u3 k _ rfl (hown.alloc _) ⟨wr.heap.size, 0, none⟩ 1 1 [.int .u8 ((s[k].toNat : Int))] rfl rfl (one_news _ _ _) (by simp [Value.oneCell']) (by unfold maxLen; omega) (by omega) (by simp; omega) ?_; intro v' w1 hown1 hgrow _)
          go_roundw
          case rel => exact ⟨k + 1, by omega, by go_num, (hb.alloc hbs _).grown hgrow (by simp; omega) (own_base hown), by rw [HSN.out, bv_snoc, hno.out]; exact hown1⟩
          case measure => simp [intOf]; omega
      · have hno := Lib.hid (low_not (c := s[k]) (by omega))
        go_wp2_with (at_builtin; refine wpList_append_own _ rfl (.tmp 24) (.tmp 26) 42 rfl w.heap.size 5 i0 (.int .u8 0) 1 1 Tryd.underlying42 hi0 hz0 hz1 hzb rfl (by decide) u3 k _ rfl (hown.alloc _) ⟨wr.heap.size, 0, none⟩ 1 1 [.int .u8 ((s[k].toNat : Int))] rfl rfl (one_news _ _ _) (by simp [Value.oneCell']) (by unfold maxLen; omega) (by omega) (by simp; omega) ?_; intro v' w1 hown1 hgrow _)
        go_roundw
        case rel => exact ⟨k + 1, by omega, by go_num, (hb.alloc hbs _).grown hgrow (by simp; omega) (own_base hown), by rw [HSN.out, bv_snoc, hno.out]; exact hown1⟩
        case measure => simp [intOf]; omega
    · have e : lowL (s.data.toList.take k) = lowL s.data.toList := by rw [List.take_of_length_le (by rw [HL.out]; omega)]
      rw [e] at hown
      have hback := run_own_string Tryd.underlying42 Tryd.underlying5 Tryd.underlying9 hown
      clear hown e
      go_wp2
      go_ret
      exact ⟨rfl, hb⟩
theorem add_ref (a b : Int) (w : World) (ha0 : -9223372036854775808 ≤ a) (ha1 : a ≤ 9223372036854775807) (hb0 : -9223372036854775808 ≤ b) (hb1 : b ≤ 9223372036854775807) :
    Calls Tryd.prog 15 #[.int .i64 a, .int .i64 b] w fun e w' => e = .returned (.tuple #[.int .i64 (addV a b), .bool (addB a b)]) ∧ w = w' := by
  by_cases sa : a < 0
  · have da : decide (a < 0) = true := decide_eq_true sa
    by_cases sb : b < 0
    · have db : decide (b < 0) = true := decide_eq_true sb
      by_cases h : -9223372036854775808 ≤ a + b
      · have H := Lib.hid (add_yes (a := a) (b := b) (by omega))
        have ds : decide (a + b < 0) = true := decide_eq_true (by omega)
        go_enter Tryd.func15, Tryd.ntmps15
        go_wp2
        go_ret2
        exact ⟨ret_ib H.out.1.symm H.out.2.symm, rfl⟩
      · have H := Lib.hid (add_no (a := a) (b := b) (by omega))
        have ds : decide (wrap64 (a + b) < 0) = false := decide_eq_false (by unfold wrap64; omega)
        clear h
        go_enter Tryd.func15, Tryd.ntmps15
        go_wp2
        go_ret2
        exact ⟨ret_ib H.out.1.symm H.out.2.symm, rfl⟩
    · have db : decide (b < 0) = false := decide_eq_false sb
      have H := Lib.hid (add_yes (a := a) (b := b) (by omega))
      go_enter Tryd.func15, Tryd.ntmps15
      go_wp2
      go_ret2
      exact ⟨ret_ib H.out.1.symm H.out.2.symm, rfl⟩
  · have da : decide (a < 0) = false := decide_eq_false sa
    by_cases sb : b < 0
    · have db : decide (b < 0) = true := decide_eq_true sb
      have H := Lib.hid (add_yes (a := a) (b := b) (by omega))
      go_enter Tryd.func15, Tryd.ntmps15
      go_wp2
      go_ret2
      exact ⟨ret_ib H.out.1.symm H.out.2.symm, rfl⟩
    · have db : decide (b < 0) = false := decide_eq_false sb
      by_cases h : a + b ≤ 9223372036854775807
      · have H := Lib.hid (add_yes (a := a) (b := b) (by omega))
        have ds : decide (a + b < 0) = false := decide_eq_false (by omega)
        go_enter Tryd.func15, Tryd.ntmps15
        go_wp2
        go_ret2
        exact ⟨ret_ib H.out.1.symm H.out.2.symm, rfl⟩
      · have H := Lib.hid (add_no (a := a) (b := b) (by omega))
        have ds : decide (wrap64 (a + b) < 0) = true := decide_eq_true (by unfold wrap64; omega)
        clear h
        go_enter Tryd.func15, Tryd.ntmps15
        go_wp2
        go_ret2
        exact ⟨ret_ib H.out.1.symm H.out.2.symm, rfl⟩

set_option maxHeartbeats 400000 in
theorem word_ref (s : ByteArray) (w : World) (hs : s.size ≤ maxLen) :
    Calls Tryd.prog 21 #[.string s] w fun e w' => e = .returned (.bool (wordB s.data.toList)) ∧ w = w' := by
  unfold maxLen at hs
  go_enter Tryd.func21, Tryd.ntmps21
  go_wp2
  go_loop [3] (fun i => ∃ k : Nat, k ≤ s.size ∧ i = .int .i64 k ∧ (s.data.toList.take k).all okByte = true) (fun i => s.size - (intOf i).toNat)
  case atStart => exact ⟨0, Nat.zero_le _, rfl, rfl⟩
  case round =>
    obtain ⟨k, hk, rfl, hall⟩ := hrel
    have HA := hall
    have HAh : Hid ((s.data.toList.take k).all okByte = true) := HA
    clear hall HA
    by_cases hlt : k < s.size
    · by_cases h1 : 33 ≤ s[k].toNat
      · by_cases h2 : s[k].toNat ≤ 126
        · go_wp2
          go_round
          case rel => exact ⟨k + 1, by omega, by go_num, all_snoc s k hlt HAh.out h1 h2⟩
          case measure => simp [intOf]; omega
        · have HN : Hid (wordB s.data.toList = false) := word_no s k hlt (by omega)
          go_wp2
          go_ret
          exact ⟨ret_bool HN.out.symm, rfl⟩
      · have HN : Hid (wordB s.data.toList = false) := word_no s k hlt (by omega)
        go_wp2
        go_ret
        exact ⟨ret_bool HN.out.symm, rfl⟩
    · have HN : Hid (wordB s.data.toList = decide (0 < s.size)) := by
        have e : s.data.toList.take k = s.data.toList := List.take_of_length_le (by simp; omega)
        have := HAh.out
        rw [e] at this
        show wordB _ = _
        rw [show wordB s.data.toList = !s.data.toList.isEmpty by simp [wordB, this]]
        have hl : s.data.toList.length = s.size := by simp
        cases hd : s.data.toList with
        | nil => rw [hd] at hl; simp at hl; rw [decide_eq_false (by omega)]; rfl
        | cons x y => rw [hd] at hl; simp at hl; rw [decide_eq_true (by omega)]; rfl
      go_wp2
      go_ret
      exact ⟨ret_bool (by rw [HN.out]), rfl⟩


end Go.Proofs.YtioleajmfgglhaaDoor.Ref01
