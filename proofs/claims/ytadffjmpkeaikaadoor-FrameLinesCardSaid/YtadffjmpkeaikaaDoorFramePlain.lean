/-
  What a text without blanks and lines' ends comes to, for FrameLines.
-/
import Derived.Test.YtadffjmpkeaikaaDoorFrameLines0
namespace Go.Proofs.YtadffjmpkeaikaaDoor.FrameL
open Go.RowKit Kit BytesIn ReplyMath ReplyT FrameMath FrameT
set_option linter.unusedVariables false
set_option maxRecDepth 100000

theorem okB_yes {c : UInt8} (h : okB c = true) : ((c.toNat : Int) != 32) = true ∧ ((c.toNat : Int) != 13) = true ∧ ((c.toNat : Int) != 10) = true := by
  simp only [okB, Bool.and_eq_true, bne_iff_ne] at h
  refine ⟨?_, ?_, ?_⟩ <;> rw [bne_iff_ne] <;> intro e
  · exact h.1.1 (UInt8.toNat_inj.1 (show c.toNat = 32 by omega))
  · exact h.1.2 (UInt8.toNat_inj.1 (show c.toNat = 13 by omega))
  · exact h.2 (UInt8.toNat_inj.1 (show c.toNat = 10 by omega))
theorem okB_no {c : UInt8} (h : okB c = false) : c = 32 ∨ c = 13 ∨ c = 10 := by
  apply Classical.byContradiction
  intro hn
  simp only [not_or] at hn
  have : okB c = true := by simp [okB, hn]
  rw [h] at this
  cases this

set_option maxHeartbeats 2000000 in
theorem plain_any (S : ByteArray) (n : Nat) (w : World) (hn : S.size = n) (hz : n ≤ 140737488351232) :
    Calls Tryd.prog 24 #[.string S] w fun e w' => e = .returned (.string ⟨(plainL S.data.toList).toArray⟩) ∧ Below w.heap.size w w' := by
  have HL := Lib.hid (show S.data.toList.length = S.size by simp)
  have HO0 := Lib.hid (Own.new w)
  have HB0 := Lib.hid (below1 w (.cells #[] 5))
  subst hn
  go_enter Tryd.func24, Tryd.ntmps24
  go_wp2_with fail
  go_loopw [3, 4] (fun v i wr => ∃ k m : Nat, k ≤ S.size ∧ i = .int .i64 k ∧ (∃ q c, v = .slice q m c) ∧ m ≤ 15 ∧ Hid (m = (plainK S.data.toList k).length) ∧ Below w.heap.size w wr ∧ Hid (Own w.heap.size wr v (plainK S.data.toList k))) (fun _ i _ => S.size - (intOf i).toNat)
  case atStart => exact ⟨0, 0, Nat.zero_le _, rfl, ⟨_, _, rfl⟩, Nat.zero_le _, Lib.hid rfl, HB0.out, HO0⟩
  case round =>
    obtain ⟨k, m, hk, rfl, ⟨q, c, rfl⟩, hm, HM, hb, HO⟩ := hrel
    clear HO0 HB0
    have HBr := Lib.hid hb
    have hbs := hb.size
    by_cases hgo : k < S.size ∧ m < 15
    · obtain ⟨hlt, h15⟩ := hgo
      have d2 : decide ((m : Int) < 15) = true := decide_eq_true (by omega)
      have hkl : k < S.data.toList.length := by rw [HL.out]; exact hlt
      have hat : S.data.toList[k] = S[k] := by simp; rfl
      by_cases hc : okB S[k] = true
      · obtain ⟨t1, t2, t3⟩ := okB_yes hc
        have HN := Lib.hid (show plainK S.data.toList (k + 1) = plainK S.data.toList k ++ [S[k]] by rw [plainK_yes _ k hkl (by rw [hat]; exact hc), hat])
        have HOA := Lib.hid (own_keep HO.out (below1 wr (.cells #[.int .u8 (S[k].toNat : Int)] 5)))
        have HBA := Lib.hid (hb.alloc hbs (.cells #[.int .u8 (S[k].toNat : Int)] 5))
        have HL1 := Lib.hid (lit1_bs wr S[k] _ rfl)
        have HXl := Lib.hid (show (plainK S.data.toList k).length ≤ 1048576 by have := HM.out; omega)
        obtain ⟨X, hX⟩ : ∃ X, X = plainK S.data.toList k := ⟨_, rfl⟩
        rw [← hX] at HOA HN HXl HM
        clear HO hX hat hc hb
        go_wp2_with (at_builtin; refine wpList_append_bs (w0 := w) rfl (.tmp 33) (.tmp 37) rfl _ X rfl HOA.out HBA.out (some ⟨_, 0, none⟩) [S[k]] 1 1 rfl rfl HL1.out (fun h => by cases h) (by have := HXl.out; omega) _ rfl ?_; intro v1 w2 ho1 hb2)
        obtain ⟨q1, c1, hv1, -⟩ := ho1.ans
        have HO2 := Lib.hid ho1
        have HV1 := Lib.hid hv1
        clear ho1 hv1
        go_roundw
        case rel => exact ⟨k + 1, m + 1, by omega, by go_num, ⟨q1, c1, by rw [HV1.out, List.length_append, ← HM.out]; rfl⟩, by omega, by rw [HN.out, List.length_append, ← HM.out]; exact Lib.hid rfl, hb2, by rw [HN.out]; exact HO2⟩
        case measure => simp [intOf]; omega
      · have hc' : okB S[k] = false := by simpa using hc
        have HN := Lib.hid (show plainK S.data.toList (k + 1) = plainK S.data.toList k from plainK_no _ k hkl (by rw [hat]; exact hc'))
        have HNx := Lib.hid (show ∃ k' m' : Nat, k' ≤ S.size ∧ Value.int .i64 ((k : Int) + 1) = .int .i64 k' ∧ (∃ q' c', Value.slice q m c = .slice q' m' c') ∧ m' ≤ 15 ∧ Hid (m' = (plainK S.data.toList k').length) ∧ Below w.heap.size w wr ∧ Hid (Own w.heap.size wr (.slice q m c) (plainK S.data.toList k')) from
          ⟨k + 1, m, by omega, by go_num, ⟨q, c, rfl⟩, hm, by rw [HN.out]; exact HM, hb, by rw [HN.out]; exact HO⟩)
        have h3 := okB_no hc'
        clear hat hc hc' hb HO HM HN
        rcases h3 with h | h | h
        · have t1 : ((S[k].toNat : Int) != 32) = false := by rw [h]; rfl
          clear h
          go_wp2_with fail
          go_roundw
          case rel => exact HNx.out
          case measure => simp [intOf]; omega
        · have t1 : ((S[k].toNat : Int) != 32) = true := by rw [h]; rfl
          have t2 : ((S[k].toNat : Int) != 13) = false := by rw [h]; rfl
          clear h
          go_wp2_with fail
          go_roundw
          case rel => exact HNx.out
          case measure => simp [intOf]; omega
        · have t1 : ((S[k].toNat : Int) != 32) = true := by rw [h]; rfl
          have t2 : ((S[k].toNat : Int) != 13) = true := by rw [h]; rfl
          have t3 : ((S[k].toNat : Int) != 10) = false := by rw [h]; rfl
          clear h
          go_wp2_with fail
          go_roundw
          case rel => exact HNx.out
          case measure => simp [intOf]; omega
    · have HE := Lib.hid (plainK_end S.data.toList k (by rw [← HM.out]; exact hm) (by rw [← HM.out, HL.out]; omega))
      have hback := run_own_string Tryd.underlying22 Tryd.underlying5 Tryd.underlying9 HO.out
      rw [HE.out] at hback
      obtain ⟨T, hT⟩ : ∃ T, T = plainL S.data.toList := ⟨_, rfl⟩
      rw [← hT] at hback
      have HT := Lib.hid hT
      clear HO HE HM hT hb
      by_cases hlt : k < S.size
      · have d2 : decide ((m : Int) < 15) = false := decide_eq_false (by omega)
        go_wp2_with fail
        go_ret
        exact ⟨ret_str (by rw [HT.out]), HBr.out⟩
      · go_wp2_with fail
        go_ret
        exact ⟨ret_str (by rw [HT.out]), HBr.out⟩

end Go.Proofs.YtadffjmpkeaikaaDoor.FrameL
