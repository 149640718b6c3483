/-
  What the document's own ways of telling a reply (package tipstaffref05) come to.
-/
import Derived.Test.YteojijocoamohaaDoorReplyT
import Derived.Test.YteojijocoamohaaDoorRef01b
namespace Go.Proofs.YteojijocoamohaaDoor.RefR
open Go.RowKit Kit BytesIn ReplyMath ReplyT NumMath
set_option linter.unusedVariables false
set_option maxRecDepth 100000

theorem lit_one (c : UInt8) : (⟨#[c]⟩ : ByteArray).size = 1 := rfl
theorem lit_two (c d : UInt8) : (⟨#[c, d]⟩ : ByteArray).size = 2 := rfl
theorem flat_snoc (l : List UInt8) (c : UInt8) : flat (l ++ [c]) = flat l ++ [fl c] := by simp [flat]
theorem flat_len (l : List UInt8) : (flat l).length = l.length := by simp [flat]

set_option maxHeartbeats 2000000 in
theorem rflat (s : ByteArray) (w : World) (hz : s.size ≤ 1048576) :
    Calls Tryd.prog 34 #[.string s] w fun e w' => e = .returned (.string ⟨(flat s.data.toList).toArray⟩) ∧ Below w.heap.size w w' := by
  have HL := Lib.hid (show s.data.toList.length = s.size by simp)
  have HO0 := Lib.hid (Own.new w)
  go_enter Tryd.func34, Tryd.ntmps34
  go_wp2_with fail
  go_loopw [3, 4] (fun v i wr => ∃ k : Nat, k ≤ s.size ∧ i = .int .i64 k ∧ Below w.heap.size w wr ∧ Own w.heap.size wr v (flat (s.data.toList.take k))) (fun _ i _ => s.size - (intOf i).toNat)
  case atStart => exact ⟨0, Nat.zero_le _, rfl, below1 _ _, HO0.out⟩
  case round =>
    obtain ⟨k, hk, rfl, hb, hown⟩ := hrel
    have hbs := hb.size
    by_cases hlt : k < s.size
    · obtain ⟨c, hc⟩ : ∃ c, c = s[k] := ⟨_, rfl⟩
      have HSN := Lib.hid (show flat (s.data.toList.take (k + 1)) = flat (s.data.toList.take k) ++ [fl c] by rw [take_snoc s k hlt, hc, flat_snoc])
      have HO := Lib.hid hown
      have HLen := Lib.hid (show (flat (s.data.toList.take k)).length = k by rw [flat_len, List.length_take, HL.out]; omega)
      clear hown
      obtain ⟨F, hF⟩ : ∃ F, F = flat (s.data.toList.take k) := ⟨_, rfl⟩
      rw [← hF] at HO HSN HLen
      clear hF
      by_cases h13 : c = 13
      · have HF := Lib.hid (show fl c = 32 by rw [h13]; rfl)
        have t1 : ((s[k].toNat : Int) == 13) = true := by rw [← hc, h13]; rfl
        go_wp2_with (at_builtin; refine wpList_append_bs (w0 := w) rfl (.tmp 22) (.tmp 24) rfl u3 F rfl (HO.out.al _) (hb.alloc hbs _) (some ⟨wr.heap.size, 0, none⟩) [32] 1 1 rfl rfl (lit1_bs _ _ _ rfl) (fun h => by cases h) (by rw [HLen.out]; omega) _ rfl ?_; intro v' w1 hown1 hb1)
        go_roundw
        case rel => exact ⟨k + 1, by omega, by go_num, hb1, by rw [HSN.out, HF.out]; exact hown1⟩
        case measure => simp [intOf]; omega
      · by_cases h10 : c = 10
        · have HF := Lib.hid (show fl c = 32 by rw [h10]; rfl)
          have t1 : ((s[k].toNat : Int) == 13) = false := by rw [← hc, h10]; rfl
          have t2 : ((s[k].toNat : Int) == 10) = true := by rw [← hc, h10]; rfl
          go_wp2_with (at_builtin; refine wpList_append_bs (w0 := w) rfl (.tmp 22) (.tmp 24) rfl u3 F rfl (HO.out.al _) (hb.alloc hbs _) (some ⟨wr.heap.size, 0, none⟩) [32] 1 1 rfl rfl (lit1_bs _ _ _ rfl) (fun h => by cases h) (by rw [HLen.out]; omega) _ rfl ?_; intro v' w1 hown1 hb1)
          go_roundw
          case rel => exact ⟨k + 1, by omega, by go_num, hb1, by rw [HSN.out, HF.out]; exact hown1⟩
          case measure => simp [intOf]; omega
        · have HF := Lib.hid (show fl c = c by unfold fl; rw [if_neg (by simp [h13, h10])])
          have t1 : ((s[k].toNat : Int) == 13) = false := by rw [← hc]; have : c.toNat ≠ 13 := fun h => h13 (UInt8.toNat_inj.1 h); rw [beq_eq_false_iff_ne]; omega
          have t2 : ((s[k].toNat : Int) == 10) = false := by rw [← hc]; have : c.toNat ≠ 10 := fun h => h10 (UInt8.toNat_inj.1 h); rw [beq_eq_false_iff_ne]; omega
          go_wp2_with (at_builtin; refine wpList_append_bs (w0 := w) rfl (.tmp 22) (.tmp 24) rfl u3 F rfl (HO.out.al _) (hb.alloc hbs _) (some ⟨wr.heap.size, 0, none⟩) [c] 1 1 rfl rfl (lit1_bs _ _ _ (by rw [hc])) (fun h => by cases h) (by rw [HLen.out]; omega) _ rfl ?_; intro v' w1 hown1 hb1)
          go_roundw
          case rel => exact ⟨k + 1, by omega, by go_num, hb1, by rw [HSN.out, HF.out]; exact hown1⟩
          case measure => simp [intOf]; omega
    · have e : flat (s.data.toList.take k) = flat s.data.toList := by rw [List.take_of_length_le (by rw [HL.out]; omega)]
      rw [e] at hown
      obtain ⟨p, c, rfl, hB, -⟩ := hown.ans
      have hback := bs_string hB _ c rfl
      clear hown e hB
      go_wp2_with fail
      go_ret
      exact ⟨rfl, hb⟩

theorem rsimple (s : ByteArray) (w : World) (hz : s.size ≤ 1048576) :
    Calls Tryd.prog 14 #[.string s] w (Gives (simple s.data.toList) w) := by
  have C := Lib.hid (rflat s w hz)
  obtain ⟨F, hF⟩ : ∃ F : ByteArray, F = ⟨(flat s.data.toList).toArray⟩ := ⟨_, rfl⟩
  have HE := Lib.hid (show (⟨#[43]⟩ ++ F ++ ⟨#[13, 10]⟩ : ByteArray).data.toList = simple s.data.toList by rw [hF]; simp [simple])
  have hsz : F.size ≤ 1048576 := by rw [hF, size_bytes, flat_len, str_len]; exact hz
  rw [← hF] at C
  clear hF
  have hcv := fun W T => run_bytes W T
  go_enter Tryd.func14, Tryd.ntmps14
  go_wp2_with fail
  refine C.out.mono ?_
  rintro e w1 ⟨rfl, hb⟩
  go_wp2_with fail
  go_ret
  exact gives_conv hb _ _ (by simp only [ByteArray.size_append, lit_one, lit_two]) (by omega) _ HE.out
theorem rerr (s : ByteArray) (w : World) (hz : s.size ≤ 1048576) :
    Calls Tryd.prog 16 #[.string s] w (Gives (err s.data.toList) w) := by
  have C := Lib.hid (rflat s w hz)
  obtain ⟨F, hF⟩ : ∃ F : ByteArray, F = ⟨(flat s.data.toList).toArray⟩ := ⟨_, rfl⟩
  have HE := Lib.hid (show (⟨#[45]⟩ ++ F ++ ⟨#[13, 10]⟩ : ByteArray).data.toList = err s.data.toList by rw [hF]; simp [err])
  have hsz : F.size ≤ 1048576 := by rw [hF, size_bytes, flat_len, str_len]; exact hz
  rw [← hF] at C
  clear hF
  have hcv := fun W T => run_bytes W T
  go_enter Tryd.func16, Tryd.ntmps16
  go_wp2_with fail
  refine C.out.mono ?_
  rintro e w1 ⟨rfl, hb⟩
  go_wp2_with fail
  go_ret
  exact gives_conv hb _ _ (by simp only [ByteArray.size_append, lit_one, lit_two]) (by omega) _ HE.out
theorem rint (n : Int) (w : World) (h0 : -9223372036854775808 ≤ n) (h1 : n ≤ 9223372036854775807) :
    Calls Tryd.prog 18 #[.int .i64 n] w (Gives (int n) w) := by
  have C := Lib.hid (Ref01.text_any n.natAbs n w (Nat.le_refl _) h0 h1)
  obtain ⟨F, hF⟩ : ∃ F : ByteArray, F = ⟨(Lib.itoa n).toArray⟩ := ⟨_, rfl⟩
  have HE := Lib.hid (show (⟨#[58]⟩ ++ F ++ ⟨#[13, 10]⟩ : ByteArray).data.toList = int n by rw [hF]; simp [int])
  have hsz : F.size ≤ 20 := by rw [hF, size_bytes]; exact itoa_len n h0 h1
  rw [← hF] at C
  clear hF
  have hcv := fun W T => run_bytes W T
  go_enter Tryd.func18, Tryd.ntmps18
  go_wp2_with fail
  refine C.out.mono ?_
  rintro e w1 ⟨rfl, hb⟩
  go_wp2_with fail
  go_ret
  exact gives_conv hb _ _ (by simp only [ByteArray.size_append, lit_one, lit_two]) (by omega) _ HE.out
theorem rbulk (s : ByteArray) (w : World) (hz : s.size ≤ 1048576) :
    Calls Tryd.prog 20 #[.string s] w (Gives (bulk s.data.toList) w) := by
  have C := Lib.hid (Ref01.text_any (s.size : Int).natAbs (s.size : Int) w (Nat.le_refl _) (by omega) (by omega))
  obtain ⟨F, hF⟩ : ∃ F : ByteArray, F = ⟨(Lib.itoa (s.size : Int)).toArray⟩ := ⟨_, rfl⟩
  have HE := Lib.hid (show (⟨#[36]⟩ ++ F ++ ⟨#[13, 10]⟩ ++ s ++ ⟨#[13, 10]⟩ : ByteArray).data.toList = bulk s.data.toList by rw [hF]; simp [bulk])
  have hsz : F.size ≤ 20 := by rw [hF, size_bytes]; exact itoa_len _ (by omega) (by omega)
  rw [← hF] at C
  clear hF
  have hcv := fun W T => run_bytes W T
  go_enter Tryd.func20, Tryd.ntmps20
  go_wp2_with fail
  refine C.out.mono ?_
  rintro e w1 ⟨rfl, hb⟩
  go_wp2_with fail
  go_ret
  exact gives_conv hb _ _ (by simp only [ByteArray.size_append, lit_one, lit_two]) (by omega) _ HE.out
theorem rnull (w : World) : Calls Tryd.prog 22 #[] w (Gives null w) := by
  have hcv := run_const w
  go_enter Tryd.func22, Tryd.ntmps22
  go_wp2_with fail
  go_ret
  exact gives_lit w null _ _ (by decide)
theorem rnoArray (w : World) : Calls Tryd.prog 24 #[] w (Gives noArray w) := by
  have hcv := run_const w
  go_enter Tryd.func24, Tryd.ntmps24
  go_wp2_with fail
  go_ret
  exact gives_lit w noArray _ _ (by decide)

theorem clean_snoc (l : List UInt8) (c : UInt8) : clean (l ++ [c]) = (clean l && (c != 13 && c != 10)) := by simp [clean]
theorem clean_take {l : List UInt8} (h : clean l = true) (k : Nat) : clean (l.take k) = true := by
  unfold clean at h ⊢
  rw [List.all_eq_true] at h ⊢
  exact fun c hc => h c (List.mem_of_mem_take hc)
set_option maxHeartbeats 2000000 in
theorem rclean (s : ByteArray) (w : World) (hz : s.size ≤ 1048576) :
    Calls Tryd.prog 42 #[.string s] w fun e w' => e = .returned (.bool (clean s.data.toList)) ∧ w' = w := by
  have HL := Lib.hid (show s.data.toList.length = s.size by simp)
  go_enter Tryd.func42, Tryd.ntmps42
  go_wp2_with fail
  go_loopw [3] (fun i wr => ∃ k : Nat, k ≤ s.size ∧ i = .int .i64 k ∧ wr = w ∧ clean (s.data.toList.take k) = true) (fun i _ => s.size - (intOf i).toNat)
  case atStart => exact ⟨0, Nat.zero_le _, rfl, rfl, rfl⟩
  case round =>
    obtain ⟨k, hk, rfl, rfl, hcl⟩ := hrel
    by_cases hlt : k < s.size
    · obtain ⟨c, hc⟩ : ∃ c, c = s[k] := ⟨_, rfl⟩
      have hsn : clean (s.data.toList.take (k + 1)) = (c != 13 && c != 10) := by rw [take_snoc s k hlt, clean_snoc, hcl, hc]; rfl
      by_cases h13 : c = 13
      · have HF := Lib.hid (show clean s.data.toList = false by
          cases h : clean s.data.toList with
          | false => rfl
          | true => rw [clean_take h, h13] at hsn; exact absurd hsn (by decide))
        have t1 : ((s[k].toNat : Int) == 13) = true := by rw [← hc, h13]; rfl
        clear hsn hcl
        go_wp2_with fail
        go_ret
        exact ⟨ret_bool HF.out.symm, rfl⟩
      · have t1 : ((s[k].toNat : Int) == 13) = false := by rw [← hc]; have : c.toNat ≠ 13 := fun h => h13 (UInt8.toNat_inj.1 h); rw [beq_eq_false_iff_ne]; omega
        by_cases h10 : c = 10
        · have HF := Lib.hid (show clean s.data.toList = false by
            cases h : clean s.data.toList with
            | false => rfl
            | true => rw [clean_take h, h10] at hsn; exact absurd hsn (by decide))
          have t2 : ((s[k].toNat : Int) == 10) = true := by rw [← hc, h10]; rfl
          clear hsn hcl
          go_wp2_with fail
          go_ret
          exact ⟨ret_bool HF.out.symm, rfl⟩
        · have HN := Lib.hid (show clean (s.data.toList.take (k + 1)) = true by rw [hsn]; simp [h13, h10])
          have t2 : ((s[k].toNat : Int) == 10) = false := by rw [← hc]; have : c.toNat ≠ 10 := fun h => h10 (UInt8.toNat_inj.1 h); rw [beq_eq_false_iff_ne]; omega
          clear hsn hcl
          go_wp2_with fail
          go_roundw
          case rel => exact ⟨k + 1, by omega, by go_num, (by trivial), HN.out⟩
          case measure => simp [intOf]; omega
    · have HF := Lib.hid (show clean s.data.toList = true by rw [List.take_of_length_le (by rw [HL.out]; omega)] at hcl; exact hcl)
      clear hcl
      go_wp2_with fail
      go_ret
      exact ⟨ret_bool HF.out.symm, rfl⟩

end Go.Proofs.YteojijocoamohaaDoor.RefR
