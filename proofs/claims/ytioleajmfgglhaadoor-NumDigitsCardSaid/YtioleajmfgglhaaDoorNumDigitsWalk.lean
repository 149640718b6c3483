/-
  The walk of the law NumDigits: a number is told in digits alone.
-/
-- ASKS: NumL.Gd
import Derived.Test.YtioleajmfgglhaaDoorNumLib
import Derived.Lib.QuietBelow
namespace Go.Proofs.YtioleajmfgglhaaDoor.numDigits
set_option linter.unusedVariables false
open Go.RowKit Kit NumMath NumW NumL
open Go.Sort (grow)

theorem get_data (t : ByteArray) (l : List UInt8) (ht : t.data.toList = l) (k : Nat) (hk : k < t.size) : ∃ h : k < l.length, t[k] = l[k] := by
  subst ht
  exact ⟨by simpa using hk, rfl⟩
theorem dig_at (n : Int) (t : ByteArray) (ht : t.data.toList = Lib.itoa n) (k : Nat) (hk : k < t.size) (h : 0 ≤ n ∨ 1 ≤ k) : 48 ≤ t[k].toNat ∧ t[k].toNat ≤ 57 := by
  obtain ⟨hk', e⟩ := get_data t _ ht k hk
  rw [e]
  by_cases hn : n < 0
  · have hk1 : 1 ≤ k := by omega
    have e2 : Lib.itoa n = 45 :: Lib.decDigits n.natAbs := if_pos hn
    have : ∀ (l : List UInt8) (h : k < l.length), l = 45 :: Lib.decDigits n.natAbs → l[k] ∈ Lib.decDigits n.natAbs := by
      intro l h e
      subst e
      obtain ⟨j, rfl⟩ : ∃ j, k = j + 1 := ⟨k - 1, by omega⟩
      rw [List.getElem_cons_succ]
      exact List.getElem_mem _
    exact decDigits_dig _ _ (this _ hk' e2)
  · have e2 : Lib.itoa n = Lib.decDigits n.toNat := if_neg hn
    have : ∀ (l : List UInt8) (h : k < l.length), l = Lib.decDigits n.toNat → l[k] ∈ Lib.decDigits n.toNat := by
      intro l h e
      subst e
      exact List.getElem_mem _
    exact decDigits_dig _ _ (this _ hk' e2)
theorem sign_at (n : Int) (t : ByteArray) (ht : t.data.toList = Lib.itoa n) (hk : 0 < t.size) (h : n < 0) : t[0].toNat = 45 := by
  obtain ⟨hk', e⟩ := get_data t _ ht 0 hk
  rw [e]
  have e2 : Lib.itoa n = 45 :: Lib.decDigits n.natAbs := if_pos h
  have : ∀ (l : List UInt8) (h : 0 < l.length), l = 45 :: Lib.decDigits n.natAbs → l[0] = 45 := by
    intro l h e
    subst e
    rfl
  rw [this _ hk' e2]
  rfl
theorem first_at (n : Int) (t : ByteArray) (ht : t.data.toList = Lib.itoa n) (hk : 0 < t.size) (h : 0 < n) : 49 ≤ t[0].toNat ∧ t[0].toNat ≤ 57 := by
  obtain ⟨hk', e⟩ := get_data t _ ht 0 hk
  rw [e]
  obtain ⟨c, r, e1, h1, h2⟩ := decDigits_head n.toNat (by omega)
  have e2 : Lib.itoa n = c :: r := by rw [← e1]; exact if_neg (by omega)
  have : ∀ (l : List UInt8) (h : 0 < l.length), l = c :: r → l[0] = c := by
    intro l h e
    subst e
    rfl
  rw [this _ hk' e2]
  exact ⟨h1, h2⟩

theorem same_bytes {a b : ByteArray} (h : a.data.toList = b.data.toList) : a = b := ByteArray.ext (Array.toList_inj.1 h)
theorem text_ten (n : Int) (h : n ≠ 0) (t : ByteArray) (ht : t.data.toList = Lib.itoa n) : (⟨(Lib.itoa (n * 10)).toArray⟩ : ByteArray) = t ++ ⟨#[48]⟩ := by
  apply same_bytes
  simp [itoa_ten n h, ht]
theorem text_minus (n : Int) (h : n < 0) (t : ByteArray) (ht : t.data.toList = Lib.itoa n) : (⟨(Lib.itoa (-n)).toArray⟩ : ByteArray) = t.extract 1 t.size := by
  apply same_bytes
  rw [Lib.extract_data, ht, List.take_of_length_le (by rw [List.length_drop, ← ht]; simp)]
  rw [show (⟨(Lib.itoa (-n)).toArray⟩ : ByteArray).data.toList = Lib.itoa (-n) from rfl, itoa_minus n h, List.drop_one]

theorem walk (a : Int) (w : World) (a0 : -9223372036854775808 ≤ a) (a1 : a ≤ 9223372036854775807) (hg : Gd w) :
    Calls Tryd.prog 8 #[.int .i64 a] w fun e w' => e = .returned (.bool true) ∧ Below w.heap.size w w' := by
  obtain ⟨n, hn⟩ : ∃ n, a.tmod 576460752303423488 = n := ⟨_, rfl⟩
  have n0 : -576460752303423488 < n := by rw [← hn]; exact Int.lt_tmod_of_pos _ (by decide)
  have n1 : n < 576460752303423488 := by rw [← hn]; exact Int.tmod_lt_of_pos _ (by decide)
  have G := Lib.hid hg
  clear hg
  have ct := fun W hW => text_any n (by omega) (by omega) W hW
  obtain ⟨t, ht⟩ : ∃ t : ByteArray, (⟨(Lib.itoa n).toArray⟩ : ByteArray) = t := ⟨_, rfl⟩
  have htl : t.data.toList = Lib.itoa n := by rw [← ht]
  have hz : t.size ≤ 20 := by rw [← ht]; simp [ByteArray.size]; exact itoa_len n (by omega) (by omega)
  have hz1 : 0 < t.size := by rw [← ht]; simp [ByteArray.size]; exact itoa_len_pos n
  rw [ht] at ct
  clear ht
  have CT := Lib.hid ct
  have HT := Lib.hid htl
  clear ct htl
  go_enter Tryd.func8, Tryd.ntmps8
  go_wp2_with fail
  with_reducible refine (shown_any _ G.out).mono ?_
  rintro e w1 ⟨rfl, hb⟩
  go_wp2_with fail
  with_reducible refine (CT.out _ (G.out.keep hb)).mono ?_
  rintro e w2 ⟨rfl, hbn⟩
  replace hb := hb.trans (hbn.mono hb.size)
  clear hbn
  clear hn
  go_wp2
  go_loop [6] (fun i => ∃ k : Nat, k ≤ t.size ∧ i = .int .i64 k) (fun i => t.size - (intOf i).toNat)
  case atStart => exact ⟨0, Nat.zero_le _, rfl⟩
  case round =>
    obtain ⟨k, hk, rfl⟩ := hrel
    by_cases hlt : k < t.size
    · by_cases hd : 0 ≤ n ∨ 1 ≤ k
      · obtain ⟨d1, d2⟩ := dig_at n t HT.out k hlt hd
        clear hd
        have hd1 : decide ((t[k].toNat : Int) < 48) = false := decide_eq_false (by omega)
        have hd2 : decide (57 < (t[k].toNat : Int)) = false := decide_eq_false (by omega)
        go_wp2
        go_round
        case rel => exact ⟨k + 1, by omega, by go_num⟩
        case measure => simp [intOf]; omega
      · have hn : n < 0 := by omega
        have hk0 : k = 0 := by omega
        subst hk0
        have hs := sign_at n t HT.out hlt hn
        have hd1 : decide ((t[0].toNat : Int) < 48) = true := decide_eq_true (by omega)
        have hd3 : decide (0 ≤ n) = false := decide_eq_false (by omega)
        clear hd hs
        go_wp2
        go_round
        case rel => exact ⟨1, by omega, by go_num⟩
        case measure => simp [intOf]; omega
    · clear hk
      have G2 := Lib.hid (G.out.keep hb)
      have HB := Lib.hid hb
      rcases Int.lt_trichotomy n 0 with hn | hn | hn
      · have hs := sign_at n t HT.out hz1 hn
        have s1 : ((t[0].toNat : Int) == 45) = true := by rw [beq_iff_eq]; omega
        have s2 : ((t[0].toNat : Int) != 48) = true := by rw [bne_iff_ne]; omega
        have s3 : decide (n < 0) = true := decide_eq_true hn
        have s4 : (n == 0) = false := by rw [beq_eq_false_iff_ne]; omega
        have s5 : (t.toList == [48]) = false := by
          rw [beq_eq_false_iff_ne, ByteArray.toList_eq, HT.out]
          intro h
          have := (itoa_head_neg n).2 hn
          rw [h] at this
          exact absurd this (by decide)
        have c10 := fun W hW => text_any (n * 10) (by omega) (by omega) W hW
        rw [text_ten n (by omega) t HT.out] at c10
        have cm := fun W hW => text_any (-n) (by omega) (by omega) W hW
        rw [text_minus n hn t HT.out] at cm
        have C10 := Lib.hid (fun d os => Calls.regrown_of (c10 (grow (redrawn w2 d) os) (G2.out.keep (below_regrown _ _ _))))
        have CM := Lib.hid (fun d os => Calls.regrown_of (cm (grow (redrawn w2 d) os) (G2.out.keep (below_regrown _ _ _))))
        clear c10 cm hs hn
        go_wp2
        refine wp_region_quiet_below (by kernel_rfl) (by kernel_rfl) ?_
        repeat (any_goals (go_big_quiet_step ((first | exact C10.out _ _ | exact CM.out _ _))))
        refine wpQuiet_nil ?_
        intro _ hw'
        obtain ⟨⟨dq, osq⟩, hw''⟩ := hw'
        subst hw''
        replace hb := hb.trans ((below_regrown _ dq osq).mono hb.size)
        go_wp2
        go_ret
        exact ⟨rfl, hb⟩
      · have e0 : Lib.itoa n = [48] := by rw [hn]; exact itoa_zero
        have e1 : t.data.toList = [48] := by rw [HT.out, e0]
        have hs : (t[0].toNat : Int) = 48 := by
          obtain ⟨h, e⟩ := get_data t _ e1 0 hz1
          rw [e]
          rfl
        have s1 : ((t[0].toNat : Int) == 45) = false := by rw [beq_eq_false_iff_ne]; omega
        have s3 : decide (n < 0) = false := decide_eq_false (by omega)
        have s4 : (n == 0) = true := by rw [beq_iff_eq]; omega
        have s5 : (t.toList == [48]) = true := by rw [ByteArray.toList_eq, e1]; simp
        clear hs e0 e1 hn
        go_wp2
        refine wp_region_quiet_below (by kernel_rfl) (by kernel_rfl) ?_
        repeat (any_goals (go_big_quiet_step (fail)))
        refine wpQuiet_nil ?_
        intro _ hw'
        obtain ⟨⟨dq, osq⟩, hw''⟩ := hw'
        subst hw''
        replace hb := hb.trans ((below_regrown _ dq osq).mono hb.size)
        go_wp2
        go_ret
        exact ⟨rfl, hb⟩
      · have hs := first_at n t HT.out hz1 hn
        have s1 : ((t[0].toNat : Int) == 45) = false := by rw [beq_eq_false_iff_ne]; omega
        have s2 : ((t[0].toNat : Int) != 48) = true := by rw [bne_iff_ne]; omega
        have s3 : decide (n < 0) = false := decide_eq_false (by omega)
        have s4 : (n == 0) = false := by rw [beq_eq_false_iff_ne]; omega
        have s5 : (t.toList == [48]) = false := by
          rw [beq_eq_false_iff_ne, ByteArray.toList_eq]
          intro h
          obtain ⟨h', e⟩ := get_data t _ h 0 hz1
          rw [e] at hs
          exact absurd hs.1 (by show ¬ 49 ≤ (48 : UInt8).toNat; decide)
        have c10 := fun W hW => text_any (n * 10) (by omega) (by omega) W hW
        rw [text_ten n (by omega) t HT.out] at c10
        have C10 := Lib.hid (fun d os => Calls.regrown_of (c10 (grow (redrawn w2 d) os) (G2.out.keep (below_regrown _ _ _))))
        clear c10 hs hn
        go_wp2
        refine wp_region_quiet_below (by kernel_rfl) (by kernel_rfl) ?_
        repeat (any_goals (go_big_quiet_step (exact C10.out _ _)))
        refine wpQuiet_nil ?_
        intro _ hw'
        obtain ⟨⟨dq, osq⟩, hw''⟩ := hw'
        subst hw''
        replace hb := hb.trans ((below_regrown _ dq osq).mono hb.size)
        go_wp2
        go_ret
        exact ⟨rfl, hb⟩
end Go.Proofs.YtioleajmfgglhaaDoor.numDigits
