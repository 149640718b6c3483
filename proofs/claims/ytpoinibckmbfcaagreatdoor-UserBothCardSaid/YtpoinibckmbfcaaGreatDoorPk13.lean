/-
  Packed by program.
-/
import Derived.Lib.QuietBelow
import Derived.Deep.RegionWith
import Derived.Deep.DrawnRows
import Derived.Test.YtpoinibckmbfcaaGreatDoorPk06
namespace Go.Proofs.YtpoinibckmbfcaaGreatDoor.Ref01
set_option linter.unusedVariables false
set_option maxRecDepth 100000
open Go.RowKit Kit NumMath
open Go.Sort (grow)
attribute [local go_sem ↓] Go.wp_at_zero Go.wp_at_succ
theorem conv_one {W : World} {b : Nat} {c : Int} (h : W.cell? ⟨b, 0, none⟩ = some (.int .u8 c)) (cap : Nat) :
  (convert 30 9 (.slice (some ⟨b, 0, none⟩) 1 cap)).run Tryz.prog W = .ok (.string ⟨#[UInt8.ofNat c.toNat]⟩) W := by
 have := run_convert_bytes_arg (P := Tryz.prog) W 30 5 Tryz.underlying30 Tryz.underlying5 b 0 1 cap [c] rfl (fun i hi => by
  have : i = 0 := by omega
  subst this
  simpa using h) 9 Tryz.underlying9
 rw [this]
 rfl
theorem itoa_one {n : Int} (h0 : 0 ≤ n) (h1 : n < 10) : Lib.itoa n = [UInt8.ofNat (48 + n).toNat] := by
 unfold Lib.itoa
 rw [if_neg (by omega), Lib.decDigits_one (by omega), show (48 + n).toNat = 48 + n.toNat by omega]
theorem itoa_one_neg {n : Int} (h0 : n < 0) (h1 : -10 < n) : Lib.itoa n = [45, UInt8.ofNat (48 - n).toNat] := by
 unfold Lib.itoa
 rw [if_pos h0, Lib.decDigits_one (by omega), show (48 - n).toNat = 48 + n.natAbs by omega]
theorem itoa_more {n q r : Int} (hn : 10 ≤ n) (h : 10 * q + r = n) (h0 : 0 ≤ r) (h1 : r < 10) : Lib.itoa n = Lib.itoa q ++ [UInt8.ofNat (48 + r).toNat] := by
 unfold Lib.itoa
 rw [if_neg (by omega), if_neg (by omega), Lib.decDigits, dif_neg (by omega), show n.toNat / 10 = q.toNat by omega, show 48 + n.toNat % 10 = (48 + r).toNat by omega]
theorem itoa_more_neg {n q r : Int} (hn : n ≤ -10) (h : 10 * q + r = n) (h0 : r ≤ 0) (h1 : -10 < r) : Lib.itoa n = Lib.itoa q ++ [UInt8.ofNat (48 - r).toNat] := by
 unfold Lib.itoa
 rw [if_pos (by omega), if_pos (by omega), Lib.decDigits, dif_neg (by omega), show n.natAbs / 10 = q.natAbs by omega, show 48 + n.natAbs % 10 = (48 - r).toNat by omega]
 rfl
theorem same_bytes {a b : ByteArray} (h : a.data.toList = b.data.toList) : a = b := ByteArray.ext (Array.toList_inj.1 h)
theorem text_any : ∀ (k : Nat) (n : Int) (w : World), n.natAbs ≤ k → -9223372036854775808 ≤ n → n ≤ 9223372036854775807 →
  Calls Tryz.prog 72 #[.int .i64 n] w fun e w' => e = .returned (.string ⟨(Lib.itoa n).toArray⟩) ∧ Below w.heap.size w w' := by
 intro k
 induction k using Nat.strongRecOn with
 | _ k ih =>
   intro n w hk n0 n1
   obtain ⟨q, hq⟩ : ∃ q, n.tdiv 10 = q := ⟨_, rfl⟩
   obtain ⟨r, hr⟩ : ∃ r, n.tmod 10 = r := ⟨_, rfl⟩
   have hqr : 10 * q + r = n := by rw [← hq, ← hr]; exact Int.mul_tdiv_add_tmod n 10
   have hr1 : -10 < r := by rw [← hr]; exact Int.lt_tmod_of_pos _ (by decide)
   have hr2 : r < 10 := by rw [← hr]; exact Int.tmod_lt_of_pos _ (by decide)
   by_cases hn : n < 0
   · have hr0 : r ≤ 0 := by rw [← hr]; have := Int.tmod_nonneg 10 (show 0 ≤ -n by omega); rw [Int.neg_tmod] at this; omega
     by_cases h10 : -10 < n
     · have hcv := fun (W : World) (b cap : Nat) (h : W.cell? ⟨b, 0, none⟩ = some (.int .u8 (48 - n))) => conv_one h cap
       clear hq hr hqr
       go_enter Tryz.func72, Tryz.ntmps72
       go_wp2
       go_ret
       exact ⟨ret_str (same_bytes (by rw [itoa_one_neg hn h10]; simp)), (Below.refl _ _).alloc (Nat.le_refl _) _⟩
     · have cih := fun W => ih q.natAbs (by omega) q W (Nat.le_refl _) (by omega) (by omega)
       obtain ⟨s, hs⟩ : ∃ s : ByteArray, (⟨(Lib.itoa q).toArray⟩ : ByteArray) = s := ⟨_, rfl⟩
       have hz : s.size ≤ 20 := by rw [← hs]; simp [ByteArray.size]; exact itoa_len q (by omega) (by omega)
       rw [hs] at cih
       have CI := Lib.hid cih
       have HS := Lib.hid hs
       clear cih hs
       have hcv := fun (W : World) (b cap : Nat) (h : W.cell? ⟨b, 0, none⟩ = some (.int .u8 (48 - r))) => conv_one h cap
       have h1 : IntKind.i64.wrap q = q := IntWalk.i64_in _ (by omega)
       have h2 : IntKind.i64.wrap (48 - r) = 48 - r := IntWalk.i64_in _ (by omega)
       have h3 : IntKind.u8.wrap (48 - r) = 48 - r := by rw [IntKind.wrap_u8]; omega
       have HQ := Lib.hid hqr
       clear hqr
       go_enter Tryz.func72, Tryz.ntmps72
       go_wp2_with fail
       go_region_with (go_at_call 72; refine (CI.out _).mono ?_; rintro e w' ⟨rfl, hb⟩; obtain ⟨hbc, -⟩ := bcell hb)
       all_goals clear hcv hbc
       all_goals go_wp2
       all_goals go_ret
       all_goals refine ⟨ret_str (same_bytes ?_), ?_⟩
       all_goals first | exact (Below.trans ⟨hb.os, hb.tape, hb.output, hb.size, hb.block⟩ ((Below.refl _ _).alloc hb.size _)) | exact (((Below.refl _ w).drew.alloc (Nat.le_refl _) _).trans (hb.mono (by simp))) | skip
       all_goals rw [itoa_more_neg h10 HQ.out hr0 hr1, ← HS.out]
       all_goals simp
   · have hr0 : 0 ≤ r := by rw [← hr]; exact Int.tmod_nonneg 10 (by omega)
     by_cases h10 : n < 10
     · have hcv := fun (W : World) (b cap : Nat) (h : W.cell? ⟨b, 0, none⟩ = some (.int .u8 (48 + n))) => conv_one h cap
       clear hq hr hqr
       go_enter Tryz.func72, Tryz.ntmps72
       go_wp2
       go_ret
       exact ⟨ret_str (same_bytes (by rw [itoa_one (by omega) h10])), (Below.refl _ _).alloc (Nat.le_refl _) _⟩
     · have cih := fun W => ih q.natAbs (by omega) q W (Nat.le_refl _) (by omega) (by omega)
       obtain ⟨s, hs⟩ : ∃ s : ByteArray, (⟨(Lib.itoa q).toArray⟩ : ByteArray) = s := ⟨_, rfl⟩
       have hz : s.size ≤ 20 := by rw [← hs]; simp [ByteArray.size]; exact itoa_len q (by omega) (by omega)
       rw [hs] at cih
       have CI := Lib.hid cih
       have HS := Lib.hid hs
       clear cih hs
       have hcv := fun (W : World) (b cap : Nat) (h : W.cell? ⟨b, 0, none⟩ = some (.int .u8 (48 + r))) => conv_one h cap
       have h1 : IntKind.i64.wrap q = q := IntWalk.i64_in _ (by omega)
       have h2 : IntKind.i64.wrap (48 + r) = 48 + r := IntWalk.i64_in _ (by omega)
       have h3 : IntKind.u8.wrap (48 + r) = 48 + r := by rw [IntKind.wrap_u8]; omega
       have HQ := Lib.hid hqr
       clear hqr
       go_enter Tryz.func72, Tryz.ntmps72
       go_wp2_with fail
       go_region_with (go_at_call 72; refine (CI.out _).mono ?_; rintro e w' ⟨rfl, hb⟩; obtain ⟨hbc, -⟩ := bcell hb)
       all_goals clear hcv hbc
       all_goals go_wp2
       all_goals go_ret
       all_goals refine ⟨ret_str (same_bytes ?_), ?_⟩
       all_goals first | exact (Below.trans ⟨hb.os, hb.tape, hb.output, hb.size, hb.block⟩ ((Below.refl _ _).alloc hb.size _)) | exact (((Below.refl _ w).drew.alloc (Nat.le_refl _) _).trans (hb.mono (by simp))) | skip
       all_goals rw [itoa_more h10 HQ.out hr0 hr2, ← HS.out]
       all_goals simp
end Go.Proofs.YtpoinibckmbfcaaGreatDoor.Ref01
namespace Go.Proofs.YtpoinibckmbfcaaGreatDoor.Ref01
set_option linter.unusedVariables false
set_option maxRecDepth 100000
open Go.RowKit Kit NumMath NumL
def stepU (n : Int) (c : UInt8) : Int := IntKind.u64.wrap (IntKind.u64.wrap (n * 10) + ((c.toNat : Int) - 48) % 256)
def accU (l : List UInt8) : Int := l.foldl stepU 0
theorem accU_snoc (l : List UInt8) (c : UInt8) : accU (l ++ [c]) = stepU (accU l) c := by simp [accU]
theorem stepU_in (n : Int) (c : UInt8) : 0 ≤ stepU n c ∧ stepU n c ≤ 18446744073709551615 := by
 unfold stepU
 rw [IntKind.wrap_u64]
 omega
theorem accU_dec (u : Nat) (h : u < 18446744073709551616) : accU (Lib.decDigits u) = (u : Int) := by
 induction u using Nat.strongRecOn with
 | _ u ih =>
   by_cases hu : u < 10
   · rw [Lib.decDigits_one hu]
     show stepU 0 _ = _
     unfold stepU
     rw [dig_toNat hu, IntKind.wrap_u64, IntKind.wrap_u64]
     omega
   · rw [Lib.decDigits, dif_neg hu, accU_snoc, ih (u / 10) (by omega) (by omega)]
     unfold stepU
     rw [dig_toNat (by omega), IntKind.wrap_u64, IntKind.wrap_u64]
     omega
theorem fin_yes {l : List UInt8} {k : Int} (k0 : -9223372036854775808 ≤ k) (k1 : k ≤ 9223372036854775807) (he : Lib.itoa k = l) : pV l = k ∧ pB l = true := by
 have : parse l = some k := by rw [← he]; exact parse_itoa k k0 k1
 simp [pV, pB, this]
theorem fin_no {l : List UInt8} {k : Int} (hk : ∀ n, -9223372036854775808 ≤ n → n ≤ 9223372036854775807 → Lib.itoa n = l → k = n) (he : Lib.itoa k ≠ l) : pV l = 0 ∧ pB l = false := by
 have : parse l = none := by
  cases h : parse l with
  | none => rfl
  | some n =>
    obtain ⟨e, n0, n1⟩ := parse_some h
    rw [hk n n0 n1 e] at he
    exact absurd e he
 simp [pV, pB, this]
theorem long_none {l : List UInt8} (h : 20 < l.length) : pV l = 0 ∧ pB l = false := by
 have : parse l = none := by
  cases h' : parse l with
  | none => rfl
  | some n =>
    obtain ⟨e, n0, n1⟩ := parse_some h'
    have := itoa_len n n0 n1
    rw [e] at this
    omega
 simp [pV, pB, this]
theorem nil_none {l : List UInt8} (h : l.length = 0) : pV l = 0 ∧ pB l = false := by
 have : parse l = none := by
  cases h' : parse l with
  | none => rfl
  | some n =>
    obtain ⟨e, n0, n1⟩ := parse_some h'
    have := itoa_len_pos n
    rw [e] at this
    omega
 simp [pV, pB, this]
theorem wrap64_in' (m : Int) : -9223372036854775808 ≤ wrap64 m ∧ wrap64 m ≤ 9223372036854775807 := by unfold wrap64; omega
theorem of_plain {l : List UInt8} (hne : l.head? ≠ some 45) (n : Int) (n0 : -9223372036854775808 ≤ n) (n1 : n ≤ 9223372036854775807) (h : Lib.itoa n = l) : wrap64 (accU l) = n := by
 have hn : ¬ n < 0 := fun hn => hne (by rw [← h]; exact (itoa_head_neg n).2 hn)
 have e : l = Lib.decDigits n.toNat := by rw [← h]; exact if_neg hn
 rw [e, accU_dec _ (by omega)]
 unfold wrap64
 omega
theorem of_sign {l : List UInt8} (hne : l.head? = some 45) (n : Int) (n0 : -9223372036854775808 ≤ n) (n1 : n ≤ 9223372036854775807) (h : Lib.itoa n = l) : wrap64 (-(wrap64 (accU (l.drop 1)))) = n := by
 have hn : n < 0 := (itoa_head_neg n).1 (by rw [h]; exact hne)
 have e : l.drop 1 = Lib.decDigits n.natAbs := by
  rw [← h]
  show List.drop 1 (Lib.itoa n) = _
  rw [show Lib.itoa n = 45 :: Lib.decDigits n.natAbs from if_pos hn]
  rfl
 rw [e, accU_dec _ (by omega)]
 unfold wrap64
 omega
theorem acc_next (s : ByteArray) (k j : Nat) (h : k < s.size) (hj : j ≤ k) : accU ((s.data.toList.take (k + 1)).drop j) = stepU (accU ((s.data.toList.take k).drop j)) s[k] := by
 rw [take_snoc s k h, List.drop_append_of_le_length (by simp; omega), accU_snoc]
theorem acc_in (l : List UInt8) : 0 ≤ accU l ∧ accU l ≤ 18446744073709551615 := by
 unfold accU
 have : ∀ (l : List UInt8) (n : Int), 0 ≤ n ∧ n ≤ 18446744073709551615 → 0 ≤ l.foldl stepU n ∧ l.foldl stepU n ≤ 18446744073709551615 := by
  intro l
  induction l with
  | nil => intro n h; exact h
  | cons c l ih => intro n _; exact ih _ (stepU_in n c)
 exact this l 0 (by omega)
theorem u64_eq {a b : Int} (h : a = b) : Value.int .u64 a = Value.int .u64 b := by rw [h]
theorem parse_ref (s : ByteArray) (w : World) (hz : s.size ≤ 281474976710656) :
  Calls Tryz.prog 121 #[.string s] w fun e w' => e = .returned (.tuple #[.int .i64 (pV s.data.toList), .bool (pB s.data.toList)]) ∧ Below w.heap.size w w' := by
 have hlen : s.data.toList.length = s.size := by simp
 by_cases h0 : s.size = 0
 · have H := Lib.hid (nil_none (hlen.trans h0))
   have hs1 : ((s.size : Int) == 0) = true := by rw [beq_iff_eq]; omega
   clear h0 hlen
   go_enter Tryz.func121, Tryz.ntmps121
   go_wp2
   go_ret2
   exact ⟨ret_ib H.out.1.symm H.out.2.symm, Below.refl _ _⟩
 by_cases h20 : 20 < s.size
 · have H := Lib.hid (long_none (l := s.data.toList) (by omega))
   have hs1 : ((s.size : Int) == 0) = false := by rw [beq_eq_false_iff_ne]; omega
   have hs2 : decide (20 < (s.size : Int)) = true := decide_eq_true (by omega)
   clear h0 hlen
   go_enter Tryz.func121, Tryz.ntmps121
   go_wp2
   go_ret2
   exact ⟨ret_ib H.out.1.symm H.out.2.symm, Below.refl _ _⟩
 have hs1 : ((s.size : Int) == 0) = false := by rw [beq_eq_false_iff_ne]; omega
 have hs2 : decide (20 < (s.size : Int)) = false := decide_eq_false (by omega)
 have hpos : 0 < s.size := by omega
 have HL := Lib.hid hlen
 clear h0 hlen
 go_enter Tryz.func121, Tryz.ntmps121
 go_wp2
 go_loop [4, 5] (fun n i => ∃ k : Nat, k ≤ s.size ∧ i = .int .i64 k ∧ n = .int .u64 (accU ((s.data.toList.take k).drop 0))) (fun _ i => s.size - (intOf i).toNat)
 case atStart => exact ⟨0, Nat.zero_le _, rfl, rfl⟩
 case round =>
  obtain ⟨k, hk, rfl, rfl⟩ := hrel
  obtain ⟨m, hm⟩ : ∃ m, m = accU ((s.data.toList.take k).drop 0) := ⟨_, rfl⟩
  have hmb := acc_in ((s.data.toList.take k).drop 0)
  rw [← hm] at hmb ⊢
  obtain ⟨hm0, hm1⟩ := hmb
  have HM := Lib.hid hm
  clear hm
  by_cases hlt : k < s.size
  · have HN := Lib.hid (acc_next s k 0 hlt (Nat.zero_le _))
    go_wp2
    go_round
    case rel => exact ⟨k + 1, by omega, by go_num, u64_eq (by rw [HN.out, ← HM.out]; rfl)⟩
    case measure => simp [intOf]; omega
  · have hall : accU s.data.toList = m := by
     rw [HM.out, List.drop_zero, List.take_of_length_le (by rw [HL.out]; omega)]
    have HA := Lib.hid hall
    clear hall
    have hh : s.data.toList.head? = some s[0] := by
     have : ∀ (l : List UInt8) (h : 0 < l.length), l.head? = some l[0] := by
      intro l h
      cases l
      · cases h
      · rfl
     exact this _ (by rw [HL.out]; exact hpos)
    by_cases hsig : s[0].toNat = 45
    · have h45 : s[0] = 45 := UInt8.toNat_inj.1 hsig
      rw [h45] at hh
      have HO := Lib.hid (of_sign hh)
      have hs3 : ((s[0].toNat : Int) == 45) = true := by rw [beq_iff_eq]; omega
      clear hsig hh h45
      go_wp2
      go_loop [4, 7] (fun n i => ∃ k : Nat, 1 ≤ k ∧ k ≤ s.size ∧ i = .int .i64 k ∧ n = .int .u64 (accU ((s.data.toList.take k).drop 1))) (fun _ i => s.size - (intOf i).toNat)
      case atStart => exact ⟨1, Nat.le_refl _, hpos, rfl, by rw [List.drop_eq_nil_of_le (by simp; omega)]; rfl⟩
      case round =>
       clear hk hlt hm0 hm1
       obtain ⟨k, hk1, hk, rfl, rfl⟩ := hrel
       obtain ⟨m2, hm⟩ : ∃ m2, m2 = accU ((s.data.toList.take k).drop 1) := ⟨_, rfl⟩
       have hmb := acc_in ((s.data.toList.take k).drop 1)
       rw [← hm] at hmb ⊢
       obtain ⟨hm0, hm1⟩ := hmb
       have HM2 := Lib.hid hm
       clear hm
       by_cases hlt : k < s.size
       · have HN := Lib.hid (acc_next s k 1 hlt hk1)
         go_wp2
         go_round
         case rel => exact ⟨k + 1, by omega, by omega, by go_num, u64_eq (by rw [HN.out, ← HM2.out]; rfl)⟩
         case measure => simp [intOf]; omega
       · have hall2 : accU (s.data.toList.drop 1) = m2 := by
          rw [HM2.out, List.take_of_length_le (by rw [HL.out]; omega)]
         have HA2 := Lib.hid hall2
         clear hall2
         obtain ⟨j, hj⟩ : ∃ j, wrap64 m2 = j := ⟨_, rfl⟩
         obtain ⟨i, hi⟩ : ∃ i, wrap64 (-j) = i := ⟨_, rfl⟩
         have hjb := wrap64_in' m2
         have hib := wrap64_in' (-j)
         rw [hj] at hjb
         rw [hi] at hib
         obtain ⟨hj0, hj1⟩ := hjb
         obtain ⟨hi0, hi1⟩ := hib
         have HO2 : Hid (∀ n, -9223372036854775808 ≤ n → n ≤ 9223372036854775807 → Lib.itoa n = s.data.toList → i = n) := by
          intro n n0 n1 h
          rw [← hi, ← hj, ← HA2.out]
          exact HO.out n n0 n1 h
         by_cases he : Lib.itoa i = s.data.toList
         · have H := Lib.hid (fin_yes hi0 hi1 he)
           have hq : (Lib.itoa i == s.toList) = true := by rw [ByteArray.toList_eq, he]; simp
           clear he
           go_wp2_with fail
           with_reducible refine (text_any _ i _ (Nat.le_refl _) hi0 hi1).mono ?_
           rintro e w1 ⟨rfl, hb⟩
           go_wp2
           go_ret2
           exact ⟨ret_ib H.out.1.symm H.out.2.symm, hb⟩
         · have H := Lib.hid (fin_no HO2.out he)
           have hq : (Lib.itoa i == s.toList) = false := by rw [ByteArray.toList_eq]; simp [he]
           clear he
           go_wp2_with fail
           with_reducible refine (text_any _ i _ (Nat.le_refl _) hi0 hi1).mono ?_
           rintro e w1 ⟨rfl, hb⟩
           go_wp2
           go_ret2
           exact ⟨ret_ib H.out.1.symm H.out.2.symm, hb⟩
    · have hne : s.data.toList.head? ≠ some 45 := by
       rw [hh]
       intro h
       injection h with h
       rw [h] at hsig
       exact hsig rfl
      have HO := Lib.hid (of_plain hne)
      have hs3 : ((s[0].toNat : Int) == 45) = false := by rw [beq_eq_false_iff_ne]; omega
      obtain ⟨i, hi⟩ : ∃ i, wrap64 m = i := ⟨_, rfl⟩
      have hib := wrap64_in' m
      rw [hi] at hib
      obtain ⟨hi0, hi1⟩ := hib
      have HO2 : Hid (∀ n, -9223372036854775808 ≤ n → n ≤ 9223372036854775807 → Lib.itoa n = s.data.toList → i = n) := by
       intro n n0 n1 h
       rw [← hi, ← HA.out]
       exact HO.out n n0 n1 h
      clear hh hne hsig
      by_cases he : Lib.itoa i = s.data.toList
      · have H := Lib.hid (fin_yes hi0 hi1 he)
        have hq : (Lib.itoa i == s.toList) = true := by rw [ByteArray.toList_eq, he]; simp
        clear he
        go_wp2_with fail
        with_reducible refine (text_any _ i _ (Nat.le_refl _) hi0 hi1).mono ?_
        rintro e w1 ⟨rfl, hb⟩
        go_wp2
        go_ret2
        exact ⟨ret_ib H.out.1.symm H.out.2.symm, hb⟩
      · have H := Lib.hid (fin_no HO2.out he)
        have hq : (Lib.itoa i == s.toList) = false := by rw [ByteArray.toList_eq]; simp [he]
        clear he
        go_wp2_with fail
        with_reducible refine (text_any _ i _ (Nat.le_refl _) hi0 hi1).mono ?_
        rintro e w1 ⟨rfl, hb⟩
        go_wp2
        go_ret2
        exact ⟨ret_ib H.out.1.symm H.out.2.symm, hb⟩
end Go.Proofs.YtpoinibckmbfcaaGreatDoor.Ref01
