/-
  What the document's own answers of layer 1 (package tipstaffref01) come to: Text, Parse, Add, Lower, Word, Part.
-/
import Derived.Test.YtdhhiodnnnfioaaDoorChecked
import Derived.Test.YtdhhiodnnnfioaaDoorKit
import Derived.Test.YtdhhiodnnnfioaaDoorNumMath
import Derived.Lib.QuietBelow
import Derived.Deep.RegionWith
import Derived.Deep.DrawnRows
namespace Go.Proofs.YtdhhiodnnnfioaaDoor.Ref01
set_option linter.unusedVariables false
set_option maxRecDepth 100000
open Go.RowKit Kit NumMath
open Go.Sort (grow)
attribute [local go_sem ↓] Go.wp_at_zero Go.wp_at_succ

/-- 'string([]byte{c})'. -/
theorem conv_one {W : World} {b : Nat} {c : Int} (h : W.cell? ⟨b, 0, none⟩ = some (.int .u8 c)) (cap : Nat) :
    (convert 40 9 (.slice (some ⟨b, 0, none⟩) 1 cap)).run Tryd.prog W = .ok (.string ⟨#[UInt8.ofNat c.toNat]⟩) W := by
  have := run_convert_bytes_arg (P := Tryd.prog) W 40 5 Tryd.underlying40 Tryd.underlying5 b 0 1 cap [c] rfl (fun i hi => by
    have : i = 0 := by omega
    subst this
    simpa using h) 9 Tryd.underlying9
  rw [this]
  rfl

theorem itoa_one {n : Int} (h0 : 0 ≤ n) (h1 : n < 10) : Lib.itoa n = [UInt8.ofNat (48 + n).toNat] := by
  unfold Lib.itoa
  rw [if_neg (by omega), Lib.decDigits_one (by omega), show (48 + n).toNat = 48 + n.toNat by omega]
theorem itoa_one_neg {n : Int} (h0 : n < 0) (h1 : -10 < n) : Lib.itoa n = [45, UInt8.ofNat (48 - n).toNat] := by
  unfold Lib.itoa
  rw [if_pos h0, Lib.decDigits_one (by omega), show (48 - n).toNat = 48 + n.natAbs by omega]
theorem itoa_more {n q r : Int} (hn : 10 ≤ n) (h : 10 * q + r = n) (h0 : 0 ≤ r) (h1 : r < 10) : Lib.itoa n = Lib.itoa q ++ [UInt8.ofNat (48 + r).toNat] := by
  unfold Lib.itoa
  rw [if_neg (by omega), if_neg (by omega), Lib.decDigits, dif_neg (by omega), show n.toNat / 10 = q.toNat by omega, show 48 + n.toNat % 10 = (48 + r).toNat by omega]
theorem itoa_more_neg {n q r : Int} (hn : n ≤ -10) (h : 10 * q + r = n) (h0 : r ≤ 0) (h1 : -10 < r) : Lib.itoa n = Lib.itoa q ++ [UInt8.ofNat (48 - r).toNat] := by
  unfold Lib.itoa
  rw [if_pos (by omega), if_pos (by omega), Lib.decDigits, dif_neg (by omega), show n.natAbs / 10 = q.natAbs by omega, show 48 + n.natAbs % 10 = (48 - r).toNat by omega]
  rfl
theorem same_bytes {a b : ByteArray} (h : a.data.toList = b.data.toList) : a = b := ByteArray.ext (Array.toList_inj.1 h)

theorem text_any : ∀ (k : Nat) (n : Int) (w : World), n.natAbs ≤ k → -9223372036854775808 ≤ n → n ≤ 9223372036854775807 →
    Calls Tryd.prog 28 #[.int .i64 n] w fun e w' => e = .returned (.string ⟨(Lib.itoa n).toArray⟩) ∧ Below w.heap.size w w' := by
  intro k
  induction k using Nat.strongRecOn with
  | _ k ih =>
    intro n w hk n0 n1
    obtain ⟨q, hq⟩ : ∃ q, n.tdiv 10 = q := ⟨_, rfl⟩
    obtain ⟨r, hr⟩ : ∃ r, n.tmod 10 = r := ⟨_, rfl⟩
    have hqr : 10 * q + r = n := by rw [← hq, ← hr]; exact Int.mul_tdiv_add_tmod n 10
    have hr1 : -10 < r := by rw [← hr]; exact Int.lt_tmod_of_pos _ (by decide)
    have hr2 : r < 10 := by rw [← hr]; exact Int.tmod_lt_of_pos _ (by decide)
    by_cases hn : n < 0
    · have hr0 : r ≤ 0 := by rw [← hr]; have := Int.tmod_nonneg 10 (show 0 ≤ -n by omega); rw [Int.neg_tmod] at this; omega
      by_cases h10 : -10 < n
      · have hcv := fun (W : World) (b cap : Nat) (h : W.cell? ⟨b, 0, none⟩ = some (.int .u8 (48 - n))) => conv_one h cap
        clear hq hr hqr
        go_enter Tryd.func28, Tryd.ntmps28
        go_wp2
        go_ret
        exact ⟨ret_str (same_bytes (by rw [itoa_one_neg hn h10]; simp)), (Below.refl _ _).alloc (Nat.le_refl _) _⟩
      · have cih := fun W => ih q.natAbs (by omega) q W (Nat.le_refl _) (by omega) (by omega)
        obtain ⟨s, hs⟩ : ∃ s : ByteArray, (⟨(Lib.itoa q).toArray⟩ : ByteArray) = s := ⟨_, rfl⟩
        have hz : s.size ≤ 20 := by rw [← hs]; simp [ByteArray.size]; exact itoa_len q (by omega) (by omega)
        rw [hs] at cih
        have CI := Lib.hid cih
        have HS := Lib.hid hs
        clear cih hs
        have hcv := fun (W : World) (b cap : Nat) (h : W.cell? ⟨b, 0, none⟩ = some (.int .u8 (48 - r))) => conv_one h cap
        have h1 : IntKind.i64.wrap q = q := IntWalk.i64_in _ (by omega)
        have h2 : IntKind.i64.wrap (48 - r) = 48 - r := IntWalk.i64_in _ (by omega)
        have h3 : IntKind.u8.wrap (48 - r) = 48 - r := by rw [IntKind.wrap_u8]; omega
        have HQ := Lib.hid hqr
        clear hqr
        go_enter Tryd.func28, Tryd.ntmps28
        go_wp2_with fail
        go_region_with (go_at_call 28; refine (CI.out _).mono ?_; rintro e w' ⟨rfl, hb⟩; obtain ⟨hbc, -⟩ := bcell hb)
        all_goals clear hcv hbc
        all_goals go_wp2
        all_goals go_ret
        all_goals refine ⟨ret_str (same_bytes ?_), ?_⟩
        all_goals first | exact (Below.trans ⟨hb.os, hb.tape, hb.output, hb.size, hb.block⟩ ((Below.refl _ _).alloc hb.size _)) | exact (((Below.refl _ w).drew.alloc (Nat.le_refl _) _).trans (hb.mono (by simp))) | skip
        all_goals rw [itoa_more_neg h10 HQ.out hr0 hr1, ← HS.out]
        all_goals simp
    · have hr0 : 0 ≤ r := by rw [← hr]; exact Int.tmod_nonneg 10 (by omega)
      by_cases h10 : n < 10
      · have hcv := fun (W : World) (b cap : Nat) (h : W.cell? ⟨b, 0, none⟩ = some (.int .u8 (48 + n))) => conv_one h cap
        clear hq hr hqr
        go_enter Tryd.func28, Tryd.ntmps28
        go_wp2
        go_ret
        exact ⟨ret_str (same_bytes (by rw [itoa_one (by omega) h10])), (Below.refl _ _).alloc (Nat.le_refl _) _⟩
      · have cih := fun W => ih q.natAbs (by omega) q W (Nat.le_refl _) (by omega) (by omega)
        obtain ⟨s, hs⟩ : ∃ s : ByteArray, (⟨(Lib.itoa q).toArray⟩ : ByteArray) = s := ⟨_, rfl⟩
        have hz : s.size ≤ 20 := by rw [← hs]; simp [ByteArray.size]; exact itoa_len q (by omega) (by omega)
        rw [hs] at cih
        have CI := Lib.hid cih
        have HS := Lib.hid hs
        clear cih hs
        have hcv := fun (W : World) (b cap : Nat) (h : W.cell? ⟨b, 0, none⟩ = some (.int .u8 (48 + r))) => conv_one h cap
        have h1 : IntKind.i64.wrap q = q := IntWalk.i64_in _ (by omega)
        have h2 : IntKind.i64.wrap (48 + r) = 48 + r := IntWalk.i64_in _ (by omega)
        have h3 : IntKind.u8.wrap (48 + r) = 48 + r := by rw [IntKind.wrap_u8]; omega
        have HQ := Lib.hid hqr
        clear hqr
        go_enter Tryd.func28, Tryd.ntmps28
        go_wp2_with fail
        go_region_with (go_at_call 28; refine (CI.out _).mono ?_; rintro e w' ⟨rfl, hb⟩; obtain ⟨hbc, -⟩ := bcell hb)
        all_goals clear hcv hbc
        all_goals go_wp2
        all_goals go_ret
        all_goals refine ⟨ret_str (same_bytes ?_), ?_⟩
        all_goals first | exact (Below.trans ⟨hb.os, hb.tape, hb.output, hb.size, hb.block⟩ ((Below.refl _ _).alloc hb.size _)) | exact (((Below.refl _ w).drew.alloc (Nat.le_refl _) _).trans (hb.mono (by simp))) | skip
        all_goals rw [itoa_more h10 HQ.out hr0 hr2, ← HS.out]
        all_goals simp
end Go.Proofs.YtdhhiodnnnfioaaDoor.Ref01
