/-
  The landed code of layer 6 over the library's contracts: bytes.CutSuffix and TrimSuffix at a byte 13, HasPrefix at a line's end.
-/
import Derived.Test.YtadffjmpkeaikaaDoorFrameLine
import Derived.Lib.SlBytesRowKit2
namespace Go.Proofs.YtadffjmpkeaikaaDoor.FrameM
open Go.RowKit Kit BytesIn ReplyMath ReplyT NumMath FrameMath FrameT
set_option linter.unusedVariables false
set_option maxRecDepth 100000

/-- A row that ends with a byte 13. -/
def cr (l : List UInt8) : Bool := decide (1 ≤ l.length ∧ l[l.length - 1]? = some 13)
theorem suffix_cr (l : List UInt8) : Lib.hasSuffix l [13] = cr l := by
  unfold Lib.hasSuffix cr
  rw [Bool.eq_iff_iff, List.isSuffixOf_iff_suffix, decide_eq_true_eq]
  constructor
  · rintro ⟨t, rfl⟩
    refine ⟨by simp, ?_⟩
    rw [List.length_append, List.length_singleton, Nat.add_sub_cancel, List.getElem?_append_right (Nat.le_refl _), Nat.sub_self]
    rfl
  · rintro ⟨h1, h2⟩
    refine ⟨l.take (l.length - 1), ?_⟩
    have h3 : l[l.length - 1]'(by omega) = 13 := by
      rw [List.getElem?_eq_getElem (by omega)] at h2
      exact Option.some.inj h2
    have h4 := List.take_succ_eq_append_getElem (show l.length - 1 < l.length by omega)
    rw [h3, show l.length - 1 + 1 = l.length by omega, List.take_length] at h4
    exact h4.symm
theorem cr_take (l : List UInt8) (i : Nat) (h : i ≤ l.length) : cr (l.take i) = decide (1 ≤ i ∧ l[i - 1]? = some 13) := by
  unfold cr
  rw [List.length_take, Nat.min_eq_left h, Bool.eq_iff_iff, decide_eq_true_eq, decide_eq_true_eq]
  constructor
  · rintro ⟨h1, h2⟩
    rw [List.getElem?_take_of_lt (by omega)] at h2
    exact ⟨h1, h2⟩
  · rintro ⟨h1, h2⟩
    rw [List.getElem?_take_of_lt (by omega)]
    exact ⟨h1, h2⟩
theorem endAt_cr (l : List UInt8) (i : Nat) (h : i ≤ l.length) : endAt l i = if cr (l.take i) = true then i - 1 else i := by
  rw [cr_take l i h]
  unfold endAt
  by_cases hh : 1 ≤ i ∧ l[i - 1]? = some 13
  · rw [if_pos hh, if_pos (decide_eq_true hh)]
  · rw [if_neg hh, if_neg (by simpa using hh)]
theorem cut_cr (p : Option Addr) (l : List UInt8) (n c : Nat) (q : Option Addr) (d : Nat) (w : World) (hn : l.length = n) (hb : Bs w p l) (hc : n ≤ c) (hz : n ≤ 9223372036854775807) (hq : Bs w q [13]) :
    Calls Tryd.prog 41 #[.slice p n c, .slice q 1 d] w fun e w' => e = .returned (.tuple #[if cr l = true then .slice p (n - 1) c else .slice p n c, .bool (cr l)]) ∧ w' = w := by
  refine (Tryd.bytes_CutSuffix_all p q n c 1 d (Lib.numsL l) (Lib.numsL [13]) w (by rw [Lib.numsL_length, hn]) rfl hc hz (bs_in hb hn) (bs_in hq rfl)).mono ?_
  rintro e w' ⟨he, hw⟩
  rw [trimSuffixV_eq (by rw [Lib.numsL_length, hn]) (bs_in hb hn), Lib.bytesOf_numsL, Lib.bytesOf_numsL, suffix_cr] at he
  exact ⟨he, hw⟩
theorem trim_cr (p : Option Addr) (l : List UInt8) (n c : Nat) (q : Option Addr) (d : Nat) (w : World) (hn : l.length = n) (hb : Bs w p l) (hc : n ≤ c) (hz : n ≤ 9223372036854775807) (hq : Bs w q [13]) :
    Calls Tryd.prog 36 #[.slice p n c, .slice q 1 d] w fun e w' => e = .returned (if cr l = true then .slice p (n - 1) c else .slice p n c) ∧ w' = w := by
  refine (Tryd.bytes_TrimSuffix_all p q n c 1 d (Lib.numsL l) (Lib.numsL [13]) w (by rw [Lib.numsL_length, hn]) rfl hc hz (bs_in hb hn) (bs_in hq rfl)).mono ?_
  rintro e w' ⟨he, hw⟩
  rw [trimSuffixV_eq (by rw [Lib.numsL_length, hn]) (bs_in hb hn), Lib.bytesOf_numsL, Lib.bytesOf_numsL, suffix_cr] at he
  exact ⟨he, hw⟩
theorem prefix_end (p : Option Addr) (l : List UInt8) (n c : Nat) (q : Option Addr) (d : Nat) (w : World) (hn : l.length = n) (hb : Bs w p l) (hc : n ≤ c) (hq : Bs w q [13, 10]) :
    Calls Tryd.prog 43 #[.slice p n c, .slice q 2 d] w fun e w' => e = .returned (.bool (decide (l.take 2 = [13, 10]))) ∧ w' = w := by
  refine (Tryd.bytes_HasPrefix_all p q n c 2 d (Lib.numsL l) (Lib.numsL [13, 10]) w (by rw [Lib.numsL_length, hn]) rfl hc (bs_in hb hn) (bs_in hq rfl)).mono ?_
  rintro e w' ⟨he, hw⟩
  rw [Lib.bytesOf_numsL, Lib.bytesOf_numsL] at he
  refine ⟨?_, hw⟩
  rw [he]
  congr 2
  rw [Bool.eq_iff_iff, decide_eq_true_eq]
  unfold Lib.hasPrefix
  rw [List.isPrefixOf_iff_prefix, List.prefix_iff_eq_take]
  exact ⟨fun h => h.symm, fun h => h.symm⟩

end Go.Proofs.YtadffjmpkeaikaaDoor.FrameM
