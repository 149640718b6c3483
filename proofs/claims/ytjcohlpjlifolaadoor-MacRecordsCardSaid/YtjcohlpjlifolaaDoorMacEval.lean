/-
  The document's example: the records of 'pw' and 'pv' differ. By evaluation.
-/
import Derived.Test.YtjcohlpjlifolaaDoorMacRec
namespace Go.Proofs.YtjcohlpjlifolaaDoor.MacM
open Go Kit ShaMath ShaT HexMath NumMath
set_option linter.unusedVariables false

theorem W8.ext' {a b : W8} (h1 : a.a = b.a) (h2 : a.b = b.b) (h3 : a.c = b.c) (h4 : a.d = b.d) (h5 : a.e = b.e) (h6 : a.f = b.f) (h7 : a.g = b.g) (h8 : a.h = b.h) : a = b := by
  cases a; cases b; simp_all
/-- Eight words, told apart by one number each. -/
def sameW (a b : W8) : Bool := a.a == b.a && a.b == b.b && a.c == b.c && a.d == b.d && a.e == b.e && a.f == b.f && a.g == b.g && a.h == b.h
theorem sameW_eq {a b : W8} (h : sameW a b = true) : a = b := by
  unfold sameW at h
  simp only [Bool.and_eq_true, beq_iff_eq] at h
  obtain ⟨⟨⟨⟨⟨⟨⟨h1, h2⟩, h3⟩, h4⟩, h5⟩, h6⟩, h7⟩, h8⟩ := h
  exact W8.ext' h1 h2 h3 h4 h5 h6 h7 h8
theorem der_one (pass salt : List UInt8) (j : Nat) : derAt pass salt 1 j = sumAt (padL (keyAt pass) 92 ++ sumList (padL (keyAt pass) 54 ++ firstMsg salt)) j := by
  rw [derAt_in (by omega)]
  show mixAt (keyAt pass) salt 1 j = _
  rw [mixAt_one]
  rfl
theorem pw_in : sumW (padL (keyAt [112, 119]) 54 ++ firstMsg [1]) = ⟨3037738177, 4170617188, 1154381504, 4138371107, 620095556, 2717281817, 3743057128, 1080473291⟩ := sameW_eq (by decide +kernel)
theorem pv_in : sumW (padL (keyAt [112, 118]) 54 ++ firstMsg [1]) = ⟨1763039833, 3352321503, 1394820953, 2033752236, 3636797513, 132453069, 2250095214, 3362295230⟩ := sameW_eq (by decide +kernel)
theorem pw_list : sumList (padL (keyAt [112, 119]) 54 ++ firstMsg [1]) = [181, 16, 52, 193, 248, 150, 145, 100, 68, 206, 118, 192, 246, 170, 136, 35, 36, 245, 232, 68, 161, 246, 110, 25, 223, 26, 132, 232, 64, 102, 182, 203] := by
  unfold sumList sumAt
  rw [pw_in]
  decide +kernel
theorem pv_list : sumList (padL (keyAt [112, 118]) 54 ++ firstMsg [1]) = [105, 21, 218, 89, 199, 208, 93, 223, 83, 35, 71, 89, 121, 56, 152, 172, 216, 197, 32, 73, 7, 229, 18, 205, 134, 29, 186, 110, 200, 104, 141, 190] := by
  unfold sumList sumAt
  rw [pv_in]
  decide +kernel
theorem pw_0 : derAt [112, 119] [1] 1 0 = 14 := by
  rw [der_one, pw_list]
  decide +kernel
theorem pv_0 : derAt [112, 118] [1] 1 0 = 44 := by
  rw [der_one, pv_list]
  decide +kernel
theorem pw_pv : derL [112, 118] [1] 1 ≠ derL [112, 119] [1] 1 := by
  intro h
  have := bytesOf_inj 32 _ _ (derAt_lt _ _ _) (derAt_lt _ _ _) h 0 (by decide)
  rw [pw_0, pv_0] at this
  exact absurd this (by decide)

end Go.Proofs.YtjcohlpjlifolaaDoor.MacM
