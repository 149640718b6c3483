/-
  The walk of the law NumAll: how any number is told, what any text says, what any two come to, and letters.
-/
-- ASKS: NumL.Gd
import Derived.Test.YtioleajmfgglhaaDoorRef01c
namespace Go.Proofs.YtioleajmfgglhaaDoor.numAll
set_option linter.unusedVariables false
open Go.RowKit Kit NumMath NumW NumL Ref01

theorem walk (a b : Int) (s : ByteArray) (w : World) (a0 : -9223372036854775808 ≤ a) (a1 : a ≤ 9223372036854775807) (b0 : -9223372036854775808 ≤ b) (b1 : b ≤ 9223372036854775807) (zs : s.size ≤ 140737488351232) (hg : Gd w) :
    Calls Tryd.prog 3 #[.int .i64 a, .int .i64 b, .string s] w fun e w' => e = .returned (.bool true) ∧ Below w.heap.size w w' := by
  have G := Lib.hid hg
  clear hg
  have CS := Lib.hid (fun W => short_any s W zs)
  have hz := shortS_size s
  generalize shortS s = x at CS hz
  have CP := fun W hW => parse_any x (by omega) W hW
  have CPR := fun W => parse_ref x W (by omega)
  generalize pV x.data.toList = p at CP CPR
  generalize pB x.data.toList = pb at CP CPR
  have CA := fun W => add_any a b W a0 a1 b0 b1
  have CAR := fun W => add_ref a b W a0 a1 b0 b1
  generalize addV a b = q at CA CAR
  generalize addB a b = qb at CA CAR
  have CT := fun W hW => NumL.text_any a a0 a1 W hW
  have CTR := fun W => Ref01.text_any _ a W (Nat.le_refl _) a0 a1
  generalize (⟨(Lib.itoa a).toArray⟩ : ByteArray) = t at CT CTR
  have CL := fun W => lower_any x W (by unfold maxLen; omega)
  have CLR := fun W => lower_ref x W (by omega) (by omega)
  generalize (⟨(lowL x.data.toList).toArray⟩ : ByteArray) = l at CL CLR
  have CW := fun W => word_any x W (by unfold maxLen; omega)
  have CWR := fun W => word_ref x W (by unfold maxLen; omega)
  generalize wordB x.data.toList = o at CW CWR
  have hqt : (t.toList == t.toList) = true := by simp
  have hql : (l.toList == l.toList) = true := by simp
  replace CP := Lib.hid CP
  replace CPR := Lib.hid CPR
  replace CA := Lib.hid CA
  replace CAR := Lib.hid CAR
  replace CT := Lib.hid CT
  replace CTR := Lib.hid CTR
  replace CL := Lib.hid CL
  replace CLR := Lib.hid CLR
  replace CW := Lib.hid CW
  replace CWR := Lib.hid CWR
  go_enter Tryd.func3, Tryd.ntmps3
  go_wp2_with fail
  with_reducible refine (shown_any _ G.out).mono ?_
  rintro e w1 ⟨rfl, hb⟩
  go_wp2_with fail
  with_reducible refine (CS.out _).mono ?_
  rintro e w2 ⟨rfl, rfl⟩
  go_wp2_with fail
  with_reducible refine (CP.out _ (G.out.keep hb)).mono ?_
  rintro e w2 ⟨rfl, hbn⟩
  replace hb := hb.trans (hbn.mono hb.size)
  clear hbn
  go_wp2_with fail
  with_reducible refine (CPR.out _).mono ?_
  rintro e w3 ⟨rfl, hbn⟩
  replace hb := hb.trans (hbn.mono hb.size)
  clear hbn
  go_wp2_with fail
  with_reducible refine (CA.out _).mono ?_
  rintro e w4 ⟨rfl, rfl⟩
  go_wp2_with fail
  with_reducible refine (CAR.out _).mono ?_
  rintro e w4 ⟨rfl, rfl⟩
  go_wp2_with fail
  with_reducible refine (CT.out _ (G.out.keep hb)).mono ?_
  rintro e w4 ⟨rfl, hbn⟩
  replace hb := hb.trans (hbn.mono hb.size)
  clear hbn
  go_wp2_with fail
  with_reducible refine (CTR.out _).mono ?_
  rintro e w5 ⟨rfl, hbn⟩
  replace hb := hb.trans (hbn.mono hb.size)
  clear hbn
  go_wp2_with fail
  with_reducible refine (CL.out _).mono ?_
  rintro e w6 ⟨rfl, hbn⟩
  replace hb := hb.trans (hbn.mono hb.size)
  clear hbn
  go_wp2_with fail
  with_reducible refine (CLR.out _).mono ?_
  rintro e w7 ⟨rfl, hbn⟩
  replace hb := hb.trans (hbn.mono hb.size)
  clear hbn
  go_wp2_with fail
  with_reducible refine (CW.out _).mono ?_
  rintro e w8 ⟨rfl, rfl⟩
  go_wp2_with fail
  with_reducible refine (CWR.out _).mono ?_
  rintro e w8 ⟨rfl, rfl⟩
  go_wp2
  go_ret
  exact ⟨ret_bool (by simp), hb⟩
end Go.Proofs.YtioleajmfgglhaaDoor.numAll
