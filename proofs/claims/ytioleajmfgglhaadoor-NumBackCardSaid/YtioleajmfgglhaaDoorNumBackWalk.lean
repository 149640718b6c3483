/-
  The walk of the law NumBack: what was told as digits is taken, and nothing else.
-/
-- ASKS: NumL.Gd
import Derived.Test.YtioleajmfgglhaaDoorNumLib
namespace Go.Proofs.YtioleajmfgglhaaDoor.numBack
open Go.RowKit Kit NumMath NumW NumL

theorem app (a b : ByteArray) : (a ++ b).data.toList = a.data.toList ++ b.data.toList := by simp

/-- num.Parse, where it is known what it says. -/
theorem parse_is (l : List UInt8) (x : Int) (p : Bool) (hx : pV l = x) (hp : pB l = p) (S : ByteArray) (hS : S.data.toList = l) (hz : S.size ≤ 281474976710656) (W : World) (hW : Gd W) :
    Calls Tryd.prog 12 #[.string S] W fun e w' => e = .returned (.tuple #[.int .i64 x, .bool p]) ∧ Below W.heap.size W w' := by
  subst hS hx hp
  exact parse_any S hz W hW

theorem word_itoa (n : Int) : wordB (Lib.itoa n) = true := by
  unfold wordB
  have h1 : (Lib.itoa n).all okByte = true := by
    rw [List.all_eq_true]
    intro c hc
    rcases itoa_mem n c hc with h | h
    · rw [h]; decide
    · unfold isDig at h; exact okByte_yes (by omega) (by omega)
  have h2 : (Lib.itoa n).isEmpty = false := by
    cases h : Lib.itoa n with
    | nil => exact absurd h (itoa_ne n)
    | cons => rfl
  rw [h1, h2]
  rfl

theorem walk (n : Int) (s : ByteArray) (w : World) (n0 : -9223372036854775808 ≤ n) (n1 : n ≤ 9223372036854775807) (zs : s.size ≤ 140737488351232) (hg : Gd w) :
    Calls Tryd.prog 4 #[.int .i64 n, .string s] w fun e w' => e = .returned (.bool true) ∧ Below w.heap.size w w' := by
  have G := Lib.hid hg
  clear hg
  have CS := Lib.hid (fun W => short_any s W zs)
  have hz := shortS_size s
  generalize shortS s = r at CS hz
  have CT := Lib.hid (fun W hW => text_any n n0 n1 W hW)
  have CP := Lib.hid (parse_is (Lib.itoa n) n true (by simp [pV, parse_itoa n n0 n1]) (by simp [pB, parse_itoa n n0 n1]))
  have CA := Lib.hid (parse_is (48 :: Lib.itoa n) 0 false (by simp [pV, parse_zero_more]) (by simp [pB, parse_zero_more]))
  have CB := Lib.hid (parse_is (43 :: Lib.itoa n) 0 false (by simp [pV, parse_plus]) (by simp [pB, parse_plus]))
  have CC := Lib.hid (parse_is (Lib.itoa n ++ [32]) 0 false (by simp [pV, parse_blank]) (by simp [pB, parse_blank]))
  have CR := fun W hW => parse_any r (by omega) W hW
  have hxp : (pB r.data.toList = true → Lib.itoa (pV r.data.toList) = r.data.toList ∧ -9223372036854775808 ≤ pV r.data.toList ∧ pV r.data.toList ≤ 9223372036854775807) ∧ (pB r.data.toList = false → pV r.data.toList = 0) := by
    unfold pB pV
    cases h : parse r.data.toList with
    | none => simp
    | some x => simp; exact parse_some h
  generalize pB r.data.toList = p at CR hxp
  generalize pV r.data.toList = x at CR hxp
  replace CR := Lib.hid CR
  have hlen := itoa_len n n0 n1
  have CW := Lib.hid (fun (S : ByteArray) (hS : S.data.toList = Lib.itoa n) (hz : S.size ≤ maxLen) W => (show Calls Tryd.prog 20 #[.string S] W fun e w' => e = .returned (.bool true) ∧ W = w' from by
    have := word_any S W hz
    rw [hS, word_itoa] at this
    exact this))
  have hl20 : ((⟨(Lib.itoa n).toArray⟩ : ByteArray).size : Int) ≤ 20 := by simp [ByteArray.size]; omega
  have HL := Lib.hid hl20
  clear hl20
  cases p
  · have hx0 : x = 0 := hxp.2 rfl
    subst hx0
    clear hxp
    go_enter Tryd.func4, Tryd.ntmps4
    go_wp2_with fail
    with_reducible refine (shown_any _ G.out).mono ?_
    rintro e w1 ⟨rfl, hb⟩
    go_wp2_with fail
    with_reducible refine (CT.out _ (G.out.keep hb)).mono ?_
    rintro e w2 ⟨rfl, hbn⟩
    replace hb := hb.trans (hbn.mono hb.size)
    clear hbn
    go_wp2_with fail
    with_reducible refine (CP.out _ rfl (by simp [ByteArray.size]; omega) _ (G.out.keep hb)).mono ?_
    rintro e w3 ⟨rfl, hbn⟩
    replace hb := hb.trans (hbn.mono hb.size)
    clear hbn
    go_wp2_with fail
    with_reducible refine (CA.out _ (by simp) (by simp [ByteArray.size]; omega) _ (G.out.keep hb)).mono ?_
    rintro e w4 ⟨rfl, hbn⟩
    replace hb := hb.trans (hbn.mono hb.size)
    clear hbn
    go_wp2_with fail
    with_reducible refine (CB.out _ (by simp) (by simp [ByteArray.size]; omega) _ (G.out.keep hb)).mono ?_
    rintro e w5 ⟨rfl, hbn⟩
    replace hb := hb.trans (hbn.mono hb.size)
    clear hbn
    go_wp2_with fail
    with_reducible refine (CC.out _ (by simp) (by simp [ByteArray.size]; omega) _ (G.out.keep hb)).mono ?_
    rintro e w6 ⟨rfl, hbn⟩
    replace hb := hb.trans (hbn.mono hb.size)
    clear hbn
    go_wp2_with fail
    with_reducible refine (CS.out _).mono ?_
    rintro e w7 ⟨rfl, rfl⟩
    go_wp2_with fail
    with_reducible refine (CR.out _ (G.out.keep hb)).mono ?_
    rintro e w8 ⟨rfl, hbn⟩
    replace hb := hb.trans (hbn.mono hb.size)
    clear hbn
    go_wp2_with fail
    with_reducible refine (CW.out _ rfl (by simp [ByteArray.size, maxLen]; omega) _).mono ?_
    rintro e w9 ⟨rfl, rfl⟩
    go_wp2
    go_ret
    exact ⟨rfl, hb⟩
  · obtain ⟨e1, x0, x1⟩ := hxp.1 rfl
    have CX := Lib.hid (fun W hW => text_any x x0 x1 W hW)
    rw [e1] at CX
    have hq : (r.toList == r.toList) = true := by simp
    clear e1 hxp
    go_enter Tryd.func4, Tryd.ntmps4
    go_wp2_with fail
    with_reducible refine (shown_any _ G.out).mono ?_
    rintro e w1 ⟨rfl, hb⟩
    go_wp2_with fail
    with_reducible refine (CT.out _ (G.out.keep hb)).mono ?_
    rintro e w2 ⟨rfl, hbn⟩
    replace hb := hb.trans (hbn.mono hb.size)
    clear hbn
    go_wp2_with fail
    with_reducible refine (CP.out _ rfl (by simp [ByteArray.size]; omega) _ (G.out.keep hb)).mono ?_
    rintro e w3 ⟨rfl, hbn⟩
    replace hb := hb.trans (hbn.mono hb.size)
    clear hbn
    go_wp2_with fail
    with_reducible refine (CA.out _ (by simp) (by simp [ByteArray.size]; omega) _ (G.out.keep hb)).mono ?_
    rintro e w4 ⟨rfl, hbn⟩
    replace hb := hb.trans (hbn.mono hb.size)
    clear hbn
    go_wp2_with fail
    with_reducible refine (CB.out _ (by simp) (by simp [ByteArray.size]; omega) _ (G.out.keep hb)).mono ?_
    rintro e w5 ⟨rfl, hbn⟩
    replace hb := hb.trans (hbn.mono hb.size)
    clear hbn
    go_wp2_with fail
    with_reducible refine (CC.out _ (by simp) (by simp [ByteArray.size]; omega) _ (G.out.keep hb)).mono ?_
    rintro e w6 ⟨rfl, hbn⟩
    replace hb := hb.trans (hbn.mono hb.size)
    clear hbn
    go_wp2_with fail
    with_reducible refine (CS.out _).mono ?_
    rintro e w7 ⟨rfl, rfl⟩
    go_wp2_with fail
    with_reducible refine (CR.out _ (G.out.keep hb)).mono ?_
    rintro e w8 ⟨rfl, hbn⟩
    replace hb := hb.trans (hbn.mono hb.size)
    clear hbn
    go_wp2_with fail
    with_reducible refine (CX.out _ (G.out.keep hb)).mono ?_
    rintro e w9 ⟨rfl, hbn⟩
    replace hb := hb.trans (hbn.mono hb.size)
    clear hbn
    go_wp2_with fail
    with_reducible refine (CS.out _).mono ?_
    rintro e w7 ⟨rfl, rfl⟩
    go_wp2_with fail
    with_reducible refine (CW.out _ rfl (by simp [ByteArray.size, maxLen]; omega) _).mono ?_
    rintro e w9 ⟨rfl, rfl⟩
    go_wp2
    go_ret
    exact ⟨rfl, hb⟩
end Go.Proofs.YtioleajmfgglhaaDoor.numBack
