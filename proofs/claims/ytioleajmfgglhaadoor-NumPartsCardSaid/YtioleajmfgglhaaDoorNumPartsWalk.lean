/-
  The walk of the law NumParts: which places two texts tell.
-/
-- ASKS: NumL.Gd
import Derived.Test.YtioleajmfgglhaaDoorRef01d
namespace Go.Proofs.YtioleajmfgglhaaDoor.numParts
set_option linter.unusedVariables false
open Go.RowKit Kit NumMath NumW NumL Ref01

theorem walk (a b : ByteArray) (n : Int) (w : World) (za : a.size ≤ 140737488351232) (zb : b.size ≤ 140737488351232) (n0 : 0 ≤ n) (n1 : n ≤ 255) (hg : Gd w) :
    Calls Tryd.prog 7 #[.string a, .string b, .int .u8 n] w fun e w' => e = .returned (.bool true) ∧ Below w.heap.size w w' := by
  have G := Lib.hid hg
  clear hg
  have CA := Lib.hid (fun W => short_any a W za)
  have CB := Lib.hid (fun W => short_any b W zb)
  have hza := shortS_size a
  have hzb := shortS_size b
  generalize shortS a = x at CA hza
  generalize shortS b = y at CB hzb
  obtain ⟨m, hm⟩ : ∃ m, n % 101 = m := ⟨_, rfl⟩
  have hm0 : 0 ≤ m := by omega
  have hm1 : m ≤ 100 := by omega
  have CP := fun W hW => part_any m x y (by omega) (by omega) (by omega) (by omega) W hW
  have CR := fun W => part_ref m x y (by omega) (by omega) hm0 (by omega) W
  have C0 := fun W hW => part_any m ⟨#[48]⟩ ⟨#[45, 49]⟩ (by decide) (by decide) (by omega) (by omega) W hW
  have e0 : partV m (⟨#[48]⟩ : ByteArray).data.toList (⟨#[45, 49]⟩ : ByteArray).data.toList = (0, m, true) := by
    have e1 : pV [48] = 0 := by decide +kernel
    have e2 : pB [48] = true := by decide +kernel
    have e3 : pV [45, 49] = -1 := by decide +kernel
    have e4 : pB [45, 49] = true := by decide +kernel
    show partR m (pV [48]) (pV [45, 49]) (pB [48]) (pB [45, 49]) = _
    rw [e1, e2, e3, e4]
    simp only [partR]
    split
    · congr 2; omega
    · have hbd : boundsI m 0 (-1) = (0, m) := by
        unfold boundsI
        rw [show placeI m 0 = 0 from rfl, show placeI m (-1) = m + -1 from rfl]
        simp only
        rw [if_neg (by omega)]
        congr 1 <;> omega
      rw [hbd]
  rw [e0] at C0
  have hb1 : 0 ≤ (partV m x.data.toList y.data.toList).1 ∧ (partV m x.data.toList y.data.toList).1 ≤ (partV m x.data.toList y.data.toList).2.1 ∧ (partV m x.data.toList y.data.toList).2.1 ≤ m := by
    unfold partV
    generalize pV x.data.toList = p
    generalize pV y.data.toList = q
    cases pB x.data.toList <;> cases pB y.data.toList <;> simp only [partR]
    · omega
    · omega
    · omega
    · split
      · simp only; omega
      · have := boundsI_lt m p q
        simp only
        omega
  generalize partV m x.data.toList y.data.toList = V at CP CR hb1
  obtain ⟨f, t, o⟩ := V
  simp only at CP CR hb1
  obtain ⟨f0, f1, t1⟩ := hb1
  have d1 : decide (0 ≤ f) = true := decide_eq_true f0
  have d2 : decide (f ≤ t) = true := decide_eq_true f1
  have d3 : decide (t ≤ m) = true := decide_eq_true t1
  have CP' := Lib.hid CP
  have CR' := Lib.hid CR
  have C0' := Lib.hid C0
  clear CP CR C0 e0
  go_enter Tryd.func7, Tryd.ntmps7
  go_wp2_with fail
  with_reducible refine (shown_any _ G.out).mono ?_
  rintro e w1 ⟨rfl, hb⟩
  go_wp2_with fail
  with_reducible refine (CA.out _).mono ?_
  rintro e w2 ⟨rfl, rfl⟩
  go_wp2_with fail
  with_reducible refine (CB.out _).mono ?_
  rintro e w2 ⟨rfl, rfl⟩
  go_wp2_with fail
  with_reducible refine (CP'.out _ (G.out.keep hb)).mono ?_
  rintro e w2 ⟨rfl, hbn⟩
  replace hb := hb.trans (hbn.mono hb.size)
  clear hbn
  go_wp2_with fail
  with_reducible refine (CA.out _).mono ?_
  rintro e w3 ⟨rfl, rfl⟩
  go_wp2_with fail
  with_reducible refine (CB.out _).mono ?_
  rintro e w3 ⟨rfl, rfl⟩
  go_wp2_with fail
  with_reducible refine (CR'.out _).mono ?_
  rintro e w3 ⟨rfl, hbn⟩
  replace hb := hb.trans (hbn.mono hb.size)
  clear hbn
  go_wp2_with fail
  with_reducible refine (C0'.out _ (G.out.keep hb)).mono ?_
  rintro e w4 ⟨rfl, hbn⟩
  replace hb := hb.trans (hbn.mono hb.size)
  clear hbn
  go_wp2
  go_ret
  exact ⟨rfl, hb⟩
end Go.Proofs.YtioleajmfgglhaaDoor.numParts
