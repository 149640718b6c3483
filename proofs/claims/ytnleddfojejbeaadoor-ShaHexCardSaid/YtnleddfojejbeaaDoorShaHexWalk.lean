/-
  'tipstafflaw02.ShaHex': for all bytes and texts it answers true.
-/
import Derived.Test.YtnleddfojejbeaaDoorShaBackWalk
import Derived.Test.YtnleddfojejbeaaDoorRefHexWalk
namespace Go.Proofs.YtnleddfojejbeaaDoor.shaHex
open Go.RowKit Kit HexMath ShaT HexW shaBack
set_option linter.unusedVariables false
-- ASKS: ShaT.Tabs

set_option maxHeartbeats 2000000 in
theorem walk (p : Option Addr) (l : List UInt8) (cap : Nat) (s : ByteArray) (w : World) (hb : Bs w p l) (hl : l.length ≤ 140737488351232) (hlc : l.length ≤ cap) (hc : cap ≤ 9223372036854775807) (hz : s.size ≤ 140737488351232) (hg : Tabs w) :
    Calls Tryd.prog 5 #[.slice p l.length cap, .string s] w fun e w' => e = .returned (.bool true) ∧ Below w.heap.size w w' := by
  by_cases hs : s.size ≤ 300
  · go_enter Tryd.func5, Tryd.ntmps5
    go_wp2_with fail
    refine (shown_any _ hg).mono ?_
    rintro e w1 ⟨rfl, hb1⟩
    have HB := Lib.hid (hb.keep hb1)
    have HB1 := Lib.hid hb1
    clear hb1
    go_wp2_with fail
    refine (short_any p l cap _ HB.out (by omega) hlc hc).mono ?_
    rintro e w' ⟨rfl, rfl⟩
    have HL2 := Lib.hid (HB.out.take 300)
    obtain ⟨r, hr⟩ : ∃ r, r = l.take 300 := ⟨_, rfl⟩
    have hrl : r.length ≤ 300 := by rw [hr, List.length_take]; omega
    rw [← hr] at HL2 ⊢
    clear hr HB
    go_wp2_with fail
    obtain ⟨u, hu⟩ : ∃ u : ByteArray, u = s := ⟨_, rfl⟩
    have hus : u.size ≤ 300 := by rw [hu]; exact hs
    rw [← hu]
    clear hu
    refine (unhex_any u _ (by omega)).mono ?_
    intro e w4 hp
    have HP := Lib.hid hp
    clear hp
    rcases HP.out with ⟨hn, rfl, hb4⟩ | ⟨out, y, hy, rfl, hoy, hb4⟩
    · have HL5 := Lib.hid (HL2.out.keep hb4)
      have HB4 := Lib.hid (HB1.out.trans (hb4.mono HB1.out.size))
      have HU := Lib.hid hn
      clear hb4 HP HL2 HB1 hn
      go_wp2_with fail
      refine (runhex_any u _ (by omega)).mono ?_
      intro e w5 hp
      have HP := Lib.hid hp
      clear hp
      rcases HP.out with ⟨hn, rfl, hb5⟩ | ⟨out, y, hy, -⟩
      · have HL6 := Lib.hid (HL5.out.keep hb5)
        have HB5 := Lib.hid (HB4.out.trans (hb5.mono HB4.out.size))
        clear hb5 HL5 HB4 HP hn
        go_wp2_with fail
        refine (hex_any p r cap _ HL6.out (by omega)).mono ?_
        rintro e w6 ⟨rfl, hb6⟩
        have HL7 := Lib.hid (HL6.out.keep hb6)
        have HB6 := Lib.hid (HB5.out.trans (hb6.mono HB5.out.size))
        clear hb6 HL6 HB5
        obtain ⟨q, hq⟩ : ∃ q : ByteArray, q = ⟨(hexL r).toArray⟩ := ⟨_, rfl⟩
        have HQ := Lib.hid hq
        rw [← hq]
        clear hq
        go_wp2_with fail
        refine (rhex_any p r cap _ HL7.out (by omega)).mono ?_
        rw [← HQ.out]
        rintro e w7 ⟨rfl, hb7⟩
        have HB7 := Lib.hid (HB6.out.trans (hb7.mono HB6.out.size))
        have cn := run_convert_bytes_nil (P := Tryd.prog) w7 22 5 Tryd.underlying22 Tryd.underlying5 0 0 9 Tryd.underlying9
        clear hb7 HB6
        go_wp2_with fail
        go_ret
        exact ⟨rfl, HB7.out⟩
      · exact absurd (HU.out.symm.trans hy) (by simp)
    · obtain ⟨py, cy, rfl, hBy⟩ := own_bs hoy
      have HL5 := Lib.hid (HL2.out.keep hb4)
      have HY5 := Lib.hid hBy
      have HB4 := Lib.hid (HB1.out.trans (hb4.mono HB1.out.size))
      have HU := Lib.hid hy
      clear hb4 HP HL2 HB1 hy hoy hBy
      go_wp2_with fail
      refine (runhex_any u _ (by omega)).mono ?_
      intro e w5 hp
      have HP := Lib.hid hp
      clear hp
      rcases HP.out with ⟨hn, -⟩ | ⟨out2, y2, hy2, rfl, hoy2, hb5⟩
      · exact absurd (HU.out.symm.trans hn) (by simp)
      · obtain rfl : out2 = out := Option.some.inj (hy2.symm.trans HU.out)
        obtain ⟨pz, cz, rfl, hBz⟩ := own_bs hoy2
        have HL6 := Lib.hid (HL5.out.keep hb5)
        have HY6 := Lib.hid (HY5.out.keep hb5)
        have HZ6 := Lib.hid hBz
        have HB5 := Lib.hid (HB4.out.trans (hb5.mono HB4.out.size))
        clear hb5 HL5 HB4 HP HY5 hoy2 hBz hy2
        go_wp2_with fail
        refine (hex_any p r cap _ HL6.out (by omega)).mono ?_
        rintro e w6 ⟨rfl, hb6⟩
        have HL7 := Lib.hid (HL6.out.keep hb6)
        have HY7 := Lib.hid (HY6.out.keep hb6)
        have HZ7 := Lib.hid (HZ6.out.keep hb6)
        have HB6 := Lib.hid (HB5.out.trans (hb6.mono HB5.out.size))
        clear hb6 HL6 HB5 HY6 HZ6
        obtain ⟨q, hq⟩ : ∃ q : ByteArray, q = ⟨(hexL r).toArray⟩ := ⟨_, rfl⟩
        have HQ := Lib.hid hq
        rw [← hq]
        clear hq
        go_wp2_with fail
        refine (rhex_any p r cap _ HL7.out (by omega)).mono ?_
        rw [← HQ.out]
        rintro e w7 ⟨rfl, hb7⟩
        have HB7 := Lib.hid (HB6.out.trans (hb7.mono HB6.out.size))
        have c1 := bs_string (HY7.out.keep hb7) cy
        have c2 := bs_string (HZ7.out.keep hb7) cz
        clear hb7 HB6
        go_wp2_with fail
        go_ret
        exact ⟨rfl, HB7.out⟩
  · go_enter Tryd.func5, Tryd.ntmps5
    go_wp2_with fail
    refine (shown_any _ hg).mono ?_
    rintro e w1 ⟨rfl, hb1⟩
    have HB := Lib.hid (hb.keep hb1)
    have HB1 := Lib.hid hb1
    clear hb1
    go_wp2_with fail
    refine (short_any p l cap _ HB.out (by omega) hlc hc).mono ?_
    rintro e w' ⟨rfl, rfl⟩
    have HL2 := Lib.hid (HB.out.take 300)
    obtain ⟨r, hr⟩ : ∃ r, r = l.take 300 := ⟨_, rfl⟩
    have hrl : r.length ≤ 300 := by rw [hr, List.length_take]; omega
    rw [← hr] at HL2 ⊢
    clear hr HB
    go_wp2_with fail
    obtain ⟨u, hu⟩ : ∃ u : ByteArray, u = s.extract 0 300 := ⟨_, rfl⟩
    have hus : u.size ≤ 300 := by rw [hu]; rw [ByteArray.size_extract]; omega
    rw [← hu]
    clear hu
    refine (unhex_any u _ (by omega)).mono ?_
    intro e w4 hp
    have HP := Lib.hid hp
    clear hp
    rcases HP.out with ⟨hn, rfl, hb4⟩ | ⟨out, y, hy, rfl, hoy, hb4⟩
    · have HL5 := Lib.hid (HL2.out.keep hb4)
      have HB4 := Lib.hid (HB1.out.trans (hb4.mono HB1.out.size))
      have HU := Lib.hid hn
      clear hb4 HP HL2 HB1 hn
      go_wp2_with fail
      refine (runhex_any u _ (by omega)).mono ?_
      intro e w5 hp
      have HP := Lib.hid hp
      clear hp
      rcases HP.out with ⟨hn, rfl, hb5⟩ | ⟨out, y, hy, -⟩
      · have HL6 := Lib.hid (HL5.out.keep hb5)
        have HB5 := Lib.hid (HB4.out.trans (hb5.mono HB4.out.size))
        clear hb5 HL5 HB4 HP hn
        go_wp2_with fail
        refine (hex_any p r cap _ HL6.out (by omega)).mono ?_
        rintro e w6 ⟨rfl, hb6⟩
        have HL7 := Lib.hid (HL6.out.keep hb6)
        have HB6 := Lib.hid (HB5.out.trans (hb6.mono HB5.out.size))
        clear hb6 HL6 HB5
        obtain ⟨q, hq⟩ : ∃ q : ByteArray, q = ⟨(hexL r).toArray⟩ := ⟨_, rfl⟩
        have HQ := Lib.hid hq
        rw [← hq]
        clear hq
        go_wp2_with fail
        refine (rhex_any p r cap _ HL7.out (by omega)).mono ?_
        rw [← HQ.out]
        rintro e w7 ⟨rfl, hb7⟩
        have HB7 := Lib.hid (HB6.out.trans (hb7.mono HB6.out.size))
        have cn := run_convert_bytes_nil (P := Tryd.prog) w7 22 5 Tryd.underlying22 Tryd.underlying5 0 0 9 Tryd.underlying9
        clear hb7 HB6
        go_wp2_with fail
        go_ret
        exact ⟨rfl, HB7.out⟩
      · exact absurd (HU.out.symm.trans hy) (by simp)
    · obtain ⟨py, cy, rfl, hBy⟩ := own_bs hoy
      have HL5 := Lib.hid (HL2.out.keep hb4)
      have HY5 := Lib.hid hBy
      have HB4 := Lib.hid (HB1.out.trans (hb4.mono HB1.out.size))
      have HU := Lib.hid hy
      clear hb4 HP HL2 HB1 hy hoy hBy
      go_wp2_with fail
      refine (runhex_any u _ (by omega)).mono ?_
      intro e w5 hp
      have HP := Lib.hid hp
      clear hp
      rcases HP.out with ⟨hn, -⟩ | ⟨out2, y2, hy2, rfl, hoy2, hb5⟩
      · exact absurd (HU.out.symm.trans hn) (by simp)
      · obtain rfl : out2 = out := Option.some.inj (hy2.symm.trans HU.out)
        obtain ⟨pz, cz, rfl, hBz⟩ := own_bs hoy2
        have HL6 := Lib.hid (HL5.out.keep hb5)
        have HY6 := Lib.hid (HY5.out.keep hb5)
        have HZ6 := Lib.hid hBz
        have HB5 := Lib.hid (HB4.out.trans (hb5.mono HB4.out.size))
        clear hb5 HL5 HB4 HP HY5 hoy2 hBz hy2
        go_wp2_with fail
        refine (hex_any p r cap _ HL6.out (by omega)).mono ?_
        rintro e w6 ⟨rfl, hb6⟩
        have HL7 := Lib.hid (HL6.out.keep hb6)
        have HY7 := Lib.hid (HY6.out.keep hb6)
        have HZ7 := Lib.hid (HZ6.out.keep hb6)
        have HB6 := Lib.hid (HB5.out.trans (hb6.mono HB5.out.size))
        clear hb6 HL6 HB5 HY6 HZ6
        obtain ⟨q, hq⟩ : ∃ q : ByteArray, q = ⟨(hexL r).toArray⟩ := ⟨_, rfl⟩
        have HQ := Lib.hid hq
        rw [← hq]
        clear hq
        go_wp2_with fail
        refine (rhex_any p r cap _ HL7.out (by omega)).mono ?_
        rw [← HQ.out]
        rintro e w7 ⟨rfl, hb7⟩
        have HB7 := Lib.hid (HB6.out.trans (hb7.mono HB6.out.size))
        have c1 := bs_string (HY7.out.keep hb7) cy
        have c2 := bs_string (HZ7.out.keep hb7) cz
        clear hb7 HB6
        go_wp2_with fail
        go_ret
        exact ⟨rfl, HB7.out⟩

end Go.Proofs.YtnleddfojejbeaaDoor.shaHex
