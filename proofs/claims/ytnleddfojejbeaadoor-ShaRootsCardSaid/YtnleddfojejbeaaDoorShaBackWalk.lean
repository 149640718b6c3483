/-
  'tipstafflaw02.ShaBack': for all bytes and texts it answers true.
-/
import Derived.Test.YtnleddfojejbeaaDoorUnhexWalk
namespace Go.Proofs.YtnleddfojejbeaaDoor.shaBack
open Go.RowKit Kit HexMath ShaT HexW
set_option linter.unusedVariables false
-- ASKS: ShaT.Tabs

/-- A row that the call owns, as one that came in. -/
theorem own_bs {w : World} {base n : Nat} {v : Value} {l : List UInt8} (h : w.ownsRow base 5 1 v n (bv l)) : ∃ p c, v = .slice p l.length c ∧ Bs w p l := by
  have hl : l.length = n := by have := h.1; rw [bv_length] at this; omega
  rcases h.2 with ⟨rfl, h0⟩ | ⟨g, cap, cur, rfl, hgb, hh, hc, _, hsz, htake⟩
  · have : l = [] := List.eq_nil_of_length_eq_zero (by omega)
    subst this
    exact ⟨none, 0, rfl, fun h => absurd h (by simp)⟩
  · refine ⟨_, cap, by rw [hl], fun h0 => ⟨g, 0, rfl, ?_, fun j hj => ?_⟩⟩
    · rcases Nat.lt_or_ge g w.heap.size with h' | h'
      · exact h'
      · rw [Array.getElem?_eq_none h'] at hh; cases hh
    · rw [Nat.zero_add, h.cellAt j (by omega)]
      simp [bv, hj]
/-- 'string(b)' of a row that came in. -/
theorem bs_string {w : World} {p : Option Addr} {l : List UInt8} (h : Bs w p l) (cap : Nat) : (convert 22 9 (.slice p l.length cap)).run Tryd.prog w = .ok (.string ⟨l.toArray⟩) w := by
  have hz : (⟨l.toArray⟩ : ByteArray).size = l.length := by simp [ByteArray.size]
  by_cases h0 : 0 < l.length
  · obtain ⟨b, off, rfl, hlt, hc⟩ := h h0
    have := Lib.run_convert_whole (P := Tryd.prog) w 22 5 9 Tryd.underlying22 Tryd.underlying5 Tryd.underlying9 b off ⟨l.toArray⟩ (fun i hi => by
      rw [hz] at hi
      rw [hc i hi]
      rfl) cap
    rw [hz] at this
    exact this
  · have : l = [] := List.eq_nil_of_length_eq_zero (by omega)
    subst this
    show (convert 22 9 (.slice p 0 cap)).run Tryd.prog w = _
    rw [run_convert_bytes_string w 22 9 5 _ 0 cap Tryd.underlying22 Tryd.underlying5 Tryd.underlying9]
    cases p <;> simp [Conv.bytesToString, loadCells, loadCellsFrom]
    all_goals rfl
theorem size_bytes (l : List UInt8) : (⟨l.toArray⟩ : ByteArray).size = l.length := by simp [ByteArray.size]
theorem bytes_self (s : ByteArray) : (⟨s.data.toList.toArray⟩ : ByteArray) = s := rfl

theorem app_size (h : ByteArray) (c : UInt8) : (h ++ (⟨#[c]⟩ : ByteArray)).size = h.size + 1 := by
  rw [ByteArray.size_append]
  rfl
/-- A text with an odd number of letters. -/
theorem unhex_odd_any (s : ByteArray) (w : World) (hz : s.size ≤ 140737488351232) (ho : s.size % 2 = 1) :
    Calls Tryd.prog 12 #[.string s] w fun e w' => e = .returned (.tuple #[.slice none 0 0, .bool false]) ∧ Below w.heap.size w w' := by
  refine (unhex_any s w hz).mono ?_
  rintro e w' (⟨-, he, hb⟩ | ⟨out, v, hu, -⟩)
  · exact ⟨he, hb⟩
  · rw [unhex_odd _ (by simpa using ho)] at hu
    cases hu
/-- What was told. -/
theorem unhex_told_any (l : List UInt8) (s : ByteArray) (hs : s.data.toList = hexL l) (w : World) (hz : s.size ≤ 140737488351232) :
    Calls Tryd.prog 12 #[.string s] w fun e w' => ∃ v, e = .returned (.tuple #[v, .bool true]) ∧ w'.ownsRow w.heap.size 5 1 v l.length (bv l) ∧ Below w.heap.size w w' := by
  refine (unhex_any s w hz).mono ?_
  rintro e w' (⟨hu, -⟩ | ⟨out, v, hu, he, ho, hb⟩)
  · rw [hs, unhex_hex] at hu; cases hu
  · rw [hs, unhex_hex] at hu
    injection hu with hu
    subst hu
    exact ⟨v, he, ho, hb⟩

set_option maxHeartbeats 2000000 in
theorem walk (p : Option Addr) (l : List UInt8) (cap : Nat) (s : ByteArray) (w : World) (hb : Bs w p l) (hl : l.length ≤ 140737488351232) (hlc : l.length ≤ cap) (hc : cap ≤ 9223372036854775807) (hz : s.size ≤ 140737488351232) (hg : Tabs w) :
    Calls Tryd.prog 6 #[.slice p l.length cap, .string s] w fun e w' => e = .returned (.bool true) ∧ Below w.heap.size w w' := by
  by_cases hs : s.size ≤ 300
  · go_enter Tryd.func6, Tryd.ntmps6
    go_wp2_with fail
    refine (shown_any _ hg).mono ?_
    rintro e w1 ⟨rfl, hb1⟩
    have HB := Lib.hid (hb.keep hb1)
    have HB1 := Lib.hid hb1
    clear hb1
    go_wp2_with fail
    refine (short_any p l cap _ HB.out (by omega) hlc hc).mono ?_
    rintro e w' ⟨rfl, rfl⟩
    have HL2 := Lib.hid (HB.out.take 300)
    obtain ⟨r, hr⟩ : ∃ r, r = l.take 300 := ⟨_, rfl⟩
    have hrl : r.length ≤ 300 := by rw [hr, List.length_take]; omega
    rw [← hr] at HL2 ⊢
    clear hr HB
    go_wp2_with fail
    refine (hex_any p r cap _ HL2.out (by omega)).mono ?_
    rintro e w2 ⟨rfl, hb2⟩
    have HL3 := Lib.hid (HL2.out.keep hb2)
    have HB2 := Lib.hid (HB1.out.trans (hb2.mono HB1.out.size))
    clear HL2 HB1 hb2
    obtain ⟨h, hh⟩ : ∃ h : ByteArray, h = ⟨(hexL r).toArray⟩ := ⟨_, rfl⟩
    have hhs : h.size = 2 * r.length := by rw [hh, size_bytes, hexL_length]
    have HD := Lib.hid (show h.data.toList = hexL r by rw [hh])
    rw [← hh]
    clear hh
    have hhz : h.size ≤ 600 := by omega
    have HHS := Lib.hid hhs
    clear hhs
    go_wp2_with fail
    refine (unhex_told_any r h HD.out _ (by omega)).mono ?_
    rintro e w3 ⟨x, rfl, hx, hb3⟩
    obtain ⟨px, cx, rfl, hBx⟩ := own_bs hx
    have HL4 := Lib.hid (HL3.out.keep hb3)
    have HB3 := Lib.hid (HB2.out.trans (hb3.mono HB2.out.size))
    have HX := Lib.hid hBx
    clear HL3 HB2 hb3 hx hBx
    go_wp2_with fail
    obtain ⟨u, hu⟩ : ∃ u : ByteArray, u = s := ⟨_, rfl⟩
    have hus : u.size ≤ 300 := by rw [hu]; exact hs
    rw [← hu]
    clear hu
    refine (unhex_any u _ (by omega)).mono ?_
    intro e w4 hp
    have HP := Lib.hid hp
    clear hp
    rcases HP.out with ⟨hn, rfl, hb4⟩ | ⟨out, y, hy, rfl, hoy, hb4⟩
    · have HL5 := Lib.hid (HL4.out.keep hb4)
      have HX5 := Lib.hid (HX.out.keep hb4)
      have HB4 := Lib.hid (HB3.out.trans (hb4.mono HB3.out.size))
      clear hn hb4 HP HL4 HX HB3
      go_wp2_with fail
      refine (unhex_odd_any _ _ (by rw [app_size]; omega) (by rw [app_size, HHS.out]; omega)).mono ?_
      rintro e w5 ⟨rfl, hb5⟩
      have c1 := bs_string (HX5.out.keep hb5) cx
      have c2 := bs_string (HL5.out.keep hb5) cap
      have HB5 := Lib.hid (HB4.out.trans (hb5.mono HB4.out.size))
      have hlen : ((h.size : Int) == 2 * (r.length : Int)) = true := by rw [HHS.out]; simp
      clear hb5 HL5 HX5 HB4
      go_wp2_with fail
      go_ret
      exact ⟨rfl, HB5.out⟩
    · obtain ⟨py, cy, rfl, hBy⟩ := own_bs hoy
      have HL5 := Lib.hid (HL4.out.keep hb4)
      have HX5 := Lib.hid (HX.out.keep hb4)
      have HB4 := Lib.hid (HB3.out.trans (hb4.mono HB3.out.size))
      have HY5 := Lib.hid hBy
      have HU := Lib.hid (show (⟨(hexL out).toArray⟩ : ByteArray) = u by rw [hex_unhex _ _ hy])
      have hol : out.length ≤ 300 := by
        have h1 := hexL_length out
        rw [hex_unhex _ _ hy] at h1
        simp at h1
        omega
      clear hy hoy hb4 HP HL4 HX HB3 hBy
      go_wp2_with fail
      refine (unhex_odd_any _ _ (by rw [app_size]; omega) (by rw [app_size, HHS.out]; omega)).mono ?_
      rintro e w5 ⟨rfl, hb5⟩
      have c1 := bs_string (HX5.out.keep hb5) cx
      have c2 := bs_string (HL5.out.keep hb5) cap
      have HY6 := Lib.hid (HY5.out.keep hb5)
      have HB5 := Lib.hid (HB4.out.trans (hb5.mono HB4.out.size))
      have hlen : ((h.size : Int) == 2 * (r.length : Int)) = true := by rw [HHS.out]; simp
      clear hb5 HL5 HX5 HB4 HY5
      go_wp2_with fail
      refine (hex_any py out cy _ HY6.out (by omega)).mono ?_
      rw [HU.out]
      rintro e w6 ⟨rfl, hb6⟩
      have HB6 := Lib.hid (HB5.out.trans (hb6.mono HB5.out.size))
      clear hb6 c1 c2
      go_wp2_with fail
      go_ret
      exact ⟨rfl, HB6.out⟩
  · go_enter Tryd.func6, Tryd.ntmps6
    go_wp2_with fail
    refine (shown_any _ hg).mono ?_
    rintro e w1 ⟨rfl, hb1⟩
    have HB := Lib.hid (hb.keep hb1)
    have HB1 := Lib.hid hb1
    clear hb1
    go_wp2_with fail
    refine (short_any p l cap _ HB.out (by omega) hlc hc).mono ?_
    rintro e w' ⟨rfl, rfl⟩
    have HL2 := Lib.hid (HB.out.take 300)
    obtain ⟨r, hr⟩ : ∃ r, r = l.take 300 := ⟨_, rfl⟩
    have hrl : r.length ≤ 300 := by rw [hr, List.length_take]; omega
    rw [← hr] at HL2 ⊢
    clear hr HB
    go_wp2_with fail
    refine (hex_any p r cap _ HL2.out (by omega)).mono ?_
    rintro e w2 ⟨rfl, hb2⟩
    have HL3 := Lib.hid (HL2.out.keep hb2)
    have HB2 := Lib.hid (HB1.out.trans (hb2.mono HB1.out.size))
    clear HL2 HB1 hb2
    obtain ⟨h, hh⟩ : ∃ h : ByteArray, h = ⟨(hexL r).toArray⟩ := ⟨_, rfl⟩
    have hhs : h.size = 2 * r.length := by rw [hh, size_bytes, hexL_length]
    have HD := Lib.hid (show h.data.toList = hexL r by rw [hh])
    rw [← hh]
    clear hh
    have hhz : h.size ≤ 600 := by omega
    have HHS := Lib.hid hhs
    clear hhs
    go_wp2_with fail
    refine (unhex_told_any r h HD.out _ (by omega)).mono ?_
    rintro e w3 ⟨x, rfl, hx, hb3⟩
    obtain ⟨px, cx, rfl, hBx⟩ := own_bs hx
    have HL4 := Lib.hid (HL3.out.keep hb3)
    have HB3 := Lib.hid (HB2.out.trans (hb3.mono HB2.out.size))
    have HX := Lib.hid hBx
    clear HL3 HB2 hb3 hx hBx
    go_wp2_with fail
    obtain ⟨u, hu⟩ : ∃ u : ByteArray, u = s.extract 0 300 := ⟨_, rfl⟩
    have hus : u.size ≤ 300 := by rw [hu]; rw [ByteArray.size_extract]; omega
    rw [← hu]
    clear hu
    refine (unhex_any u _ (by omega)).mono ?_
    intro e w4 hp
    have HP := Lib.hid hp
    clear hp
    rcases HP.out with ⟨hn, rfl, hb4⟩ | ⟨out, y, hy, rfl, hoy, hb4⟩
    · have HL5 := Lib.hid (HL4.out.keep hb4)
      have HX5 := Lib.hid (HX.out.keep hb4)
      have HB4 := Lib.hid (HB3.out.trans (hb4.mono HB3.out.size))
      clear hn hb4 HP HL4 HX HB3
      go_wp2_with fail
      refine (unhex_odd_any _ _ (by rw [app_size]; omega) (by rw [app_size, HHS.out]; omega)).mono ?_
      rintro e w5 ⟨rfl, hb5⟩
      have c1 := bs_string (HX5.out.keep hb5) cx
      have c2 := bs_string (HL5.out.keep hb5) cap
      have HB5 := Lib.hid (HB4.out.trans (hb5.mono HB4.out.size))
      have hlen : ((h.size : Int) == 2 * (r.length : Int)) = true := by rw [HHS.out]; simp
      clear hb5 HL5 HX5 HB4
      go_wp2_with fail
      go_ret
      exact ⟨rfl, HB5.out⟩
    · obtain ⟨py, cy, rfl, hBy⟩ := own_bs hoy
      have HL5 := Lib.hid (HL4.out.keep hb4)
      have HX5 := Lib.hid (HX.out.keep hb4)
      have HB4 := Lib.hid (HB3.out.trans (hb4.mono HB3.out.size))
      have HY5 := Lib.hid hBy
      have HU := Lib.hid (show (⟨(hexL out).toArray⟩ : ByteArray) = u by rw [hex_unhex _ _ hy])
      have hol : out.length ≤ 300 := by
        have h1 := hexL_length out
        rw [hex_unhex _ _ hy] at h1
        simp at h1
        omega
      clear hy hoy hb4 HP HL4 HX HB3 hBy
      go_wp2_with fail
      refine (unhex_odd_any _ _ (by rw [app_size]; omega) (by rw [app_size, HHS.out]; omega)).mono ?_
      rintro e w5 ⟨rfl, hb5⟩
      have c1 := bs_string (HX5.out.keep hb5) cx
      have c2 := bs_string (HL5.out.keep hb5) cap
      have HY6 := Lib.hid (HY5.out.keep hb5)
      have HB5 := Lib.hid (HB4.out.trans (hb5.mono HB4.out.size))
      have hlen : ((h.size : Int) == 2 * (r.length : Int)) = true := by rw [HHS.out]; simp
      clear hb5 HL5 HX5 HB4 HY5
      go_wp2_with fail
      refine (hex_any py out cy _ HY6.out (by omega)).mono ?_
      rw [HU.out]
      rintro e w6 ⟨rfl, hb6⟩
      have HB6 := Lib.hid (HB5.out.trans (hb6.mono HB5.out.size))
      clear hb6 c1 c2
      go_wp2_with fail
      go_ret
      exact ⟨rfl, HB6.out⟩

end Go.Proofs.YtnleddfojejbeaaDoor.shaBack
