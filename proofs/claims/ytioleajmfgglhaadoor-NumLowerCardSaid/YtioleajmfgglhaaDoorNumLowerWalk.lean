/-
  The walk of the law NumLower: small letters.
-/
-- ASKS: NumL.Gd
import Derived.Test.YtioleajmfgglhaaDoorNumLib
namespace Go.Proofs.YtioleajmfgglhaaDoor.numLower
open Go.RowKit Kit NumMath NumW NumL

theorem lowL_idem (l : List UInt8) : lowL (lowL l) = lowL l := by
  unfold lowL
  rw [List.map_map]
  apply List.map_congr_left
  intro c _
  show lowByte (lowByte c) = lowByte c
  by_cases h : 65 ≤ c.toNat ∧ c.toNat ≤ 90
  · apply low_not
    have := low_up h.1 h.2
    omega
  · rw [low_not h, low_not h]
theorem okByte_low (c : UInt8) : okByte (lowByte c) = okByte c := by
  by_cases h : 65 ≤ c.toNat ∧ c.toNat ≤ 90
  · rw [okByte_yes (c := c) (by omega) (by omega)]
    have := low_up h.1 h.2
    exact okByte_yes (by omega) (by omega)
  · rw [low_not h]
theorem word_low (l : List UInt8) : wordB (lowL l) = wordB l := by
  unfold wordB lowL
  rw [List.all_map]
  have : (okByte ∘ lowByte) = okByte := funext okByte_low
  rw [this, List.isEmpty_map]

theorem low_get (s l : ByteArray) (hl : l.data.toList = lowL s.data.toList) (k : Nat) (hk : k < s.size) (hk' : k < l.size) : l[k] = lowByte s[k] := by
  have e1 : l[k] = l.data.toList[k]'(by simpa using hk') := rfl
  have e2 : s[k] = s.data.toList[k]'(by simpa using hk) := rfl
  rw [e1, e2]
  have : ∀ (m : List UInt8) (hm : m = lowL s.data.toList) (h : k < m.length), m[k] = lowByte (s.data.toList[k]'(by subst hm; simpa [lowL] using h)) := by
    intro m hm h
    subst hm
    simp [lowL]
  exact this _ hl _

theorem walk (a : ByteArray) (w : World) (za : a.size ≤ 140737488351232) (hg : Gd w) :
    Calls Tryd.prog 6 #[.string a] w fun e w' => e = .returned (.bool true) ∧ Below w.heap.size w w' := by
  have G := Lib.hid hg
  clear hg
  have hz := shortS_size a
  have CS := Lib.hid (fun W => short_any a W za)
  obtain ⟨s, hs⟩ : ∃ s, s = shortS a := ⟨_, rfl⟩
  rw [← hs] at hz CS
  clear hs
  have CL := Lib.hid (fun W => lower_any s W (by unfold maxLen; omega))
  obtain ⟨l, hl⟩ : ∃ l : ByteArray, l = ⟨(lowL s.data.toList).toArray⟩ := ⟨_, rfl⟩
  have hll : l.data.toList = lowL s.data.toList := by rw [hl]
  have hlz : l.size = s.size := by rw [hl]; show (List.toArray (lowL s.data.toList)).size = _; rw [List.size_toArray, lowL, List.length_map]; simp
  rw [← hl] at CL
  have CL2 := Lib.hid (fun W => lower_any l W (by unfold maxLen; omega))
  have e2 : (⟨(lowL l.data.toList).toArray⟩ : ByteArray) = l := by rw [hll, lowL_idem, hl]
  rw [e2] at CL2
  have CW1 := Lib.hid (fun W => word_any l W (by unfold maxLen; omega))
  rw [hll, word_low] at CW1
  have CW2 := Lib.hid (fun W => word_any s W (by unfold maxLen; omega))
  have HL := Lib.hid hll
  have HZ := Lib.hid hlz
  clear hl hll hlz e2
  have hne : ((l.size : Int) != (s.size : Int)) = false := by rw [HZ.out]; simp
  have hq : (l.toList == l.toList) = true := by simp
  go_enter Tryd.func6, Tryd.ntmps6
  go_wp2_with fail
  with_reducible refine (shown_any _ G.out).mono ?_
  rintro e w1 ⟨rfl, hb1⟩
  go_wp2_with fail
  with_reducible refine (CS.out _).mono ?_
  rintro e w2 ⟨rfl, rfl⟩
  go_wp2_with fail
  with_reducible refine (CL.out _).mono ?_
  rintro e w3 ⟨rfl, hb3⟩
  go_wp2_with fail
  with_reducible refine (CL2.out _).mono ?_
  rintro e w4 ⟨rfl, hb4⟩
  have hb := (hb1.trans (hb3.mono hb1.size)).trans (hb4.mono (Nat.le_trans hb1.size hb3.size))
  clear hb1 hb3 hb4
  go_wp2
  go_loopw [5] (fun i wr => ∃ k : Nat, k ≤ s.size ∧ i = .int .i64 k ∧ Below w.heap.size w wr) (fun i _ => s.size - (intOf i).toNat)
  case atStart => exact ⟨0, Nat.zero_le _, rfl, hb⟩
  case round =>
    obtain ⟨k, hk, rfl, hbr⟩ := hrel
    clear hb
    by_cases hlt : k < s.size
    · have hlt' : k < l.size := by have := HZ.out; omega
      have hg := low_get s l HL.out k hlt hlt'
      by_cases h1 : 65 ≤ s[k].toNat ∧ s[k].toNat ≤ 90
      · obtain ⟨h1, h2⟩ := h1
        have hup := low_up h1 h2
        rw [← hg] at hup
        have ht : ((l[k].toNat : Int) != (s[k].toNat : Int) + 32) = false := by rw [bne_eq_false_iff_eq]; omega
        have hd : decide ((s[k].toNat : Int) ≤ 90) = true := decide_eq_true (by omega)
        clear hup hg
        go_wp2
        go_quiet (fail)
        go_wp2
        go_roundw
        case rel => exact ⟨k + 1, by omega, by go_num, below_drewN hbr _⟩
        case measure => simp [intOf]; omega
      · rw [low_not h1] at hg
        have ht : ((l[k].toNat : Int) != (s[k].toNat : Int)) = false := by rw [bne_eq_false_iff_eq, hg]
        clear hg
        by_cases h2 : 65 ≤ s[k].toNat
        · have hd : decide ((s[k].toNat : Int) ≤ 90) = false := decide_eq_false (by omega)
          clear h1
          go_wp2
          go_quiet (fail)
          go_wp2
          go_roundw
          case rel => exact ⟨k + 1, by omega, by go_num, below_drewN hbr _⟩
          case measure => simp [intOf]; omega
        · clear h1
          go_wp2
          go_quiet (fail)
          go_wp2
          go_roundw
          case rel => exact ⟨k + 1, by omega, by go_num, below_drewN hbr _⟩
          case measure => simp [intOf]; omega
    · go_wp2_with fail
      with_reducible refine (CW1.out _).mono ?_
      rintro e w5 ⟨rfl, rfl⟩
      go_wp2_with fail
      with_reducible refine (CW2.out _).mono ?_
      rintro e w5 ⟨rfl, rfl⟩
      go_wp2
      go_ret
      exact ⟨ret_bool (by simp), hbr⟩
end Go.Proofs.YtioleajmfgglhaaDoor.numLower
