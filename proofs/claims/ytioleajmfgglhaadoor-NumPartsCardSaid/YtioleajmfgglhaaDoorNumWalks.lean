/-
  What num's functions that call no library come to: Word, Add, place, bounds, Lower.
-/
import Derived.Test.YtioleajmfgglhaaDoorChecked
import Derived.Test.YtioleajmfgglhaaDoorKit
import Derived.BigQuiet
import Derived.Deep.QuietTactic
import Derived.Lib.Hide
namespace Go.Proofs.YtioleajmfgglhaaDoor.NumW
open Go.RowKit Kit

/-- A byte of a word. -/
def okByte (c : UInt8) : Bool := decide (33 ≤ c.toNat) && decide (c.toNat ≤ 126)
/-- num.Word. -/
def wordB (l : List UInt8) : Bool := l.all okByte && !l.isEmpty

theorem take_snoc (s : ByteArray) (k : Nat) (h : k < s.size) : s.data.toList.take (k + 1) = s.data.toList.take k ++ [s[k]] := by
  rw [List.take_succ_eq_append_getElem (by simpa using h)]; rfl

theorem okByte_yes {c : UInt8} (h1 : 33 ≤ c.toNat) (h2 : c.toNat ≤ 126) : okByte c = true := by simp [okByte, h1, h2]
theorem all_snoc (s : ByteArray) (k : Nat) (h : k < s.size) (ha : (s.data.toList.take k).all okByte = true) (h1 : 33 ≤ s[k].toNat) (h2 : s[k].toNat ≤ 126) : (s.data.toList.take (k + 1)).all okByte = true := by
  rw [take_snoc s k h, List.all_append, ha]
  simp [okByte_yes h1 h2]
theorem word_no (s : ByteArray) (k : Nat) (h : k < s.size) (hb : ¬ (33 ≤ s[k].toNat ∧ s[k].toNat ≤ 126)) : wordB s.data.toList = false := by
  have hm : s[k] ∈ s.data.toList := by
    have : s[k] = s.data.toList[k]'(by simpa using h) := rfl
    rw [this]; exact List.getElem_mem _
  have : s.data.toList.all okByte = false := by
    rw [List.all_eq_false]
    refine ⟨_, hm, ?_⟩
    simp [okByte]
    omega
  simp [wordB, this]

set_option maxHeartbeats 400000 in
theorem word_any (s : ByteArray) (w : World) (hs : s.size ≤ maxLen) :
    Calls Tryd.prog 20 #[.string s] w fun e w' => e = .returned (.bool (wordB s.data.toList)) ∧ w = w' := by
  unfold maxLen at hs
  go_enter Tryd.func20, Tryd.ntmps20
  go_wp2
  go_loop [3] (fun i => ∃ k : Nat, k ≤ s.size ∧ i = .int .i64 k ∧ (s.data.toList.take k).all okByte = true) (fun i => s.size - (intOf i).toNat)
  case atStart => exact ⟨0, Nat.zero_le _, rfl, rfl⟩
  case round =>
    obtain ⟨k, hk, rfl, hall⟩ := hrel
    have HA := hall
    have HAh : Hid ((s.data.toList.take k).all okByte = true) := HA
    clear hall HA
    by_cases hlt : k < s.size
    · by_cases h1 : 33 ≤ s[k].toNat
      · by_cases h2 : s[k].toNat ≤ 126
        · go_wp2
          go_round
          case rel => exact ⟨k + 1, by omega, by go_num, all_snoc s k hlt HAh.out h1 h2⟩
          case measure => simp [intOf]; omega
        · have HN : Hid (wordB s.data.toList = false) := word_no s k hlt (by omega)
          go_wp2
          go_ret
          exact ⟨ret_bool HN.out.symm, rfl⟩
      · have HN : Hid (wordB s.data.toList = false) := word_no s k hlt (by omega)
        go_wp2
        go_ret
        exact ⟨ret_bool HN.out.symm, rfl⟩
    · have HN : Hid (wordB s.data.toList = !s.data.toList.isEmpty) := by
        have e : s.data.toList.take k = s.data.toList := List.take_of_length_le (by simp; omega)
        have := HAh.out
        rw [e] at this
        show wordB _ = _
        simp [wordB, this]
      go_wp2
      go_ret
      exact ⟨ret_bool (by rw [HN.out, ByteArray.toList_eq]), rfl⟩

/-- An int of 64 bits. -/
def inI (n : Int) : Prop := -9223372036854775808 ≤ n ∧ n ≤ 9223372036854775807
/-- num.Add. -/
def addV (a b : Int) : Int := if -9223372036854775808 ≤ a + b ∧ a + b ≤ 9223372036854775807 then a + b else 0
def addB (a b : Int) : Bool := decide (-9223372036854775808 ≤ a + b ∧ a + b ≤ 9223372036854775807)
theorem add_yes {a b : Int} (h : -9223372036854775808 ≤ a + b ∧ a + b ≤ 9223372036854775807) : addV a b = a + b ∧ addB a b = true := by
  simp only [addV, addB, if_pos h, decide_eq_true h, and_self]
theorem add_no {a b : Int} (h : ¬ (-9223372036854775808 ≤ a + b ∧ a + b ≤ 9223372036854775807)) : addV a b = 0 ∧ addB a b = false := by
  simp only [addV, addB, if_neg h, decide_eq_false h, and_self]

theorem add_any (a b : Int) (w : World) (ha0 : -9223372036854775808 ≤ a) (ha1 : a ≤ 9223372036854775807) (hb0 : -9223372036854775808 ≤ b) (hb1 : b ≤ 9223372036854775807) :
    Calls Tryd.prog 14 #[.int .i64 a, .int .i64 b] w fun e w' => e = .returned (.tuple #[.int .i64 (addV a b), .bool (addB a b)]) ∧ w = w' := by
  by_cases h0 : -9223372036854775808 ≤ a + b
  · by_cases h1 : a + b ≤ 9223372036854775807
    · have H := Lib.hid (add_yes ⟨h0, h1⟩)
      rcases Int.lt_trichotomy b 0 with hb | rfl | hb
      · go_enter Tryd.func14, Tryd.ntmps14
        go_wp2
        go_ret2
        exact ⟨ret_ib H.out.1.symm H.out.2.symm, rfl⟩
      · go_enter Tryd.func14, Tryd.ntmps14
        go_wp2
        go_ret2
        exact ⟨ret_ib (by rw [H.out.1]; omega) H.out.2.symm, rfl⟩
      · go_enter Tryd.func14, Tryd.ntmps14
        go_wp2
        go_ret2
        exact ⟨ret_ib H.out.1.symm H.out.2.symm, rfl⟩
    · have H := Lib.hid (add_no (a := a) (b := b) (by omega))
      have hb : 0 < b := by omega
      have hw : wrap64 (a + b) < a := by unfold wrap64; omega
      clear h0 h1
      go_enter Tryd.func14, Tryd.ntmps14
      go_wp2
      go_ret2
      exact ⟨ret_ib H.out.1.symm H.out.2.symm, rfl⟩
  · have H := Lib.hid (add_no (a := a) (b := b) (by omega))
    have hb : b < 0 := by omega
    have hw : a < wrap64 (a + b) := by unfold wrap64; omega
    clear h0
    go_enter Tryd.func14, Tryd.ntmps14
    go_wp2
    go_ret2
    exact ⟨ret_ib H.out.1.symm H.out.2.symm, rfl⟩

/-- num.place. -/
def placeI (many n : Int) : Int := if n < 0 then many + n else n
theorem place_any (many n : Int) (w : World) (hm0 : 1 ≤ many) (hm1 : many ≤ 9223372036854775807) (hn0 : -9223372036854775808 ≤ n) (hn1 : n ≤ 9223372036854775807) :
    Calls Tryd.prog 30 #[.int .i64 many, .int .i64 n] w fun e w' => e = .returned (.int .i64 (placeI many n)) ∧ w = w' := by
  by_cases h : n < 0
  · have H := Lib.hid (show placeI many n = many + n from if_pos h)
    go_enter Tryd.func30, Tryd.ntmps30
    go_wp2
    go_ret
    exact ⟨ret_int H.out.symm, rfl⟩
  · have H := Lib.hid (show placeI many n = n from if_neg h)
    go_enter Tryd.func30, Tryd.ntmps30
    go_wp2
    go_ret
    exact ⟨ret_int H.out.symm, rfl⟩

/-- num.bounds. -/
def boundsI (many a b : Int) : Int × Int :=
  let x := max 0 (placeI many a)
  let y := min (many - 1) (placeI many b)
  if y < x then (0, 0) else (x, y + 1)
theorem placeI_le (many n : Int) (hm0 : 1 ≤ many) (hm1 : many ≤ 9223372036854775807) (hn0 : -9223372036854775808 ≤ n) (hn1 : n ≤ 9223372036854775807) : -9223372036854775808 ≤ placeI many n ∧ placeI many n ≤ 9223372036854775807 := by
  unfold placeI; split <;> omega
theorem bounds_any (many a b : Int) (w : World) (hm0 : 1 ≤ many) (hm1 : many ≤ 9223372036854775807) (ha0 : -9223372036854775808 ≤ a) (ha1 : a ≤ 9223372036854775807) (hb0 : -9223372036854775808 ≤ b) (hb1 : b ≤ 9223372036854775807) :
    Calls Tryd.prog 26 #[.int .i64 many, .int .i64 a, .int .i64 b] w fun e w' => e = .returned (.tuple #[.int .i64 (boundsI many a b).1, .int .i64 (boundsI many a b).2]) ∧ w = w' := by
  obtain ⟨x, hx⟩ : ∃ x, x = placeI many a := ⟨_, rfl⟩
  obtain ⟨y, hy⟩ : ∃ y, y = placeI many b := ⟨_, rfl⟩
  have hx1 := placeI_le many a hm0 hm1 ha0 ha1
  have hy1 := placeI_le many b hm0 hm1 hb0 hb1
  have ca := fun w => place_any many a w hm0 hm1 ha0 ha1
  have cb := fun w => place_any many b w hm0 hm1 hb0 hb1
  have hB : boundsI many a b = if min (many - 1) y < max 0 x then (0, 0) else (max 0 x, min (many - 1) y + 1) := by rw [hx, hy]; rfl
  rw [← hx] at ca hx1
  rw [← hy] at cb hy1
  obtain ⟨hx1, hx2⟩ := hx1
  obtain ⟨hy1, hy2⟩ := hy1
  clear hx hy
  have CA := Lib.hid ca
  have CB := Lib.hid cb
  clear ca cb
  by_cases h1 : x < 0
  · by_cases h2 : many ≤ y
    · have H := Lib.hid (show boundsI many a b = (0, many) by rw [hB, if_neg (by omega)]; congr 1 <;> omega)
      clear hB
      go_enter Tryd.func26, Tryd.ntmps26
      go_wp2_with fail
      refine (CA.out _).mono ?_
      rintro e w' ⟨rfl, rfl⟩
      go_wp2_with fail
      refine (CB.out _).mono ?_
      rintro e w' ⟨rfl, rfl⟩
      go_wp2
      go_ret2
      exact ⟨ret_ii (by rw [H.out]) (by rw [H.out]), rfl⟩
    · by_cases h3 : y < 0
      · have H := Lib.hid (show boundsI many a b = (0, 0) by rw [hB, if_pos (by omega)])
        clear hB
        go_enter Tryd.func26, Tryd.ntmps26
        go_wp2_with fail
        refine (CA.out _).mono ?_
        rintro e w' ⟨rfl, rfl⟩
        go_wp2_with fail
        refine (CB.out _).mono ?_
        rintro e w' ⟨rfl, rfl⟩
        go_wp2
        go_ret2
        exact ⟨ret_ii (by rw [H.out]) (by rw [H.out]), rfl⟩
      · have H := Lib.hid (show boundsI many a b = (0, y + 1) by rw [hB, if_neg (by omega)]; congr 1 <;> omega)
        clear hB
        go_enter Tryd.func26, Tryd.ntmps26
        go_wp2_with fail
        refine (CA.out _).mono ?_
        rintro e w' ⟨rfl, rfl⟩
        go_wp2_with fail
        refine (CB.out _).mono ?_
        rintro e w' ⟨rfl, rfl⟩
        go_wp2
        go_ret2
        exact ⟨ret_ii (by rw [H.out]) (by rw [H.out]), rfl⟩
  · by_cases h2 : many ≤ y
    · by_cases h3 : many - 1 < x
      · have H := Lib.hid (show boundsI many a b = (0, 0) by rw [hB, if_pos (by omega)])
        clear hB
        go_enter Tryd.func26, Tryd.ntmps26
        go_wp2_with fail
        refine (CA.out _).mono ?_
        rintro e w' ⟨rfl, rfl⟩
        go_wp2_with fail
        refine (CB.out _).mono ?_
        rintro e w' ⟨rfl, rfl⟩
        go_wp2
        go_ret2
        exact ⟨ret_ii (by rw [H.out]) (by rw [H.out]), rfl⟩
      · have H := Lib.hid (show boundsI many a b = (x, many) by rw [hB, if_neg (by omega)]; congr 1 <;> omega)
        clear hB
        go_enter Tryd.func26, Tryd.ntmps26
        go_wp2_with fail
        refine (CA.out _).mono ?_
        rintro e w' ⟨rfl, rfl⟩
        go_wp2_with fail
        refine (CB.out _).mono ?_
        rintro e w' ⟨rfl, rfl⟩
        go_wp2
        go_ret2
        exact ⟨ret_ii (by rw [H.out]) (by rw [H.out]), rfl⟩
    · by_cases h3 : y < x
      · have H := Lib.hid (show boundsI many a b = (0, 0) by rw [hB, if_pos (by omega)])
        clear hB
        go_enter Tryd.func26, Tryd.ntmps26
        go_wp2_with fail
        refine (CA.out _).mono ?_
        rintro e w' ⟨rfl, rfl⟩
        go_wp2_with fail
        refine (CB.out _).mono ?_
        rintro e w' ⟨rfl, rfl⟩
        go_wp2
        go_ret2
        exact ⟨ret_ii (by rw [H.out]) (by rw [H.out]), rfl⟩
      · have H := Lib.hid (show boundsI many a b = (x, y + 1) by rw [hB, if_neg (by omega)]; congr 1 <;> omega)
        clear hB
        go_enter Tryd.func26, Tryd.ntmps26
        go_wp2_with fail
        refine (CA.out _).mono ?_
        rintro e w' ⟨rfl, rfl⟩
        go_wp2_with fail
        refine (CB.out _).mono ?_
        rintro e w' ⟨rfl, rfl⟩
        go_wp2
        go_ret2
        exact ⟨ret_ii (by rw [H.out]) (by rw [H.out]), rfl⟩

/-- num.Lower. -/
def lowByte (c : UInt8) : UInt8 := if 65 ≤ c.toNat ∧ c.toNat ≤ 90 then c + 32 else c
def lowL (l : List UInt8) : List UInt8 := l.map lowByte
def mixL (k : Nat) (l : List UInt8) : List UInt8 := lowL (l.take k) ++ l.drop k
theorem mixL_length (k : Nat) (l : List UInt8) : (mixL k l).length = l.length := by simp [mixL, lowL]; omega
theorem mixL_at (k : Nat) (l : List UInt8) (h : k < l.length) : (mixL k l)[k]'(by rw [mixL_length]; exact h) = l[k] := by
  unfold mixL lowL
  rw [List.getElem_append_right (by simp; omega)]
  simp [Nat.min_eq_left (Nat.le_of_lt h)]
theorem mixL_set (k : Nat) (l : List UInt8) (h : k < l.length) : (mixL k l).set k (lowByte l[k]) = mixL (k + 1) l := by
  unfold mixL lowL
  have e : (List.map lowByte (List.take k l)).length = k := by simp; omega
  rw [List.set_append_right _ _ (by omega), e, Nat.sub_self, List.drop_eq_getElem_cons h, List.set_cons_zero, List.take_succ_eq_append_getElem h, List.map_append]
  simp
theorem mixL_same (k : Nat) (l : List UInt8) (h : k < l.length) (hn : lowByte l[k] = l[k]) : mixL (k + 1) l = mixL k l := by
  rw [← mixL_set k l h, hn, ← mixL_at k l h, List.set_getElem_self]
theorem mixL_all (k : Nat) (l : List UInt8) (h : ¬ k < l.length) : mixL k l = lowL l := by
  unfold mixL
  rw [List.take_of_length_le (by omega), List.drop_eq_nil_of_le (by omega), List.append_nil]
theorem low_up {c : UInt8} (h1 : 65 ≤ c.toNat) (h2 : c.toNat ≤ 90) : ((lowByte c).toNat : Int) = (c.toNat : Int) + 97 - 65 := by
  unfold lowByte
  rw [if_pos ⟨h1, h2⟩, UInt8.toNat_add]
  have : (32 : UInt8).toNat = 32 := rfl
  omega
theorem low_not {c : UInt8} (h : ¬ (65 ≤ c.toNat ∧ c.toNat ≤ 90)) : lowByte c = c := if_neg h

set_option maxHeartbeats 400000 in
theorem lower_any (s : ByteArray) (w : World) (hs : s.size ≤ maxLen) :
    Calls Tryd.prog 18 #[.string s] w fun e w' => e = .returned (.string ⟨(lowL s.data.toList).toArray⟩) ∧ Below w.heap.size w w' := by
  unfold maxLen at hs
  have hconv := fun W => Lib.run_convert_string_bytes (P := Tryd.prog) W 9 42 5 s Tryd.underlying9 Tryd.underlying42 Tryd.underlying5
  have HL := Lib.hid (show s.data.toList.length = s.size by simp)
  go_enter Tryd.func18, Tryd.ntmps18
  go_wp2
  go_loopw [10] (fun i wr => ∃ k : Nat, k ≤ s.size ∧ i = .int .i64 k ∧ Below w.heap.size w wr ∧ Row8 wr w.heap.size (mixL k s.data.toList)) (fun i _ => s.size - (intOf i).toNat)
  case atStart => exact ⟨0, Nat.zero_le _, rfl, bytesWorld_below _ _ _, bytesWorld_row _ _ _⟩
  case round =>
    obtain ⟨k, hk, rfl, hb, hrow⟩ := hrel
    clear hconv
    have HR := Lib.hid hrow
    clear hrow
    by_cases hlt : k < s.size
    · have hlt' : k < s.data.toList.length := by rw [HL.out]; exact hlt
      have hltm : k < (mixL k s.data.toList).length := by rw [mixL_length]; exact hlt'
      have hcell := HR.out.at_ k hltm
      rw [mixL_at k _ hlt'] at hcell
      have hfrz := HR.out.frz k hltm
      obtain ⟨c, hc⟩ : ∃ c, c = s.data.toList[k] := ⟨_, rfl⟩
      rw [← hc] at hcell
      have HC := Lib.hid hc
      clear hc
      have hc255 : c.toNat < 256 := c.toNat_lt
      by_cases h1 : 65 ≤ c.toNat
      · by_cases h2 : c.toNat ≤ 90
        · have hup := Lib.hid (low_up h1 h2)
          go_wp2
          go_roundw
          case rel =>
            refine ⟨k + 1, by omega, by go_num, hb.setCell (Nat.le_refl _) _, ?_⟩
            rw [← mixL_set k _ hlt', ← HC.out]
            have := HR.out.set k hltm (lowByte c)
            rw [hup.out] at this
            exact this
          case measure => simp [intOf]; omega
        · have hn := Lib.hid (low_not (c := c) (by omega))
          go_wp2
          go_roundw
          case rel => exact ⟨k + 1, by omega, by go_num, hb, by rw [mixL_same k _ hlt' (by rw [← HC.out, hn.out])]; exact HR.out⟩
          case measure => simp [intOf]; omega
      · have hn := Lib.hid (low_not (c := c) (by omega))
        go_wp2
        go_roundw
        case rel => exact ⟨k + 1, by omega, by go_num, hb, by rw [mixL_same k _ hlt' (by rw [← HC.out, hn.out])]; exact HR.out⟩
        case measure => simp [intOf]; omega
    · have hrow := HR.out
      rw [mixL_all k _ (by rw [HL.out]; exact hlt)] at hrow
      have hback := fun cap => run_row_string (P := Tryd.prog) wr 42 5 9 Tryd.underlying42 Tryd.underlying5 Tryd.underlying9 w.heap.size _ hrow s.size cap (by rw [lowL, List.length_map, HL.out])
      clear hrow
      go_wp2
      go_ret
      exact ⟨rfl, hb⟩

end Go.Proofs.YtioleajmfgglhaaDoor.NumW
