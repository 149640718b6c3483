/-
  What sha.digit and sha.Unhex come to.
-/
import Derived.Test.YtjcohlpjlifolaaDoorHexWalk
namespace Go.Proofs.YtjcohlpjlifolaaDoor.HexW
open Go.RowKit Kit HexMath ShaT
set_option linter.unusedVariables false
set_option maxRecDepth 100000

theorem ret_ub {a a' : Int} {b b' : Bool} (h : a = a') (h' : b = b') : Ending.returned (.tuple #[.int .u8 a, .bool b]) = .returned (.tuple #[.int .u8 a', .bool b']) := by rw [h, h']
theorem digV_low {c : UInt8} (h1 : 48 ≤ c.toNat) (h2 : c.toNat ≤ 57) : digV c = some (c.toNat - 48) := if_pos ⟨h1, h2⟩
theorem digV_high {c : UInt8} (h1 : 97 ≤ c.toNat) (h2 : c.toNat ≤ 102) : digV c = some (c.toNat - 87) := by
  unfold digV
  rw [if_neg (by omega), if_pos ⟨h1, h2⟩]
theorem digV_none {c : UInt8} (h1 : ¬ (48 ≤ c.toNat ∧ c.toNat ≤ 57)) (h2 : ¬ (97 ≤ c.toNat ∧ c.toNat ≤ 102)) : digV c = none := by
  unfold digV
  rw [if_neg h1, if_neg h2]

def digI (c : UInt8) : Int := ((digV c).getD 0 : Nat)
def digB (c : UInt8) : Bool := (digV c).isSome
set_option maxHeartbeats 400000 in
theorem digit_all (c : UInt8) (w : World) :
    Calls Tryd.prog 62 #[.int .u8 (c.toNat : Int)] w fun e w' => e = .returned (.tuple #[.int .u8 (digI c), .bool (digB c)]) ∧ w = w' := by
  have h256 := UInt8.toNat_lt c
  by_cases h1 : 48 ≤ c.toNat
  · have d1 : decide (48 ≤ (c.toNat : Int)) = true := decide_eq_true (by omega)
    by_cases h2 : c.toNat ≤ 57
    · have d2 : decide ((c.toNat : Int) ≤ 57) = true := decide_eq_true (by omega)
      have HV := Lib.hid (digV_low h1 h2)
      go_enter Tryd.func62, Tryd.ntmps62
      go_wp2
      go_ret2
      exact ⟨ret_ub (by unfold digI; rw [HV.out]; simp; omega) (by unfold digB; rw [HV.out]; rfl), rfl⟩
    · have d2 : decide ((c.toNat : Int) ≤ 57) = false := decide_eq_false (by omega)
      by_cases h3 : 97 ≤ c.toNat
      · have d3 : decide (97 ≤ (c.toNat : Int)) = true := decide_eq_true (by omega)
        by_cases h4 : c.toNat ≤ 102
        · have d4 : decide ((c.toNat : Int) ≤ 102) = true := decide_eq_true (by omega)
          have HV := Lib.hid (digV_high h3 h4)
          go_enter Tryd.func62, Tryd.ntmps62
          go_wp2
          go_ret2
          exact ⟨ret_ub (by unfold digI; rw [HV.out]; simp; omega) (by unfold digB; rw [HV.out]; rfl), rfl⟩
        · have d4 : decide ((c.toNat : Int) ≤ 102) = false := decide_eq_false (by omega)
          have HV := Lib.hid (digV_none (c := c) (by omega) (by omega))
          go_enter Tryd.func62, Tryd.ntmps62
          go_wp2
          go_ret2
          exact ⟨ret_ub (by unfold digI; rw [HV.out]; rfl) (by unfold digB; rw [HV.out]; rfl), rfl⟩
      · have d3 : decide (97 ≤ (c.toNat : Int)) = false := decide_eq_false (by omega)
        have HV := Lib.hid (digV_none (c := c) (by omega) (by omega))
        go_enter Tryd.func62, Tryd.ntmps62
        go_wp2
        go_ret2
        exact ⟨ret_ub (by unfold digI; rw [HV.out]; rfl) (by unfold digB; rw [HV.out]; rfl), rfl⟩
  · have d1 : decide (48 ≤ (c.toNat : Int)) = false := decide_eq_false (by omega)
    have d3 : decide (97 ≤ (c.toNat : Int)) = false := decide_eq_false (by omega)
    have HV := Lib.hid (digV_none (c := c) (by omega) (by omega))
    go_enter Tryd.func62, Tryd.ntmps62
    go_wp2
    go_ret2
    exact ⟨ret_ub (by unfold digI; rw [HV.out]; rfl) (by unfold digB; rw [HV.out]; rfl), rfl⟩
theorem digit_yes {c : UInt8} {x : Nat} (h : digV c = some x) (w : World) :
    Calls Tryd.prog 62 #[.int .u8 (c.toNat : Int)] w fun e w' => e = .returned (.tuple #[.int .u8 (x : Int), .bool true]) ∧ w = w' := by
  have := digit_all c w
  unfold digI digB at this
  rw [h] at this
  exact this
theorem digit_no {c : UInt8} (h : digV c = none) (w : World) :
    Calls Tryd.prog 62 #[.int .u8 (c.toNat : Int)] w fun e w' => e = .returned (.tuple #[.int .u8 0, .bool false]) ∧ w = w' := by
  have := digit_all c w
  unfold digI digB at this
  rw [h] at this
  exact this

/-- What Unhex answers. -/
def UnhexPost (s : List UInt8) (w : World) (e : Ending) (w' : World) : Prop :=
  (unhexL s = none ∧ e = .returned (.tuple #[.slice none 0 0, .bool false]) ∧ Below w.heap.size w w') ∨
  ∃ out v, unhexL s = some out ∧ e = .returned (.tuple #[v, .bool true]) ∧ w'.ownsRow w.heap.size 5 1 v out.length (bv out) ∧ Below w.heap.size w w'
theorem join_val (x y : Nat) (hx : x < 16) (hy : y < 16) : bits .or .u8 ((x : Int) * 16) (y : Int) = ((UInt8.ofNat (16 * x + y)).toNat : Int) := by
  have h : (UInt8.ofNat (16 * x + y)).toNat = (16 * x + y) % 256 := UInt8.toNat_ofNat'
  rw [h, show (x : Int) * 16 = ((x * 16 : Nat) : Int) by omega, u8_or_nat _ _ (by omega) (by omega), nat_join 4 (x * 16) y (by omega) (by omega)]
  congr 1
  omega

theorem step_next (s : ByteArray) (out : List UInt8) (m x y : Nat) (hm : m + 1 < s.size) (h : unhexL (s.data.toList.take m) = some out) (hx : digV s[m] = some x) (hy : digV s[m + 1] = some y) : unhexL (s.data.toList.take (m + 2)) = some (out ++ [UInt8.ofNat (16 * x + y)]) :=
  unhex_next s.data.toList out m x y (by simpa using hm) h hx hy
theorem step_stop (s : ByteArray) (out : List UInt8) (m : Nat) (hm : m + 1 < s.size) (h : unhexL (s.data.toList.take m) = some out) (hb : digV s[m] = none ∨ digV s[m + 1] = none) : unhexL s.data.toList = none :=
  unhex_stop s.data.toList out m (by simpa using hm) h hb

set_option maxHeartbeats 2000000 in
theorem unhex_any (s : ByteArray) (w : World) (hz : s.size ≤ 140737488351232) :
    Calls Tryd.prog 49 #[.string s] w (UnhexPost s.data.toList w) := by
  obtain ⟨i0, hi0, hz0, hz1, hzb⟩ := info_parts u8_info
  have HL := Lib.hid (show s.data.toList.length = s.size by simp)
  by_cases hodd : s.size % 2 = 0
  · have d0 : (((s.size : Int) % 2) != 0) = false := by simp; omega
    have hmk := run_make (P := Tryd.prog) w 22 5 i0 (.int .u8 0) Tryd.underlying22 hi0 hz0 .i64 .i64 0 ((s.size : Int) / 2) (by omega) (by omega) (by rw [hzb]; omega) (by omega)
    rw [hz1, show ((s.size : Int) / 2).toNat * 1 = s.size / 2 by omega, show ((s.size : Int) / 2).toNat = s.size / 2 by omega] at hmk
    have HO := Lib.hid hodd
    clear hodd
    go_enter Tryd.func49, Tryd.ntmps49
    go_wp2_with fail
    go_loopw [4, 5] (fun v i wr => ∃ (m : Nat) (out : List UInt8), m ≤ s.size ∧ m % 2 = 0 ∧ i = .int .i64 m ∧ Below w.heap.size w wr ∧ wr.ownsRow w.heap.size 5 1 v out.length (bv out) ∧ 2 * out.length = m ∧ unhexL (s.data.toList.take m) = some out) (fun _ i _ => s.size - (intOf i).toNat)
    case atStart => exact ⟨0, [], by omega, rfl, rfl, below1 _ _, World.ownsRow_made w _ (s.size / 2) (Nat.le_refl _) (by unfold maxLen; omega) (by rw [size_madeCells, Nat.mul_one]), rfl, rfl⟩
    case round =>
      obtain ⟨m, out, hm, hpar, rfl, hbel, hown, hol, hun⟩ := hrel
      have HU := Lib.hid hun
      have HOL := Lib.hid hol
      have HP := Lib.hid hpar
      have hou : out.length ≤ s.size := by omega
      have hbs := hbel.size
      clear hun
      by_cases hlt : m < s.size
      · have hm1 : m + 1 < s.size := by have := HO.out; omega
        clear hol hpar
        cases hx : digV s[m] with
        | none =>
          have HN := Lib.hid (step_stop s out m hm1 HU.out (Or.inl hx))
          have HX := Lib.hid hx
          clear hx
          go_wp2_with (go_at_call 62; (first | (with_reducible refine (digit_no HX.out _).mono ?_) | (with_reducible refine (digit_all s[m + 1] _).mono ?_)); rintro e w' ⟨rfl, rfl⟩)
          go_ret2
          exact Or.inl ⟨HN.out, rfl, hbel⟩
        | some x =>
          cases hy : digV s[m + 1] with
          | none =>
            have HN := Lib.hid (step_stop s out m hm1 HU.out (Or.inr hy))
            have HX := Lib.hid hx
            have HY := Lib.hid hy
            clear hx hy
            go_wp2_with (go_at_call 62; (first | (with_reducible refine (digit_yes HX.out _).mono ?_) | (with_reducible refine (digit_no HY.out _).mono ?_)); rintro e w' ⟨rfl, rfl⟩)
            go_ret2
            exact Or.inl ⟨HN.out, rfl, hbel⟩
          | some y =>
            have HN := Lib.hid (step_next s out m x y hm1 HU.out hx hy)
            have hx16 := digV_lt hx
            have hy16 := digV_lt hy
            have hj := join_val x y hx16 hy16
            have HX := Lib.hid hx
            have HY := Lib.hid hy
            clear hx hy
            go_wp2_with (first | (go_at_call 62; (first | (with_reducible refine (digit_yes HX.out _).mono ?_) | (with_reducible refine (digit_yes HY.out _).mono ?_)); rintro e w' ⟨rfl, rfl⟩) | (at_builtin; refine wpList_append_own _ rfl (.tmp 45) (.tmp 50) 22 rfl w.heap.size 5 i0 (.int .u8 0) 1 1 Tryd.underlying22 hi0 hz0 hz1 hzb rfl (by decide) u4 out.length _ rfl (hown.alloc _) ⟨wr.heap.size, 0, none⟩ 1 1 [.int .u8 ((UInt8.ofNat (16 * x + y)).toNat : Int)] rfl rfl (one_news _ _ _) (by simp [Value.oneCell']) (by unfold maxLen; omega) (by omega) (by simp; omega) ?_; intro v' w1 hown1 hgrow _))
            go_roundw
            case rel => exact ⟨m + 2, out ++ [UInt8.ofNat (16 * x + y)], by omega, by have := HP.out; omega, by go_num, (hbel.alloc hbs _).grown hgrow (by simp; omega) (own_base hown), by rw [List.length_append, bv_snoc]; exact hown1, by rw [List.length_append]; have := HOL.out; simp; omega, HN.out⟩
            case measure => simp [intOf]; omega
      · have HA : Hid (unhexL s.data.toList = some out) := by
          have h := HU.out
          rw [List.take_of_length_le (by rw [HL.out]; omega)] at h
          exact h
        clear hol hpar
        have HW := Lib.hid hown
        clear hown
        go_wp2_with fail
        go_ret2
        exact Or.inr ⟨out, _, HA.out, rfl, HW.out, hbel⟩
  · have d0 : (((s.size : Int) % 2) != 0) = true := by simp; omega
    have HN := Lib.hid (unhex_odd s.data.toList (by rw [HL.out]; omega))
    go_enter Tryd.func49, Tryd.ntmps49
    go_wp2_with fail
    go_ret2
    exact Or.inl ⟨HN.out, rfl, Below.refl _ _⟩

end Go.Proofs.YtjcohlpjlifolaaDoor.HexW
