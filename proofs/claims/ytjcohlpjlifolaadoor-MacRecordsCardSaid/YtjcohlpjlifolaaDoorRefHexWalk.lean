/-
  What the document's own Hex, digit and Unhex of layer 2 (package tipstaffref02) come to.
-/
import Derived.Test.YtjcohlpjlifolaaDoorUnhexWalk
namespace Go.Proofs.YtjcohlpjlifolaaDoor.HexW
open Go.RowKit Kit HexMath ShaT
set_option linter.unusedVariables false
set_option maxRecDepth 100000

set_option maxHeartbeats 1000000 in
theorem rhex_any (p : Option Addr) (l : List UInt8) (cap : Nat) (w : World) (hb : Bs w p l) (hl : l.length ≤ 70368744176640) :
    Calls Tryd.prog 33 #[.slice p l.length cap] w fun e w' => e = .returned (.string ⟨(hexL l).toArray⟩) ∧ Below w.heap.size w w' := by
  obtain ⟨i0, hi0, hz0, hz1, hzb⟩ := info_parts u8_info
  go_enter Tryd.func33, Tryd.ntmps33
  go_wp2_with fail
  go_loopw [4, 5] (fun v i wr => ∃ k : Nat, k ≤ l.length ∧ i = .int .i64 k ∧ Below w.heap.size w wr ∧ wr.ownsRow w.heap.size 5 1 v (2 * k) (bv (hexL (l.take k)))) (fun _ i _ => l.length - (intOf i).toNat)
  case atStart => exact ⟨0, Nat.zero_le _, rfl, below1 _ _, World.ownsRow_lit w #[] 0 (Nat.le_refl _) (by simp [maxLen]) rfl⟩
  case round =>
    obtain ⟨k, hk, rfl, hbel, hown⟩ := hrel
    have hbs := hbel.size
    by_cases hlt : k < l.length
    · obtain ⟨b, off, rfl, hbl, hc⟩ := (hb.keep hbel) (by omega)
      have hck := hc k hlt
      have h256 := UInt8.toNat_lt l[k]
      have d1 := dig_at (l[k].toNat / 16) (by omega)
      have d2 := dig_at (l[k].toNat % 16) (by omega)
      rw [show ((l[k].toNat / 16 : Nat) : Int) = (l[k].toNat : Int) / 16 by omega] at d1
      rw [show ((l[k].toNat % 16 : Nat) : Int) = (l[k].toNat : Int) % 16 by omega] at d2
      have q1 : IntKind.u8.wrap ((l[k].toNat : Int) / 16) = (l[k].toNat : Int) / 16 := IntWalk.u8_in _ (by omega)
      have q2 : ((l[k].toNat : Int)).tmod 16 = (l[k].toNat : Int) % 16 := Int.tmod_eq_emod_of_nonneg (by omega)
      clear hc
      go_wp2_with fail
      have HSN : Hid (hexL (l.take (k + 1)) = hexL (l.take k) ++ [hexD (l[k].toNat / 16), hexD (l[k].toNat % 16)]) := Lib.hid (by rw [List.take_succ_eq_append_getElem hlt, hexL_snoc])
      go_region_law (refine step_append_own rfl (.tmp 13) (.tmp 28) 22 rfl w.heap.size 5 i0 (.int .u8 0) 1 1 Tryd.underlying22 hi0 hz0 hz1 hzb rfl (by decide) u4 (2 * k) _ rfl (by first | exact own_drew (hown.alloc _) | exact (own_drew hown).alloc _) ⟨wr.heap.size, 0, none⟩ 2 2 [.int .u8 ((hexD (l[k].toNat / 16)).toNat : Int), .int .u8 ((hexD (l[k].toNat % 16)).toNat : Int)] rfl rfl (by first | exact two_news_drew _ _ _ _ | exact two_news _ _ _ _) (by simp [Value.oneCell']) (by unfold maxLen; omega) (by omega) (by simp; omega) ?_; intro v' w1 hown1 hgrow _)
      all_goals
        have hnb := Lib.hid (show Below w.heap.size w w1 from first_below hbel hbs hgrow (own_base hown))
        clear hgrow d1 d2 hck q1 q2
        go_wp2_with fail
        go_roundw
        case rel => exact ⟨k + 1, by omega, by go_num, hnb.out, by rw [HSN.out, bv_app, show 2 * (k + 1) = 2 * k + 2 by omega]; exact hown1⟩
        case measure => simp [intOf]; omega
    · have e : hexL (l.take k) = hexL l := by rw [List.take_of_length_le (by omega)]
      rw [e] at hown
      have hback := run_own_string Tryd.underlying22 Tryd.underlying5 Tryd.underlying9 hown
      clear hown e
      go_wp2_with fail
      go_ret
      exact ⟨rfl, hbel⟩

def rdigI (c : UInt8) : Int := match digV c with | some x => (x : Int) | none => -1
set_option maxHeartbeats 400000 in
theorem rdigit_all (c : UInt8) (w : World) :
    Calls Tryd.prog 63 #[.int .u8 (c.toNat : Int)] w fun e w' => e = .returned (.int .i64 (rdigI c)) ∧ w = w' := by
  have h256 := UInt8.toNat_lt c
  by_cases h1 : 48 ≤ c.toNat
  · have d1 : decide (48 ≤ (c.toNat : Int)) = true := decide_eq_true (by omega)
    by_cases h2 : c.toNat ≤ 57
    · have d2 : decide ((c.toNat : Int) ≤ 57) = true := decide_eq_true (by omega)
      have HV := Lib.hid (digV_low h1 h2)
      go_enter Tryd.func63, Tryd.ntmps63
      go_wp2
      go_ret
      exact ⟨ret_int (by unfold rdigI; rw [HV.out]; simp; omega), rfl⟩
    · have d2 : decide ((c.toNat : Int) ≤ 57) = false := decide_eq_false (by omega)
      by_cases h3 : 97 ≤ c.toNat
      · have d3 : decide (97 ≤ (c.toNat : Int)) = true := decide_eq_true (by omega)
        by_cases h4 : c.toNat ≤ 102
        · have d4 : decide ((c.toNat : Int) ≤ 102) = true := decide_eq_true (by omega)
          have HV := Lib.hid (digV_high h3 h4)
          go_enter Tryd.func63, Tryd.ntmps63
          go_wp2
          go_ret
          exact ⟨ret_int (by unfold rdigI; rw [HV.out]; simp; omega), rfl⟩
        · have d4 : decide ((c.toNat : Int) ≤ 102) = false := decide_eq_false (by omega)
          have HV := Lib.hid (digV_none (c := c) (by omega) (by omega))
          go_enter Tryd.func63, Tryd.ntmps63
          go_wp2
          go_ret
          exact ⟨ret_int (by unfold rdigI; rw [HV.out]), rfl⟩
      · have d3 : decide (97 ≤ (c.toNat : Int)) = false := decide_eq_false (by omega)
        have HV := Lib.hid (digV_none (c := c) (by omega) (by omega))
        go_enter Tryd.func63, Tryd.ntmps63
        go_wp2
        go_ret
        exact ⟨ret_int (by unfold rdigI; rw [HV.out]), rfl⟩
  · have d1 : decide (48 ≤ (c.toNat : Int)) = false := decide_eq_false (by omega)
    have d3 : decide (97 ≤ (c.toNat : Int)) = false := decide_eq_false (by omega)
    have HV := Lib.hid (digV_none (c := c) (by omega) (by omega))
    go_enter Tryd.func63, Tryd.ntmps63
    go_wp2
    go_ret
    exact ⟨ret_int (by unfold rdigI; rw [HV.out]), rfl⟩
theorem rdigit_yes {c : UInt8} {x : Nat} (h : digV c = some x) (w : World) :
    Calls Tryd.prog 63 #[.int .u8 (c.toNat : Int)] w fun e w' => e = .returned (.int .i64 (x : Int)) ∧ w = w' := by
  have := rdigit_all c w
  unfold rdigI at this
  rw [h] at this
  exact this
theorem rdigit_no {c : UInt8} (h : digV c = none) (w : World) :
    Calls Tryd.prog 63 #[.int .u8 (c.toNat : Int)] w fun e w' => e = .returned (.int .i64 (-1)) ∧ w = w' := by
  have := rdigit_all c w
  unfold rdigI at this
  rw [h] at this
  exact this
theorem rdigit_some (c : UInt8) (w : World) :
    Calls Tryd.prog 63 #[.int .u8 (c.toNat : Int)] w fun e w' => e = .returned (.int .i64 (rdigI c)) ∧ w = w' := rdigit_all c w
theorem rjoin_val (x y : Nat) (hx : x < 16) (hy : y < 16) : (16 * (x : Int) + (y : Int)) = ((UInt8.ofNat (16 * x + y)).toNat : Int) := by
  have h : (UInt8.ofNat (16 * x + y)).toNat = (16 * x + y) % 256 := UInt8.toNat_ofNat'
  rw [h]
  omega

set_option maxHeartbeats 2000000 in
theorem runhex_any (s : ByteArray) (w : World) (hz : s.size ≤ 140737488351232) :
    Calls Tryd.prog 52 #[.string s] w (UnhexPost s.data.toList w) := by
  obtain ⟨i0, hi0, hz0, hz1, hzb⟩ := info_parts u8_info
  have HL := Lib.hid (show s.data.toList.length = s.size by simp)
  by_cases hodd : s.size % 2 = 0
  · have d0 : (((s.size : Int) % 2) != 0) = false := by simp; omega
    have HO := Lib.hid hodd
    clear hodd
    go_enter Tryd.func52, Tryd.ntmps52
    go_wp2_with fail
    go_loopw [4, 5] (fun v i wr => ∃ (m : Nat) (out : List UInt8), m ≤ s.size ∧ m % 2 = 0 ∧ i = .int .i64 m ∧ Below w.heap.size w wr ∧ wr.ownsRow w.heap.size 5 1 v out.length (bv out) ∧ 2 * out.length = m ∧ unhexL (s.data.toList.take m) = some out) (fun _ i _ => s.size - (intOf i).toNat)
    case atStart => exact ⟨0, [], by omega, rfl, rfl, below1 _ _, World.ownsRow_lit w #[] 0 (Nat.le_refl _) (by simp [maxLen]) rfl, rfl, rfl⟩
    case round =>
      obtain ⟨m, out, hm, hpar, rfl, hbel, hown, hol, hun⟩ := hrel
      have HU := Lib.hid hun
      have HOL := Lib.hid hol
      have HP := Lib.hid hpar
      have hou : out.length ≤ s.size := by omega
      have hbs := hbel.size
      clear hun
      by_cases hlt : m < s.size
      · have hm1 : m + 1 < s.size := by have := HO.out; omega
        have dm : decide ((m : Int) + 1 < (s.size : Int)) = true := decide_eq_true (by omega)
        clear hol hpar
        cases hx : digV s[m] with
        | none =>
          have HN := Lib.hid (step_stop s out m hm1 HU.out (Or.inl hx))
          have HX := Lib.hid hx
          clear hx
          go_wp2_with (go_at_call 63; (first | (with_reducible refine (rdigit_no HX.out _).mono ?_) | (with_reducible refine (rdigit_all s[m + 1] _).mono ?_)); rintro e w' ⟨rfl, rfl⟩)
          go_ret2
          exact Or.inl ⟨HN.out, rfl, hbel⟩
        | some x =>
          have hx16 := digV_lt hx
          have dx : decide ((x : Int) < 0) = false := decide_eq_false (by omega)
          cases hy : digV s[m + 1] with
          | none =>
            have HN := Lib.hid (step_stop s out m hm1 HU.out (Or.inr hy))
            have HX := Lib.hid hx
            have HY := Lib.hid hy
            clear hx hy
            go_wp2_with (go_at_call 63; (first | (with_reducible refine (rdigit_yes HX.out _).mono ?_) | (with_reducible refine (rdigit_no HY.out _).mono ?_)); rintro e w' ⟨rfl, rfl⟩)
            go_ret2
            exact Or.inl ⟨HN.out, rfl, hbel⟩
          | some y =>
            have HN := Lib.hid (step_next s out m x y hm1 HU.out hx hy)
            have hy16 := digV_lt hy
            have dy : decide ((y : Int) < 0) = false := decide_eq_false (by omega)
            have hj := Lib.hid (rjoin_val x y hx16 hy16)
            have HX := Lib.hid hx
            have HY := Lib.hid hy
            clear hx hy
            go_wp2_with (first | (go_at_call 63; (first | (with_reducible refine (rdigit_yes HX.out _).mono ?_) | (with_reducible refine (rdigit_yes HY.out _).mono ?_)); rintro e w' ⟨rfl, rfl⟩) | (at_builtin; refine wpList_append_own _ rfl (.tmp 35) (.tmp 41) 22 rfl w.heap.size 5 i0 (.int .u8 0) 1 1 Tryd.underlying22 hi0 hz0 hz1 hzb rfl (by decide) u4 out.length _ rfl (hown.alloc _) ⟨wr.heap.size, 0, none⟩ 1 1 [.int .u8 (16 * (x : Int) + (y : Int))] rfl rfl (one_news _ _ _) (by simp [Value.oneCell']) (by unfold maxLen; omega) (by omega) (by simp; omega) ?_; intro v' w1 hown1 hgrow _))
            go_roundw
            case rel => exact ⟨m + 2, out ++ [UInt8.ofNat (16 * x + y)], by omega, by have := HP.out; omega, by go_num, (hbel.alloc hbs _).grown hgrow (by simp; omega) (own_base hown), by rw [List.length_append, bv_snoc, ← hj.out]; exact hown1, by rw [List.length_append]; have := HOL.out; simp; omega, HN.out⟩
            case measure => simp [intOf]; omega
      · have HA : Hid (unhexL s.data.toList = some out) := by
          have h := HU.out
          rw [List.take_of_length_le (by rw [HL.out]; omega)] at h
          exact h
        have dm : decide ((m : Int) + 1 < (s.size : Int)) = false := decide_eq_false (by omega)
        clear hol hpar
        have HW := Lib.hid hown
        clear hown
        go_wp2_with fail
        go_ret2
        exact Or.inr ⟨out, _, HA.out, rfl, HW.out, hbel⟩
  · have d0 : (((s.size : Int) % 2) != 0) = true := by simp; omega
    have HN := Lib.hid (unhex_odd s.data.toList (by rw [HL.out]; omega))
    go_enter Tryd.func52, Tryd.ntmps52
    go_wp2_with fail
    go_ret2
    exact Or.inl ⟨HN.out, rfl, Below.refl _ _⟩

end Go.Proofs.YtjcohlpjlifolaaDoor.HexW
