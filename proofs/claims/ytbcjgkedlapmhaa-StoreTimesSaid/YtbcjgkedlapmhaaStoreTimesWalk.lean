/-
  StoreTimes: a key is there just up to its deadline, in however many steps time goes on.
-/
import Derived.Test.YtbcjgkedlapmhaaStoLaw
import Derived.Test.YtbcjgkedlapmhaaUshort
import Derived.Test.YtbcjgkedlapmhaaStoTimes
namespace Go.Proofs.Ytbcjgkedlapmhaa.storeTimes
open Go.RowKit Kit StrT RowG BOrd ValT StoT StoM StoL
set_option linter.unusedVariables false
set_option maxRecDepth 100000
-- ASKS: 

set_option maxHeartbeats 1000000 in
theorem bit_any (b : Bool) (w : World) : Calls Try.prog 34 #[.bool b] w fun e w' => e = .returned (.int .u8 (if b then 1 else 0)) ∧ w' = w := by
  cases b with
  | true =>
    go_enter Try.func34, Try.ntmps34
    go_wp2_with fail
    go_ret
    exact ⟨rfl, rfl⟩
  | false =>
    go_enter Try.func34, Try.ntmps34
    go_wp2_with fail
    go_ret
    exact ⟨rfl, rfl⟩
theorem text_of {p : PV} {w : World} {d : V} {S : ByteArray} (hp : p.In w) (hd : p.d = d) (hs : d.s = S.data.toList) : p.S = S := by
  have h := hp.es
  rw [hd, hs] at h
  exact ByteArray.ext (Array.toList_inj.1 h)

set_option maxHeartbeats 8000000 in
theorem walk (a : Int) (q : Option Addr) (L : List Int) (n c : Nat) (w : World) (ha0 : 0 ≤ a) (ha1 : a ≤ 65535) (hL : L.length = n) (h : Us w q L) (hb : ∀ x ∈ L, 0 ≤ x ∧ x ≤ 65535) (hcm : n ≤ 9223372036854775807) :
    Calls Try.prog 5 #[.int .u16 a, .slice q n c] w fun e w' => e = .returned (.bool true) ∧ Below w.heap.size w w' := by
  have C0 := Lib.hid (shown_any w)
  have HU := Lib.hid h
  have HN := Lib.hid hL
  have HBd := Lib.hid hb
  obtain ⟨tb1, tb2, tn2, tn3, tn4, tn5⟩ := t_facts
  have tb2' := tb2 a ha0
  have HTn := Lib.hid (show T2.n = 2 ∧ (setDueS [97] a true T2).n = 3 ∧ (T4 a).n = 4 ∧ (T5 a).n = 5 from ⟨tn2, tn3 a ha0, tn4 a ha0, tn5 a ha0⟩)
  have HTb := Lib.hid (show setDueB [97] T2 = true ∧ setDueB [99] (setDueS [97] a true T2) = false from ⟨tb1, tb2'⟩)
  clear h hL hb tb1 tb2 tb2' tn2 tn3 tn4 tn5
  go_enter Try.func5, Try.ntmps5
  go_wp2_with fail
  refine C0.out.mono ?_
  rintro e w1 ⟨rfl, hb1⟩
  have CN := Lib.hid (tnew w w1 hb1)
  clear hb1 C0
  go_wp2_with fail
  refine CN.out.mono ?_
  rintro e w2 ⟨s, rfl, h2, -⟩
  have H3 := Lib.hid (h2.on (sstb s) noSt_stb (show Below w2.heap.size w2 (w2.alloc (.cells #[.int .u8 1, .string ⟨#[120]⟩, .slice none 0 0, .slice none 0 0, .slice none 0 0] 35)) from (Below.refl _ _).alloc (Nat.le_refl _) _)).1
  have HV3 := Lib.hid (VCells.new w2 (.int .u8 1) (.string ⟨#[120]⟩) (.slice none 0 0) (.slice none 0 0) (.slice none 0 0) w2.heap.size rfl)
  have HX3 := Lib.hid (show w2.heap.size ≤ w2.heap.size ∧ w2.heap.size < (w2.alloc (.cells #[.int .u8 1, .string ⟨#[120]⟩, .slice none 0 0, .slice none 0 0, .slice none 0 0] 35)).heap.size from ⟨Nat.le_refl _, HV3.out.lt⟩)
  have CP := Lib.hid (tput noSt_stb H3.out (by decide) ⟨#[97]⟩ [97] key_a (tv ⟨#[120]⟩) (tv_in _ _) (fun k hk => absurd hk (tv_at _ k)) (tv_right _))
  obtain ⟨-, -, c0, c1, c2, c3, c4⟩ := HV3.out
  clear h2 CN
  go_wp2_with fail
  generalize w2.alloc (.cells #[.int .u8 1, .string ⟨#[120]⟩, .slice none 0 0, .slice none 0 0, .slice none 0 0] 35) = w3 at H3 HV3 HX3 CP ⊢
  refine CP.out.mono ?_
  rintro e w4 ⟨rfl, h4, hk4⟩
  have HV4 := Lib.hid (keep_cells HV3.out hk4 (Or.inr HX3.out))
  have H4 := Lib.hid (show Tw (SSt s) NoSt w _ w4 (putAny [97] vx s0) s0 from h4)
  have CP := Lib.hid (tput noSt_stb H4.out (by decide) ⟨#[98]⟩ [98] key_b (tv ⟨#[120]⟩) (tv_in _ _) (fun k hk => absurd hk (tv_at _ k)) (tv_right _))
  clear c0 c1 c2 c3 c4 h4 hk4 CP
  have CP := Lib.hid (tput noSt_stb H4.out (by decide) ⟨#[98]⟩ [98] key_b (tv ⟨#[120]⟩) (tv_in _ _) (fun k hk => absurd hk (tv_at _ k)) (tv_right _))
  obtain ⟨-, -, c0, c1, c2, c3, c4⟩ := HV4.out
  go_wp2_with fail
  refine CP.out.mono ?_
  rintro e w5 ⟨rfl, h5, -⟩
  have H5 := Lib.hid ((show Tw (SSt s) NoSt w _ w5 T2 s0 from h5).less (Y := fun _ => False) (fun k hk => hk.elim))
  have CD := Lib.hid (tsetdue noSt_stb H5.out (by rw [HTn.out.1]; decide) ⟨#[97]⟩ [97] a true key_a)
  rw [HTb.out.1] at CD
  clear h5 CP c0 c1 c2 c3 c4 HV3 HX3 H3 HV4 H4
  go_wp2_with (first
    | (go_at_call 15; with_reducible refine CD.out.mono ?_; rintro e w6 ⟨rfl, h6, -⟩; have H6 := Lib.hid h6; have CE := Lib.hid (tsetdue noSt_stb H6.out (by rw [HTn.out.2.1]; decide) ⟨#[99]⟩ [99] a true key_c); rw [HTb.out.2] at CE; clear h6 CD)
    | (go_at_call 15; with_reducible refine CE.out.mono ?_; rintro e w7 ⟨rfl, h7, -⟩; have H7 := Lib.hid (show Tw (SSt s) NoSt w _ w7 (T4 a) s0 from h7); clear h7 CE))
  have CP := Lib.hid (tput noSt_stb H7.out (by rw [HTn.out.2.2.1]; decide) ⟨#[97]⟩ [97] key_a (tv ⟨#[121]⟩) (tv_in _ _) (fun k hk => absurd hk (tv_at _ k)) (tv_right _))
  refine CP.out.mono ?_
  rintro e w8 ⟨rfl, h8, -⟩
  have H8 := Lib.hid (show Tw (SSt s) NoSt w _ w8 (T5 a) s0 from h8)
  clear h8 CP
  by_cases hz : a = 0
  · subst hz
    have HZ := Lib.hid t5_zero
    have CD := Lib.hid (tdue noSt_stb H8.out (by rw [HTn.out.2.2.2]; decide) ⟨#[97]⟩ [97] key_a)
    rw [HZ.out.1] at CD
    go_wp2_with fail
    refine CD.out.mono ?_
    rintro e w9 ⟨rfl, h9, -⟩
    have CG := Lib.hid (tget noSt_stb h9 (by show (T5 0).n + 1 ≤ 100000; rw [HTn.out.2.2.2]; decide) ⟨#[97]⟩ [97] key_a)
    clear h9 CD
    go_wp2_with fail
    refine CG.out.mono ?_
    rintro e wa ⟨p, rfl, hp, hd, ha, -⟩
    have hS := text_of hp hd (S := ⟨#[121]⟩) (by rw [HZ.out.2]; rfl)
    have HB := Lib.hid ha.below
    have hf := fun W => fld_text p.k ⟨#[121]⟩ (.slice p.ql p.nl p.cl) (.slice p.qh p.nh p.ch) (.slice p.qz p.nz p.cz) W
    unfold PV.agg
    rw [hS]
    clear hp hd ha CG hS
    go_wp2_with fail
    go_ret
    exact ⟨rfl, HB.out⟩
  · have hpos : 0 < a := by omega
    have hz2 : (a == 0) = false := beq_eq_false_iff_ne.2 hz
    have HA0 := Lib.hid (t5_pos hpos)
    go_wp2_with fail
    go_loopw [11, 12] (fun t' i wr => ∃ (j t : Nat) (D : Sd V), j ≤ n ∧ j ≤ 20 ∧ i = .int .i64 (j : Int) ∧ t' = .int .i64 (t : Int) ∧ t ≤ 4095 * j ∧ Hid (At a t D) ∧ Hid (D.n ≤ 5 + 5 * j) ∧ Hid (Tw (SSt s) NoSt w (fun _ => False) wr D s0)) (fun _ i _ => 21 - (intOf i).toNat)
    case atStart => exact ⟨0, 0, T5 a, Nat.zero_le _, Nat.zero_le _, rfl, rfl, Nat.zero_le _, HA0, Lib.hid (by rw [HTn.out.2.2.2]; decide), H8⟩
    case round =>
      clear H8 HA0
      obtain ⟨j, t, D, hj, hj2, rfl, rfl, ht, HA, HDn, HT⟩ := hrel
      by_cases hlt : j < n
      · by_cases hlt2 : j < 20
        · have d1 : decide ((j : Int) < (n : Int)) = true := decide_eq_true (by omega)
          have d2 : decide ((j : Int) < 20) = true := decide_eq_true (by omega)
          have hj0 : (0 : Int) ≤ (j : Int) := by omega
          have hjn : (j : Int) < (n : Int) := by omega
          obtain ⟨b, off, rfl, hbl, u0⟩ := (HU.out.keep HT.out.below).at_ j (by rw [HN.out]; exact hlt)
          have hx := HBd.out _ (List.getElem_mem (show j < L.length by rw [HN.out]; exact hlt))
          generalize L[j]'(by rw [HN.out]; exact hlt) = x at u0 hx
          obtain ⟨hx0, hx1⟩ := hx
          obtain ⟨m, hm⟩ : ∃ m : Nat, x % 4096 = (m : Int) := ⟨(x % 4096).toNat, by omega⟩
          have hm1 : m ≤ 4095 := by omega
          have hm2 : x.tmod 4096 = (m : Int) := by rw [Int.tmod_eq_emod_of_nonneg hx0]; exact hm
          have ht1 : t ≤ 1000000 := by omega
          have HR := Lib.hid (round_at HA.out hm1 ht1)
          have hDn := HDn.out
          have HDb := Lib.hid (show D.n + 10 ≤ 100000 by omega)
          have CT := Lib.hid (ttick noSt_stb HT.out (by have := HDb.out; omega) (m : Int) (by omega) (by omega))
          clear hbl hDn
          go_wp2_with fail
          refine CT.out.mono ?_
          rintro e w9 ⟨rfl, h9, -⟩
          have H9 := Lib.hid h9
          have CT := Lib.hid (ttick noSt_stb H9.out (by show D.n + 1 ≤ 100000; have := HDb.out; omega) (-(m : Int)) (by omega) (by omega))
          clear h9 u0
          go_wp2_with fail
          refine CT.out.mono ?_
          rintro e wa ⟨rfl, ha, -⟩
          have Ha := Lib.hid (show Tw (SSt s) NoSt w _ wa (D2of m D) s0 from ha)
          have hn2 : (D2of m D).n = D.n + 2 := rfl
          have HD2 := Lib.hid (show (D2of m D).n + 8 ≤ 100000 by rw [hn2]; have := HDb.out; omega)
          have CD := Lib.hid (tdue noSt_stb Ha.out (by have := HD2.out; omega) ⟨#[97]⟩ [97] key_a)
          rw [HR.out.due] at CD
          have hcast : ((t + m : Nat) : Int) = (t : Int) + (m : Int) := by omega
          have hsum : (t : Int) + (m : Int) ≤ 1000000 := by omega
          rw [hcast] at CD
          generalize (dueV [97] (D2of m D).L).1 = dv at CD
          clear ha CT hn2
          go_wp2_with fail
          refine CD.out.mono ?_
          rintro e wb ⟨rfl, hb', -⟩
          have Hb := Lib.hid hb'
          have CW := Lib.hid (tnow noSt_stb Hb.out)
          rw [HR.out.now, hcast] at CW
          have CG := Lib.hid (fun W (hW : Tw (SSt s) NoSt w (fun _ => False) W (getS [97] (D2of m D)) s0) => tget noSt_stb hW (by show (D2of m D).n + 1 ≤ 100000; have := HD2.out; omega) ⟨#[97]⟩ [97] key_a)
          have CB := Lib.hid (fun W (hW : Tw (SSt s) NoSt w (fun _ => False) W (getS [97] (getS [97] (D2of m D))) s0) => tget noSt_stb hW (by show (D2of m D).n + 1 + 1 ≤ 100000; have := HD2.out; omega) ⟨#[98]⟩ [98] key_b)
          have CK := Lib.hid (fun W (hW : Tw (SSt s) NoSt w (fun _ => False) W (getS [98] (getS [97] (getS [97] (D2of m D)))) s0) => tkeys noSt_stb hW (by show (D2of m D).n + 1 + 1 + 1 ≤ 100000; have := HD2.out; omega))
          have HRn := Lib.hid (show (getS [98] (getS [97] (getS [97] (D2of m D)))).n ≤ 5 + 5 * (j + 1) by rw [HR.out.n]; show D.n + 2 + 3 ≤ _; have := HDn.out; omega)
          have HRa := Lib.hid HR.out.next
          clear hb' CD
          by_cases hla : (t : Int) + (m : Int) < a
          · have dl : decide ((t : Int) + (m : Int) < a) = true := decide_eq_true hla
            have HGa := Lib.hid (show (getV [97] (getS [97] (D2of m D)).L).getD v0 = vy by rw [HR.out.ga, if_pos (by rw [hcast]; exact hla)])
            have HGb := Lib.hid HR.out.gb
            have HKe := Lib.hid (show (keysS (getS [98] (getS [97] (getS [97] (D2of m D)))).L).length = 2 by rw [HR.out.keys, if_pos (by rw [hcast]; exact hla)])
            have CBi := Lib.hid (fun W => bit_any true W)
            go_wp2_with (first
              | (go_at_call 30; with_reducible refine CW.out.mono ?_; rintro e wc ⟨rfl, hc, -⟩; have Hc := Lib.hid hc; clear hc CW)
              | (go_at_call 13; (with_reducible refine (CG.out _ Hc.out).mono ?_); rintro e wd ⟨p, rfl, hp, hd, hd', -⟩; have hS := text_of hp hd (S := ⟨#[121]⟩) (by rw [HGa.out]; rfl); have Hd := Lib.hid (hd'.less (Y := fun _ => False) (fun k hk => hk.elim)); have hf := fun W => fld_text p.k ⟨#[121]⟩ (.slice p.ql p.nl p.cl) (.slice p.qh p.nh p.ch) (.slice p.qz p.nz p.cz) W; unfold PV.agg; rw [hS]; clear hp hd hd' hS Hc)
              | (go_at_call 13; (with_reducible refine (CB.out _ Hd.out).mono ?_); rintro e we ⟨p', rfl, hp, hd, hd', -⟩; have hS := text_of hp hd (S := ⟨#[120]⟩) (by rw [HGb.out]; rfl); have He := Lib.hid (hd'.less (Y := fun _ => False) (fun k hk => hk.elim)); have hf' := fun W => fld_text p'.k ⟨#[120]⟩ (.slice p'.ql p'.nl p'.cl) (.slice p'.qh p'.nh p'.ch) (.slice p'.qz p'.nz p'.cz) W; unfold PV.agg; rw [hS]; clear hp hd hd' hS Hd)
              | (go_at_call 27; (with_reducible refine (CK.out _ He.out).mono ?_); rintro e wf ⟨qk, ck, rfl, -, -, -, -, hk', -⟩; have Hf := Lib.hid (hk'.less (Y := fun _ => False) (fun k hk => hk.elim)); rw [HKe.out]; clear hk' He)
              | (go_at_call 34; with_reducible refine (CBi.out _).mono ?_; rintro e wg ⟨rfl, rfl⟩))
            go_roundw
            case rel => exact ⟨j + 1, t + m, _, by omega, by omega, by go_num, by rw [hcast], by omega, HRa, HRn, Hf⟩
            case measure => simp [intOf]; omega
          · have dl : decide ((t : Int) + (m : Int) < a) = false := decide_eq_false hla
            have HGa := Lib.hid (show (getV [97] (getS [97] (D2of m D)).L).getD v0 = v0 by rw [HR.out.ga, if_neg (by rw [hcast]; exact hla)])
            have HGb := Lib.hid HR.out.gb
            have HKe := Lib.hid (show (keysS (getS [98] (getS [97] (getS [97] (D2of m D)))).L).length = 1 by rw [HR.out.keys, if_neg (by rw [hcast]; exact hla)])
            have CBi := Lib.hid (fun W => bit_any false W)
            go_wp2_with (first
              | (go_at_call 30; with_reducible refine CW.out.mono ?_; rintro e wc ⟨rfl, hc, -⟩; have Hc := Lib.hid hc; clear hc CW)
              | (go_at_call 13; (with_reducible refine (CG.out _ Hc.out).mono ?_); rintro e wd ⟨p, rfl, hp, hd, hd', -⟩; have hS := text_of hp hd (S := ⟨#[]⟩) (by rw [HGa.out]; rfl); have Hd := Lib.hid (hd'.less (Y := fun _ => False) (fun k hk => hk.elim)); have hf := fun W => fld_text p.k ⟨#[]⟩ (.slice p.ql p.nl p.cl) (.slice p.qh p.nh p.ch) (.slice p.qz p.nz p.cz) W; unfold PV.agg; rw [hS]; clear hp hd hd' hS Hc)
              | (go_at_call 13; (with_reducible refine (CB.out _ Hd.out).mono ?_); rintro e we ⟨p', rfl, hp, hd, hd', -⟩; have hS := text_of hp hd (S := ⟨#[120]⟩) (by rw [HGb.out]; rfl); have He := Lib.hid (hd'.less (Y := fun _ => False) (fun k hk => hk.elim)); have hf' := fun W => fld_text p'.k ⟨#[120]⟩ (.slice p'.ql p'.nl p'.cl) (.slice p'.qh p'.nh p'.ch) (.slice p'.qz p'.nz p'.cz) W; unfold PV.agg; rw [hS]; clear hp hd hd' hS Hd)
              | (go_at_call 27; (with_reducible refine (CK.out _ He.out).mono ?_); rintro e wf ⟨qk, ck, rfl, -, -, -, -, hk', -⟩; have Hf := Lib.hid (hk'.less (Y := fun _ => False) (fun k hk => hk.elim)); rw [HKe.out]; clear hk' He)
              | (go_at_call 34; with_reducible refine (CBi.out _).mono ?_; rintro e wg ⟨rfl, rfl⟩))
            go_roundw
            case rel => exact ⟨j + 1, t + m, _, by omega, by omega, by go_num, by rw [hcast], by omega, HRa, HRn, Hf⟩
            case measure => simp [intOf]; omega
        · obtain rfl : j = 20 := by omega
          have d1 : decide (((20 : Nat) : Int) < (n : Int)) = true := decide_eq_true (by omega)
          have d1' : (20 : Int) < (n : Int) := by omega
          have HB := Lib.hid HT.out.below
          go_wp2_with fail
          go_ret
          exact ⟨rfl, HB.out⟩
      · have d1 : decide ((j : Int) < (n : Int)) = false := decide_eq_false (by omega)
        have HB := Lib.hid HT.out.below
        go_wp2_with fail
        go_ret
        exact ⟨rfl, HB.out⟩

end Go.Proofs.Ytbcjgkedlapmhaa.storeTimes
