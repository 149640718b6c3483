/-
  'tipstafflaw03.MacPads': for all keys, messages and numbers it answers true.
-/
import Derived.Test.YtjcohlpjlifolaaDoorMacLaw
import Derived.Deep.CutBlock
import Derived.Deep.DeepCutAuto
namespace Go.Proofs.YtjcohlpjlifolaaDoor.macPads
open Go.RowKit Kit ShaMath ShaT MacM MacT
open Go.Sort (grow)
set_option linter.unusedVariables false
set_option maxRecDepth 100000
-- ASKS: ShaT.Tabs NumL.Gd MacT.Mx
-- NIL

set_option maxHeartbeats 2000000 in
theorem walk (p : Option Addr) (l : List UInt8) (cap : Nat) (q : Option Addr) (m : List UInt8) (cap2 : Nat) (n : Int) (w : World) (hb : Bs w p l) (hl : l.length ≤ 140737488351232) (hlc : l.length ≤ cap) (hc : cap ≤ 9223372036854775807) (hnil : p = none → cap = 0)
    (hb2 : Bs w q m) (hl2 : m.length ≤ 140737488351232) (hlc2 : m.length ≤ cap2) (hc2 : cap2 ≤ 9223372036854775807) (hnil2 : q = none → cap2 = 0) (n0 : 0 ≤ n) (n1 : n ≤ 255) (hg1 : Tabs w) (hg2 : NumL.Gd w) (hg3 : Mx w) :
    Calls Tryd.prog 9 #[.slice p l.length cap, .slice q m.length cap2, .int .u8 n] w fun e w' => e = .returned (.bool true) ∧ Below w.heap.size w w' := by
  have HG := Lib.hid (All.mk hg1 hg2 hg3)
  have HB := Lib.hid hb
  have HM := Lib.hid hb2
  clear hg1 hg2 hg3 hb hb2
  go_enter Tryd.func9, Tryd.ntmps9
  go_wp2_with fail
  refine (shown_any _ HG.out).mono ?_
  rintro e w1 ⟨rfl, hb1⟩
  have HB1 := Lib.hid hb1
  clear hb1
  have HKm := Lib.hid (show (l.take 64).length = (min (l.length : Int) 64).toNat by rw [List.length_take]; omega)
  have hk64 : (l.take 64).length ≤ 64 := by rw [List.length_take]; omega
  have HB1b := Lib.hid ((HB.out.keep HB1.out).take 64)
  obtain ⟨KL, hKL⟩ : ∃ KL, KL = l.take 64 := ⟨_, rfl⟩
  rw [← hKL] at HKm hk64 HB1b
  clear hKL HB
  go_wp2_with (with_reducible refine wpList_append_bs (w0 := w1) rfl (.tmp 16) (.tmp 21) rfl (.slice (some ⟨w1.heap.size, 0, none⟩) 0 0) [] rfl (Own.new w1) (below1 _ _) p KL _ cap rfl HKm.out (HB1b.out.keep (below1 _ _)) hnil ?c1 KL rfl ?_)
  case c1 => rw [← HKm.out]; simp; omega
  intro v1 w2 ho1 hb2
  obtain ⟨pk, ck, rfl, hbk, hkc, hkm, hknil⟩ := ho1.full
  have HB2 := Lib.hid (HB1.out.trans (hb2.mono HB1.out.size))
  have HK2 := Lib.hid hbk
  clear ho1 hb2 hbk HB1 HB1b HKm
  go_wp2_with fail
  refine (some_any q m m.length cap2 _ rfl (HM.out.keep HB2.out) hlc2 hc2).mono ?_
  rintro e w' ⟨rfl, rfl⟩
  have hm100 : (m.take 100).length ≤ 100 := by rw [List.length_take]; omega
  have HM2 := Lib.hid ((HM.out.keep HB2.out).take 100)
  obtain ⟨MM, hMM⟩ : ∃ MM, MM = m.take 100 := ⟨_, rfl⟩
  rw [← hMM] at hm100 HM2 ⊢
  clear hMM HM
  obtain ⟨U, hU⟩ : ∃ U, U = macAt KL MM := ⟨_, rfl⟩
  have HU := Lib.hid hU
  have HUL := Lib.hid (show ∀ j, U j < 256 by rw [hU]; exact macAt_lt _ _)
  have C1 := Lib.hid (show ∀ W, Bs W pk KL → Bs W q MM → Tabs W → Calls Tryd.prog 12 #[.slice pk KL.length ck, .slice q MM.length cap2] W (fun e w' => e = .returned (.agg (row .u8 32 U)) ∧ Below W.heap.size W w') from fun W h1 h2 h3 => by rw [hU]; exact mac_any pk KL _ ck q MM _ cap2 W rfl h1 (by omega) hkc hkm rfl h2 (by omega) h3)
  clear hU
  go_wp2_with fail
  refine (C1.out _ HK2.out HM2.out (HG.out.t.keep HB2.out)).mono ?_
  rintro e w3 ⟨rfl, hb3⟩
  obtain ⟨hz3, hn3⟩ := zero_of_info info_32
  have HN := Lib.hid hn3
  clear hn3
  have HB3 := Lib.hid (HB2.out.trans (hb3.mono HB2.out.size))
  have HK3 := Lib.hid (HK2.out.keep hb3)
  have HM3 := Lib.hid (HM2.out.keep hb3)
  clear hb3 HB2 HK2 HM2 C1
  go_upto_region 5 with (with_reducible refine wpList_store_arr rfl 25 (.tmp 10) (.tmp 27) rfl w3.heap.size .u8 32 U rfl rfl 25 _ Arr.new HN ?_)
  go_simp
  have hb4 : Below w3.heap.size w3 ((w3.alloc (.cells (row .u8 32 fun _ => 0) 25)).setRow w3.heap.size (row .u8 32 U)) := below_setRow (below1 _ _) (Nat.le_refl _) _
  have HA4 := Lib.hid (show Arr ((w3.alloc (.cells (row .u8 32 fun _ => 0) 25)).setRow w3.heap.size (row .u8 32 U)) w3.heap.size .u8 32 25 U from Arr.new.setRow _)
  generalize World.setRow _ _ _ = w4 at hb4 HA4 ⊢
  have HB4 := Lib.hid (HB3.out.trans (hb4.mono HB3.out.size))
  have HK4 := Lib.hid (HK3.out.keep hb4)
  have HM4 := Lib.hid (HM3.out.keep hb4)
  generalize w3.heap.size = g10 at HA4 ⊢
  clear hb4 HB3 HK3 HM3
  go_upto_block 0 with (with_reducible refine wpList_append_bs (w0 := w4) rfl (.tmp 28) (.tmp 29) rfl (.slice (some ⟨w4.heap.size, 0, none⟩) 0 0) [] rfl (Own.new w4) (below1 _ _) pk KL _ ck rfl rfl (HK4.out.keep (below1 _ _)) hknil ?c1 KL rfl ?_)
  case c1 => simp; omega
  intro v5 w5 ho5 hb5
  have HO5 := Lib.hid ho5
  have HB5 := Lib.hid hb5
  clear ho5 hb5
  go_upto_block 0 with fail
  go_cut [11] (fun v wx => ∃ k : Nat, KL.length + k ≤ 64 ∧ Own w4.heap.size wx v (KL ++ zeros k) ∧ Below w4.heap.size w4 wx)
  case first =>
    go_wp2_with fail
    go_loopw [11, 12] (fun v i wr => ∃ k : Nat, i = .int .i64 k ∧ KL.length + k ≤ 64 ∧ Own w4.heap.size wr v (KL ++ zeros k) ∧ Below w4.heap.size w4 wr) (fun _ i _ => 64 - (intOf i).toNat)
    case atStart => exact ⟨0, rfl, by omega, by rw [show KL ++ zeros 0 = KL by simp [zeros]]; exact HO5.out, HB5.out⟩
    case round =>
      obtain ⟨k, rfl, hk, ho, hbr⟩ := hrel
      obtain ⟨pv, cv, rfl, -⟩ := ho.full
      have HO := Lib.hid ho
      have HBr := Lib.hid hbr
      obtain ⟨L, hL⟩ : ∃ L, L = KL ++ zeros k := ⟨_, rfl⟩
      have HLN := Lib.hid (show KL ++ zeros (k + 1) = L ++ [0] by rw [hL]; unfold zeros; rw [List.replicate_succ', List.append_assoc])
      have hLl : L.length = KL.length + k := by rw [hL, List.length_append, zeros_length]
      have HL := Lib.hid hL
      rw [← hL] at HO ⊢
      have HLl := Lib.hid hLl
      have hl64 : L.length ≤ 64 := by omega
      clear ho hbr hL hLl
      by_cases hA : (k : Int) < n % 65
      · have dA : decide ((k : Int) < n % 65) = true := decide_eq_true hA
        by_cases hC : L.length < 64
        · have dC : decide ((L.length : Int) < 64) = true := decide_eq_true (by omega)
          go_wp2_with (with_reducible refine wpList_append_bs (w0 := w4) rfl (.tmp 43) (.tmp 44) rfl (.slice pv L.length cv) L rfl (HO.out.al _) (HBr.out.alloc HBr.out.size _) (some ⟨wr.heap.size, 0, none⟩) [0] 1 1 rfl rfl (lit1_bs wr 0 0 rfl) ?c2 ?c1 (L ++ [0]) rfl ?_)
          case c2 => exact fun h => by cases h
          case c1 => omega
          intro v6 w6 ho6 hb6
          have HO6 := Lib.hid ho6
          clear ho6
          go_wp2_with fail
          go_roundw
          case rel => exact ⟨k + 1, by go_num, by have := HLl.out; omega, by rw [HLN.out]; exact HO6.out, hb6⟩
          case measure => simp [intOf]; omega
        · have dC : decide ((L.length : Int) < 64) = false := decide_eq_false (by omega)
          go_wp2_with fail
          go_meet
          exact ⟨k, by have := HLl.out; omega, by rw [← HL.out]; exact HO.out, HBr.out⟩
      · have dA : decide ((k : Int) < n % 65) = false := decide_eq_false hA
        go_wp2_with fail
        go_meet
        exact ⟨k, by have := HLl.out; omega, by rw [← HL.out]; exact HO.out, HBr.out⟩
  case rest =>
    obtain ⟨k, hk, ho, hbr⟩ := hcut
    obtain ⟨pl, cl, rfl, hbl, hlcl, hlm, hlnil⟩ := ho.full
    obtain ⟨L, hL⟩ : ∃ L, L = KL ++ zeros k := ⟨_, rfl⟩
    have HLU := Lib.hid (show macAt L MM = U by rw [hL, HU.out]; exact mac_zeros k hk MM)
    rw [← hL] at hbl hlcl ⊢
    have hLl : L.length ≤ 64 := by rw [hL, List.length_append, zeros_length]; exact hk
    have HBc := Lib.hid (HB4.out.trans (hbr.mono HB4.out.size))
    have HKc := Lib.hid (HK4.out.keep hbr)
    have HMc := Lib.hid (HM4.out.keep hbr)
    have HAc := Lib.hid (HA4.out.keep hbr HA4.out.lt)
    have HLc := Lib.hid hbl
    clear hL ho hbr hbl HB4 HK4 HM4 HA4 HO5 HB5
    go_wp2_with (with_reducible refine wpList_append_bs (w0 := wc) rfl (.tmp 46) (.tmp 47) rfl (.slice (some ⟨wc.heap.size, 0, none⟩) 0 0) [] rfl (Own.new wc) (below1 _ _) pk KL _ ck rfl rfl (HKc.out.keep (below1 _ _)) hknil ?c1 KL rfl ?_)
    case c1 => simp; omega
    intro v7 w7 ho7 hb7
    have HO7 := Lib.hid ho7
    have HB7 := Lib.hid hb7
    clear ho7 hb7
    go_wp2_with fail
    go_loopw [13] (fun v wr => ∃ j : Nat, KL.length + j ≤ 65 ∧ Own wc.heap.size wr v (KL ++ zeros j) ∧ Below wc.heap.size wc wr) (fun v _ => match v with | .slice _ x _ => 65 - x | _ => 0)
    case atStart => exact ⟨0, by omega, by rw [show KL ++ zeros 0 = KL by simp [zeros]]; exact HO7.out, HB7.out⟩
    case round =>
      obtain ⟨j, hj, ho, hbr⟩ := hrel
      obtain ⟨pv, cv, rfl, hbv, hvc, hvm, hvnil⟩ := ho.full
      have HO := Lib.hid ho
      have HBr := Lib.hid hbr
      have HBv := Lib.hid hbv
      obtain ⟨R, hR⟩ : ∃ R, R = KL ++ zeros j := ⟨_, rfl⟩
      have HRN := Lib.hid (show KL ++ zeros (j + 1) = R ++ [0] by rw [hR]; unfold zeros; rw [List.replicate_succ', List.append_assoc])
      have hRl : R.length = KL.length + j := by rw [hR, List.length_append, zeros_length]
      rw [← hR] at HO HBv hvc ⊢
      have HRl := Lib.hid hRl
      have hr65 : R.length ≤ 65 := by omega
      clear ho hbr hbv hR hRl
      by_cases hC : R.length < 65
      · have dC : decide ((R.length : Int) < 65) = true := decide_eq_true (by omega)
        go_wp2_with (with_reducible refine wpList_append_bs (w0 := wc) rfl (.tmp 52) (.tmp 53) rfl (.slice pv R.length cv) R rfl (HO.out.al _) (HBr.out.alloc HBr.out.size _) (some ⟨wr.heap.size, 0, none⟩) [0] 1 1 rfl rfl (lit1_bs wr 0 0 rfl) ?c2 ?c1 (R ++ [0]) rfl ?_)
        case c2 => exact fun h => by cases h
        case c1 => omega
        intro v8 w8 ho8 hb8
        obtain ⟨pw, cw, rfl, -⟩ := ho8.full
        have HO8 := Lib.hid ho8
        have HR1 := Lib.hid (show (R ++ [0]).length = R.length + 1 by simp)
        clear ho8
        rw [HR1.out]
        rw [HR1.out] at HO8
        go_wp2_with fail
        go_roundw
        case rel => exact ⟨j + 1, by have := HRl.out; omega, by rw [HRN.out]; exact HO8.out, hb8⟩
        case measure => show 65 - (R.length + 1) < 65 - R.length; omega
      · have dC : decide ((R.length : Int) < 65) = false := decide_eq_false (by omega)
        have hR65 : 64 < R.length := by omega
        obtain ⟨V, hV⟩ : ∃ V, V = macAt R MM := ⟨_, rfl⟩
        have HVs := Lib.hid (show macAt (sumList R) MM = V by rw [hV]; exact mac_long hR65 MM)
        have HV := Lib.hid hV
        have HVL := Lib.hid (show ∀ j, V j < 256 by rw [hV]; exact macAt_lt _ _)
        have CS := Lib.hid (fun W (h : Bs W pv R) (hT : Tabs W) => sum_n pv R R.length cv W rfl h (by omega) hvc hvm hT)
        have HB9 := Lib.hid (HBc.out.trans (HBr.out.mono HBc.out.size))
        clear hV dC
        go_wp2_with fail
        refine (CS.out _ HBv.out (HG.out.t.keep HB9.out)).mono ?_
        rintro e w9 ⟨rfl, hb9⟩
        have hbc9 := HBr.out.trans (hb9.mono HBr.out.size)
        have HBa := Lib.hid (HB9.out.trans (hb9.mono HB9.out.size))
        have HLa := Lib.hid (HLc.out.keep hbc9)
        have HMa := Lib.hid (HMc.out.keep hbc9)
        have HAa := Lib.hid (HAc.out.keep hbc9 HAc.out.lt)
        have HRa := Lib.hid (HBv.out.keep hb9)
        clear hb9 hbc9 HBr HBv HO HBc HKc HMc HAc HLc CS HO7 HB7 HB9
        go_upto_region 14 with (with_reducible refine wpList_store_arr rfl 25 (.tmp 14) (.tmp 56) rfl w9.heap.size .u8 32 (sumAt R) rfl rfl 25 _ Arr.new HN ?_)
        go_simp
        have hb10 : Below w9.heap.size w9 ((w9.alloc (.cells (row .u8 32 fun _ => 0) 25)).setRow w9.heap.size (row .u8 32 (sumAt R))) := below_setRow (below1 _ _) (Nat.le_refl _) _
        have hA14 : Arr ((w9.alloc (.cells (row .u8 32 fun _ => 0) 25)).setRow w9.heap.size (row .u8 32 (sumAt R))) w9.heap.size .u8 32 25 (sumAt R) := Arr.new.setRow _
        generalize World.setRow _ _ _ = w10 at hb10 hA14 ⊢
        generalize w9.heap.size = g14 at hA14 ⊢
        have hb := HBa.out.trans (hb10.mono HBa.out.size)
        have HLb := Lib.hid (HLa.out.keep hb10)
        have HMb := Lib.hid (HMa.out.keep hb10)
        have HRb := Lib.hid (HRa.out.keep hb10)
        have HAb := Lib.hid (HAa.out.keep hb10 HAa.out.lt)
        have HTb := Lib.hid (HG.out.t.keep hb)
        have HSb := Lib.hid (arr_bs hA14 (sumAt_lt R))
        have CA := Lib.hid (show ∀ W, Bs W pl L → Bs W q MM → Tabs W → Calls Tryd.prog 12 #[.slice pl L.length cl, .slice q MM.length cap2] W (fun e w' => e = .returned (.agg (row .u8 32 U)) ∧ Below W.heap.size W w') from fun W h1 h2 h3 => by rw [← HLU.out]; exact mac_any pl L _ cl q MM _ cap2 W rfl h1 (by omega) hlcl hlm rfl h2 (by omega) h3)
        have CB := Lib.hid (show ∀ W, Bs W pv R → Bs W q MM → Tabs W → Calls Tryd.prog 12 #[.slice pv R.length cv, .slice q MM.length cap2] W (fun e w' => e = .returned (.agg (row .u8 32 V)) ∧ Below W.heap.size W w') from fun W h1 h2 h3 => by rw [HV.out]; exact mac_any pv R _ cv q MM _ cap2 W rfl h1 (by omega) hvc hvm rfl h2 (by omega) h3)
        have CC := Lib.hid (show ∀ W, Bs W (some ⟨g14, 0, none⟩) (sumList R) → Bs W q MM → Tabs W → Calls Tryd.prog 12 #[.slice (some ⟨g14, 0, none⟩) 32 32, .slice q MM.length cap2] W (fun e w' => e = .returned (.agg (row .u8 32 V)) ∧ Below W.heap.size W w') from fun W h1 h2 h3 => by rw [← HVs.out]; exact mac_any _ (sumList R) 32 32 q MM _ cap2 W (sumList_length R) h1 (by rw [sumList_length]; decide) (by rw [sumList_length]; decide) (by decide) rfl h2 (by omega) h3)
        have QA := Lib.hid (fun d os => Calls.regrown_of (CA.out (grow (redrawn w10 d) os) (HLb.out.keep (below_regrown w10 d os)) (HMb.out.keep (below_regrown w10 d os)) (HTb.out.keep (below_regrown w10 d os))))
        have QB := Lib.hid (fun d os => Calls.regrown_of (CB.out (grow (redrawn w10 d) os) (HRb.out.keep (below_regrown w10 d os)) (HMb.out.keep (below_regrown w10 d os)) (HTb.out.keep (below_regrown w10 d os))))
        have QC := Lib.hid (fun d os => Calls.regrown_of (CC.out (grow (redrawn w10 d) os) (HSb.out.keep (below_regrown w10 d os)) (HMb.out.keep (below_regrown w10 d os)) (HTb.out.keep (below_regrown w10 d os))))
        have e1 := fun W => eql_row U HUL.out W
        have e2 := fun W => eql_row V HVL.out W
        clear CA CB CC HLb HMb HRb HTb HSb HBa HLa HMa HAa HRa hA14 hb10
        refine wp_region_quiet_below (by kernel_rfl) (by kernel_rfl) ?_
        repeat (any_goals (first | (refine wpQuiet_step (fun K hK => ?_); rw [if_pos (by rfl)]; with_reducible refine quiet_load_arrB 25 (.tmp 10) rfl g10 rfl .u8 32 25 U HAb.out _ Tryd.underlying25 rfl HN ?_; go_simp; refine hK _ ?_; clear hK K) | go_big_quiet_step (first | (go_at_call 12; with_reducible exact QA.out _ _) | (go_at_call 12; with_reducible exact QB.out _ _) | (go_at_call 12; with_reducible exact QC.out _ _))))
        refine wpQuiet_nil ?_
        intro _ hw'
        obtain ⟨⟨dq, osq⟩, hw''⟩ := hw'
        subst hw''
        replace hb := hb.trans ((below_regrown _ dq osq).mono hb.size)
        clear QA QB QC
        go_wp2_with fail
        go_ret
        exact ⟨rfl, hb⟩

end Go.Proofs.YtjcohlpjlifolaaDoor.macPads
