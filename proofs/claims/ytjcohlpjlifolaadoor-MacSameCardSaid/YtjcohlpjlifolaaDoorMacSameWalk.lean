/-
  'tipstafflaw03.MacSame': for all bytes, places and keys it answers true.
-/
import Derived.Test.YtjcohlpjlifolaaDoorMacLaw
import Derived.Deep.CutBlock
import Derived.Deep.DeepCutAuto
namespace Go.Proofs.YtjcohlpjlifolaaDoor.macSame
open Go.RowKit Kit ShaMath ShaT MacM MacT
open Go.Sort (grow)
set_option linter.unusedVariables false
set_option maxRecDepth 100000
-- ASKS: ShaT.Tabs NumL.Gd MacT.Mx
-- NIL

theorem own_keep {base : Nat} {w w' : World} {v : Value} {l : List UInt8} (h : Own base w v l) (hb : Below w.heap.size w w') : Own base w' v l := by
  refine ⟨h.1, ?_⟩
  rcases h.2 with ⟨e, h0⟩ | ⟨g, cap, cur, e, hg, hh, h1, h2, h3, h4⟩
  · exact Or.inl ⟨e, h0⟩
  · have hlt : g < w.heap.size := by
      rcases Nat.lt_or_ge g w.heap.size with h' | h'
      · exact h'
      · rw [Array.getElem?_eq_none h'] at hh; cases hh
    exact Or.inr ⟨g, cap, cur, e, hg, by rw [hb.block g hlt]; exact hh, h1, h2, h3, h4⟩
theorem own_place {base : Nat} {w : World} {v : Value} {l : List UInt8} (h : Own base w v l) (h0 : 0 < l.length) : ∃ g c, v = .slice (some ⟨g, 0, none⟩) l.length c ∧ base ≤ g ∧ (∀ j, w.frozen? ⟨g, j, none⟩ = false) := by
  rcases h.2 with ⟨e, hn⟩ | ⟨g, cap, cur, e, hg, hh, h1, h2, h3, h4⟩
  · omega
  · exact ⟨g, cap, e, hg, fun j => frozen_of_row w g j cur _ hh⟩
theorem bs_set {w : World} {g : Nat} {l : List UInt8} (h : Bs w (some ⟨g, 0, none⟩) l) (j : Nat) (hj : j < l.length) (x : UInt8) : Bs (w.setCell ⟨g, j, none⟩ (.int .u8 (x.toNat : Int))) (some ⟨g, 0, none⟩) (l.set j x) := by
  intro _
  obtain ⟨b, off, e, hlt, hc⟩ := h (by omega)
  injection e with e
  injection e with e1 e2
  subst e1 e2
  refine ⟨g, 0, rfl, by simp; exact hlt, fun i hi => ?_⟩
  rw [List.length_set] at hi
  rw [Nat.zero_add]
  have hci := hc i hi
  rw [Nat.zero_add] at hci
  by_cases e : i = j
  · subst e
    rw [World.cell?_setCell_same w _ _ hci]
    simp
  · rw [World.cell?_setCell_other w _ _ _ (by intro e'; injection e' with _ e'; exact e e'.symm), hci, List.getElem_set_ne (by omega)]
theorem set_other (l : List UInt8) (k : Nat) (hk : k < l.length) (x : UInt8) (hx : x ≠ l[k]) : l ≠ l.set k x := by
  intro e
  have h1 : (l.set k x)[k]'(by simpa using hk) = l[k] := by simp only [← e]
  rw [List.getElem_set_self] at h1
  exact hx h1
theorem flip_ne (c : UInt8) : UInt8.ofNat (c.toNat ^^^ 1) ≠ c := by
  intro e
  have h1 := congrArg UInt8.toNat e
  have h256 : c.toNat ^^^ 1 < 256 := Nat.xor_lt_two_pow (n := 8) (UInt8.toNat_lt c) (by decide)
  rw [UInt8.toNat_ofNat', Nat.mod_eq_of_lt h256] at h1
  have h2 : (c.toNat ^^^ 1) ^^^ c.toNat = c.toNat ^^^ c.toNat := by rw [h1]
  rw [Nat.xor_self, Nat.xor_comm, ← Nat.xor_assoc, Nat.xor_self, Nat.zero_xor] at h2
  cases h2

set_option maxHeartbeats 2000000 in
theorem walk (p : Option Addr) (l : List UInt8) (cap : Nat) (a : Int) (q : Option Addr) (m : List UInt8) (cap2 : Nat) (w : World) (hb : Bs w p l) (hl : l.length ≤ 140737488351232) (hlc : l.length ≤ cap) (hc : cap ≤ 9223372036854775807) (hnil : p = none → cap = 0)
    (a0 : 0 ≤ a) (a1 : a ≤ 255) (hb2 : Bs w q m) (hl2 : m.length ≤ 140737488351232) (hlc2 : m.length ≤ cap2) (hc2 : cap2 ≤ 9223372036854775807) (hnil2 : q = none → cap2 = 0) (hg1 : Tabs w) (hg2 : NumL.Gd w) (hg3 : Mx w) :
    Calls Tryd.prog 6 #[.slice p l.length cap, .int .u8 a, .slice q m.length cap2] w fun e w' => e = .returned (.bool true) ∧ Below w.heap.size w w' := by
  have HG := Lib.hid (All.mk hg1 hg2 hg3)
  have HB := Lib.hid hb
  have HM := Lib.hid hb2
  obtain ⟨hz3, hn3⟩ := zero_of_info info_32
  have HN := Lib.hid hn3
  clear hg1 hg2 hg3 hb hb2 hn3
  go_enter Tryd.func6, Tryd.ntmps6
  go_wp2_with fail
  refine (shown_any _ HG.out).mono ?_
  rintro e w1 ⟨rfl, hb1⟩
  have HB1 := Lib.hid hb1
  clear hb1
  go_wp2_with fail
  refine (some_any p l l.length cap _ rfl (HB.out.keep HB1.out) hlc hc).mono ?_
  rintro e w' ⟨rfl, rfl⟩
  have hp100 : (l.take 100).length ≤ 100 := by rw [List.length_take]; omega
  have hpc : (l.take 100).length ≤ cap := by rw [List.length_take]; omega
  have HP0 := Lib.hid (HB.out.take 100)
  obtain ⟨P, hP⟩ : ∃ P, P = l.take 100 := ⟨_, rfl⟩
  rw [← hP] at hp100 hpc HP0 ⊢
  clear hP HB
  go_wp2_with (with_reducible refine wpList_append_bs (w0 := w1) rfl (.tmp 16) (.tmp 17) rfl (.slice (some ⟨w1.heap.size, 0, none⟩) 0 0) [] rfl (Own.new w1) (below1 _ _) p P _ cap rfl rfl ((HP0.out.keep HB1.out).keep (below1 _ _)) hnil ?c1 P rfl ?_)
  case c1 => simp; omega
  intro v2 w2 ho2 hb2
  obtain ⟨po, co, rfl, hbo, hoc, hom, honil⟩ := ho2.full
  have HO2 := Lib.hid ho2
  have HW2 := Lib.hid hb2
  have HB2 := Lib.hid (HB1.out.trans (hb2.mono HB1.out.size))
  have CS1 := Lib.hid (show Calls Tryd.prog 16 #[.slice p P.length cap, .slice po P.length co] w2 (fun e w' => e = .returned (.bool true) ∧ Below w2.heap.size w2 w') by have := same_any p P P.length cap po P P.length co w2 rfl (HP0.out.keep HB2.out) rfl hbo (by omega) (by omega); rwa [decide_eq_true rfl] at this)
  clear ho2 hb2 hbo
  go_wp2_with fail
  refine CS1.out.mono ?_
  rintro e w3 ⟨rfl, hb3⟩
  have HO3 := Lib.hid (own_keep HO2.out hb3)
  have HW3 := Lib.hid (HW2.out.trans (hb3.mono HW2.out.size))
  clear hb3 CS1 HO2 HW2
  go_wp2_with (with_reducible refine wpList_append_bsW (w0 := w1) ?hw (.tmp 25) (.tmp 26) rfl (.slice po P.length co) P rfl (HO3.out.al _) (HW3.out.alloc HW3.out.size _) (some ⟨w3.heap.size, 0, none⟩) [0] 1 1 rfl rfl (lit1_bs w3 0 0 rfl) ?c2 ?c1 (P ++ [0]) rfl ?_)
  case c2 => exact fun h => by cases h
  case c1 => omega
  intro v4 w4 ho4 hb4
  obtain ⟨pr, cr, rfl, hbr, -⟩ := ho4.full
  have HB4 := Lib.hid (HB1.out.trans (hb4.mono HB1.out.size))
  obtain ⟨R, hR⟩ : ∃ R, R = P ++ [0] := ⟨_, rfl⟩
  have hRl : R.length = P.length + 1 := by rw [hR]; simp
  have hd2 : decide (P = R) = false := decide_eq_false (fun e => by have := congrArg List.length e; omega)
  rw [← hR] at hbr ⊢
  have CS2 := Lib.hid (show Calls Tryd.prog 16 #[.slice p P.length cap, .slice pr R.length cr] w4 (fun e w' => e = .returned (.bool false) ∧ Below w4.heap.size w4 w') by have := same_any p P P.length cap pr R R.length cr w4 rfl (HP0.out.keep HB4.out) rfl hbr (by omega) (by omega); rwa [hd2] at this)
  have hRl2 : R.length ≤ 101 := by omega
  clear hR ho4 hb4 hbr hd2 hRl HO3 HW3
  go_wp2_with fail
  refine CS2.out.mono ?_
  rintro e w5 ⟨rfl, hb5⟩
  have HB5 := Lib.hid (HB4.out.trans (hb5.mono HB4.out.size))
  clear hb5 CS2 HB4 HB2 HB1
  go_upto_if 32 with fail
  go_cut [] (fun wx => Below w.heap.size w wx)
  case first =>
    by_cases h0 : 0 < P.length
    · have d0 : decide (0 < P.length) = true := decide_eq_true h0
      go_wp2_with (with_reducible refine wpList_append_bs (w0 := w5) rfl (.tmp 33) (.tmp 34) rfl (.slice (some ⟨w5.heap.size, 0, none⟩) 0 0) [] rfl (Own.new w5) (below1 _ _) p P _ cap rfl rfl ((HP0.out.keep HB5.out).keep (below1 _ _)) hnil ?c1 P rfl ?_)
      case c1 => simp; omega
      intro v6 w6 ho6 hb6
      obtain ⟨g6, c6, rfl, hg6, hz6⟩ := own_place ho6 h0
      have HBs6 := Lib.hid (show Bs w6 (some ⟨g6, 0, none⟩) P by
        obtain ⟨p', c', e, hbs, -⟩ := ho6.full
        injection e with e1 _ _
        subst e1
        exact hbs)
      have HB6 := Lib.hid (HB5.out.trans (hb6.mono HB5.out.size))
      have hgw : w.heap.size ≤ g6 := Nat.le_trans HB5.out.size hg6
      obtain ⟨k, hk⟩ : ∃ k : Nat, a % (P.length : Int) = (k : Int) := ⟨(a % (P.length : Int)).toNat, by
        have := Int.emod_nonneg a (show (P.length : Int) ≠ 0 by omega)
        omega⟩
      have hklt : k < P.length := by
        have := Int.emod_lt_of_pos a (show (0 : Int) < (P.length : Int) by omega)
        omega
      have c0 : w6.cell? ⟨g6, k, none⟩ = some (.int .u8 (P[k].toNat : Int)) := by
        obtain ⟨b, off, e, -, hc⟩ := HBs6.out h0
        injection e with e
        injection e with e1 e2
        subst e1 e2
        have := hc k hklt
        rwa [Nat.zero_add] at this
      obtain ⟨c, hc⟩ : ∃ c, c = P[k] := ⟨_, rfl⟩
      rw [← hc] at c0
      have hX : c.toNat ^^^ 1 < 256 := Nat.xor_lt_two_pow (n := 8) (UInt8.toNat_lt c) (by decide)
      obtain ⟨X, hXe⟩ : ∃ X : UInt8, X = UInt8.ofNat (c.toNat ^^^ 1) := ⟨_, rfl⟩
      have hXt : X.toNat = c.toNat ^^^ 1 := by rw [hXe, UInt8.toNat_ofNat', Nat.mod_eq_of_lt hX]
      have HNE := Lib.hid (show P ≠ P.set k X from set_other P k hklt X (by rw [hXe, ← hc]; exact flip_ne c))
      have hx0 := UInt8.toNat_lt c
      have hx : bits .xor .u8 (c.toNat : Int) 1 = (X.toNat : Int) := by rw [hXt]; exact u8_xor_nat c.toNat 1 hx0 (by decide)
      have z0 := hz6 k
      have HT7 := Lib.hid (bs_set HBs6.out k hklt X)
      have HB7 := Lib.hid (HB6.out.setCell (p := ⟨g6, k, none⟩) hgw (.int .u8 (X.toNat : Int)))
      have CS3 := Lib.hid (show Calls Tryd.prog 16 #[.slice p P.length cap, .slice (some ⟨g6, 0, none⟩) P.length c6] (w6.setCell ⟨g6, k, none⟩ (.int .u8 (X.toNat : Int))) (fun e w' => e = .returned (.bool false) ∧ Below (w6.setCell ⟨g6, k, none⟩ (.int .u8 (X.toNat : Int))).heap.size (w6.setCell ⟨g6, k, none⟩ (.int .u8 (X.toNat : Int))) w') by
        have := same_any p P P.length cap (some ⟨g6, 0, none⟩) (P.set k X) P.length c6 _ rfl (HP0.out.keep HB7.out) (by simp) HT7.out (by omega) (by omega)
        rwa [decide_eq_false HNE.out] at this)
      clear hc hX hXe hXt ho6 hb6 hz6
      go_wp2_with fail
      refine CS3.out.mono ?_
      rintro e w8 ⟨rfl, hb8⟩
      have HB8 := Lib.hid (HB7.out.trans (hb8.mono HB7.out.size))
      have CS4 := Lib.hid (show Calls Tryd.prog 16 #[.slice p P.length cap, .slice p k cap] w8 (fun e w' => e = .returned (.bool false) ∧ Below w8.heap.size w8 w') by
        have := same_any p P P.length cap p (P.take k) k cap w8 rfl (HP0.out.keep HB8.out) (by rw [List.length_take]; omega) ((HP0.out.keep HB8.out).take k) (by omega) (by omega)
        rwa [decide_eq_false (fun e => by have := congrArg List.length e; rw [List.length_take] at this; omega)] at this)
      clear hb8 CS3 c0 z0 hx
      go_wp2_with fail
      refine CS4.out.mono ?_
      rintro e w9 ⟨rfl, hb9⟩
      have HB9 := Lib.hid (HB8.out.trans (hb9.mono HB8.out.size))
      clear hb9 CS4 hk
      go_wp2_with fail
      go_meet
      exact HB9.out
    · have d0 : decide (0 < P.length) = false := decide_eq_false h0
      go_wp2_with fail
      go_meet
      exact HB5.out
  case rest =>
    have HBc := Lib.hid hcut
    clear hcut
    go_wp2_with fail
    refine (some_any q m m.length cap2 _ rfl (HM.out.keep HBc.out) hlc2 hc2).mono ?_
    rintro e w' ⟨rfl, rfl⟩
    have hk100 : (m.take 100).length ≤ 100 := by rw [List.length_take]; omega
    have hkc : (m.take 100).length ≤ cap2 := by rw [List.length_take]; omega
    have HK0 := Lib.hid ((HM.out.take 100).keep HBc.out)
    obtain ⟨KK, hKK⟩ : ∃ KK, KK = m.take 100 := ⟨_, rfl⟩
    rw [← hKK] at hk100 hkc HK0 ⊢
    clear hKK HM
    go_wp2_with fail
    go_loopw [11] (fun v wr => ∃ (pv : Option Addr) (X : List UInt8) (cv : Nat), v = .slice pv X.length cv ∧ X.length ≤ 100 ∧ X.length ≤ cv ∧ cv ≤ 9223372036854775807 ∧ (pv = none → cv = 0) ∧ Bs wr pv X ∧ Below w.heap.size w wr) (fun v _ => match v with | .slice _ x _ => 65 - x | _ => 0)
    case atStart => exact ⟨q, KK, cap2, rfl, hk100, hkc, hc2, hnil2, HK0.out, HBc.out⟩
    case round =>
      obtain ⟨pv, X, cv, rfl, hX100, hXc, hcm, hvnil, hbX, hbr⟩ := hrel
      have HX := Lib.hid hbX
      have HBr := Lib.hid hbr
      clear hbX hbr
      by_cases hC : X.length < 65
      · have dC : decide ((X.length : Int) < 65) = true := decide_eq_true (by omega)
        go_wp2_with (with_reducible refine wpList_append_bs (w0 := wr) rfl (.tmp 64) (.tmp 65) rfl (.slice (some ⟨wr.heap.size, 0, none⟩) 0 0) [] rfl (Own.new wr) (below1 _ _) pv X _ cv rfl rfl (HX.out.keep (below1 _ _)) hvnil ?c1 X rfl ?_)
        case c1 => simp; omega
        intro v6 w6 ho6 hb6
        have HO6 := Lib.hid ho6
        have HB6 := Lib.hid hb6
        clear ho6 hb6
        go_wp2_with (with_reducible refine wpList_append_bs (w0 := wr) rfl (.tmp 66) (.tmp 67) rfl v6 X rfl (HO6.out.al _) (HB6.out.alloc HB6.out.size _) (some ⟨w6.heap.size, 0, none⟩) [7] 1 1 rfl rfl (lit1_bs w6 7 7 rfl) ?c2 ?c1 (X ++ [7]) rfl ?_)
        case c2 => exact fun h => by cases h
        case c1 => omega
        intro v7 w7 ho7 hb7
        obtain ⟨pw, cw, rfl, hbw, hwc, hwm, hwnil⟩ := ho7.full
        have HB7 := Lib.hid (HBr.out.trans (hb7.mono HBr.out.size))
        have HW7 := Lib.hid hbw
        obtain ⟨Y, hY⟩ : ∃ Y, Y = X ++ [7] := ⟨_, rfl⟩
        have hYl : Y.length = X.length + 1 := by rw [hY]; simp
        rw [← hY] at HW7 hwc ⊢
        have HYl := Lib.hid hYl
        clear hY hYl ho7 hb7 hbw HO6 HB6
        go_wp2_with fail
        go_roundw
        case rel => exact ⟨pw, Y, cw, rfl, by have := HYl.out; omega, hwc, hwm, hwnil, HW7.out, HB7.out⟩
        case measure => show 65 - Y.length < 65 - X.length; have := HYl.out; omega
      · have dC : decide ((X.length : Int) < 65) = false := decide_eq_false (by omega)
        have hX65 : 64 < X.length := by omega
        obtain ⟨V, hV⟩ : ∃ V, V = macAt X P := ⟨_, rfl⟩
        have HVs := Lib.hid (show macAt (sumList X) P = V by rw [hV]; exact mac_long hX65 P)
        have HV := Lib.hid hV
        have HVL := Lib.hid (show ∀ j, V j < 256 by rw [hV]; exact macAt_lt _ _)
        have CS := Lib.hid (sum_n pv X X.length cv wr rfl HX.out (by omega) hXc hcm (HG.out.t.keep HBr.out))
        clear hV dC
        go_wp2_with fail
        refine CS.out.mono ?_
        rintro e w9 ⟨rfl, hb9⟩
        have HB9 := Lib.hid (HBr.out.trans (hb9.mono HBr.out.size))
        have HX9 := Lib.hid (HX.out.keep hb9)
        clear hb9 CS HBr HX
        go_upto_region 16 with (with_reducible refine wpList_store_arr rfl 25 (.tmp 12) (.tmp 70) rfl w9.heap.size .u8 32 (sumAt X) rfl rfl 25 _ Arr.new HN ?_)
        go_simp
        have hb10 : Below w9.heap.size w9 ((w9.alloc (.cells (row .u8 32 fun _ => 0) 25)).setRow w9.heap.size (row .u8 32 (sumAt X))) := below_setRow (below1 _ _) (Nat.le_refl _) _
        have hA12 : Arr ((w9.alloc (.cells (row .u8 32 fun _ => 0) 25)).setRow w9.heap.size (row .u8 32 (sumAt X))) w9.heap.size .u8 32 25 (sumAt X) := Arr.new.setRow _
        generalize World.setRow _ _ _ = w10 at hb10 hA12 ⊢
        generalize w9.heap.size = g12 at hA12 ⊢
        have hb := HB9.out.trans (hb10.mono HB9.out.size)
        have HXb := Lib.hid (HX9.out.keep hb10)
        have HPb := Lib.hid (HP0.out.keep hb)
        have HTb := Lib.hid (HG.out.t.keep hb)
        have HSb := Lib.hid (arr_bs hA12 (sumAt_lt X))
        have CB := Lib.hid (show ∀ W, Bs W pv X → Bs W p P → Tabs W → Calls Tryd.prog 12 #[.slice pv X.length cv, .slice p P.length cap] W (fun e w' => e = .returned (.agg (row .u8 32 V)) ∧ Below W.heap.size W w') from fun W h1 h2 h3 => by rw [HV.out]; exact mac_any pv X _ cv p P _ cap W rfl h1 (by omega) hXc hcm rfl h2 (by omega) h3)
        have CC := Lib.hid (show ∀ W, Bs W (some ⟨g12, 0, none⟩) (sumList X) → Bs W p P → Tabs W → Calls Tryd.prog 12 #[.slice (some ⟨g12, 0, none⟩) 32 32, .slice p P.length cap] W (fun e w' => e = .returned (.agg (row .u8 32 V)) ∧ Below W.heap.size W w') from fun W h1 h2 h3 => by rw [← HVs.out]; exact mac_any _ (sumList X) 32 32 p P _ cap W (sumList_length X) h1 (by rw [sumList_length]; decide) (by rw [sumList_length]; decide) (by decide) rfl h2 (by omega) h3)
        have QB := Lib.hid (fun d os => Calls.regrown_of (CB.out (grow (redrawn w10 d) os) (HXb.out.keep (below_regrown w10 d os)) (HPb.out.keep (below_regrown w10 d os)) (HTb.out.keep (below_regrown w10 d os))))
        have QC := Lib.hid (fun d os => Calls.regrown_of (CC.out (grow (redrawn w10 d) os) (HSb.out.keep (below_regrown w10 d os)) (HPb.out.keep (below_regrown w10 d os)) (HTb.out.keep (below_regrown w10 d os))))
        have e2 := fun W => eql_row V HVL.out W
        clear CB CC HXb HPb HTb HSb HB9 HX9 hA12 hb10
        refine wp_region_quiet_below (by kernel_rfl) (by kernel_rfl) ?_
        repeat (any_goals (go_big_quiet_step ((first | (go_at_call 12; with_reducible exact QB.out _ _) | (go_at_call 12; with_reducible exact QC.out _ _)))))
        refine wpQuiet_nil ?_
        intro _ hw'
        obtain ⟨⟨dq, osq⟩, hw''⟩ := hw'
        subst hw''
        replace hb := hb.trans ((below_regrown _ dq osq).mono hb.size)
        clear QB QC
        go_wp2_with fail
        go_ret
        exact ⟨rfl, hb⟩

end Go.Proofs.YtjcohlpjlifolaaDoor.macSame
