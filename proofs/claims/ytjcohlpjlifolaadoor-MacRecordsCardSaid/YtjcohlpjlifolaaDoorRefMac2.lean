/-
  What the reference's Mac comes to.
-/
import Derived.Test.YtjcohlpjlifolaaDoorRefMac
namespace Go.Proofs.YtjcohlpjlifolaaDoor.RefM
open Go.RowKit Kit ShaMath ShaT MacM MacT RefT
open Go.Sort (grow)
set_option linter.unusedVariables false
set_option maxRecDepth 100000

set_option maxHeartbeats 4000000 in
theorem rmac_any (p : Option Addr) (l : List UInt8) (n cap : Nat) (q : Option Addr) (m : List UInt8) (k cap2 : Nat) (w : World) (hn : l.length = n) (hb : Bs w p l) (hl : l.length ≤ 70368744170000) (hnil : p = none → cap = 0)
    (hk : m.length = k) (hbm : Bs w q m) (hl2 : m.length ≤ 70368744170000) (hnil2 : q = none → cap2 = 0) :
    Calls Tryd.prog 13 #[.slice p n cap, .slice q k cap2] w fun e w' => e = .returned (.agg (row .u8 32 (macAt l m))) ∧ Below w.heap.size w w' := by
  obtain ⟨hz3, hn3⟩ := zero_of_info info_32
  have HN := Lib.hid hn3
  clear hn3
  have HB := Lib.hid hb
  have HM := Lib.hid hbm
  have HKm := Lib.hid hk
  obtain ⟨I, hI⟩ : ∃ I, I = padL (keyAt l) 54 := ⟨_, rfl⟩
  obtain ⟨J, hJ⟩ : ∃ J, J = padL (keyAt l) 92 := ⟨_, rfl⟩
  have HIl := Lib.hid (show I.length = 64 by rw [hI]; exact padL_length _ _)
  have HJl := Lib.hid (show J.length = 64 by rw [hJ]; exact padL_length _ _)
  obtain ⟨M, hM⟩ : ∃ M, M = I ++ m := ⟨_, rfl⟩
  have HMl := Lib.hid (show M.length = 64 + m.length by rw [hM, List.length_append, HIl.out])
  obtain ⟨N2, hN2⟩ : ∃ N2, N2 = sumList M := ⟨_, rfl⟩
  have HN2 := Lib.hid (show N2.length = 32 by rw [hN2]; exact sumList_length _)
  obtain ⟨M2, hM2⟩ : ∃ M2, M2 = J ++ N2 := ⟨_, rfl⟩
  have HM2l := Lib.hid (show M2.length = 96 by rw [hM2, List.length_append, HJl.out, HN2.out])
  have HR := Lib.hid (show macAt l m = sumAt M2 by rw [hM2, hN2, hM, hI, hJ]; rfl)
  have F1 := Lib.hid (show ∀ W, Bs W p l → Calls Tryd.prog 28 #[.slice p n cap, .int .u8 54] W (Gave I W) from fun W h => by rw [hI]; exact flipped_any p l n cap 54 W hn h hl hnil (by decide))
  have F2 := Lib.hid (show ∀ W, Bs W p l → Calls Tryd.prog 28 #[.slice p n cap, .int .u8 92] W (Gave J W) from fun W h => by rw [hJ]; exact flipped_any p l n cap 92 W hn h hl hnil (by decide))
  have HMe := Lib.hid hM
  have HNe := Lib.hid hN2
  have HM2e := Lib.hid hM2
  rw [HR.out]
  clear hI hJ hM hN2 hM2 hn hb hk hbm
  go_enter Tryd.func13, Tryd.ntmps13
  go_wp2_with fail
  have hb0 := below1 w (.cells (row .u8 32 fun _ => 0) 25)
  have HA0 := Lib.hid (Arr.new (w := w) (k := .u8) (n := 32) (t := 25) (f := fun _ => 0))
  refine (F1.out _ (HB.out.keep hb0)).mono ?_
  rintro e w1 ⟨v1, rfl, ho1, hb1⟩
  obtain ⟨w0, hw0⟩ : ∃ w0, w0 = w.alloc (.cells (row .u8 32 fun _ => 0) 25) := ⟨_, rfl⟩
  rw [← hw0] at ho1 hb1 hb0 HA0
  have HO1 := Lib.hid ho1
  have HB1 := Lib.hid hb1
  have HB0 := Lib.hid hb0
  clear hw0 ho1 hb1 hb0
  go_wp2_with (with_reducible refine wpList_append_bs (w0 := w0) rfl (.tmp 7) (.tmp 8) rfl v1 I rfl HO1.out HB1.out q m k cap2 rfl HKm.out ((HM.out.keep HB0.out).keep HB1.out) hnil2 ?c1 M HMe.out ?_)
  case c1 => rw [HIl.out]; have := HKm.out; omega
  intro v2 w2 ho2 hb2
  obtain ⟨p2, c2, rfl, hbs2, -, -, hnil3⟩ := ho2.full
  have HB2 := Lib.hid hb2
  have CS := Lib.hid (rsum_n p2 M M.length c2 w2 rfl hbs2 (by rw [HMl.out]; omega) hnil3)
  clear ho2 hb2 hbs2 HO1 HB1
  go_wp2_with fail
  refine CS.out.mono ?_
  rintro e w3 ⟨rfl, hb3⟩
  have HB3 := Lib.hid (HB2.out.trans (hb3.mono HB2.out.size))
  clear hb3 CS HB2
  go_upto_region 2 with (with_reducible refine wpList_store_arr rfl 25 (.tmp 5) (.tmp 10) rfl w3.heap.size .u8 32 (sumAt M) rfl rfl 25 _ Arr.new HN ?_)
  go_simp
  have hb4 : Below w3.heap.size w3 ((w3.alloc (.cells (row .u8 32 fun _ => 0) 25)).setRow w3.heap.size (row .u8 32 (sumAt M))) := below_setRow (below1 _ _) (Nat.le_refl _) _
  have hA4 : Arr ((w3.alloc (.cells (row .u8 32 fun _ => 0) 25)).setRow w3.heap.size (row .u8 32 (sumAt M))) w3.heap.size .u8 32 25 (sumAt M) := Arr.new.setRow _
  generalize World.setRow _ _ _ = w4 at hb4 hA4 ⊢
  generalize w3.heap.size = g5 at hA4 ⊢
  have hb04 := HB3.out.trans (hb4.mono HB3.out.size)
  have HB4 := Lib.hid ((HB0.out.trans (hb04.mono HB0.out.size)).drew)
  have HZ4 := Lib.hid ((HA0.out.keep hb04 HA0.out.lt).drew)
  have HS4 := Lib.hid hA4.drew
  have HP4 := Lib.hid (HB.out.keep HB4.out)
  clear hb4 hA4 hb04 HB3 HA0
  refine wp_region_any (by kernel_rfl) ?_
  change wpAny _ _ _ _ _ _ _ (World.drew _)
  refine wpAny_ready (rs := [0, 2]) (by kernel_rfl) (by simp) ?_
  refine AllReady.cons rfl (fun K hK => ?_) ?_
  · go_simp
    refine hK _ _ ?_
    clear hK K
    refine wpAny_ready (rs := [1, 2]) (by kernel_rfl) (by simp) ?_
    refine AllReady.cons rfl (fun K hK => ?_) ?_
    · rw [if_pos (by rfl)]
      go_simp
      refine (F2.out _ HP4.out).mono ?_
      rintro e w5 ⟨v5, rfl, ho5, hb5⟩
      have HO5 := Lib.hid ho5
      have HB5 := Lib.hid hb5
      clear ho5 hb5
      refine hK _ _ ?_
      clear hK K
      refine wpAny_ready (rs := [2]) (by kernel_rfl) (by simp) ?_
      refine AllReady.cons rfl (fun K hK => ?_) ?_
      · go_simp
        refine hK _ _ ?_
        clear hK K
        refine wpAny_ready (rs := [3]) (by kernel_rfl) (by simp) ?_
        refine AllReady.cons rfl (fun K hK => ?_) ?_
        · refine step_append_bs (w0 := _) rfl (.tmp 12) (.tmp 13) rfl v5 J rfl HO5.out HB5.out (some ⟨g5, 0, none⟩) N2 32 32 rfl HN2.out ?c3 ?c2 ?c1 M2 HM2e.out ?_
          case c3 => rw [HNe.out]; exact (arr_bs HS4.out (sumAt_lt M)).keep HB5.out
          case c2 => exact fun h => by cases h
          case c1 => rw [HJl.out]; omega
          intro v6 w6 ho6 hb6
          obtain ⟨p6, c6, rfl, hbs6, -, -, hnil6⟩ := ho6.full
          have HS6 := Lib.hid hbs6
          have HB6 := Lib.hid hb6
          clear ho6 hb6 hbs6
          refine hK _ _ ?_
          clear hK K
          refine wpAny_ready (rs := [4]) (by kernel_rfl) (by simp) ?_
          refine AllReady.cons rfl (fun K hK => ?_) ?_
          · rw [if_pos (by rfl)]
            go_simp
            refine (rsum_n p6 M2 M2.length c6 _ rfl HS6.out (by rw [HM2l.out]; decide) hnil6).mono ?_
            rintro e w7 ⟨rfl, hb7⟩
            have HB7 := Lib.hid (HB6.out.trans (hb7.mono HB6.out.size))
            clear hb7
            refine hK _ _ ?_
            clear hK K
            refine wpAny_ready (rs := [5]) (by kernel_rfl) (by simp) ?_
            refine AllReady.cons rfl (fun K hK => ?_) ?_
            · with_reducible refine step_store_arr rfl rfl 25 (.tmp 4) (.tmp 15) rfl w.heap.size .u8 32 (sumAt M2) rfl rfl 25 _ (HZ4.out.keep HB7.out HZ4.out.lt) HN ?_
              refine hK _ _ ?_
              clear hK K
              refine wpAny_done (by kernel_rfl) ?_ _
              (go_wp2_with fail; exact bodyPost_ret (results_arr rfl _ _ w.heap.size 25 .u8 32 (sumAt M2) _ rfl ((HZ4.out.keep HB7.out HZ4.out.lt).setRow _) Tryd.underlying25 rfl HN) rfl ⟨rfl, below_setRow (HB4.out.trans (HB7.out.mono HB4.out.size)) (Nat.le_refl _) _⟩)
            exact AllReady.nil
          exact AllReady.nil
        exact AllReady.nil
      exact AllReady.nil
    refine AllReady.cons rfl (fun K hK => ?_) ?_
    · go_simp
      refine hK _ _ ?_
      clear hK K
      refine wpAny_ready (rs := [1]) (by kernel_rfl) (by simp) ?_
      refine AllReady.cons rfl (fun K hK => ?_) ?_
      · rw [if_pos (by rfl)]
        go_simp
        refine (F2.out _ HP4.out).mono ?_
        rintro e w5 ⟨v5, rfl, ho5, hb5⟩
        have HO5 := Lib.hid ho5
        have HB5 := Lib.hid hb5
        clear ho5 hb5
        refine hK _ _ ?_
        clear hK K
        refine wpAny_ready (rs := [3]) (by kernel_rfl) (by simp) ?_
        refine AllReady.cons rfl (fun K hK => ?_) ?_
        · refine step_append_bs (w0 := _) rfl (.tmp 12) (.tmp 13) rfl v5 J rfl HO5.out HB5.out (some ⟨g5, 0, none⟩) N2 32 32 rfl HN2.out ?c3 ?c2 ?c1 M2 HM2e.out ?_
          case c3 => rw [HNe.out]; exact (arr_bs HS4.out (sumAt_lt M)).keep HB5.out
          case c2 => exact fun h => by cases h
          case c1 => rw [HJl.out]; omega
          intro v6 w6 ho6 hb6
          obtain ⟨p6, c6, rfl, hbs6, -, -, hnil6⟩ := ho6.full
          have HS6 := Lib.hid hbs6
          have HB6 := Lib.hid hb6
          clear ho6 hb6 hbs6
          refine hK _ _ ?_
          clear hK K
          refine wpAny_ready (rs := [4]) (by kernel_rfl) (by simp) ?_
          refine AllReady.cons rfl (fun K hK => ?_) ?_
          · rw [if_pos (by rfl)]
            go_simp
            refine (rsum_n p6 M2 M2.length c6 _ rfl HS6.out (by rw [HM2l.out]; decide) hnil6).mono ?_
            rintro e w7 ⟨rfl, hb7⟩
            have HB7 := Lib.hid (HB6.out.trans (hb7.mono HB6.out.size))
            clear hb7
            refine hK _ _ ?_
            clear hK K
            refine wpAny_ready (rs := [5]) (by kernel_rfl) (by simp) ?_
            refine AllReady.cons rfl (fun K hK => ?_) ?_
            · with_reducible refine step_store_arr rfl rfl 25 (.tmp 4) (.tmp 15) rfl w.heap.size .u8 32 (sumAt M2) rfl rfl 25 _ (HZ4.out.keep HB7.out HZ4.out.lt) HN ?_
              refine hK _ _ ?_
              clear hK K
              refine wpAny_done (by kernel_rfl) ?_ _
              (go_wp2_with fail; exact bodyPost_ret (results_arr rfl _ _ w.heap.size 25 .u8 32 (sumAt M2) _ rfl ((HZ4.out.keep HB7.out HZ4.out.lt).setRow _) Tryd.underlying25 rfl HN) rfl ⟨rfl, below_setRow (HB4.out.trans (HB7.out.mono HB4.out.size)) (Nat.le_refl _) _⟩)
            exact AllReady.nil
          exact AllReady.nil
        exact AllReady.nil
      exact AllReady.nil
    exact AllReady.nil
  refine AllReady.cons rfl (fun K hK => ?_) ?_
  · go_simp
    refine hK _ _ ?_
    clear hK K
    refine wpAny_ready (rs := [0]) (by kernel_rfl) (by simp) ?_
    refine AllReady.cons rfl (fun K hK => ?_) ?_
    · go_simp
      refine hK _ _ ?_
      clear hK K
      refine wpAny_ready (rs := [1]) (by kernel_rfl) (by simp) ?_
      refine AllReady.cons rfl (fun K hK => ?_) ?_
      · rw [if_pos (by rfl)]
        go_simp
        refine (F2.out _ HP4.out).mono ?_
        rintro e w5 ⟨v5, rfl, ho5, hb5⟩
        have HO5 := Lib.hid ho5
        have HB5 := Lib.hid hb5
        clear ho5 hb5
        refine hK _ _ ?_
        clear hK K
        refine wpAny_ready (rs := [3]) (by kernel_rfl) (by simp) ?_
        refine AllReady.cons rfl (fun K hK => ?_) ?_
        · refine step_append_bs (w0 := _) rfl (.tmp 12) (.tmp 13) rfl v5 J rfl HO5.out HB5.out (some ⟨g5, 0, none⟩) N2 32 32 rfl HN2.out ?c3 ?c2 ?c1 M2 HM2e.out ?_
          case c3 => rw [HNe.out]; exact (arr_bs HS4.out (sumAt_lt M)).keep HB5.out
          case c2 => exact fun h => by cases h
          case c1 => rw [HJl.out]; omega
          intro v6 w6 ho6 hb6
          obtain ⟨p6, c6, rfl, hbs6, -, -, hnil6⟩ := ho6.full
          have HS6 := Lib.hid hbs6
          have HB6 := Lib.hid hb6
          clear ho6 hb6 hbs6
          refine hK _ _ ?_
          clear hK K
          refine wpAny_ready (rs := [4]) (by kernel_rfl) (by simp) ?_
          refine AllReady.cons rfl (fun K hK => ?_) ?_
          · rw [if_pos (by rfl)]
            go_simp
            refine (rsum_n p6 M2 M2.length c6 _ rfl HS6.out (by rw [HM2l.out]; decide) hnil6).mono ?_
            rintro e w7 ⟨rfl, hb7⟩
            have HB7 := Lib.hid (HB6.out.trans (hb7.mono HB6.out.size))
            clear hb7
            refine hK _ _ ?_
            clear hK K
            refine wpAny_ready (rs := [5]) (by kernel_rfl) (by simp) ?_
            refine AllReady.cons rfl (fun K hK => ?_) ?_
            · with_reducible refine step_store_arr rfl rfl 25 (.tmp 4) (.tmp 15) rfl w.heap.size .u8 32 (sumAt M2) rfl rfl 25 _ (HZ4.out.keep HB7.out HZ4.out.lt) HN ?_
              refine hK _ _ ?_
              clear hK K
              refine wpAny_done (by kernel_rfl) ?_ _
              (go_wp2_with fail; exact bodyPost_ret (results_arr rfl _ _ w.heap.size 25 .u8 32 (sumAt M2) _ rfl ((HZ4.out.keep HB7.out HZ4.out.lt).setRow _) Tryd.underlying25 rfl HN) rfl ⟨rfl, below_setRow (HB4.out.trans (HB7.out.mono HB4.out.size)) (Nat.le_refl _) _⟩)
            exact AllReady.nil
          exact AllReady.nil
        exact AllReady.nil
      exact AllReady.nil
    exact AllReady.nil
  exact AllReady.nil

end Go.Proofs.YtjcohlpjlifolaaDoor.RefM
