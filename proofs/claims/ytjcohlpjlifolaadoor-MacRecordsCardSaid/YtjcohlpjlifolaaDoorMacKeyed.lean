/-
  What mac.keyed and mac.Mac come to: the sum with a key.
-/
import Derived.Test.YtjcohlpjlifolaaDoorMacBehind
namespace Go.Proofs.YtjcohlpjlifolaaDoor.MacT
open Go.RowKit Kit ShaMath ShaT MacM
set_option linter.unusedVariables false
set_option maxRecDepth 100000

theorem sum_n (p : Option Addr) (l : List UInt8) (n cap : Nat) (w : World) (hn : l.length = n) (hb : Bs w p l) (hl : l.length ≤ 281474976710656) (hlc : l.length ≤ cap) (hc : cap ≤ 9223372036854775807) (hg : Tabs w) :
    Calls Tryd.prog 24 #[.slice p n cap] w fun e w' => e = .returned (.agg (row .u8 32 (sumAt l))) ∧ Below w.heap.size w w' := by
  subst hn
  exact sum_any p l cap w hb hl hlc hc hg
theorem turned_54 (K : Nat → Nat) (w : World) (hK : ∀ j, K j < 256) :
    Calls Tryd.prog 42 #[.agg (row .u8 64 K), .int .u8 54] w fun e w' => e = .returned (.agg (row .u8 64 (padAt K 54))) ∧ Below w.heap.size w w' := turned_any K 54 w hK (by decide)
theorem turned_92 (K : Nat → Nat) (w : World) (hK : ∀ j, K j < 256) :
    Calls Tryd.prog 42 #[.agg (row .u8 64 K), .int .u8 92] w fun e w' => e = .returned (.agg (row .u8 64 (padAt K 92))) ∧ Below w.heap.size w w' := turned_any K 92 w hK (by decide)

/-- What lies in memory. -/
structure Key0 (w : World) (K : Nat → Nat) (wr : World) : Prop where
  b : Below w.heap.size w wr
  k : Arr wr w.heap.size .u8 64 46 K
  z : Arr wr (w.heap.size + 1) .u8 32 25 (fun _ => 0)
theorem Key0.keep {w : World} {K : Nat → Nat} {wr w' : World} (h : Key0 w K wr) (hb : Below wr.heap.size wr w') : Key0 w K w' :=
  ⟨h.b.trans (hb.mono h.b.size), h.k.keep hb h.k.lt, h.z.keep hb h.z.lt⟩
structure KeyRel (w : World) (K S : Nat → Nat) (g : Nat) (wr : World) : Prop where
  o : Key0 w K wr
  s : Arr wr g .u8 32 25 S
theorem KeyRel.drew {w : World} {K S : Nat → Nat} {g : Nat} {wr : World} (h : KeyRel w K S g wr) : KeyRel w K S g wr.drew := ⟨⟨h.o.b.drew, h.o.k, h.o.z⟩, h.s⟩
theorem KeyRel.keep {w : World} {K S : Nat → Nat} {g : Nat} {wr w' : World} (h : KeyRel w K S g wr) (hb : Below wr.heap.size wr w') : KeyRel w K S g w' :=
  ⟨h.o.keep hb, h.s.keep hb h.s.lt⟩

set_option maxHeartbeats 1000000 in
theorem keyed_any (Ky : Nat → Nat) (hK : ∀ j, Ky j < 256) (p : Option Addr) (l : List UInt8) (n cap : Nat) (w : World) (hn : l.length = n) (hb : Bs w p l) (hl : l.length ≤ 70368744170000) (hg : Tabs w) :
    Calls Tryd.prog 25 #[.agg (row .u8 64 Ky), .slice p n cap] w fun e w' => e = .returned (.agg (row .u8 32 (keyedAt Ky l))) ∧ Below w.heap.size w w' := by
  obtain ⟨hz, hn2⟩ := zero_of_info info_b64'
  obtain ⟨hz3, hn3⟩ := zero_of_info info_32
  have H64 := Lib.hid hn2
  have HN := Lib.hid hn3
  clear hn2 hn3
  have HK := Lib.hid hK
  have HG := Lib.hid hg
  have HB := Lib.hid hb
  obtain ⟨M, hM⟩ : ∃ M, M = padL Ky 54 ++ l := ⟨_, rfl⟩
  have HML := Lib.hid (show M.length = 64 + l.length by rw [hM, List.length_append, padL_length])
  have HM := Lib.hid hM
  obtain ⟨M2, hM2⟩ : ∃ M2, M2 = padL Ky 92 ++ sumList M := ⟨_, rfl⟩
  have HM2L := Lib.hid (show M2.length = 96 by rw [hM2, List.length_append, padL_length, sumList_length])
  have HM2 := Lib.hid hM2
  have HR := Lib.hid (show keyedAt Ky l = sumAt M2 by rw [hM2, hM]; rfl)
  rw [HR.out]
  have HS := Lib.hid (sumList_length M)
  have B1 := Lib.hid (show ∀ W, Bs W p l → Calls Tryd.prog 41 #[.agg (row .u8 64 (padAt Ky 54)), .slice p n cap] W (Made M W) from fun W h => by rw [hM]; exact behind_any (padAt Ky 54) (padAt_lt Ky hK 54 (by decide)) p l n cap W hn h (by omega))
  have B2 := Lib.hid (show ∀ W q, Bs W q (sumList M) → Calls Tryd.prog 41 #[.agg (row .u8 64 (padAt Ky 92)), .slice q 32 32] W (Made M2 W) from fun W q h => by rw [hM2]; exact behind_any (padAt Ky 92) (padAt_lt Ky hK 92 (by decide)) q (sumList M) 32 32 W (sumList_length M) h (by rw [sumList_length]; decide))
  clear hM hM2 hK hg hb hn
  go_enter Tryd.func25, Tryd.ntmps25
  go_wp2_with (with_reducible refine wpList_load_arr rfl 46 (.tmp 2) rfl w.heap.size rfl .u8 64 46 Ky (Arr.new.al _) _ Tryd.underlying46 rfl H64 ?_)
  refine (turned_54 Ky _ HK.out).mono ?_
  rintro e w1 ⟨rfl, hb1⟩
  have hk0 : Key0 w Ky ((w.alloc (.cells (row .u8 64 Ky) 46)).alloc (.cells (row .u8 32 fun _ => 0) 25)) := ⟨below2 _ _ _, Arr.new.al _, Arr.new1⟩
  have HK1 := Lib.hid (hk0.keep hb1)
  clear hb1 hk0
  go_wp2_with fail
  refine (B1.out _ (HB.out.keep HK1.out.b)).mono ?_
  rintro e w2 ⟨g2, rfl, hB2, hb2⟩
  have HK2 := Lib.hid (HK1.out.keep hb2)
  have hbs2 := Lib.hid hB2.bs
  clear hb2 hB2
  go_wp2_with fail
  refine (sum_n _ M _ _ _ rfl hbs2.out (by rw [HML.out]; omega) (Nat.le_refl _) (by rw [HML.out]; omega) (HG.out.keep HK2.out.b)).mono ?_
  rintro e w3 ⟨rfl, hb3⟩
  have HK3 := Lib.hid (HK2.out.keep hb3)
  clear hb3
  go_wp2_with (with_reducible refine wpList_store_arr rfl 25 (.tmp 5) (.tmp 10) rfl w3.heap.size .u8 32 (sumAt M) rfl rfl 25 _ Arr.new HN ?_)
  have hR0 : KeyRel w Ky (sumAt M) w3.heap.size ((w3.alloc (.cells (row .u8 32 fun _ => 0) 25)).setRow w3.heap.size (row .u8 32 (sumAt M))) :=
    ⟨⟨below_setRow (HK3.out.b.alloc HK3.out.b.size _) HK3.out.b.size _, (HK3.out.k.al _).setRow_ne _ (by have := HK3.out.k.lt; omega), (HK3.out.z.al _).setRow_ne _ (by have := HK3.out.z.lt; omega)⟩, Arr.new.setRow _⟩
  have hgz : w.heap.size + 1 < w3.heap.size := HK3.out.z.lt
  generalize World.setRow _ _ _ = w4 at hR0 ⊢
  generalize w3.heap.size = g at hR0 hgz ⊢
  have HR4 := Lib.hid hR0.drew
  clear hR0
  refine wp_region_any (by kernel_rfl) ?_
  change wpAny _ _ _ _ _ _ _ (World.drew _)
  refine wpAny_ready (rs := [0, 2]) (by kernel_rfl) (by simp) ?_
  refine AllReady.cons rfl (fun K hK => ?_) ?_
  · with_reducible refine step_load_arr rfl 46 (.tmp 2) rfl w.heap.size rfl .u8 64 46 Ky HR4.out.o.k _ Tryd.underlying46 rfl H64 ?_
    refine hK _ _ ?_
    clear hK K
    refine wpAny_ready (rs := [1, 2]) (by kernel_rfl) (by simp) ?_
    refine AllReady.cons rfl (fun K hK => ?_) ?_
    · rw [if_pos (by rfl)]
      go_simp
      refine (turned_92 Ky _ HK.out).mono ?_
      rintro e w5 ⟨rfl, hb5⟩
      have HR5 := Lib.hid (HR4.out.keep hb5)
      refine hK _ _ ?_
      clear hK K
      refine wpAny_ready (rs := [2]) (by kernel_rfl) (by simp) ?_
      refine AllReady.cons rfl (fun K hK => ?_) ?_
      · go_simp
        refine hK _ _ ?_
        clear hK K
        refine wpAny_ready (rs := [3]) (by kernel_rfl) (by simp) ?_
        refine AllReady.cons rfl (fun K hK => ?_) ?_
        · rw [if_pos (by rfl)]
          go_simp
          refine (B2.out _ _ ?hh).mono ?_
          case hh => exact arr_bs HR5.out.s (sumAt_lt M)
          rintro e w6 ⟨g6, rfl, hB6, hb6⟩
          have HR6 := Lib.hid (HR5.out.keep hb6)
          refine hK _ _ ?_
          clear hK K
          refine wpAny_ready (rs := [4]) (by kernel_rfl) (by simp) ?_
          refine AllReady.cons rfl (fun K hK => ?_) ?_
          · rw [if_pos (by rfl)]
            go_simp
            refine (sum_n _ M2 _ _ _ rfl hB6.bs (by rw [HM2L.out]; decide) (Nat.le_refl _) (by rw [HM2L.out]; decide) (HG.out.keep HR6.out.o.b)).mono ?_
            rintro e w7 ⟨rfl, hb7⟩
            have HR7 := Lib.hid (HR6.out.keep hb7)
            refine hK _ _ ?_
            clear hK K
            refine wpAny_ready (rs := [5]) (by kernel_rfl) (by simp) ?_
            refine AllReady.cons rfl (fun K hK => ?_) ?_
            · with_reducible refine step_store_arr rfl rfl 25 (.tmp 4) (.tmp 15) rfl (w.heap.size + 1) .u8 32 (sumAt M2) rfl rfl 25 _ HR7.out.o.z HN ?_
              refine hK _ _ ?_
              clear hK K
              refine wpAny_done (by kernel_rfl) ?_ _
              (go_wp2_with fail; exact bodyPost_ret (results_arr rfl _ _ (w.heap.size + 1) 25 .u8 32 (sumAt M2) _ rfl (HR7.out.o.z.setRow _) Tryd.underlying25 rfl HN) rfl ⟨rfl, below_setRow HR7.out.o.b (by omega) _⟩)
            exact AllReady.nil
          exact AllReady.nil
        exact AllReady.nil
      exact AllReady.nil
    refine AllReady.cons rfl (fun K hK => ?_) ?_
    · go_simp
      refine hK _ _ ?_
      clear hK K
      refine wpAny_ready (rs := [1]) (by kernel_rfl) (by simp) ?_
      refine AllReady.cons rfl (fun K hK => ?_) ?_
      · rw [if_pos (by rfl)]
        go_simp
        refine (turned_92 Ky _ HK.out).mono ?_
        rintro e w5 ⟨rfl, hb5⟩
        have HR5 := Lib.hid (HR4.out.keep hb5)
        refine hK _ _ ?_
        clear hK K
        refine wpAny_ready (rs := [3]) (by kernel_rfl) (by simp) ?_
        refine AllReady.cons rfl (fun K hK => ?_) ?_
        · rw [if_pos (by rfl)]
          go_simp
          refine (B2.out _ _ ?hh).mono ?_
          case hh => exact arr_bs HR5.out.s (sumAt_lt M)
          rintro e w6 ⟨g6, rfl, hB6, hb6⟩
          have HR6 := Lib.hid (HR5.out.keep hb6)
          refine hK _ _ ?_
          clear hK K
          refine wpAny_ready (rs := [4]) (by kernel_rfl) (by simp) ?_
          refine AllReady.cons rfl (fun K hK => ?_) ?_
          · rw [if_pos (by rfl)]
            go_simp
            refine (sum_n _ M2 _ _ _ rfl hB6.bs (by rw [HM2L.out]; decide) (Nat.le_refl _) (by rw [HM2L.out]; decide) (HG.out.keep HR6.out.o.b)).mono ?_
            rintro e w7 ⟨rfl, hb7⟩
            have HR7 := Lib.hid (HR6.out.keep hb7)
            refine hK _ _ ?_
            clear hK K
            refine wpAny_ready (rs := [5]) (by kernel_rfl) (by simp) ?_
            refine AllReady.cons rfl (fun K hK => ?_) ?_
            · with_reducible refine step_store_arr rfl rfl 25 (.tmp 4) (.tmp 15) rfl (w.heap.size + 1) .u8 32 (sumAt M2) rfl rfl 25 _ HR7.out.o.z HN ?_
              refine hK _ _ ?_
              clear hK K
              refine wpAny_done (by kernel_rfl) ?_ _
              (go_wp2_with fail; exact bodyPost_ret (results_arr rfl _ _ (w.heap.size + 1) 25 .u8 32 (sumAt M2) _ rfl (HR7.out.o.z.setRow _) Tryd.underlying25 rfl HN) rfl ⟨rfl, below_setRow HR7.out.o.b (by omega) _⟩)
            exact AllReady.nil
          exact AllReady.nil
        exact AllReady.nil
      exact AllReady.nil
    exact AllReady.nil
  refine AllReady.cons rfl (fun K hK => ?_) ?_
  · go_simp
    refine hK _ _ ?_
    clear hK K
    refine wpAny_ready (rs := [0]) (by kernel_rfl) (by simp) ?_
    refine AllReady.cons rfl (fun K hK => ?_) ?_
    · with_reducible refine step_load_arr rfl 46 (.tmp 2) rfl w.heap.size rfl .u8 64 46 Ky HR4.out.o.k _ Tryd.underlying46 rfl H64 ?_
      refine hK _ _ ?_
      clear hK K
      refine wpAny_ready (rs := [1]) (by kernel_rfl) (by simp) ?_
      refine AllReady.cons rfl (fun K hK => ?_) ?_
      · rw [if_pos (by rfl)]
        go_simp
        refine (turned_92 Ky _ HK.out).mono ?_
        rintro e w5 ⟨rfl, hb5⟩
        have HR5 := Lib.hid (HR4.out.keep hb5)
        refine hK _ _ ?_
        clear hK K
        refine wpAny_ready (rs := [3]) (by kernel_rfl) (by simp) ?_
        refine AllReady.cons rfl (fun K hK => ?_) ?_
        · rw [if_pos (by rfl)]
          go_simp
          refine (B2.out _ _ ?hh).mono ?_
          case hh => exact arr_bs HR5.out.s (sumAt_lt M)
          rintro e w6 ⟨g6, rfl, hB6, hb6⟩
          have HR6 := Lib.hid (HR5.out.keep hb6)
          refine hK _ _ ?_
          clear hK K
          refine wpAny_ready (rs := [4]) (by kernel_rfl) (by simp) ?_
          refine AllReady.cons rfl (fun K hK => ?_) ?_
          · rw [if_pos (by rfl)]
            go_simp
            refine (sum_n _ M2 _ _ _ rfl hB6.bs (by rw [HM2L.out]; decide) (Nat.le_refl _) (by rw [HM2L.out]; decide) (HG.out.keep HR6.out.o.b)).mono ?_
            rintro e w7 ⟨rfl, hb7⟩
            have HR7 := Lib.hid (HR6.out.keep hb7)
            refine hK _ _ ?_
            clear hK K
            refine wpAny_ready (rs := [5]) (by kernel_rfl) (by simp) ?_
            refine AllReady.cons rfl (fun K hK => ?_) ?_
            · with_reducible refine step_store_arr rfl rfl 25 (.tmp 4) (.tmp 15) rfl (w.heap.size + 1) .u8 32 (sumAt M2) rfl rfl 25 _ HR7.out.o.z HN ?_
              refine hK _ _ ?_
              clear hK K
              refine wpAny_done (by kernel_rfl) ?_ _
              (go_wp2_with fail; exact bodyPost_ret (results_arr rfl _ _ (w.heap.size + 1) 25 .u8 32 (sumAt M2) _ rfl (HR7.out.o.z.setRow _) Tryd.underlying25 rfl HN) rfl ⟨rfl, below_setRow HR7.out.o.b (by omega) _⟩)
            exact AllReady.nil
          exact AllReady.nil
        exact AllReady.nil
      exact AllReady.nil
    exact AllReady.nil
  exact AllReady.nil

end Go.Proofs.YtjcohlpjlifolaaDoor.MacT
