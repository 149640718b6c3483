/-
  What mac.Derive comes to.
-/
import Derived.Test.YtjcohlpjlifolaaDoorMacSum
import Derived.Deep.DeepCutAuto
namespace Go.Proofs.YtjcohlpjlifolaaDoor.MacT
open Go.RowKit Kit ShaMath ShaT MacM
set_option linter.unusedVariables false
set_option maxRecDepth 100000

theorem build_32 (w : World) : (Instr.build 25 #[]).run Tryd.prog w = .ok (.agg (row .u8 32 fun _ => 0)) w := run_build w 25 _ _ (by kernel_rfl)
theorem size_u8' (w : World) : (sizeOf 5).run Tryd.prog w = .ok 1 w := by kernel_rfl
theorem agg_u8 (w : World) : (isAgg 5).run Tryd.prog w = .ok false w := by kernel_rfl

/-- The answer's place, and the key. -/
structure Der0 (w : World) (K : Nat → Nat) (g7 : Nat) (wr : World) : Prop where
  b : Below w.heap.size w wr
  z : Arr wr w.heap.size .u8 32 25 (fun _ => 0)
  k : Arr wr g7 .u8 64 46 K
  lt : w.heap.size < g7
theorem Der0.keep {w : World} {K : Nat → Nat} {g7 : Nat} {wr w' : World} (h : Der0 w K g7 wr) (hb : Below wr.heap.size wr w') : Der0 w K g7 w' :=
  ⟨h.b.trans (hb.mono h.b.size), h.z.keep hb h.z.lt, h.k.keep hb h.k.lt, h.lt⟩
theorem Der0.drew {w : World} {K : Nat → Nat} {g7 : Nat} {wr : World} (h : Der0 w K g7 wr) : Der0 w K g7 wr.drew := ⟨h.b.drew, h.z, h.k, h.lt⟩
theorem Der0.al {w : World} {K : Nat → Nat} {g7 : Nat} {wr : World} (h : Der0 w K g7 wr) (o : Obj) : Der0 w K g7 (wr.alloc o) := h.keep (below1 _ _)
/-- And the round's sum. -/
structure Der1 (w : World) (K : Nat → Nat) (g7 g8 : Nat) (U : Nat → Nat) (wr : World) : Prop where
  o : Der0 w K g7 wr
  u : Arr wr g8 .u8 32 25 U
  lt : g7 < g8
theorem Der1.keep {w : World} {K U : Nat → Nat} {g7 g8 : Nat} {wr w' : World} (h : Der1 w K g7 g8 U wr) (hb : Below wr.heap.size wr w') : Der1 w K g7 g8 U w' :=
  ⟨h.o.keep hb, h.u.keep hb h.u.lt, h.lt⟩
theorem Der1.drew {w : World} {K U : Nat → Nat} {g7 g8 : Nat} {wr : World} (h : Der1 w K g7 g8 U wr) : Der1 w K g7 g8 U wr.drew := ⟨h.o.drew, h.u, h.lt⟩
theorem Der1.al {w : World} {K U : Nat → Nat} {g7 g8 : Nat} {wr : World} (h : Der1 w K g7 g8 U wr) (o : Obj) : Der1 w K g7 g8 U (wr.alloc o) := h.keep (below1 _ _)
theorem Der1.put {w : World} {K U : Nat → Nat} {g7 g8 : Nat} {wr : World} (h : Der1 w K g7 g8 U wr) (V : Nat → Nat) : Der1 w K g7 g8 V (wr.setRow g8 (row .u8 32 V)) :=
  ⟨⟨below_setRow h.o.b (by have := h.lt; have := h.o.lt; omega) _, h.o.z.setRow_ne _ (by have := h.lt; have := h.o.lt; omega), h.o.k.setRow_ne _ (by have := h.lt; omega), h.o.lt⟩, h.u.setRow _, h.lt⟩
/-- And what is mixed. -/
structure Der2 (w : World) (K : Nat → Nat) (g7 g8 g9 : Nat) (U M : Nat → Nat) (wr : World) : Prop where
  o : Der1 w K g7 g8 U wr
  m : Arr wr g9 .u8 32 25 M
  lt : g8 < g9
theorem Der2.keep {w : World} {K U M : Nat → Nat} {g7 g8 g9 : Nat} {wr w' : World} (h : Der2 w K g7 g8 g9 U M wr) (hb : Below wr.heap.size wr w') : Der2 w K g7 g8 g9 U M w' :=
  ⟨h.o.keep hb, h.m.keep hb h.m.lt, h.lt⟩
theorem Der2.drew {w : World} {K U M : Nat → Nat} {g7 g8 g9 : Nat} {wr : World} (h : Der2 w K g7 g8 g9 U M wr) : Der2 w K g7 g8 g9 U M wr.drew := ⟨h.o.drew, h.m, h.lt⟩
theorem Der2.put {w : World} {K U M : Nat → Nat} {g7 g8 g9 : Nat} {wr : World} (h : Der2 w K g7 g8 g9 U M wr) (V : Nat → Nat) : Der2 w K g7 g8 g9 V M (wr.setRow g8 (row .u8 32 V)) :=
  ⟨h.o.put V, h.m.setRow_ne _ (by have := h.lt; omega), h.lt⟩
theorem Der2.set {w : World} {K U M : Nat → Nat} {g7 g8 g9 : Nat} {wr : World} (h : Der2 w K g7 g8 g9 U M wr) (j v : Nat) : Der2 w K g7 g8 g9 U (upd M j v) (wr.setCell ⟨g9, j, none⟩ (.int .u8 (v : Int))) := by
  have h1 := h.lt
  have h2 := h.o.lt
  have h3 := h.o.o.lt
  exact ⟨⟨⟨h.o.o.b.setCell (by simp; omega) _, h.o.o.z.other _ _ (by simp; omega), h.o.o.k.other _ _ (by simp; omega), h3⟩, h.o.u.other _ _ (by simp; omega), h2⟩, h.m.set _ _, h1⟩
theorem Der2.congr {w : World} {K U M M' : Nat → Nat} {g7 g8 g9 : Nat} {wr : World} (h : Der2 w K g7 g8 g9 U M wr) (e : ∀ j, j < 32 → M j = M' j) : Der2 w K g7 g8 g9 U M' wr := ⟨h.o, h.m.congr e, h.lt⟩
/-- So many bytes of it turned. -/
def part (M U : Nat → Nat) (j : Nat) : Nat → Nat := fun q => if q < j then M q ^^^ U q else M q
theorem part_next (M U : Nat → Nat) (j q : Nat) : upd (part M U j) j (M j ^^^ U j) q = part M U (j + 1) q := by
  unfold upd part
  by_cases e : q = j
  · subst e; rw [if_pos rfl, if_pos (by omega)]
  · rw [if_neg e]
    by_cases h : q < j
    · rw [if_pos h, if_pos (by omega)]
    · rw [if_neg h, if_neg (by omega)]
theorem part_at (M U : Nat → Nat) (j : Nat) : part M U j j = M j := if_neg (Nat.lt_irrefl j)
theorem part_all (M U : Nat → Nat) (q : Nat) (h : q < 32) : part M U 32 q = M q ^^^ U q := if_pos h

set_option maxHeartbeats 1000000 in
theorem derive_out (p : Option Addr) (l : List UInt8) (n cap : Nat) (q : Option Addr) (s : List UInt8) (m cap2 : Nat) (r : Int) (w : World) (h : ¬ (1 ≤ r ∧ r ≤ 64)) :
    Calls Tryd.prog 14 #[.slice p n cap, .slice q m cap2, .int .i64 r] w fun e w' => e = .returned (.agg (row .u8 32 (derAt l s r))) ∧ Below w.heap.size w w' := by
  obtain ⟨hz3, hn3⟩ := zero_of_info info_32
  have HN := Lib.hid hn3
  clear hn3
  rw [derAt_out h]
  have H := Lib.hid h
  have hbd := build_32
  clear h
  go_enter Tryd.func14, Tryd.ntmps14
  go_wp2_with (first | (go_at_call 29; with_reducible refine (fit_no r _ H.out).mono ?_; rintro e w' ⟨rfl, rfl⟩) | with_reducible refine wpList_store_arr rfl 25 (.tmp 6) (.tmp 15) rfl w.heap.size .u8 32 (fun _ => 0) rfl rfl 25 _ Arr.new HN ?_)
  exact bodyPost_ret (results_arr rfl _ _ w.heap.size 25 .u8 32 (fun _ => 0) _ rfl (Arr.new.setRow _) Tryd.underlying25 rfl HN) rfl ⟨rfl, below_setRow (below1 _ _) (Nat.le_refl _) _⟩

theorem der_new {w : World} {K : Nat → Nat} {g7 : Nat} {W : World} (h : Der0 w K g7 W) : Arr (W.alloc (.cells (row .u8 32 fun _ => 0) 25)) W.heap.size .u8 32 25 (fun _ => 0) := Arr.new
theorem der1_mk {w : World} {K U0 U : Nat → Nat} {g7 g8 : Nat} {W : World} (h : Der0 w K g7 W) (ha : Arr W g8 .u8 32 25 U0) (hlt : g7 < g8) : Der1 w K g7 g8 U (W.setRow g8 (row .u8 32 U)) :=
  ⟨⟨below_setRow h.b (by have := h.lt; omega) _, h.z.setRow_ne _ (by have := h.lt; omega), h.k.setRow_ne _ (by omega), h.lt⟩, ha.setRow _, hlt⟩
theorem der2_mk {w : World} {K U M : Nat → Nat} {g7 g8 : Nat} {W : World} (h : Der1 w K g7 g8 U W) : Der2 w K g7 g8 W.heap.size U M ((W.alloc (.cells (row .u8 32 fun _ => 0) 25)).setRow W.heap.size (row .u8 32 M)) :=
  ⟨⟨⟨below_setRow (h.o.b.alloc h.o.b.size _) h.o.b.size _, (h.o.z.al _).setRow_ne _ (by have := h.o.z.lt; omega), (h.o.k.al _).setRow_ne _ (by have := h.o.k.lt; omega), h.o.lt⟩, (h.u.al _).setRow_ne _ (by have := h.u.lt; omega), h.lt⟩, Arr.new.setRow _, h.u.lt⟩

set_option maxHeartbeats 4000000 in
theorem derive_in (p : Option Addr) (l : List UInt8) (n cap : Nat) (q : Option Addr) (s : List UInt8) (m cap2 : Nat) (r : Nat) (w : World) (h0 : 1 ≤ r) (h1 : r ≤ 64) (hn : l.length = n) (hb : Bs w p l) (hmx : l.length ≤ 281474976710656) (hlc : l.length ≤ cap) (hc : cap ≤ 9223372036854775807)
    (hm : s.length = m) (hbs : Bs w q s) (hl : s.length ≤ 70368744160000) (hg : Tabs w) :
    Calls Tryd.prog 14 #[.slice p n cap, .slice q m cap2, .int .i64 (r : Int)] w fun e w' => e = .returned (.agg (row .u8 32 (derAt l s r))) ∧ Below w.heap.size w w' := by
  obtain ⟨hz, hn2⟩ := zero_of_info info_b64'
  obtain ⟨hz3, hn3⟩ := zero_of_info info_32
  have H64 := Lib.hid hn2
  have HN := Lib.hid hn3
  clear hn2 hn3
  obtain ⟨Ky, hKy⟩ : ∃ Ky, Ky = keyAt l := ⟨_, rfl⟩
  have HKL := Lib.hid (show ∀ j, Ky j < 256 by rw [hKy]; exact keyAt_lt l)
  have HD := Lib.hid (show derAt l s r = mixAt Ky s r by rw [derAt_in (by omega), hKy]; rfl)
  have C1 := Lib.hid (show ∀ W, Bs W p l → Tabs W → Calls Tryd.prog 26 #[.slice p n cap] W (fun e w' => e = .returned (.agg (row .u8 64 Ky)) ∧ Below W.heap.size W w') from fun W h g => by rw [hKy]; exact mblock_any p l n cap W hn h hmx hlc hc g)
  have C2 := Lib.hid (fun W (h : Bs W q s) => numbered_any q s m cap2 W hm h (by omega))
  have HB := Lib.hid hb
  have HM := Lib.hid hbs
  have HG := Lib.hid hg
  have HF := Lib.hid (show (firstMsg s).length ≤ 70368744170000 by simp [firstMsg]; omega)
  rw [HD.out]
  obtain ⟨F, hF⟩ : ∃ F, F = firstMsg s := ⟨_, rfl⟩
  have HU0 := Lib.hid (show keyedAt Ky F = uAt Ky s 0 by rw [hF]; rfl)
  rw [← hF] at C2 HF
  clear hn hm hb hbs hg hKy hF
  go_enter Tryd.func14, Tryd.ntmps14
  go_wp2_with ((go_at_call 29; with_reducible refine (fit_yes r _ (by omega) (by omega)).mono ?_; rintro e w' ⟨rfl, rfl⟩))
  have hb0 := below1 w (.cells (row .u8 32 fun _ => 0) 25)
  refine (C1.out _ (HB.out.keep hb0) (HG.out.keep hb0)).mono ?_
  rintro e w1 ⟨rfl, hb1⟩
  have hz1 : w.heap.size < w1.heap.size := by have := hb1.size; simp at this; omega
  have HB1 := Lib.hid (hb0.trans (hb1.mono hb0.size))
  have HA1 := Lib.hid ((Arr.new (w := w) (k := .u8) (n := 32) (t := 25) (f := fun _ => 0)).keep hb1 (by simp))
  clear hb0 hb1
  go_upto_region 4 with (with_reducible refine wpList_store_arr rfl 46 (.tmp 7) (.tmp 17) rfl w1.heap.size .u8 64 Ky rfl rfl 46 _ Arr.new H64 ?_)
  have hR0 : Der0 w Ky w1.heap.size ((w1.alloc (.cells (row .u8 64 fun _ => 0) 46)).setRow w1.heap.size (row .u8 64 Ky)) :=
    ⟨below_setRow (HB1.out.alloc HB1.out.size _) HB1.out.size _, (HA1.out.al _).setRow_ne _ (by omega), Arr.new.setRow _, hz1⟩
  generalize World.setRow _ _ _ = w2 at hR0 ⊢
  generalize w1.heap.size = g7 at hR0 hz1 ⊢
  have HR2 := Lib.hid hR0
  clear hR0 HA1 HB1
  go_simp
  go_cut [8] (fun s8 wx => ∃ g8, s8 = .pointer (some ⟨g8, 0, none⟩) ∧ Der1 w Ky g7 g8 (keyedAt Ky F) wx)
  case first =>
    have HC := Lib.hid HR2.out.drew
    have CK := Lib.hid (fun W g (h : Byt W g 5 F) (hT : Tabs W) => keyed_any Ky HKL.out (some ⟨g, 0, none⟩) F F.length F.length W rfl h.bs HF.out hT)
    refine wp_region_any (by kernel_rfl) ?_
    change wpAny _ _ _ _ _ _ _ (World.drew _)
    refine wpAny_ready (rs := [0, 1, 4]) (by kernel_rfl) (by simp) ?_
    refine AllReady.cons rfl (fun K hK => ?_) ?_
    · with_reducible refine step_load_arr rfl 46 (.tmp 7) rfl g7 rfl .u8 64 46 Ky ?hh _ Tryd.underlying46 rfl H64 ?_
      case hh => exact HC.out.k
      refine hK _ _ ?_
      clear hK K
      refine wpAny_ready (rs := [1, 4]) (by kernel_rfl) (by simp) ?_
      refine AllReady.cons rfl (fun K hK => ?_) ?_
      · go_simp
        refine hK _ _ ?_
        clear hK K
        refine wpAny_ready (rs := [2, 4]) (by kernel_rfl) (by simp) ?_
        refine AllReady.cons rfl (fun K hK => ?_) ?_
        · rw [if_pos (by rfl)]
          go_simp
          refine (C2.out _ (HM.out.keep HC.out.b)).mono ?_
          rintro e w5 ⟨g5, rfl, hB5, hb5⟩
          replace HC := Lib.hid (HC.out.keep hb5)
          have HS5 := Lib.hid hB5
          clear hB5
          try (replace HA8 := Lib.hid (HA8.out.keep hb5 HA8.out.lt))
          clear hb5
          refine hK _ _ ?_
          clear hK K
          refine wpAny_ready (rs := [3, 4]) (by kernel_rfl) (by simp) ?_
          refine AllReady.cons rfl (fun K hK => ?_) ?_
          · rw [if_pos (by rfl)]
            go_simp
            refine (CK.out _ _ HS5.out (HG.out.keep HC.out.b)).mono ?_
            rintro e w6 ⟨rfl, hb6⟩
            replace HC := Lib.hid (HC.out.keep hb6)
            try (replace HA8 := Lib.hid (HA8.out.keep hb6 HA8.out.lt))
            clear hb6
            refine hK _ _ ?_
            clear hK K
            refine wpAny_ready (rs := [4]) (by kernel_rfl) (by simp) ?_
            refine AllReady.cons rfl (fun K hK => ?_) ?_
            · go_simp
              have HA8 := Lib.hid (der_new HC.out)
              have H78 := Lib.hid HC.out.k.lt
              replace HC := Lib.hid (HC.out.al (.cells (row .u8 32 fun _ => 0) 25))
              try (replace HS5 := Lib.hid (HS5.out.al (.cells (row .u8 32 fun _ => 0) 25)))
              refine hK _ _ ?_
              clear hK K
              refine wpAny_ready (rs := [5]) (by kernel_rfl) (by simp) ?_
              refine AllReady.cons rfl (fun K hK => ?_) ?_
              · with_reducible refine step_store_arr rfl rfl 25 (.tmp 8) (.tmp 21) rfl _ .u8 32 (keyedAt Ky F) rfl rfl 25 _ HA8.out HN ?_
                refine hK _ _ ?_
                clear hK K
                refine wpAny_done (by kernel_rfl) ?_ _
                (go_wp2_with fail; go_meet; exact ⟨_, rfl, der1_mk HC.out HA8.out H78.out⟩)
              exact AllReady.nil
            exact AllReady.nil
          refine AllReady.cons rfl (fun K hK => ?_) ?_
          · go_simp
            have HA8 := Lib.hid (der_new HC.out)
            have H78 := Lib.hid HC.out.k.lt
            replace HC := Lib.hid (HC.out.al (.cells (row .u8 32 fun _ => 0) 25))
            try (replace HS5 := Lib.hid (HS5.out.al (.cells (row .u8 32 fun _ => 0) 25)))
            refine hK _ _ ?_
            clear hK K
            refine wpAny_ready (rs := [3]) (by kernel_rfl) (by simp) ?_
            refine AllReady.cons rfl (fun K hK => ?_) ?_
            · rw [if_pos (by rfl)]
              go_simp
              refine (CK.out _ _ HS5.out (HG.out.keep HC.out.b)).mono ?_
              rintro e w6 ⟨rfl, hb6⟩
              replace HC := Lib.hid (HC.out.keep hb6)
              try (replace HA8 := Lib.hid (HA8.out.keep hb6 HA8.out.lt))
              clear hb6
              refine hK _ _ ?_
              clear hK K
              refine wpAny_ready (rs := [5]) (by kernel_rfl) (by simp) ?_
              refine AllReady.cons rfl (fun K hK => ?_) ?_
              · with_reducible refine step_store_arr rfl rfl 25 (.tmp 8) (.tmp 21) rfl _ .u8 32 (keyedAt Ky F) rfl rfl 25 _ HA8.out HN ?_
                refine hK _ _ ?_
                clear hK K
                refine wpAny_done (by kernel_rfl) ?_ _
                (go_wp2_with fail; go_meet; exact ⟨_, rfl, der1_mk HC.out HA8.out H78.out⟩)
              exact AllReady.nil
            exact AllReady.nil
          exact AllReady.nil
        refine AllReady.cons rfl (fun K hK => ?_) ?_
        · go_simp
          have HA8 := Lib.hid (der_new HC.out)
          have H78 := Lib.hid HC.out.k.lt
          replace HC := Lib.hid (HC.out.al (.cells (row .u8 32 fun _ => 0) 25))
          try (replace HS5 := Lib.hid (HS5.out.al (.cells (row .u8 32 fun _ => 0) 25)))
          refine hK _ _ ?_
          clear hK K
          refine wpAny_ready (rs := [2]) (by kernel_rfl) (by simp) ?_
          refine AllReady.cons rfl (fun K hK => ?_) ?_
          · rw [if_pos (by rfl)]
            go_simp
            refine (C2.out _ (HM.out.keep HC.out.b)).mono ?_
            rintro e w5 ⟨g5, rfl, hB5, hb5⟩
            replace HC := Lib.hid (HC.out.keep hb5)
            have HS5 := Lib.hid hB5
            clear hB5
            try (replace HA8 := Lib.hid (HA8.out.keep hb5 HA8.out.lt))
            clear hb5
            refine hK _ _ ?_
            clear hK K
            refine wpAny_ready (rs := [3]) (by kernel_rfl) (by simp) ?_
            refine AllReady.cons rfl (fun K hK => ?_) ?_
            · rw [if_pos (by rfl)]
              go_simp
              refine (CK.out _ _ HS5.out (HG.out.keep HC.out.b)).mono ?_
              rintro e w6 ⟨rfl, hb6⟩
              replace HC := Lib.hid (HC.out.keep hb6)
              try (replace HA8 := Lib.hid (HA8.out.keep hb6 HA8.out.lt))
              clear hb6
              refine hK _ _ ?_
              clear hK K
              refine wpAny_ready (rs := [5]) (by kernel_rfl) (by simp) ?_
              refine AllReady.cons rfl (fun K hK => ?_) ?_
              · with_reducible refine step_store_arr rfl rfl 25 (.tmp 8) (.tmp 21) rfl _ .u8 32 (keyedAt Ky F) rfl rfl 25 _ HA8.out HN ?_
                refine hK _ _ ?_
                clear hK K
                refine wpAny_done (by kernel_rfl) ?_ _
                (go_wp2_with fail; go_meet; exact ⟨_, rfl, der1_mk HC.out HA8.out H78.out⟩)
              exact AllReady.nil
            exact AllReady.nil
          exact AllReady.nil
        exact AllReady.nil
      refine AllReady.cons rfl (fun K hK => ?_) ?_
      · go_simp
        have HA8 := Lib.hid (der_new HC.out)
        have H78 := Lib.hid HC.out.k.lt
        replace HC := Lib.hid (HC.out.al (.cells (row .u8 32 fun _ => 0) 25))
        try (replace HS5 := Lib.hid (HS5.out.al (.cells (row .u8 32 fun _ => 0) 25)))
        refine hK _ _ ?_
        clear hK K
        refine wpAny_ready (rs := [1]) (by kernel_rfl) (by simp) ?_
        refine AllReady.cons rfl (fun K hK => ?_) ?_
        · go_simp
          refine hK _ _ ?_
          clear hK K
          refine wpAny_ready (rs := [2]) (by kernel_rfl) (by simp) ?_
          refine AllReady.cons rfl (fun K hK => ?_) ?_
          · rw [if_pos (by rfl)]
            go_simp
            refine (C2.out _ (HM.out.keep HC.out.b)).mono ?_
            rintro e w5 ⟨g5, rfl, hB5, hb5⟩
            replace HC := Lib.hid (HC.out.keep hb5)
            have HS5 := Lib.hid hB5
            clear hB5
            try (replace HA8 := Lib.hid (HA8.out.keep hb5 HA8.out.lt))
            clear hb5
            refine hK _ _ ?_
            clear hK K
            refine wpAny_ready (rs := [3]) (by kernel_rfl) (by simp) ?_
            refine AllReady.cons rfl (fun K hK => ?_) ?_
            · rw [if_pos (by rfl)]
              go_simp
              refine (CK.out _ _ HS5.out (HG.out.keep HC.out.b)).mono ?_
              rintro e w6 ⟨rfl, hb6⟩
              replace HC := Lib.hid (HC.out.keep hb6)
              try (replace HA8 := Lib.hid (HA8.out.keep hb6 HA8.out.lt))
              clear hb6
              refine hK _ _ ?_
              clear hK K
              refine wpAny_ready (rs := [5]) (by kernel_rfl) (by simp) ?_
              refine AllReady.cons rfl (fun K hK => ?_) ?_
              · with_reducible refine step_store_arr rfl rfl 25 (.tmp 8) (.tmp 21) rfl _ .u8 32 (keyedAt Ky F) rfl rfl 25 _ HA8.out HN ?_
                refine hK _ _ ?_
                clear hK K
                refine wpAny_done (by kernel_rfl) ?_ _
                (go_wp2_with fail; go_meet; exact ⟨_, rfl, der1_mk HC.out HA8.out H78.out⟩)
              exact AllReady.nil
            exact AllReady.nil
          exact AllReady.nil
        exact AllReady.nil
      exact AllReady.nil
    refine AllReady.cons rfl (fun K hK => ?_) ?_
    · go_simp
      refine hK _ _ ?_
      clear hK K
      refine wpAny_ready (rs := [0, 2, 4]) (by kernel_rfl) (by simp) ?_
      refine AllReady.cons rfl (fun K hK => ?_) ?_
      · with_reducible refine step_load_arr rfl 46 (.tmp 7) rfl g7 rfl .u8 64 46 Ky ?hh _ Tryd.underlying46 rfl H64 ?_
        case hh => exact HC.out.k
        refine hK _ _ ?_
        clear hK K
        refine wpAny_ready (rs := [2, 4]) (by kernel_rfl) (by simp) ?_
        refine AllReady.cons rfl (fun K hK => ?_) ?_
        · rw [if_pos (by rfl)]
          go_simp
          refine (C2.out _ (HM.out.keep HC.out.b)).mono ?_
          rintro e w5 ⟨g5, rfl, hB5, hb5⟩
          replace HC := Lib.hid (HC.out.keep hb5)
          have HS5 := Lib.hid hB5
          clear hB5
          try (replace HA8 := Lib.hid (HA8.out.keep hb5 HA8.out.lt))
          clear hb5
          refine hK _ _ ?_
          clear hK K
          refine wpAny_ready (rs := [3, 4]) (by kernel_rfl) (by simp) ?_
          refine AllReady.cons rfl (fun K hK => ?_) ?_
          · rw [if_pos (by rfl)]
            go_simp
            refine (CK.out _ _ HS5.out (HG.out.keep HC.out.b)).mono ?_
            rintro e w6 ⟨rfl, hb6⟩
            replace HC := Lib.hid (HC.out.keep hb6)
            try (replace HA8 := Lib.hid (HA8.out.keep hb6 HA8.out.lt))
            clear hb6
            refine hK _ _ ?_
            clear hK K
            refine wpAny_ready (rs := [4]) (by kernel_rfl) (by simp) ?_
            refine AllReady.cons rfl (fun K hK => ?_) ?_
            · go_simp
              have HA8 := Lib.hid (der_new HC.out)
              have H78 := Lib.hid HC.out.k.lt
              replace HC := Lib.hid (HC.out.al (.cells (row .u8 32 fun _ => 0) 25))
              try (replace HS5 := Lib.hid (HS5.out.al (.cells (row .u8 32 fun _ => 0) 25)))
              refine hK _ _ ?_
              clear hK K
              refine wpAny_ready (rs := [5]) (by kernel_rfl) (by simp) ?_
              refine AllReady.cons rfl (fun K hK => ?_) ?_
              · with_reducible refine step_store_arr rfl rfl 25 (.tmp 8) (.tmp 21) rfl _ .u8 32 (keyedAt Ky F) rfl rfl 25 _ HA8.out HN ?_
                refine hK _ _ ?_
                clear hK K
                refine wpAny_done (by kernel_rfl) ?_ _
                (go_wp2_with fail; go_meet; exact ⟨_, rfl, der1_mk HC.out HA8.out H78.out⟩)
              exact AllReady.nil
            exact AllReady.nil
          refine AllReady.cons rfl (fun K hK => ?_) ?_
          · go_simp
            have HA8 := Lib.hid (der_new HC.out)
            have H78 := Lib.hid HC.out.k.lt
            replace HC := Lib.hid (HC.out.al (.cells (row .u8 32 fun _ => 0) 25))
            try (replace HS5 := Lib.hid (HS5.out.al (.cells (row .u8 32 fun _ => 0) 25)))
            refine hK _ _ ?_
            clear hK K
            refine wpAny_ready (rs := [3]) (by kernel_rfl) (by simp) ?_
            refine AllReady.cons rfl (fun K hK => ?_) ?_
            · rw [if_pos (by rfl)]
              go_simp
              refine (CK.out _ _ HS5.out (HG.out.keep HC.out.b)).mono ?_
              rintro e w6 ⟨rfl, hb6⟩
              replace HC := Lib.hid (HC.out.keep hb6)
              try (replace HA8 := Lib.hid (HA8.out.keep hb6 HA8.out.lt))
              clear hb6
              refine hK _ _ ?_
              clear hK K
              refine wpAny_ready (rs := [5]) (by kernel_rfl) (by simp) ?_
              refine AllReady.cons rfl (fun K hK => ?_) ?_
              · with_reducible refine step_store_arr rfl rfl 25 (.tmp 8) (.tmp 21) rfl _ .u8 32 (keyedAt Ky F) rfl rfl 25 _ HA8.out HN ?_
                refine hK _ _ ?_
                clear hK K
                refine wpAny_done (by kernel_rfl) ?_ _
                (go_wp2_with fail; go_meet; exact ⟨_, rfl, der1_mk HC.out HA8.out H78.out⟩)
              exact AllReady.nil
            exact AllReady.nil
          exact AllReady.nil
        refine AllReady.cons rfl (fun K hK => ?_) ?_
        · go_simp
          have HA8 := Lib.hid (der_new HC.out)
          have H78 := Lib.hid HC.out.k.lt
          replace HC := Lib.hid (HC.out.al (.cells (row .u8 32 fun _ => 0) 25))
          try (replace HS5 := Lib.hid (HS5.out.al (.cells (row .u8 32 fun _ => 0) 25)))
          refine hK _ _ ?_
          clear hK K
          refine wpAny_ready (rs := [2]) (by kernel_rfl) (by simp) ?_
          refine AllReady.cons rfl (fun K hK => ?_) ?_
          · rw [if_pos (by rfl)]
            go_simp
            refine (C2.out _ (HM.out.keep HC.out.b)).mono ?_
            rintro e w5 ⟨g5, rfl, hB5, hb5⟩
            replace HC := Lib.hid (HC.out.keep hb5)
            have HS5 := Lib.hid hB5
            clear hB5
            try (replace HA8 := Lib.hid (HA8.out.keep hb5 HA8.out.lt))
            clear hb5
            refine hK _ _ ?_
            clear hK K
            refine wpAny_ready (rs := [3]) (by kernel_rfl) (by simp) ?_
            refine AllReady.cons rfl (fun K hK => ?_) ?_
            · rw [if_pos (by rfl)]
              go_simp
              refine (CK.out _ _ HS5.out (HG.out.keep HC.out.b)).mono ?_
              rintro e w6 ⟨rfl, hb6⟩
              replace HC := Lib.hid (HC.out.keep hb6)
              try (replace HA8 := Lib.hid (HA8.out.keep hb6 HA8.out.lt))
              clear hb6
              refine hK _ _ ?_
              clear hK K
              refine wpAny_ready (rs := [5]) (by kernel_rfl) (by simp) ?_
              refine AllReady.cons rfl (fun K hK => ?_) ?_
              · with_reducible refine step_store_arr rfl rfl 25 (.tmp 8) (.tmp 21) rfl _ .u8 32 (keyedAt Ky F) rfl rfl 25 _ HA8.out HN ?_
                refine hK _ _ ?_
                clear hK K
                refine wpAny_done (by kernel_rfl) ?_ _
                (go_wp2_with fail; go_meet; exact ⟨_, rfl, der1_mk HC.out HA8.out H78.out⟩)
              exact AllReady.nil
            exact AllReady.nil
          exact AllReady.nil
        exact AllReady.nil
      refine AllReady.cons rfl (fun K hK => ?_) ?_
      · rw [if_pos (by rfl)]
        go_simp
        refine (C2.out _ (HM.out.keep HC.out.b)).mono ?_
        rintro e w5 ⟨g5, rfl, hB5, hb5⟩
        replace HC := Lib.hid (HC.out.keep hb5)
        have HS5 := Lib.hid hB5
        clear hB5
        try (replace HA8 := Lib.hid (HA8.out.keep hb5 HA8.out.lt))
        clear hb5
        refine hK _ _ ?_
        clear hK K
        refine wpAny_ready (rs := [0, 4]) (by kernel_rfl) (by simp) ?_
        refine AllReady.cons rfl (fun K hK => ?_) ?_
        · with_reducible refine step_load_arr rfl 46 (.tmp 7) rfl g7 rfl .u8 64 46 Ky ?hh _ Tryd.underlying46 rfl H64 ?_
          case hh => exact HC.out.k
          refine hK _ _ ?_
          clear hK K
          refine wpAny_ready (rs := [3, 4]) (by kernel_rfl) (by simp) ?_
          refine AllReady.cons rfl (fun K hK => ?_) ?_
          · rw [if_pos (by rfl)]
            go_simp
            refine (CK.out _ _ HS5.out (HG.out.keep HC.out.b)).mono ?_
            rintro e w6 ⟨rfl, hb6⟩
            replace HC := Lib.hid (HC.out.keep hb6)
            try (replace HA8 := Lib.hid (HA8.out.keep hb6 HA8.out.lt))
            clear hb6
            refine hK _ _ ?_
            clear hK K
            refine wpAny_ready (rs := [4]) (by kernel_rfl) (by simp) ?_
            refine AllReady.cons rfl (fun K hK => ?_) ?_
            · go_simp
              have HA8 := Lib.hid (der_new HC.out)
              have H78 := Lib.hid HC.out.k.lt
              replace HC := Lib.hid (HC.out.al (.cells (row .u8 32 fun _ => 0) 25))
              try (replace HS5 := Lib.hid (HS5.out.al (.cells (row .u8 32 fun _ => 0) 25)))
              refine hK _ _ ?_
              clear hK K
              refine wpAny_ready (rs := [5]) (by kernel_rfl) (by simp) ?_
              refine AllReady.cons rfl (fun K hK => ?_) ?_
              · with_reducible refine step_store_arr rfl rfl 25 (.tmp 8) (.tmp 21) rfl _ .u8 32 (keyedAt Ky F) rfl rfl 25 _ HA8.out HN ?_
                refine hK _ _ ?_
                clear hK K
                refine wpAny_done (by kernel_rfl) ?_ _
                (go_wp2_with fail; go_meet; exact ⟨_, rfl, der1_mk HC.out HA8.out H78.out⟩)
              exact AllReady.nil
            exact AllReady.nil
          refine AllReady.cons rfl (fun K hK => ?_) ?_
          · go_simp
            have HA8 := Lib.hid (der_new HC.out)
            have H78 := Lib.hid HC.out.k.lt
            replace HC := Lib.hid (HC.out.al (.cells (row .u8 32 fun _ => 0) 25))
            try (replace HS5 := Lib.hid (HS5.out.al (.cells (row .u8 32 fun _ => 0) 25)))
            refine hK _ _ ?_
            clear hK K
            refine wpAny_ready (rs := [3]) (by kernel_rfl) (by simp) ?_
            refine AllReady.cons rfl (fun K hK => ?_) ?_
            · rw [if_pos (by rfl)]
              go_simp
              refine (CK.out _ _ HS5.out (HG.out.keep HC.out.b)).mono ?_
              rintro e w6 ⟨rfl, hb6⟩
              replace HC := Lib.hid (HC.out.keep hb6)
              try (replace HA8 := Lib.hid (HA8.out.keep hb6 HA8.out.lt))
              clear hb6
              refine hK _ _ ?_
              clear hK K
              refine wpAny_ready (rs := [5]) (by kernel_rfl) (by simp) ?_
              refine AllReady.cons rfl (fun K hK => ?_) ?_
              · with_reducible refine step_store_arr rfl rfl 25 (.tmp 8) (.tmp 21) rfl _ .u8 32 (keyedAt Ky F) rfl rfl 25 _ HA8.out HN ?_
                refine hK _ _ ?_
                clear hK K
                refine wpAny_done (by kernel_rfl) ?_ _
                (go_wp2_with fail; go_meet; exact ⟨_, rfl, der1_mk HC.out HA8.out H78.out⟩)
              exact AllReady.nil
            exact AllReady.nil
          exact AllReady.nil
        refine AllReady.cons rfl (fun K hK => ?_) ?_
        · go_simp
          have HA8 := Lib.hid (der_new HC.out)
          have H78 := Lib.hid HC.out.k.lt
          replace HC := Lib.hid (HC.out.al (.cells (row .u8 32 fun _ => 0) 25))
          try (replace HS5 := Lib.hid (HS5.out.al (.cells (row .u8 32 fun _ => 0) 25)))
          refine hK _ _ ?_
          clear hK K
          refine wpAny_ready (rs := [0]) (by kernel_rfl) (by simp) ?_
          refine AllReady.cons rfl (fun K hK => ?_) ?_
          · with_reducible refine step_load_arr rfl 46 (.tmp 7) rfl g7 rfl .u8 64 46 Ky ?hh _ Tryd.underlying46 rfl H64 ?_
            case hh => exact HC.out.k
            refine hK _ _ ?_
            clear hK K
            refine wpAny_ready (rs := [3]) (by kernel_rfl) (by simp) ?_
            refine AllReady.cons rfl (fun K hK => ?_) ?_
            · rw [if_pos (by rfl)]
              go_simp
              refine (CK.out _ _ HS5.out (HG.out.keep HC.out.b)).mono ?_
              rintro e w6 ⟨rfl, hb6⟩
              replace HC := Lib.hid (HC.out.keep hb6)
              try (replace HA8 := Lib.hid (HA8.out.keep hb6 HA8.out.lt))
              clear hb6
              refine hK _ _ ?_
              clear hK K
              refine wpAny_ready (rs := [5]) (by kernel_rfl) (by simp) ?_
              refine AllReady.cons rfl (fun K hK => ?_) ?_
              · with_reducible refine step_store_arr rfl rfl 25 (.tmp 8) (.tmp 21) rfl _ .u8 32 (keyedAt Ky F) rfl rfl 25 _ HA8.out HN ?_
                refine hK _ _ ?_
                clear hK K
                refine wpAny_done (by kernel_rfl) ?_ _
                (go_wp2_with fail; go_meet; exact ⟨_, rfl, der1_mk HC.out HA8.out H78.out⟩)
              exact AllReady.nil
            exact AllReady.nil
          exact AllReady.nil
        exact AllReady.nil
      refine AllReady.cons rfl (fun K hK => ?_) ?_
      · go_simp
        have HA8 := Lib.hid (der_new HC.out)
        have H78 := Lib.hid HC.out.k.lt
        replace HC := Lib.hid (HC.out.al (.cells (row .u8 32 fun _ => 0) 25))
        try (replace HS5 := Lib.hid (HS5.out.al (.cells (row .u8 32 fun _ => 0) 25)))
        refine hK _ _ ?_
        clear hK K
        refine wpAny_ready (rs := [0, 2]) (by kernel_rfl) (by simp) ?_
        refine AllReady.cons rfl (fun K hK => ?_) ?_
        · with_reducible refine step_load_arr rfl 46 (.tmp 7) rfl g7 rfl .u8 64 46 Ky ?hh _ Tryd.underlying46 rfl H64 ?_
          case hh => exact HC.out.k
          refine hK _ _ ?_
          clear hK K
          refine wpAny_ready (rs := [2]) (by kernel_rfl) (by simp) ?_
          refine AllReady.cons rfl (fun K hK => ?_) ?_
          · rw [if_pos (by rfl)]
            go_simp
            refine (C2.out _ (HM.out.keep HC.out.b)).mono ?_
            rintro e w5 ⟨g5, rfl, hB5, hb5⟩
            replace HC := Lib.hid (HC.out.keep hb5)
            have HS5 := Lib.hid hB5
            clear hB5
            try (replace HA8 := Lib.hid (HA8.out.keep hb5 HA8.out.lt))
            clear hb5
            refine hK _ _ ?_
            clear hK K
            refine wpAny_ready (rs := [3]) (by kernel_rfl) (by simp) ?_
            refine AllReady.cons rfl (fun K hK => ?_) ?_
            · rw [if_pos (by rfl)]
              go_simp
              refine (CK.out _ _ HS5.out (HG.out.keep HC.out.b)).mono ?_
              rintro e w6 ⟨rfl, hb6⟩
              replace HC := Lib.hid (HC.out.keep hb6)
              try (replace HA8 := Lib.hid (HA8.out.keep hb6 HA8.out.lt))
              clear hb6
              refine hK _ _ ?_
              clear hK K
              refine wpAny_ready (rs := [5]) (by kernel_rfl) (by simp) ?_
              refine AllReady.cons rfl (fun K hK => ?_) ?_
              · with_reducible refine step_store_arr rfl rfl 25 (.tmp 8) (.tmp 21) rfl _ .u8 32 (keyedAt Ky F) rfl rfl 25 _ HA8.out HN ?_
                refine hK _ _ ?_
                clear hK K
                refine wpAny_done (by kernel_rfl) ?_ _
                (go_wp2_with fail; go_meet; exact ⟨_, rfl, der1_mk HC.out HA8.out H78.out⟩)
              exact AllReady.nil
            exact AllReady.nil
          exact AllReady.nil
        refine AllReady.cons rfl (fun K hK => ?_) ?_
        · rw [if_pos (by rfl)]
          go_simp
          refine (C2.out _ (HM.out.keep HC.out.b)).mono ?_
          rintro e w5 ⟨g5, rfl, hB5, hb5⟩
          replace HC := Lib.hid (HC.out.keep hb5)
          have HS5 := Lib.hid hB5
          clear hB5
          try (replace HA8 := Lib.hid (HA8.out.keep hb5 HA8.out.lt))
          clear hb5
          refine hK _ _ ?_
          clear hK K
          refine wpAny_ready (rs := [0]) (by kernel_rfl) (by simp) ?_
          refine AllReady.cons rfl (fun K hK => ?_) ?_
          · with_reducible refine step_load_arr rfl 46 (.tmp 7) rfl g7 rfl .u8 64 46 Ky ?hh _ Tryd.underlying46 rfl H64 ?_
            case hh => exact HC.out.k
            refine hK _ _ ?_
            clear hK K
            refine wpAny_ready (rs := [3]) (by kernel_rfl) (by simp) ?_
            refine AllReady.cons rfl (fun K hK => ?_) ?_
            · rw [if_pos (by rfl)]
              go_simp
              refine (CK.out _ _ HS5.out (HG.out.keep HC.out.b)).mono ?_
              rintro e w6 ⟨rfl, hb6⟩
              replace HC := Lib.hid (HC.out.keep hb6)
              try (replace HA8 := Lib.hid (HA8.out.keep hb6 HA8.out.lt))
              clear hb6
              refine hK _ _ ?_
              clear hK K
              refine wpAny_ready (rs := [5]) (by kernel_rfl) (by simp) ?_
              refine AllReady.cons rfl (fun K hK => ?_) ?_
              · with_reducible refine step_store_arr rfl rfl 25 (.tmp 8) (.tmp 21) rfl _ .u8 32 (keyedAt Ky F) rfl rfl 25 _ HA8.out HN ?_
                refine hK _ _ ?_
                clear hK K
                refine wpAny_done (by kernel_rfl) ?_ _
                (go_wp2_with fail; go_meet; exact ⟨_, rfl, der1_mk HC.out HA8.out H78.out⟩)
              exact AllReady.nil
            exact AllReady.nil
          exact AllReady.nil
        exact AllReady.nil
      exact AllReady.nil
    refine AllReady.cons rfl (fun K hK => ?_) ?_
    · go_simp
      have HA8 := Lib.hid (der_new HC.out)
      have H78 := Lib.hid HC.out.k.lt
      replace HC := Lib.hid (HC.out.al (.cells (row .u8 32 fun _ => 0) 25))
      try (replace HS5 := Lib.hid (HS5.out.al (.cells (row .u8 32 fun _ => 0) 25)))
      refine hK _ _ ?_
      clear hK K
      refine wpAny_ready (rs := [0, 1]) (by kernel_rfl) (by simp) ?_
      refine AllReady.cons rfl (fun K hK => ?_) ?_
      · with_reducible refine step_load_arr rfl 46 (.tmp 7) rfl g7 rfl .u8 64 46 Ky ?hh _ Tryd.underlying46 rfl H64 ?_
        case hh => exact HC.out.k
        refine hK _ _ ?_
        clear hK K
        refine wpAny_ready (rs := [1]) (by kernel_rfl) (by simp) ?_
        refine AllReady.cons rfl (fun K hK => ?_) ?_
        · go_simp
          refine hK _ _ ?_
          clear hK K
          refine wpAny_ready (rs := [2]) (by kernel_rfl) (by simp) ?_
          refine AllReady.cons rfl (fun K hK => ?_) ?_
          · rw [if_pos (by rfl)]
            go_simp
            refine (C2.out _ (HM.out.keep HC.out.b)).mono ?_
            rintro e w5 ⟨g5, rfl, hB5, hb5⟩
            replace HC := Lib.hid (HC.out.keep hb5)
            have HS5 := Lib.hid hB5
            clear hB5
            try (replace HA8 := Lib.hid (HA8.out.keep hb5 HA8.out.lt))
            clear hb5
            refine hK _ _ ?_
            clear hK K
            refine wpAny_ready (rs := [3]) (by kernel_rfl) (by simp) ?_
            refine AllReady.cons rfl (fun K hK => ?_) ?_
            · rw [if_pos (by rfl)]
              go_simp
              refine (CK.out _ _ HS5.out (HG.out.keep HC.out.b)).mono ?_
              rintro e w6 ⟨rfl, hb6⟩
              replace HC := Lib.hid (HC.out.keep hb6)
              try (replace HA8 := Lib.hid (HA8.out.keep hb6 HA8.out.lt))
              clear hb6
              refine hK _ _ ?_
              clear hK K
              refine wpAny_ready (rs := [5]) (by kernel_rfl) (by simp) ?_
              refine AllReady.cons rfl (fun K hK => ?_) ?_
              · with_reducible refine step_store_arr rfl rfl 25 (.tmp 8) (.tmp 21) rfl _ .u8 32 (keyedAt Ky F) rfl rfl 25 _ HA8.out HN ?_
                refine hK _ _ ?_
                clear hK K
                refine wpAny_done (by kernel_rfl) ?_ _
                (go_wp2_with fail; go_meet; exact ⟨_, rfl, der1_mk HC.out HA8.out H78.out⟩)
              exact AllReady.nil
            exact AllReady.nil
          exact AllReady.nil
        exact AllReady.nil
      refine AllReady.cons rfl (fun K hK => ?_) ?_
      · go_simp
        refine hK _ _ ?_
        clear hK K
        refine wpAny_ready (rs := [0, 2]) (by kernel_rfl) (by simp) ?_
        refine AllReady.cons rfl (fun K hK => ?_) ?_
        · with_reducible refine step_load_arr rfl 46 (.tmp 7) rfl g7 rfl .u8 64 46 Ky ?hh _ Tryd.underlying46 rfl H64 ?_
          case hh => exact HC.out.k
          refine hK _ _ ?_
          clear hK K
          refine wpAny_ready (rs := [2]) (by kernel_rfl) (by simp) ?_
          refine AllReady.cons rfl (fun K hK => ?_) ?_
          · rw [if_pos (by rfl)]
            go_simp
            refine (C2.out _ (HM.out.keep HC.out.b)).mono ?_
            rintro e w5 ⟨g5, rfl, hB5, hb5⟩
            replace HC := Lib.hid (HC.out.keep hb5)
            have HS5 := Lib.hid hB5
            clear hB5
            try (replace HA8 := Lib.hid (HA8.out.keep hb5 HA8.out.lt))
            clear hb5
            refine hK _ _ ?_
            clear hK K
            refine wpAny_ready (rs := [3]) (by kernel_rfl) (by simp) ?_
            refine AllReady.cons rfl (fun K hK => ?_) ?_
            · rw [if_pos (by rfl)]
              go_simp
              refine (CK.out _ _ HS5.out (HG.out.keep HC.out.b)).mono ?_
              rintro e w6 ⟨rfl, hb6⟩
              replace HC := Lib.hid (HC.out.keep hb6)
              try (replace HA8 := Lib.hid (HA8.out.keep hb6 HA8.out.lt))
              clear hb6
              refine hK _ _ ?_
              clear hK K
              refine wpAny_ready (rs := [5]) (by kernel_rfl) (by simp) ?_
              refine AllReady.cons rfl (fun K hK => ?_) ?_
              · with_reducible refine step_store_arr rfl rfl 25 (.tmp 8) (.tmp 21) rfl _ .u8 32 (keyedAt Ky F) rfl rfl 25 _ HA8.out HN ?_
                refine hK _ _ ?_
                clear hK K
                refine wpAny_done (by kernel_rfl) ?_ _
                (go_wp2_with fail; go_meet; exact ⟨_, rfl, der1_mk HC.out HA8.out H78.out⟩)
              exact AllReady.nil
            exact AllReady.nil
          exact AllReady.nil
        refine AllReady.cons rfl (fun K hK => ?_) ?_
        · rw [if_pos (by rfl)]
          go_simp
          refine (C2.out _ (HM.out.keep HC.out.b)).mono ?_
          rintro e w5 ⟨g5, rfl, hB5, hb5⟩
          replace HC := Lib.hid (HC.out.keep hb5)
          have HS5 := Lib.hid hB5
          clear hB5
          try (replace HA8 := Lib.hid (HA8.out.keep hb5 HA8.out.lt))
          clear hb5
          refine hK _ _ ?_
          clear hK K
          refine wpAny_ready (rs := [0]) (by kernel_rfl) (by simp) ?_
          refine AllReady.cons rfl (fun K hK => ?_) ?_
          · with_reducible refine step_load_arr rfl 46 (.tmp 7) rfl g7 rfl .u8 64 46 Ky ?hh _ Tryd.underlying46 rfl H64 ?_
            case hh => exact HC.out.k
            refine hK _ _ ?_
            clear hK K
            refine wpAny_ready (rs := [3]) (by kernel_rfl) (by simp) ?_
            refine AllReady.cons rfl (fun K hK => ?_) ?_
            · rw [if_pos (by rfl)]
              go_simp
              refine (CK.out _ _ HS5.out (HG.out.keep HC.out.b)).mono ?_
              rintro e w6 ⟨rfl, hb6⟩
              replace HC := Lib.hid (HC.out.keep hb6)
              try (replace HA8 := Lib.hid (HA8.out.keep hb6 HA8.out.lt))
              clear hb6
              refine hK _ _ ?_
              clear hK K
              refine wpAny_ready (rs := [5]) (by kernel_rfl) (by simp) ?_
              refine AllReady.cons rfl (fun K hK => ?_) ?_
              · with_reducible refine step_store_arr rfl rfl 25 (.tmp 8) (.tmp 21) rfl _ .u8 32 (keyedAt Ky F) rfl rfl 25 _ HA8.out HN ?_
                refine hK _ _ ?_
                clear hK K
                refine wpAny_done (by kernel_rfl) ?_ _
                (go_wp2_with fail; go_meet; exact ⟨_, rfl, der1_mk HC.out HA8.out H78.out⟩)
              exact AllReady.nil
            exact AllReady.nil
          exact AllReady.nil
        exact AllReady.nil
      exact AllReady.nil
    exact AllReady.nil
  case rest =>
    obtain ⟨g8, rfl, hD⟩ := hcut
    have HU1 := Lib.hid hD.u
    go_wp2_with (first | (with_reducible refine wpList_load_arr rfl 25 (.tmp 8) rfl g8 rfl .u8 32 25 (keyedAt Ky F) HU1.out _ Tryd.underlying25 rfl HN ?_) | (with_reducible refine wpList_store_arr rfl 25 (.tmp 9) (.tmp 22) rfl wc.heap.size .u8 32 (keyedAt Ky F) rfl rfl 25 _ Arr.new HN ?_))
    have hR3 := der2_mk (M := keyedAt Ky F) hD
    generalize World.setRow _ _ _ = w3 at hR3 ⊢
    generalize wc.heap.size = g9 at hR3 ⊢
    rw [HU0.out] at hR3
    have HR3 := Lib.hid (hR3.congr (M' := mixAt Ky s 1) fun j _ => (mixAt_one Ky s j).symm)
    clear hR3 hD HU1
    go_loopw [25] (fun i wr => ∃ k : Nat, k + 1 ≤ r ∧ i = .int .i64 k ∧ Der2 w Ky g7 g8 g9 (uAt Ky s k) (mixAt Ky s (k + 1)) wr) (fun i _ => r - 1 - (intOf i).toNat)
    case atStart => exact ⟨0, h0, rfl, HR3.out⟩
    case round =>
      obtain ⟨k, hk, rfl, hR⟩ := hrel
      by_cases hlt : k + 1 < r
      · have hlt2 : (k : Int) < (r : Int) - 1 := by omega
        have HRk := Lib.hid hR.drew
        clear hR
        have HUk := Lib.hid (uAt_succ Ky s k)
        obtain ⟨V, hV⟩ : ∃ V, V = uAt Ky s (k + 1) := ⟨_, rfl⟩
        rw [← hV] at HUk
        have HV := Lib.hid hV
        have HVL := Lib.hid (show ∀ j, V j < 256 by rw [hV]; exact fun j => uAt_lt Ky s (k + 1) j)
        clear hV
        have CU := Lib.hid (show ∀ W, Bs W (some ⟨g8, 0, none⟩) (bytesOf 32 (uAt Ky s k)) → Tabs W → Calls Tryd.prog 25 #[.agg (row .u8 64 Ky), .slice (some ⟨g8, 0, none⟩) 32 32] W (fun e w' => e = .returned (.agg (row .u8 32 V)) ∧ Below W.heap.size W w') from fun W h hT => by rw [HUk.out]; exact keyed_any Ky HKL.out _ _ 32 32 W (bytesOf_length _ _) h (by rw [bytesOf_length]; decide) hT)
        go_wp2_with fail
        refine wp_frame (Der2 w Ky g7 g8 g9 V (mixAt Ky s (k + 1))) ?_
        apply Exists.intro
        apply And.intro
        case left =>
          refine wp_region_any (by kernel_rfl) ?_
          change wpAny _ _ _ _ _ _ _ (World.drew _)
          refine wpAny_ready (rs := [0, 1]) (by kernel_rfl) (by simp) ?_
          refine AllReady.cons rfl (fun K hK => ?_) ?_
          · with_reducible refine step_load_arr rfl 46 (.tmp 7) rfl g7 rfl .u8 64 46 Ky HRk.out.o.o.k _ Tryd.underlying46 rfl H64 ?_
            refine hK _ _ ?_
            clear hK K
            refine wpAny_ready (rs := [1]) (by kernel_rfl) (by simp) ?_
            refine AllReady.cons rfl (fun K hK => ?_) ?_
            · go_simp
              refine hK _ _ ?_
              clear hK K
              refine wpAny_ready (rs := [2]) (by kernel_rfl) (by simp) ?_
              refine AllReady.cons rfl (fun K hK => ?_) ?_
              · rw [if_pos (by rfl)]
                go_simp
                refine (CU.out _ (arr_bs HRk.out.o.u (uAt_lt Ky s k)) (HG.out.keep HRk.out.o.o.b)).mono ?_
                rintro e w5 ⟨rfl, hb5⟩
                have HR5 := Lib.hid (HRk.out.keep hb5)
                clear hb5
                refine hK _ _ ?_
                clear hK K
                refine wpAny_ready (rs := [3]) (by kernel_rfl) (by simp) ?_
                refine AllReady.cons rfl (fun K hK => ?_) ?_
                · with_reducible refine step_store_arr rfl rfl 25 (.tmp 8) (.tmp 29) rfl g8 .u8 32 V rfl rfl 25 _ HR5.out.o.u HN ?_
                  refine hK _ _ ?_
                  clear hK K
                  refine wpAny_done (by kernel_rfl) ?_ _
                  exact ⟨rfl, rfl, HR5.out.put V⟩
                exact AllReady.nil
              exact AllReady.nil
            exact AllReady.nil
          refine AllReady.cons rfl (fun K hK => ?_) ?_
          · go_simp
            refine hK _ _ ?_
            clear hK K
            refine wpAny_ready (rs := [0]) (by kernel_rfl) (by simp) ?_
            refine AllReady.cons rfl (fun K hK => ?_) ?_
            · with_reducible refine step_load_arr rfl 46 (.tmp 7) rfl g7 rfl .u8 64 46 Ky HRk.out.o.o.k _ Tryd.underlying46 rfl H64 ?_
              refine hK _ _ ?_
              clear hK K
              refine wpAny_ready (rs := [2]) (by kernel_rfl) (by simp) ?_
              refine AllReady.cons rfl (fun K hK => ?_) ?_
              · rw [if_pos (by rfl)]
                go_simp
                refine (CU.out _ (arr_bs HRk.out.o.u (uAt_lt Ky s k)) (HG.out.keep HRk.out.o.o.b)).mono ?_
                rintro e w5 ⟨rfl, hb5⟩
                have HR5 := Lib.hid (HRk.out.keep hb5)
                clear hb5
                refine hK _ _ ?_
                clear hK K
                refine wpAny_ready (rs := [3]) (by kernel_rfl) (by simp) ?_
                refine AllReady.cons rfl (fun K hK => ?_) ?_
                · with_reducible refine step_store_arr rfl rfl 25 (.tmp 8) (.tmp 29) rfl g8 .u8 32 V rfl rfl 25 _ HR5.out.o.u HN ?_
                  refine hK _ _ ?_
                  clear hK K
                  refine wpAny_done (by kernel_rfl) ?_ _
                  exact ⟨rfl, rfl, HR5.out.put V⟩
                exact AllReady.nil
              exact AllReady.nil
            exact AllReady.nil
          exact AllReady.nil
        case right =>
          intro w6 hR6
          obtain ⟨M, hM⟩ : ∃ M, M = mixAt Ky s (k + 1) := ⟨_, rfl⟩
          have HMS := Lib.hid (show ∀ j, j < 32 → part M V 32 j = mixAt Ky s (k + 1 + 1) j by
            intro j hj
            rw [part_all _ _ _ hj, mixAt_succ, hM, HV.out])
          have HML := Lib.hid (show ∀ j, M j < 256 by rw [hM]; exact fun j => mixAt_lt Ky s j (k + 1))
          rw [← hM] at hR6
          clear hM
          have HU6 := Lib.hid hR6.o.u
          go_wp2_with (with_reducible refine wpList_load_arr rfl 25 (.tmp 8) rfl g8 rfl .u8 32 25 V HU6.out _ Tryd.underlying25 rfl HN ?_)
          have HR6 := Lib.hid hR6
          clear hR6 HU6
          go_loopw [31] (fun i wr => ∃ j : Nat, j ≤ 32 ∧ i = .int .i64 j ∧ Der2 w Ky g7 g8 g9 V (part M V j) wr) (fun i _ => 32 - (intOf i).toNat)
          case atStart => exact ⟨0, by decide, rfl, HR6.out.congr fun j _ => by unfold part; rw [if_neg (Nat.not_lt_zero j)]⟩
          case round =>
            obtain ⟨j, hj, rfl, hRj⟩ := hrel
            by_cases hjl : j < 32
            · have hix := run_index_row (P := Tryd.prog) 25 5 32 .u8 V j Tryd.underlying25 size_u8' agg_u8 hjl
              have c0 := hRj.m.at_ j hjl
              rw [part_at] at c0
              have z0 := hRj.m.frz j
              have hx := u8_xor_nat (M j) (V j) (HML.out j) (HVL.out j)
              have hx1 := HML.out j
              have hx2 := HVL.out j
              have HRj := Lib.hid ((hRj.set j (M j ^^^ V j)).congr fun q _ => part_next M V j q)
              clear hRj
              go_wp2_with fail
              go_roundw
              case rel => exact ⟨j + 1, by omega, by go_num, HRj.out⟩
              case measure => simp [intOf]; omega
            · have HRj := Lib.hid (hRj.congr (M' := mixAt Ky s (k + 1 + 1)) fun q hq => by rw [show j = 32 by omega]; exact HMS.out q hq)
              clear hRj
              go_wp2_with fail
              go_roundw
              case rel => exact ⟨k + 1, by omega, by go_num, by rw [← HV.out]; exact HRj.out⟩
              case measure => simp [intOf]; omega
      · have hlt2 : ¬ (k : Int) < (r : Int) - 1 := by omega
        have hM := hR.m
        have hZ := hR.o.o.z
        have hbw := hR.o.o.b
        rw [show k + 1 = r by omega] at hM
        clear hR HD
        go_wp2_with (first | (with_reducible refine wpList_load_arr rfl 25 (.tmp 9) rfl g9 rfl .u8 32 25 (mixAt Ky s r) hM _ Tryd.underlying25 rfl HN ?_) | (with_reducible refine wpList_store_arr rfl 25 (.tmp 6) (.tmp 43) rfl w.heap.size .u8 32 (mixAt Ky s r) rfl rfl 25 _ hZ HN ?_))
        exact bodyPost_ret (results_arr rfl _ _ w.heap.size 25 .u8 32 (mixAt Ky s r) _ rfl (hZ.setRow _) Tryd.underlying25 rfl HN) rfl ⟨rfl, below_setRow hbw (Nat.le_refl _) _⟩

end Go.Proofs.YtjcohlpjlifolaaDoor.MacT
