/-
  What the reference's Derive comes to.
-/
import Derived.Test.YtjcohlpjlifolaaDoorRefMac2
import Derived.Test.YtjcohlpjlifolaaDoorMacRoundsWalk
namespace Go.Proofs.YtjcohlpjlifolaaDoor.RefM
open Go.RowKit Kit ShaMath ShaT MacM MacT RefT
open Go.Sort (grow)
set_option linter.unusedVariables false
set_option maxRecDepth 100000

/-- The answer's place, and what is mixed. -/
structure DRel (w : World) (g7 : Nat) (M : Nat → Nat) (wr : World) : Prop where
  b : Below w.heap.size w wr
  z : Arr wr w.heap.size .u8 32 25 (fun _ => 0)
  m : Arr wr g7 .u8 32 25 M
  lt : w.heap.size < g7
theorem DRel.keep {w : World} {g7 : Nat} {M : Nat → Nat} {wr w' : World} (h : DRel w g7 M wr) (hb : Below wr.heap.size wr w') : DRel w g7 M w' :=
  ⟨h.b.trans (hb.mono h.b.size), h.z.keep hb h.z.lt, h.m.keep hb h.m.lt, h.lt⟩
theorem DRel.congr {w : World} {g7 : Nat} {M M' : Nat → Nat} {wr : World} (h : DRel w g7 M wr) (e : ∀ j, j < 32 → M j = M' j) : DRel w g7 M' wr := ⟨h.b, h.z, h.m.congr e, h.lt⟩
/-- And the round's sum. -/
structure ERel (w : World) (g7 g10 : Nat) (M U : Nat → Nat) (wr : World) : Prop where
  o : DRel w g7 M wr
  u : Arr wr g10 .u8 32 25 U
  lt : g7 < g10
theorem ERel.drewN {w : World} {g7 g10 : Nat} {M U : Nat → Nat} {wr : World} (h : ERel w g7 g10 M U wr) (q : Nat) : ERel w g7 g10 M U (wr.drewN q) :=
  ⟨⟨h.o.b.trans ⟨rfl, rfl, rfl, Nat.le_refl _, fun _ _ => rfl⟩, h.o.z.drewN q, h.o.m.drewN q, h.o.lt⟩, h.u.drewN q, h.lt⟩
theorem ERel.set {w : World} {g7 g10 : Nat} {M U : Nat → Nat} {wr : World} (h : ERel w g7 g10 M U wr) (j v : Nat) : ERel w g7 g10 (upd M j v) U (wr.setCell ⟨g7, j, none⟩ (.int .u8 (v : Int))) := by
  have h1 := h.lt
  have h2 := h.o.lt
  exact ⟨⟨h.o.b.setCell (by simp; omega) _, h.o.z.other _ _ (by simp; omega), h.o.m.set _ _, h2⟩, h.u.other _ _ (by simp; omega), h1⟩

set_option maxHeartbeats 1000000 in
theorem rderive_out (p : Option Addr) (l : List UInt8) (n cap : Nat) (q : Option Addr) (s : List UInt8) (m cap2 : Nat) (r : Int) (w : World) (h : ¬ (1 ≤ r ∧ r ≤ 64)) :
    Calls Tryd.prog 15 #[.slice p n cap, .slice q m cap2, .int .i64 r] w fun e w' => e = .returned (.agg (row .u8 32 (derAt l s r))) ∧ Below w.heap.size w w' := by
  obtain ⟨hz3, hn3⟩ := zero_of_info info_32
  have HN := Lib.hid hn3
  clear hn3
  rw [derAt_out h]
  have hbd := MacT.build_32
  by_cases h1 : r < 1
  · have d1 : decide (r < 1) = true := decide_eq_true h1
    clear h
    go_enter Tryd.func15, Tryd.ntmps15
    go_upto_region 2 with (with_reducible refine wpList_store_arr rfl 25 (.tmp 7) (.tmp 12) rfl (w.heap.size + 1) .u8 32 (fun _ => 0) rfl rfl 25 _ Arr.new1 HN ?_)
    go_simp
    have hb : Below w.heap.size w (((w.alloc (.cells (row .u8 32 fun _ => 0) 25)).alloc (.cells (row .u8 32 fun _ => 0) 25)).setRow (w.heap.size + 1) (row .u8 32 fun _ => 0)) := below_setRow (below2 _ _ _) (by omega) _
    have hA : Arr (((w.alloc (.cells (row .u8 32 fun _ => 0) 25)).alloc (.cells (row .u8 32 fun _ => 0) 25)).setRow (w.heap.size + 1) (row .u8 32 fun _ => 0)) (w.heap.size + 1) .u8 32 25 (fun _ => 0) := Arr.new1.setRow _
    have hZ : Arr (((w.alloc (.cells (row .u8 32 fun _ => 0) 25)).alloc (.cells (row .u8 32 fun _ => 0) 25)).setRow (w.heap.size + 1) (row .u8 32 fun _ => 0)) w.heap.size .u8 32 25 (fun _ => 0) := (Arr.new.al _).setRow_ne _ (by omega)
    generalize World.setRow _ _ _ = w2 at hb hA hZ ⊢
    go_wp2_with (first | (with_reducible refine wpList_load_arr rfl 25 (.tmp 7) rfl (w.heap.size + 1) rfl .u8 32 25 (fun _ => 0) hA _ Tryd.underlying25 rfl HN ?_) | (with_reducible refine wpList_store_arr rfl 25 (.tmp 6) (.tmp 19) rfl w.heap.size .u8 32 (fun _ => 0) rfl rfl 25 _ hZ HN ?_))
    exact bodyPost_ret (results_arr rfl _ _ w.heap.size 25 .u8 32 (fun _ => 0) _ rfl (hZ.setRow _) Tryd.underlying25 rfl HN) rfl ⟨rfl, below_setRow hb (Nat.le_refl _) _⟩
  · have d1 : decide (r < 1) = false := decide_eq_false h1
    have d2 : decide (64 < r) = true := decide_eq_true (by omega)
    clear h
    go_enter Tryd.func15, Tryd.ntmps15
    go_upto_region 2 with (with_reducible refine wpList_store_arr rfl 25 (.tmp 7) (.tmp 12) rfl (w.heap.size + 1) .u8 32 (fun _ => 0) rfl rfl 25 _ Arr.new1 HN ?_)
    go_simp
    have hb : Below w.heap.size w (((w.alloc (.cells (row .u8 32 fun _ => 0) 25)).alloc (.cells (row .u8 32 fun _ => 0) 25)).setRow (w.heap.size + 1) (row .u8 32 fun _ => 0)) := below_setRow (below2 _ _ _) (by omega) _
    have hA : Arr (((w.alloc (.cells (row .u8 32 fun _ => 0) 25)).alloc (.cells (row .u8 32 fun _ => 0) 25)).setRow (w.heap.size + 1) (row .u8 32 fun _ => 0)) (w.heap.size + 1) .u8 32 25 (fun _ => 0) := Arr.new1.setRow _
    have hZ : Arr (((w.alloc (.cells (row .u8 32 fun _ => 0) 25)).alloc (.cells (row .u8 32 fun _ => 0) 25)).setRow (w.heap.size + 1) (row .u8 32 fun _ => 0)) w.heap.size .u8 32 25 (fun _ => 0) := (Arr.new.al _).setRow_ne _ (by omega)
    generalize World.setRow _ _ _ = w2 at hb hA hZ ⊢
    go_wp2_with (first | (with_reducible refine wpList_load_arr rfl 25 (.tmp 7) rfl (w.heap.size + 1) rfl .u8 32 25 (fun _ => 0) hA _ Tryd.underlying25 rfl HN ?_) | (with_reducible refine wpList_store_arr rfl 25 (.tmp 6) (.tmp 19) rfl w.heap.size .u8 32 (fun _ => 0) rfl rfl 25 _ hZ HN ?_))
    exact bodyPost_ret (results_arr rfl _ _ w.heap.size 25 .u8 32 (fun _ => 0) _ rfl (hZ.setRow _) Tryd.underlying25 rfl HN) rfl ⟨rfl, below_setRow hb (Nat.le_refl _) _⟩

set_option maxHeartbeats 4000000 in
theorem rderive_in (p : Option Addr) (l : List UInt8) (n cap : Nat) (q : Option Addr) (s : List UInt8) (m cap2 : Nat) (r : Nat) (w : World) (h0 : 1 ≤ r) (h1 : r ≤ 64) (hn : l.length = n) (hb : Bs w p l) (hl : l.length ≤ 70368744170000) (hnil : p = none → cap = 0)
    (hm : s.length = m) (hbs : Bs w q s) (hl2 : s.length ≤ 70368744160000) (hnil2 : q = none → cap2 = 0) :
    Calls Tryd.prog 15 #[.slice p n cap, .slice q m cap2, .int .i64 (r : Int)] w fun e w' => e = .returned (.agg (row .u8 32 (derAt l s r))) ∧ Below w.heap.size w w' := by
  obtain ⟨hz3, hn3⟩ := zero_of_info info_32
  have HN := Lib.hid hn3
  clear hn3
  have hbd := MacT.build_32
  obtain ⟨Ky, hKy⟩ : ∃ Ky, Ky = keyAt l := ⟨_, rfl⟩
  have HD := Lib.hid (show derAt l s r = mixAt Ky s r by rw [derAt_in (by omega), hKy]; rfl)
  have HB := Lib.hid hb
  have HM := Lib.hid hbs
  have HMm := Lib.hid hm
  have hm2 : m ≤ 70368744160000 := by omega
  have CM := Lib.hid (show ∀ W (k : Nat) (pm : Option Addr) (x : List UInt8) (c : Nat), Bs W p l → Bs W pm x → x = msgAt Ky s k → x.length ≤ 70368744170000 → (pm = none → c = 0) → Calls Tryd.prog 13 #[.slice p n cap, .slice pm x.length c] W (fun e w' => e = .returned (.agg (row .u8 32 (uAt Ky s k))) ∧ Below W.heap.size W w') from fun W k pm x c a1 a2 a3 a4 a5 => by
    have := rmac_any p l n cap pm x x.length c W hn a1 hl hnil rfl a2 a4 a5
    rw [show macAt l x = uAt Ky s k by rw [a3, hKy]; rfl] at this
    exact this)
  rw [HD.out]
  obtain ⟨F, hF⟩ : ∃ F, F = firstMsg s := ⟨_, rfl⟩
  have hFl : F.length = m + 4 := by rw [hF]; simp [firstMsg]; omega
  have HF := Lib.hid (show F = s ++ [0, 0, 0, 1] from hF)
  have HF0 := Lib.hid (show F = msgAt Ky s 0 from hF)
  have HFl := Lib.hid hFl
  have d1 : decide ((r : Int) < 1) = false := decide_eq_false (by omega)
  have d2 : decide (64 < (r : Int)) = false := decide_eq_false (by omega)
  clear hn hm hb hbs hKy hF hFl
  go_enter Tryd.func15, Tryd.ntmps15
  go_upto_region 2 with (with_reducible refine wpList_store_arr rfl 25 (.tmp 7) (.tmp 12) rfl (w.heap.size + 1) .u8 32 (fun _ => 0) rfl rfl 25 _ Arr.new1 HN ?_)
  go_simp
  have hD0 : DRel w (w.heap.size + 1) (fun _ => 0) (((w.alloc (.cells (row .u8 32 fun _ => 0) 25)).alloc (.cells (row .u8 32 fun _ => 0) 25)).setRow (w.heap.size + 1) (row .u8 32 fun _ => 0)) :=
    ⟨below_setRow (below2 _ _ _) (by omega) _, (Arr.new.al _).setRow_ne _ (by omega), Arr.new1.setRow _, by omega⟩
  generalize World.setRow _ _ _ = w1 at hD0 ⊢
  have HD0 := Lib.hid (show DRel w (w.heap.size + 1) (mixAt Ky s 0) w1 from hD0)
  clear hD0
  generalize w.heap.size + 1 = g7 at HD0 ⊢
  go_wp2_with (with_reducible refine wpList_append_bs (w0 := w1) rfl (.tmp 20) (.tmp 21) rfl (.slice (some ⟨w1.heap.size, 0, none⟩) 0 0) [] rfl (Own.new w1) (below1 _ _) q s m cap2 rfl HMm.out ((HM.out.keep HD0.out.b).keep (below1 _ _)) hnil2 ?c1 s rfl ?_)
  case c1 => simp; omega
  intro v2 w2 ho2 hb2
  have HO2 := Lib.hid ho2
  have HB2 := Lib.hid hb2
  clear ho2 hb2
  go_wp2_with (with_reducible refine wpList_append_bs (w0 := w1) rfl (.tmp 22) (.tmp 23) rfl v2 s rfl (HO2.out.al _) (HB2.out.alloc HB2.out.size _) (some ⟨w2.heap.size, 0, none⟩) [0, 0, 0, 1] 4 4 rfl rfl (macRounds.lit4_bs w2) ?c2 ?c1 F HF.out ?_)
  case c2 => exact fun h => by cases h
  case c1 => have := HMm.out; omega
  intro v3 w3 ho3 hb3
  obtain ⟨pf, cf, rfl, hbf, -, -, hfnil⟩ := ho3.full
  have HD3 := Lib.hid (HD0.out.keep hb3)
  have HF3 := Lib.hid hbf
  clear ho3 hb3 hbf HO2 HB2 HD0
  go_wp2_with fail
  go_loopw [8, 9] (fun v i wr => ∃ (k : Nat) (pm : Option Addr) (x : List UInt8) (c : Nat), k ≤ r ∧ i = .int .i64 k ∧ v = .slice pm x.length c ∧ x = msgAt Ky s k ∧ x.length ≤ 70368744170000 ∧ Bs wr pm x ∧ (pm = none → c = 0) ∧ DRel w g7 (mixAt Ky s k) wr) (fun _ i _ => r - (intOf i).toNat)
  case atStart => exact ⟨0, pf, F, cf, by omega, rfl, rfl, HF0.out, by rw [HFl.out]; omega, HF3.out, hfnil, HD3.out⟩
  case round =>
    obtain ⟨k, pm, x, c, hk, rfl, rfl, hx, hxl, hbx, hxnil, hR⟩ := hrel
    have HX := Lib.hid hx
    have HBx := Lib.hid hbx
    have HR := Lib.hid hR
    clear hx hbx hR
    by_cases hlt : k < r
    · obtain ⟨M, hMe⟩ : ∃ M, M = mixAt Ky s k := ⟨_, rfl⟩
      obtain ⟨U, hUe⟩ : ∃ U, U = uAt Ky s k := ⟨_, rfl⟩
      have HML := Lib.hid (show ∀ j, M j < 256 by rw [hMe]; exact fun j => mixAt_lt Ky s j k)
      have HUL := Lib.hid (show ∀ j, U j < 256 by rw [hUe]; exact fun j => uAt_lt Ky s k j)
      have HMS := Lib.hid (show ∀ j, j < 32 → MacT.part M U 32 j = mixAt Ky s (k + 1) j by
        intro j hj
        rw [part_all _ _ _ hj, mixAt_succ, hMe, hUe])
      have HMU := Lib.hid (show bytesOf 32 U = msgAt Ky s (k + 1) by rw [msgAt_succ, hUe]; rfl)
      have CX := Lib.hid (show Calls Tryd.prog 13 #[.slice p n cap, .slice pm x.length c] wr (fun e w' => e = .returned (.agg (row .u8 32 U)) ∧ Below wr.heap.size wr w') by rw [hUe]; exact CM.out wr k pm x c (HB.out.keep HR.out.b) HBx.out HX.out hxl hxnil)
      rw [← hMe] at HR
      clear hMe hUe
      go_wp2_with fail
      refine CX.out.mono ?_
      rintro e w4 ⟨rfl, hb4⟩
      have HR4 := Lib.hid (HR.out.keep hb4)
      clear hb4 CX HR HBx HX
      go_upto_region 9 with (with_reducible refine wpList_store_arr rfl 25 (.tmp 10) (.tmp 32) rfl w4.heap.size .u8 32 U rfl rfl 25 _ Arr.new HN ?_)
      go_simp
      have hb5 : Below w4.heap.size w4 ((w4.alloc (.cells (row .u8 32 fun _ => 0) 25)).setRow w4.heap.size (row .u8 32 U)) := below_setRow (below1 _ _) (Nat.le_refl _) _
      have hE : ERel w g7 w4.heap.size M U ((w4.alloc (.cells (row .u8 32 fun _ => 0) 25)).setRow w4.heap.size (row .u8 32 U)) := ⟨HR4.out.keep hb5, Arr.new.setRow _, HR4.out.m.lt⟩
      generalize World.setRow _ _ _ = w5 at hE ⊢
      generalize w4.heap.size = g10 at hE ⊢
      clear hb5
      have HE := Lib.hid hE
      clear hE HR4
      go_wp2_with fail
      go_loopw [11] (fun i wr => ∃ j : Nat, j ≤ 32 ∧ i = .int .i64 j ∧ ERel w g7 g10 (MacT.part M U j) U wr) (fun i _ => 32 - (intOf i).toNat)
      case atStart => exact ⟨0, by decide, rfl, ⟨HE.out.o.congr (fun j _ => by unfold MacT.part; rw [if_neg (Nat.not_lt_zero j)]), HE.out.u, HE.out.lt⟩⟩
      case round =>
        obtain ⟨j, hj, rfl, hRj⟩ := hrel
        by_cases hjl : j < 32
        · have c7 := hRj.o.m.at_ j hjl
          rw [part_at] at c7
          have c10 := hRj.u.at_ j hjl
          have z7 := hRj.o.m.frz j
          have hx := u8_xor_nat (M j) (U j) (HML.out j) (HUL.out j)
          have hx1 := HML.out j
          have hx2 := HUL.out j
          have HRj := Lib.hid hRj
          clear hRj
          go_wp2_with fail
          refine wp_region_quiet_tail_lit 9 (by kernel_rfl) (by kernel_rfl) ?_
          simp only [List.take_succ_cons, List.take_zero, List.drop_succ_cons, List.drop_zero]
          repeat (go_big_quiet_step (fail))
          refine wpQuiet_nil ?_
          rintro _ ⟨nq, rfl⟩
          have HRq := Lib.hid (HRj.out.drewN nq)
          clear c7 c10 z7 HRj
          generalize wr.drewN nq = wq at HRq ⊢
          have c7 := HRq.out.o.m.at_ j hjl
          have z7 := HRq.out.o.m.frz j
          go_wp2_with fail
          go_roundw
          case rel =>
            have hs := HRq.out.set j (M j ^^^ U j)
            exact ⟨j + 1, by omega, by go_num, ⟨hs.o.congr (fun q _ => part_next M U j q), hs.u, hs.lt⟩⟩
          case measure => simp [intOf]; omega
        · have HRj := Lib.hid (show DRel w g7 (mixAt Ky s (k + 1)) wr from hRj.o.congr (M' := mixAt Ky s (k + 1)) fun q hq => by rw [show j = 32 by omega]; exact HMS.out q hq)
          have HUj := Lib.hid hRj.u
          clear hRj
          go_wp2_with (with_reducible refine wpList_append_bs (w0 := wr) rfl (.tmp 46) (.tmp 47) rfl (.slice (some ⟨wr.heap.size, 0, none⟩) 0 0) [] rfl (Own.new wr) (below1 _ _) (some ⟨g10, 0, none⟩) (bytesOf 32 U) 32 32 rfl (bytesOf_length _ _) ((arr_bs HUj.out HUL.out).keep (below1 _ _)) ?c2 ?c1 (bytesOf 32 U) rfl ?_)
          case c2 => exact fun h => by cases h
          case c1 => simp
          intro v8 w8 ho8 hb8
          obtain ⟨pn, cn, rfl, hbn, -, -, hnn⟩ := ho8.full
          have HN8 := Lib.hid hbn
          have HR8 := Lib.hid (HRj.out.keep hb8)
          clear ho8 hb8 hbn
          go_wp2_with fail
          go_roundw
          case rel => exact ⟨k + 1, pn, bytesOf 32 U, cn, by omega, by go_num, rfl, HMU.out, by rw [bytesOf_length]; decide, HN8.out, hnn, HR8.out⟩
          case measure => simp [intOf]; omega
    · have hkr : k = r := by omega
      subst hkr
      have hM := HR.out.m
      have hZ := HR.out.z
      have hbw := HR.out.b
      clear HR HD
      go_wp2_with (first | (with_reducible refine wpList_load_arr rfl 25 (.tmp 7) rfl g7 rfl .u8 32 25 (mixAt Ky s k) hM _ Tryd.underlying25 rfl HN ?_) | (with_reducible refine wpList_store_arr rfl 25 (.tmp 6) (.tmp 49) rfl w.heap.size .u8 32 (mixAt Ky s k) rfl rfl 25 _ hZ HN ?_))
      exact bodyPost_ret (results_arr rfl _ _ w.heap.size 25 .u8 32 (mixAt Ky s k) _ rfl (hZ.setRow _) Tryd.underlying25 rfl HN) rfl ⟨rfl, below_setRow hbw (Nat.le_refl _) _⟩

end Go.Proofs.YtjcohlpjlifolaaDoor.RefM
