/-
  'tipstafflaw03.MacRounds': for all passwords and salts it answers true.
-/
import Derived.Test.YtjcohlpjlifolaaDoorMacLaw
import Derived.Test.YtjcohlpjlifolaaDoorQuietTail
namespace Go.Proofs.YtjcohlpjlifolaaDoor.macRounds
open Go.RowKit Kit ShaMath ShaT MacM MacT
open Go.Sort (grow)
set_option linter.unusedVariables false
set_option maxRecDepth 100000
-- ASKS: ShaT.Tabs NumL.Gd MacT.Mx
-- NIL

theorem lit4_bs (w : World) : Bs (w.alloc (.cells #[.int .u8 0, .int .u8 0, .int .u8 0, .int .u8 1] 5)) (some ⟨w.heap.size, 0, none⟩) [0, 0, 0, 1] := by
  intro _
  refine ⟨_, 0, rfl, by simp, fun j hj => ?_⟩
  match j, hj with
  | 0, _ => simp [World.cell?_alloc_mark]
  | 1, _ => simp [World.cell?_alloc_mark]
  | 2, _ => simp [World.cell?_alloc_mark]
  | 3, _ => simp [World.cell?_alloc_mark]
  | j + 4, hj => exact absurd (show j + 4 < 4 from hj) (by omega)
theorem der_1 (P S : List UInt8) : derAt P S 1 = macAt P (firstMsg S) := by
  rw [derAt_in (by omega)]
  funext j
  show mixAt (keyAt P) S 1 j = _
  rw [mixAt_one]
  rfl
theorem der_2 (P S : List UInt8) : derAt P S 2 = fun j => macAt P (firstMsg S) j ^^^ macAt P (bytesOf 32 (macAt P (firstMsg S))) j := by
  rw [derAt_in (by omega)]
  funext j
  show mixAt (keyAt P) S (1 + 1) j = _
  rw [mixAt_succ, mixAt_one, uAt_succ]
  rfl
/-- The sums so far, and the row that is turned. -/
structure RRel (w : World) (g8 g9 g10 : Nat) (U V f : Nat → Nat) (wr : World) : Prop where
  b : Below w.heap.size w wr
  u : Arr wr g8 .u8 32 25 U
  v : Arr wr g9 .u8 32 25 V
  t : Arr wr g10 .u8 32 25 f
  h8 : w.heap.size ≤ g8
  h9 : g8 < g9
  h10 : g9 < g10
theorem RRel.drewN {w : World} {g8 g9 g10 : Nat} {U V f : Nat → Nat} {wr : World} (h : RRel w g8 g9 g10 U V f wr) (q : Nat) : RRel w g8 g9 g10 U V f (wr.drewN q) :=
  ⟨h.b.trans ⟨rfl, rfl, rfl, Nat.le_refl _, fun _ _ => rfl⟩, h.u.drewN q, h.v.drewN q, h.t.drewN q, h.h8, h.h9, h.h10⟩
theorem RRel.set {w : World} {g8 g9 g10 : Nat} {U V f : Nat → Nat} {wr : World} (h : RRel w g8 g9 g10 U V f wr) (j v : Nat) : RRel w g8 g9 g10 U V (upd f j v) (wr.setCell ⟨g10, j, none⟩ (.int .u8 (v : Int))) := by
  have h1 := h.h8
  have h2 := h.h9
  have h3 := h.h10
  exact ⟨h.b.setCell (by simp; omega) _, h.u.other _ _ (by simp; omega), h.v.other _ _ (by simp; omega), h.t.set _ _, h1, h2, h3⟩
theorem RRel.congr {w : World} {g8 g9 g10 : Nat} {U V f f' : Nat → Nat} {wr : World} (h : RRel w g8 g9 g10 U V f wr) (e : ∀ j, j < 32 → f j = f' j) : RRel w g8 g9 g10 U V f' wr := ⟨h.b, h.u, h.v, h.t.congr e, h.h8, h.h9, h.h10⟩
/-- So many bytes of it. -/
def doneTo (U V : Nat → Nat) (k : Nat) : Nat → Nat := fun j => if j < k then U j ^^^ V j else 0
theorem doneTo_next (U V : Nat → Nat) (k j : Nat) : upd (doneTo U V k) k (U k ^^^ V k) j = doneTo U V (k + 1) j := by
  unfold upd doneTo
  by_cases e : j = k
  · subst e; rw [if_pos rfl, if_pos (by omega)]
  · rw [if_neg e]
    by_cases h : j < k
    · rw [if_pos h, if_pos (by omega)]
    · rw [if_neg h, if_neg (by omega)]

set_option maxHeartbeats 2000000 in
theorem walk (p : Option Addr) (l : List UInt8) (cap : Nat) (q : Option Addr) (m : List UInt8) (cap2 : Nat) (w : World) (hb : Bs w p l) (hl : l.length ≤ 140737488351232) (hlc : l.length ≤ cap) (hc : cap ≤ 9223372036854775807) (hnil : p = none → cap = 0)
    (hb2 : Bs w q m) (hl2 : m.length ≤ 140737488351232) (hlc2 : m.length ≤ cap2) (hc2 : cap2 ≤ 9223372036854775807) (hnil2 : q = none → cap2 = 0) (hg1 : Tabs w) (hg2 : NumL.Gd w) (hg3 : Mx w) :
    Calls Tryd.prog 7 #[.slice p l.length cap, .slice q m.length cap2] w fun e w' => e = .returned (.bool true) ∧ Below w.heap.size w w' := by
  have HG := Lib.hid (All.mk hg1 hg2 hg3)
  have HB := Lib.hid hb
  have HM := Lib.hid hb2
  obtain ⟨hz3, hn3⟩ := zero_of_info info_32
  have HN := Lib.hid hn3
  clear hg1 hg2 hg3 hb hb2 hn3
  go_enter Tryd.func7, Tryd.ntmps7
  go_wp2_with fail
  refine (shown_any _ HG.out).mono ?_
  rintro e w1 ⟨rfl, hb1⟩
  have HB1 := Lib.hid hb1
  clear hb1
  go_wp2_with fail
  refine (some_any p l l.length cap _ rfl (HB.out.keep HB1.out) hlc hc).mono ?_
  rintro e w' ⟨rfl, rfl⟩
  have hp100 : (l.take 100).length ≤ 100 := by rw [List.length_take]; omega
  have hpc : (l.take 100).length ≤ cap := by rw [List.length_take]; omega
  have HP1 := Lib.hid ((HB.out.keep HB1.out).take 100)
  have HP0 := Lib.hid (HB.out.take 100)
  obtain ⟨P, hP⟩ : ∃ P, P = l.take 100 := ⟨_, rfl⟩
  rw [← hP] at hp100 hpc HP1 HP0 ⊢
  clear hP HB
  go_wp2_with fail
  refine (some_any q m m.length cap2 _ rfl (HM.out.keep HB1.out) hlc2 hc2).mono ?_
  rintro e w' ⟨rfl, rfl⟩
  have hs100 : (m.take 100).length ≤ 100 := by rw [List.length_take]; omega
  have HS1 := Lib.hid ((HM.out.keep HB1.out).take 100)
  have HS0 := Lib.hid (HM.out.take 100)
  obtain ⟨S, hS⟩ : ∃ S, S = m.take 100 := ⟨_, rfl⟩
  rw [← hS] at hs100 HS1 HS0 ⊢
  clear hS HM
  obtain ⟨F, hF⟩ : ∃ F, F = firstMsg S := ⟨_, rfl⟩
  have hFl : F.length = S.length + 4 := by rw [hF]; simp [firstMsg]
  have HF := Lib.hid (show F = S ++ [0, 0, 0, 1] from hF)
  obtain ⟨U, hU⟩ : ∃ U, U = macAt P F := ⟨_, rfl⟩
  obtain ⟨V, hV⟩ : ∃ V, V = macAt P (bytesOf 32 U) := ⟨_, rfl⟩
  have HUL := Lib.hid (show ∀ j, U j < 256 by rw [hU]; exact macAt_lt _ _)
  have HVL := Lib.hid (show ∀ j, V j < 256 by rw [hV]; exact macAt_lt _ _)
  have HU := Lib.hid hU
  have HV := Lib.hid hV
  have HD1 := Lib.hid (show derAt P S 1 = U by rw [der_1, hU, hF])
  have HD2 := Lib.hid (show derAt P S 2 = (fun j => U j ^^^ V j) by rw [der_2, hV, hU, hF])
  have HFl := Lib.hid hFl
  clear hF hU hV hFl
  go_wp2_with (with_reducible refine wpList_append_bs (w0 := w1) rfl (.tmp 19) (.tmp 20) rfl (.slice (some ⟨w1.heap.size, 0, none⟩) 0 0) [] rfl (Own.new w1) (below1 _ _) q S _ cap2 rfl rfl (HS1.out.keep (below1 _ _)) hnil2 ?c1 S rfl ?_)
  case c1 => simp; omega
  intro v2 w2 ho2 hb2
  have HO2 := Lib.hid ho2
  have HB2 := Lib.hid hb2
  clear ho2 hb2
  go_wp2_with (with_reducible refine wpList_append_bs (w0 := w1) rfl (.tmp 21) (.tmp 22) rfl v2 S rfl (HO2.out.al _) (HB2.out.alloc HB2.out.size _) (some ⟨w2.heap.size, 0, none⟩) [0, 0, 0, 1] 4 4 rfl rfl (lit4_bs w2) ?c2 ?c1 F HF.out ?_)
  case c2 => exact fun h => by cases h
  case c1 => omega
  intro v3 w3 ho3 hb3
  obtain ⟨pf, cf, rfl, hbf, hfc, hfm, -⟩ := ho3.full
  have HB3 := Lib.hid (HB1.out.trans (hb3.mono HB1.out.size))
  have HP3 := Lib.hid (HP1.out.keep hb3)
  have HS3 := Lib.hid (HS1.out.keep hb3)
  have C1 := Lib.hid (show Calls Tryd.prog 12 #[.slice p P.length cap, .slice pf F.length cf] w3 (fun e w' => e = .returned (.agg (row .u8 32 U)) ∧ Below w3.heap.size w3 w') by rw [HU.out]; exact mac_any p P _ cap pf F _ cf w3 rfl HP3.out (by omega) hpc hc rfl hbf (by rw [HFl.out]; omega) (HG.out.t.keep HB3.out))
  clear ho3 hb3 hbf HO2 HB2 HB1 HP1 HS1
  go_wp2_with fail
  refine C1.out.mono ?_
  rintro e w4 ⟨rfl, hb4⟩
  have HB4 := Lib.hid (HB3.out.trans (hb4.mono HB3.out.size))
  have HP4 := Lib.hid (HP3.out.keep hb4)
  have HS4 := Lib.hid (HS3.out.keep hb4)
  clear hb4 HB3 HP3 HS3 C1
  go_wp2_with (with_reducible refine wpList_store_arr rfl 25 (.tmp 8) (.tmp 24) rfl w4.heap.size .u8 32 U rfl rfl 25 _ Arr.new HN ?_)
  have hb5 : Below w4.heap.size w4 ((w4.alloc (.cells (row .u8 32 fun _ => 0) 25)).setRow w4.heap.size (row .u8 32 U)) := below_setRow (below1 _ _) (Nat.le_refl _) _
  have hA5 : Arr ((w4.alloc (.cells (row .u8 32 fun _ => 0) 25)).setRow w4.heap.size (row .u8 32 U)) w4.heap.size .u8 32 25 U := Arr.new.setRow _
  have hg8 : w.heap.size ≤ w4.heap.size := HB4.out.size
  generalize World.setRow _ _ _ = w5 at hb5 hA5 ⊢
  have HB5 := Lib.hid (HB4.out.trans (hb5.mono HB4.out.size))
  have HP5 := Lib.hid (HP4.out.keep hb5)
  have HS5 := Lib.hid (HS4.out.keep hb5)
  generalize w4.heap.size = g8 at hA5 hg8 ⊢
  have HA5 := Lib.hid hA5
  have C2 := Lib.hid (show Calls Tryd.prog 12 #[.slice p P.length cap, .slice (some ⟨g8, 0, none⟩) 32 32] w5 (fun e w' => e = .returned (.agg (row .u8 32 V)) ∧ Below w5.heap.size w5 w') by rw [HV.out]; exact mac_any p P _ cap _ (bytesOf 32 U) 32 32 w5 rfl HP5.out (by omega) hpc hc (bytesOf_length _ _) (arr_bs HA5.out HUL.out) (by rw [bytesOf_length]; decide) (HG.out.t.keep HB5.out))
  clear hb5 hA5 HB4 HP4 HS4
  go_wp2_with fail
  refine C2.out.mono ?_
  rintro e w6 ⟨rfl, hb6⟩
  have HB6 := Lib.hid (HB5.out.trans (hb6.mono HB5.out.size))
  have HP6 := Lib.hid (HP5.out.keep hb6)
  have HS6 := Lib.hid (HS5.out.keep hb6)
  have HA6 := Lib.hid (HA5.out.keep hb6 HA5.out.lt)
  have hg9 : g8 < w6.heap.size := HA6.out.lt
  clear hb6 HB5 HP5 HS5 HA5 C2
  go_upto_region 6 with (with_reducible refine wpList_store_arr rfl 25 (.tmp 9) (.tmp 27) rfl w6.heap.size .u8 32 V rfl rfl 25 _ Arr.new HN ?_)
  go_simp
  have hb7 : Below w6.heap.size w6 ((w6.alloc (.cells (row .u8 32 fun _ => 0) 25)).setRow w6.heap.size (row .u8 32 V)) := below_setRow (below1 _ _) (Nat.le_refl _) _
  have hA7 : Arr ((w6.alloc (.cells (row .u8 32 fun _ => 0) 25)).setRow w6.heap.size (row .u8 32 V)) w6.heap.size .u8 32 25 V := Arr.new.setRow _
  generalize World.setRow _ _ _ = w7 at hb7 hA7 ⊢
  have HB7 := Lib.hid (HB6.out.trans (hb7.mono HB6.out.size))
  have HP7 := Lib.hid (HP6.out.keep hb7)
  have HS7 := Lib.hid (HS6.out.keep hb7)
  have HA7 := Lib.hid (HA6.out.keep hb7 HA6.out.lt)
  have HV7 := Lib.hid hA7
  generalize w6.heap.size = g9 at HV7 hg9 ⊢
  clear hb7 hA7 HB6 HP6 HS6 HA6
  have hbd := build_32
  go_upto_region 7 with (with_reducible refine wpList_store_arr rfl 25 (.tmp 10) (.tmp 28) rfl w7.heap.size .u8 32 (fun _ => 0) rfl rfl 25 _ Arr.new HN ?_)
  go_simp
  have hb8 : Below w7.heap.size w7 ((w7.alloc (.cells (row .u8 32 fun _ => 0) 25)).setRow w7.heap.size (row .u8 32 fun _ => 0)) := below_setRow (below1 _ _) (Nat.le_refl _) _
  have hA8 : Arr ((w7.alloc (.cells (row .u8 32 fun _ => 0) 25)).setRow w7.heap.size (row .u8 32 fun _ => 0)) w7.heap.size .u8 32 25 (fun _ => 0) := Arr.new.setRow _
  generalize World.setRow _ _ _ = w8 at hb8 hA8 ⊢
  have HB8 := Lib.hid (HB7.out.trans (hb8.mono HB7.out.size))
  have hg10 : g9 < w7.heap.size := HV7.out.lt
  have HR8 := Lib.hid (show RRel w g8 g9 w7.heap.size U V (doneTo U V 0) w8 from ⟨HB8.out, HA7.out.keep hb8 HA7.out.lt, HV7.out.keep hb8 HV7.out.lt, hA8.congr (fun j _ => by unfold doneTo; rw [if_neg (Nat.not_lt_zero j)]), hg8, hg9, hg10⟩)
  have HP8 := Lib.hid (HP7.out.keep hb8)
  have HS8 := Lib.hid (HS7.out.keep hb8)
  have HW7 := Lib.hid hb8.size
  generalize w7.heap.size = g10 at HR8 hg10 HW7 ⊢
  clear hb8 hA8 HB7 HP7 HS7 HA7 HV7
  go_wp2_with fail
  go_loopw [11] (fun i wr => ∃ k : Nat, k ≤ 32 ∧ i = .int .i64 k ∧ RRel w g8 g9 g10 U V (doneTo U V k) wr) (fun i _ => 32 - (intOf i).toNat)
  case atStart => exact ⟨0, by decide, rfl, HR8.out⟩
  case round =>
    obtain ⟨k, hk, rfl, hR⟩ := hrel
    by_cases hlt : k < 32
    · have c8 := hR.u.at_ k hlt
      have c9 := hR.v.at_ k hlt
      have c10 := hR.t.at_ k hlt
      have z10 := hR.t.frz k
      have hx := u8_xor_nat (U k) (V k) (HUL.out k) (HVL.out k)
      have hx1 := HUL.out k
      have hx2 := HVL.out k
      have HR := Lib.hid hR
      clear hR
      go_wp2_with fail
      refine wp_region_quiet_tail_lit 9 (by kernel_rfl) (by kernel_rfl) ?_
      simp only [List.take_succ_cons, List.take_zero, List.drop_succ_cons, List.drop_zero]
      repeat (go_big_quiet_step (fail))
      refine wpQuiet_nil ?_
      rintro _ ⟨nq, rfl⟩
      have HRq := Lib.hid (HR.out.drewN nq)
      clear c8 c9 c10 z10 HR
      generalize wr.drewN nq = wq at HRq ⊢
      have c10 := HRq.out.t.at_ k hlt
      have z10 := HRq.out.t.frz k
      go_wp2_with fail
      go_roundw
      case rel => exact ⟨k + 1, by omega, by go_num, (HRq.out.set k (U k ^^^ V k)).congr fun j _ => doneTo_next U V k j⟩
      case measure => simp [intOf]; omega
    · have HR := Lib.hid (hR.congr (f' := fun j => U j ^^^ V j) fun j hj => by unfold doneTo; rw [if_pos (by omega)])
      clear hR
      obtain ⟨T, hT⟩ : ∃ T : Nat → Nat, T = fun j => U j ^^^ V j := ⟨_, rfl⟩
      have HTL := Lib.hid (show ∀ j, T j < 256 by rw [hT]; exact fun j => Nat.xor_lt_two_pow (n := 8) (HUL.out j) (HVL.out j))
      rw [← hT] at HR HD2
      clear hT
      have hg12 : w.heap.size ≤ wr.heap.size := HR.out.b.size
      go_upto_region 12 with (with_reducible refine wpList_store_arr rfl 25 (.tmp 12) (.tmp 42) rfl wr.heap.size .u8 32 (fun _ => 0) rfl rfl 25 _ Arr.new HN ?_)
      go_simp
      have hb9 : Below wr.heap.size wr ((wr.alloc (.cells (row .u8 32 fun _ => 0) 25)).setRow wr.heap.size (row .u8 32 fun _ => 0)) := below_setRow (below1 _ _) (Nat.le_refl _) _
      have hA12 : Arr ((wr.alloc (.cells (row .u8 32 fun _ => 0) 25)).setRow wr.heap.size (row .u8 32 fun _ => 0)) wr.heap.size .u8 32 25 (fun _ => 0) := Arr.new.setRow _
      generalize World.setRow _ _ _ = w9 at hb9 hA12 ⊢
      have hb := HR.out.b.trans (hb9.mono HR.out.b.size)
      have HA8 := Lib.hid (HR.out.u.keep hb9 HR.out.u.lt)
      have HA10 := Lib.hid (HR.out.t.keep hb9 HR.out.t.lt)
      generalize wr.heap.size = g12 at hA12 ⊢
      have HA12 := Lib.hid hA12
      have HP9 := Lib.hid (HP0.out.keep hb)
      have HS9 := Lib.hid (HS0.out.keep hb)
      have HT9 := Lib.hid (HG.out.t.keep hb)
      have CI := Lib.hid (fun W (r : Nat) (h0 : 1 ≤ r) (h1 : r ≤ 64) (a1 : Bs W p P) (a2 : Bs W q S) (a3 : Tabs W) => derive_in p P _ cap q S _ cap2 r W h0 h1 rfl a1 (by omega) hpc hc rfl a2 (by omega) a3)
      have Q1 := Lib.hid (show ∀ d os, Calls Tryd.prog 14 #[.slice p P.length cap, .slice q S.length cap2, .int .i64 1] (grow (redrawn w9 d) os) (fun e w'' => e = .returned (.agg (row .u8 32 U)) ∧ ∃ p : Regrown, w'' = grow (redrawn w9 p.d) p.os) from fun d os => Calls.regrown_of (by rw [← HD1.out]; exact CI.out _ 1 (by decide) (by decide) (HP9.out.keep (below_regrown w9 d os)) (HS9.out.keep (below_regrown w9 d os)) (HT9.out.keep (below_regrown w9 d os))))
      have Q2 := Lib.hid (show ∀ d os, Calls Tryd.prog 14 #[.slice p P.length cap, .slice q S.length cap2, .int .i64 2] (grow (redrawn w9 d) os) (fun e w'' => e = .returned (.agg (row .u8 32 T)) ∧ ∃ p : Regrown, w'' = grow (redrawn w9 p.d) p.os) from fun d os => Calls.regrown_of (by rw [← HD2.out]; exact CI.out _ 2 (by decide) (by decide) (HP9.out.keep (below_regrown w9 d os)) (HS9.out.keep (below_regrown w9 d os)) (HT9.out.keep (below_regrown w9 d os))))
      have CO := Lib.hid (fun W (r : Int) (h : ¬ (1 ≤ r ∧ r ≤ 64)) => derive_out p P P.length cap q S S.length cap2 r W h)
      have Q3 := Lib.hid (show ∀ (r : Int), ¬ (1 ≤ r ∧ r ≤ 64) → ∀ d os, Calls Tryd.prog 14 #[.slice p P.length cap, .slice q S.length cap2, .int .i64 r] (grow (redrawn w9 d) os) (fun e w'' => e = .returned (.agg (row .u8 32 fun _ => 0)) ∧ ∃ p : Regrown, w'' = grow (redrawn w9 p.d) p.os) from fun r h d os => Calls.regrown_of (by have := CO.out (grow (redrawn w9 d) os) r h; rwa [derAt_out h] at this))
      have e1 := fun W => eql_row U HUL.out W
      have e2 := fun W => eql_row T HTL.out W
      have e3 := fun W => eql_row (fun _ => 0) (fun _ => by decide) W
      clear CI CO HP9 HS9 HT9 HR hA12 hb9
      refine wp_region_quiet_below (by kernel_rfl) (by kernel_rfl) ?_
      repeat (any_goals (first | (refine wpQuiet_step (fun K hK => ?_); rw [if_pos (by rfl)]; (first | (with_reducible refine quiet_load_arrB 25 (.tmp 8) rfl g8 rfl .u8 32 25 U HA8.out _ Tryd.underlying25 rfl HN ?_) | (with_reducible refine quiet_load_arrB 25 (.tmp 10) rfl g10 rfl .u8 32 25 T HA10.out _ Tryd.underlying25 rfl HN ?_) | (with_reducible refine quiet_load_arrB 25 (.tmp 12) rfl g12 rfl .u8 32 25 (fun _ => 0) HA12.out _ Tryd.underlying25 rfl HN ?_)); go_simp; refine hK _ ?_; clear hK K) | go_big_quiet_step (first | (go_at_call 14; with_reducible exact Q1.out _ _) | (go_at_call 14; with_reducible exact Q2.out _ _) | (go_at_call 14; with_reducible exact Q3.out _ (by decide) _ _))))
      refine wpQuiet_nil ?_
      intro _ hw'
      obtain ⟨⟨dq, osq⟩, hw''⟩ := hw'
      subst hw''
      replace hb := hb.trans ((below_regrown _ dq osq).mono hb.size)
      clear Q1 Q2 Q3
      go_wp2_with fail
      go_ret
      exact ⟨rfl, hb⟩

end Go.Proofs.YtjcohlpjlifolaaDoor.macRounds
