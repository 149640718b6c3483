/-
  'tipstafflaw03.MacAll': for all keys, messages and rounds it answers true.
-/
import Derived.Test.YtjcohlpjlifolaaDoorRefDerive
namespace Go.Proofs.YtjcohlpjlifolaaDoor.macAll
open Go.RowKit Kit ShaMath ShaT MacM MacT RefM
open Go.Sort (grow)
set_option linter.unusedVariables false
set_option maxRecDepth 100000
-- ASKS: ShaT.Tabs NumL.Gd MacT.Mx
-- NIL

theorem derive_all (p : Option Addr) (l : List UInt8) (n cap : Nat) (q : Option Addr) (s : List UInt8) (m cap2 : Nat) (r : Int) (w : World) (hn : l.length = n) (hb : Bs w p l) (hmx : l.length ≤ 281474976710656) (hlc : l.length ≤ cap) (hc : cap ≤ 9223372036854775807)
    (hm : s.length = m) (hbs : Bs w q s) (hl : s.length ≤ 70368744160000) (hg : Tabs w) :
    Calls Tryd.prog 14 #[.slice p n cap, .slice q m cap2, .int .i64 r] w fun e w' => e = .returned (.agg (row .u8 32 (derAt l s r))) ∧ Below w.heap.size w w' := by
  by_cases h : 1 ≤ r ∧ r ≤ 64
  · obtain ⟨k, rfl⟩ : ∃ k : Nat, r = (k : Int) := ⟨r.toNat, by omega⟩
    exact derive_in p l n cap q s m cap2 k w (by omega) (by omega) hn hb hmx hlc hc hm hbs hl hg
  · exact derive_out p l n cap q s m cap2 r w h
theorem rderive_all (p : Option Addr) (l : List UInt8) (n cap : Nat) (q : Option Addr) (s : List UInt8) (m cap2 : Nat) (r : Int) (w : World) (hn : l.length = n) (hb : Bs w p l) (hl : l.length ≤ 70368744170000) (hnil : p = none → cap = 0)
    (hm : s.length = m) (hbs : Bs w q s) (hl2 : s.length ≤ 70368744160000) (hnil2 : q = none → cap2 = 0) :
    Calls Tryd.prog 15 #[.slice p n cap, .slice q m cap2, .int .i64 r] w fun e w' => e = .returned (.agg (row .u8 32 (derAt l s r))) ∧ Below w.heap.size w w' := by
  by_cases h : 1 ≤ r ∧ r ≤ 64
  · obtain ⟨k, rfl⟩ : ∃ k : Nat, r = (k : Int) := ⟨r.toNat, by omega⟩
    exact rderive_in p l n cap q s m cap2 k w (by omega) (by omega) hn hb hl hnil hm hbs hl2 hnil2
  · exact rderive_out p l n cap q s m cap2 r w h

set_option maxHeartbeats 2000000 in
theorem walk (p : Option Addr) (l : List UInt8) (cap : Nat) (q : Option Addr) (m : List UInt8) (cap2 : Nat) (r : Int) (w : World) (hb : Bs w p l) (hl : l.length ≤ 140737488351232) (hlc : l.length ≤ cap) (hc : cap ≤ 9223372036854775807) (hnil : p = none → cap = 0)
    (hb2 : Bs w q m) (hl2 : m.length ≤ 140737488351232) (hlc2 : m.length ≤ cap2) (hc2 : cap2 ≤ 9223372036854775807) (hnil2 : q = none → cap2 = 0) (r0 : -9223372036854775808 ≤ r) (r1 : r ≤ 9223372036854775807) (hg1 : Tabs w) (hg2 : NumL.Gd w) (hg3 : Mx w) :
    Calls Tryd.prog 3 #[.slice p l.length cap, .slice q m.length cap2, .int .i64 r] w fun e w' => e = .returned (.bool true) ∧ Below w.heap.size w w' := by
  have HG := Lib.hid (All.mk hg1 hg2 hg3)
  have HB := Lib.hid hb
  have HM := Lib.hid hb2
  clear hg1 hg2 hg3 hb hb2
  go_enter Tryd.func3, Tryd.ntmps3
  go_wp2_with fail
  refine (shown_any _ HG.out).mono ?_
  rintro e w1 ⟨rfl, hb1⟩
  have HB1 := Lib.hid hb1
  clear hb1
  go_wp2_with fail
  refine (some_any p l l.length cap _ rfl (HB.out.keep HB1.out) hlc hc).mono ?_
  rintro e w' ⟨rfl, rfl⟩
  have hp100 : (l.take 100).length ≤ 100 := by rw [List.length_take]; omega
  have hpc : (l.take 100).length ≤ cap := by rw [List.length_take]; omega
  have HP1 := Lib.hid ((HB.out.keep HB1.out).take 100)
  obtain ⟨P, hP⟩ : ∃ P, P = l.take 100 := ⟨_, rfl⟩
  rw [← hP] at hp100 hpc HP1 ⊢
  clear hP HB
  go_wp2_with fail
  refine (some_any q m m.length cap2 _ rfl (HM.out.keep HB1.out) hlc2 hc2).mono ?_
  rintro e w' ⟨rfl, rfl⟩
  have hs100 : (m.take 100).length ≤ 100 := by rw [List.length_take]; omega
  have hsc : (m.take 100).length ≤ cap2 := by rw [List.length_take]; omega
  have HS1 := Lib.hid ((HM.out.keep HB1.out).take 100)
  obtain ⟨S, hS⟩ : ∃ S, S = m.take 100 := ⟨_, rfl⟩
  rw [← hS] at hs100 hsc HS1 ⊢
  clear hS HM
  go_upto_region 4 with fail
  go_cut [20] (fun v wx => ∃ b : Bool, v = .bool b ∧ (b = true → 5 < r ∧ r ≤ 64) ∧ w1 = wx)
  case first =>
    by_cases h5 : 5 < r
    · have d1 : decide (5 < r) = true := decide_eq_true h5
      by_cases h64 : r ≤ 64
      · have d2 : decide (r ≤ 64) = true := decide_eq_true h64
        go_wp2_with fail
        go_meet
        exact ⟨true, rfl, fun _ => ⟨h5, h64⟩, rfl⟩
      · have d2 : decide (r ≤ 64) = false := decide_eq_false h64
        go_wp2_with fail
        go_meet
        exact ⟨false, rfl, (fun h => by cases h), rfl⟩
    · have d1 : decide (5 < r) = false := decide_eq_false h5
      go_wp2_with fail
      go_meet
      exact ⟨false, rfl, (fun h => by cases h), rfl⟩
  case rest =>
    obtain ⟨b, rfl, hbr, rfl⟩ := hcut
    go_upto_if 20 with fail
    go_cut [2] (fun v wx => ∃ x : Int, v = .int .i64 x ∧ w1 = wx)
    case first =>
      cases b
      · go_wp2_with fail
        go_meet
        exact ⟨_, rfl, rfl⟩
      · have h5 := (hbr rfl).1
        have h64 := (hbr rfl).2
        clear hbr
        go_wp2_with fail
        go_meet
        exact ⟨_, rfl, rfl⟩
    case rest =>
      obtain ⟨x, rfl, rfl⟩ := hcut
      have hb := HB1.out
      obtain ⟨U, hU⟩ : ∃ U, U = macAt P S := ⟨_, rfl⟩
      obtain ⟨D, hD⟩ : ∃ D, D = derAt P S x := ⟨_, rfl⟩
      obtain ⟨E, hE⟩ : ∃ E : Bool, E = decide (P = S) := ⟨_, rfl⟩
      obtain ⟨PS, hPS⟩ : ∃ PS : ByteArray, PS = ⟨P.toArray⟩ := ⟨_, rfl⟩
      obtain ⟨SS, hSS⟩ : ∃ SS : ByteArray, SS = ⟨S.toArray⟩ := ⟨_, rfl⟩
      have HUL := Lib.hid (show ∀ j, U j < 256 by rw [hU]; exact macAt_lt _ _)
      have HDL := Lib.hid (show ∀ j, D j < 256 by rw [hD]; exact derAt_lt _ _ _)
      have hT := HG.out.t.keep hb
      have kp := fun d os => HP1.out.keep (below_regrown w1 d os)
      have ks := fun d os => HS1.out.keep (below_regrown w1 d os)
      have kt := fun d os => hT.keep (below_regrown w1 d os)
      have Q1 := Lib.hid (show ∀ d os, Calls Tryd.prog 12 #[.slice p P.length cap, .slice q S.length cap2] (grow (redrawn w1 d) os) (fun e w'' => e = .returned (.agg (row .u8 32 U)) ∧ ∃ p : Regrown, w'' = grow (redrawn w1 p.d) p.os) from fun d os => Calls.regrown_of (by rw [hU]; exact mac_any p P _ cap q S _ cap2 _ rfl (kp d os) (by omega) hpc hc rfl (ks d os) (by omega) (kt d os)))
      have Q2 := Lib.hid (show ∀ d os, Calls Tryd.prog 13 #[.slice p P.length cap, .slice q S.length cap2] (grow (redrawn w1 d) os) (fun e w'' => e = .returned (.agg (row .u8 32 U)) ∧ ∃ p : Regrown, w'' = grow (redrawn w1 p.d) p.os) from fun d os => Calls.regrown_of (by rw [hU]; exact rmac_any p P _ cap q S _ cap2 _ rfl (kp d os) (by omega) hnil rfl (ks d os) (by omega) hnil2))
      have Q3 := Lib.hid (show ∀ d os, Calls Tryd.prog 14 #[.slice p P.length cap, .slice q S.length cap2, .int .i64 x] (grow (redrawn w1 d) os) (fun e w'' => e = .returned (.agg (row .u8 32 D)) ∧ ∃ p : Regrown, w'' = grow (redrawn w1 p.d) p.os) from fun d os => Calls.regrown_of (by rw [hD]; exact derive_all p P _ cap q S _ cap2 x _ rfl (kp d os) (by omega) hpc hc rfl (ks d os) (by omega) (kt d os)))
      have Q4 := Lib.hid (show ∀ d os, Calls Tryd.prog 15 #[.slice p P.length cap, .slice q S.length cap2, .int .i64 x] (grow (redrawn w1 d) os) (fun e w'' => e = .returned (.agg (row .u8 32 D)) ∧ ∃ p : Regrown, w'' = grow (redrawn w1 p.d) p.os) from fun d os => Calls.regrown_of (by rw [hD]; exact rderive_all p P _ cap q S _ cap2 x _ rfl (kp d os) (by omega) hnil rfl (ks d os) (by omega) hnil2))
      have Q5 := Lib.hid (show ∀ d os, Calls Tryd.prog 16 #[.slice p P.length cap, .slice q S.length cap2] (grow (redrawn w1 d) os) (fun e w'' => e = .returned (.bool E) ∧ ∃ p : Regrown, w'' = grow (redrawn w1 p.d) p.os) from fun d os => Calls.regrown_of (by rw [hE]; exact same_any p P _ cap q S _ cap2 _ rfl (kp d os) rfl (ks d os) (by omega) (by omega)))
      have Q6 := Lib.hid (show ∀ d os, Calls Tryd.prog 16 #[.slice p P.length cap, .slice p P.length cap] (grow (redrawn w1 d) os) (fun e w'' => e = .returned (.bool true) ∧ ∃ p : Regrown, w'' = grow (redrawn w1 p.d) p.os) from fun d os => Calls.regrown_of (by have := same_any p P _ cap p P _ cap _ rfl (kp d os) rfl (kp d os) (by omega) (by omega); rwa [decide_eq_true rfl] at this))
      have c1 : ∀ d os, (convert 22 9 (.slice p P.length cap)).run Tryd.prog (grow (redrawn w1 d) os) = .ok (.string PS) (grow (redrawn w1 d) os) := fun d os => by rw [hPS]; exact bs_string (kp d os) cap
      have c2 : ∀ d os, (convert 22 9 (.slice q S.length cap2)).run Tryd.prog (grow (redrawn w1 d) os) = .ok (.string SS) (grow (redrawn w1 d) os) := fun d os => by rw [hSS]; exact bs_string (ks d os) cap2
      have q1 : (PS.toList == SS.toList) = E := by
        rw [ByteArray.toList_eq, ByteArray.toList_eq, hPS, hSS, hE, Bool.eq_iff_iff]
        simp
      have e1 := fun W => eql_row U HUL.out W
      have e2 := fun W => eql_row D HDL.out W
      clear hU hD hE hPS hSS hT kp ks kt HP1 HS1 HB1
      go_wp2_with fail
      refine wp_region_quiet_below (by kernel_rfl) (by kernel_rfl) ?_
      repeat (any_goals (go_big_quiet_step ((first | (go_at_call 12; with_reducible exact Q1.out _ _) | (go_at_call 13; with_reducible exact Q2.out _ _) | (go_at_call 14; with_reducible exact Q3.out _ _) | (go_at_call 15; with_reducible exact Q4.out _ _) | (go_at_call 16; with_reducible exact Q5.out _ _) | (go_at_call 16; with_reducible exact Q6.out _ _)))))
      refine wpQuiet_nil ?_
      intro _ hw'
      obtain ⟨⟨dq, osq⟩, hw''⟩ := hw'
      subst hw''
      replace hb := hb.trans ((below_regrown _ dq osq).mono hb.size)
      clear Q1 Q2 Q3 Q4 Q5 Q6
      go_wp2_with fail
      go_ret
      exact ⟨rfl, hb⟩

end Go.Proofs.YtjcohlpjlifolaaDoor.macAll
