/-
  'tipstafflaw03.MacShapes': for all passwords, salts and numbers it answers true.
-/
import Derived.Test.YtjcohlpjlifolaaDoorMacTexts
namespace Go.Proofs.YtjcohlpjlifolaaDoor.macShapes
open Go.RowKit Kit ShaMath ShaT MacM MacT HexMath NumMath
open Go.Sort (grow)
set_option linter.unusedVariables false
set_option maxRecDepth 100000
-- ASKS: ShaT.Tabs NumL.Gd MacT.Mx
-- NIL

set_option maxHeartbeats 2000000 in
theorem walk (s : ByteArray) (p : Option Addr) (l : List UInt8) (cap : Nat) (n : Int) (w : World) (hz : s.size ≤ 140737488351232) (hb : Bs w p l) (hl : l.length ≤ 140737488351232) (hlc : l.length ≤ cap) (hc : cap ≤ 9223372036854775807) (hnil : p = none → cap = 0)
    (n0 : 0 ≤ n) (n1 : n ≤ 255) (hg1 : Tabs w) (hg2 : NumL.Gd w) (hg3 : Mx w) :
    Calls Tryd.prog 8 #[.string s, .slice p l.length cap, .int .u8 n] w fun e w' => e = .returned (.bool true) ∧ Below w.heap.size w w' := by
  have HG := Lib.hid (All.mk hg1 hg2 hg3)
  have HB := Lib.hid hb
  have hconv := fun W => Lib.run_convert_string_bytes (P := Tryd.prog) W 9 22 5 s Tryd.underlying9 Tryd.underlying22 Tryd.underlying5
  clear hg1 hg2 hg3 hb
  go_enter Tryd.func8, Tryd.ntmps8
  go_wp2_with fail
  refine (shown_any _ HG.out).mono ?_
  rintro e w1 ⟨rfl, hb1⟩
  have HB1 := Lib.hid hb1
  clear hb1
  go_wp2_with fail
  refine (few_any p l l.length cap _ rfl (HB.out.keep HB1.out) hlc hc).mono ?_
  rintro e w' ⟨rfl, rfl⟩
  have hs40 : (l.take 40).length ≤ 40 := by rw [List.length_take]; omega
  have hsc : (l.take 40).length ≤ cap := by rw [List.length_take]; omega
  have HS1 := Lib.hid ((HB.out.keep HB1.out).take 40)
  obtain ⟨S, hS⟩ : ∃ S, S = l.take 40 := ⟨_, rfl⟩
  rw [← hS] at hs40 hsc HS1 ⊢
  clear hS HB
  obtain ⟨r, hr⟩ : ∃ r : Nat, 1 + n % 3 = (r : Int) := ⟨(1 + n % 3).toNat, by omega⟩
  have hr1 : 1 ≤ r := by omega
  have hr3 : r ≤ 3 := by omega
  have hcap := grownCap_ge w1 s.size 0 5
  have hcap2 := grownCap_le_maxLen w1 s.size 0 5 (by unfold maxLen; omega)
  unfold maxLen at hcap2
  have HBB := Lib.hid (bytesWorld_below w1 5 s)
  have HF := Lib.hid (few_any (some ⟨w1.heap.size, 0, none⟩) s.data.toList s.size (grownCap w1 s.size 0 5) (Lib.bytesWorld w1 5 s) (by simp) (bytes_bs w1 s) (by omega) (by omega))
  have hback := bs_string ((bytes_bs w1 s).take 40) (grownCap w1 s.size 0 5)
  obtain ⟨PL, hPL⟩ : ∃ PL, PL = s.data.toList.take 40 := ⟨_, rfl⟩
  have hpl : PL.length ≤ 40 := by rw [hPL, List.length_take]; omega
  rw [← hPL] at hback HF
  obtain ⟨PW, hPW⟩ : ∃ PW : ByteArray, PW = ⟨PL.toArray⟩ := ⟨_, rfl⟩
  rw [← hPW] at hback
  have hpz : PW.size ≤ 40 := by rw [hPW, size_bytes]; exact hpl
  clear hPW hPL
  have HCAP := Lib.hid hcap
  clear hcap hcap2
  go_wp2_with fail
  refine HF.out.mono ?_
  rintro e w' ⟨rfl, rfl⟩
  have HB2 := Lib.hid (HB1.out.trans (HBB.out.mono HB1.out.size))
  have HS2 := Lib.hid (HS1.out.keep HBB.out)
  clear HBB HF HS1 HB1 hconv
  generalize Lib.bytesWorld w1 5 s = w2 at HB2 HS2 hback ⊢
  go_wp2_with fail
  clear hback
  by_cases h32 : S.length ≤ 32
  · obtain ⟨d, hd⟩ : ∃ d, d = derL PW.data.toList S (r : Int) := ⟨_, rfl⟩
    have hdl : d.length = 32 := by rw [hd]; exact derL_length _ _ _
    obtain ⟨R, hR⟩ : ∃ R : ByteArray, R = ⟨(recL (r : Int) S d).toArray⟩ := ⟨_, rfl⟩
    have hRl : R.data.toList = recL (r : Int) S d := by rw [hR]
    have HRL := Lib.hid hRl
    have CR := Lib.hid (show Calls Tryd.prog 18 #[.string PW, .slice p S.length cap, .int .i64 (r : Int)] w2 (fun e w' => e = .returned (.tuple #[.string R, .bool true]) ∧ Below w2.heap.size w2 w') by rw [hR, hd]; exact record_yes PW p S S.length cap r w2 hr1 (by omega) (by omega) rfl HS2.out h32 (HG.out.t.keep HB2.out) (HG.out.n.keep HB2.out))
    have hRz : R.size = 2 * S.length + 67 := by
      have : R.data.toList.length = 2 * S.length + 67 := by
        rw [hRl, recL_length (r : Int) S d (by rw [itoa_digit r hr1 hr3]; rfl) hdl]
      simpa using this
    have HRZ := Lib.hid hRz
    have hRz1 : 67 ≤ R.size := by omega
    have hRz2 : R.size ≤ 131 := by omega
    clear hd hR hRl hRz
    refine CR.out.mono ?_
    rintro e w3 ⟨rfl, hb3⟩
    have HB3 := Lib.hid (HB2.out.trans (hb3.mono HB2.out.size))
    have HS3 := Lib.hid (HS2.out.keep hb3)
    clear hb3 HB2 HS2 CR
    have d32 : decide ((S.length : Int) ≤ 32) = true := decide_eq_true (by omega)
    have d32b : decide (S.length ≤ 32) = true := decide_eq_true h32
    have hb := HB3.out
    have HG3 := Lib.hid (HG.out.keep hb)
    have i0 := fun W => idx_at R 0 (UInt8.ofNat (48 + r)) (by rw [HRL.out, rec_list r hr1 hr3]; rfl) 0 rfl W
    have e48 : ((UInt8.ofNat (48 + r)).toNat : Int) = 48 + (r : Int) := by rw [UInt8.toNat_ofNat']; omega
    rw [e48] at i0
    have i1 := fun W => idx_at R 1 58 (by rw [HRL.out, rec_list r hr1 hr3]; rfl) 1 rfl W
    have i2 := fun W => idx_at R (2 + 2 * S.length) 58 (by
      rw [HRL.out, rec_list r hr1 hr3]
      rw [show 2 + 2 * S.length = 2 * S.length + 1 + 1 by omega, List.getElem?_cons_succ, List.getElem?_cons_succ, List.getElem?_append_right (by rw [hexL_length]; omega), hexL_length, Nat.sub_self]
      rfl) (2 + 2 * (S.length : Int)) (by omega) W
    clear e48
    obtain ⟨H, hH⟩ : ∃ H : ByteArray, H = ⟨(hexL S).toArray⟩ := ⟨_, rfl⟩
    have CH := Lib.hid (fun d os => Calls.regrown_of (show Calls Tryd.prog 23 #[.slice p S.length cap] (grow (redrawn w3 d) os) (fun e w' => e = .returned (.string H) ∧ Below (grow (redrawn w3 d) os).heap.size (grow (redrawn w3 d) os) w') by rw [hH]; exact hex_n p S S.length cap _ rfl (HS3.out.keep (below_regrown w3 d os)) (by omega)))
    have hHz : H.size = 2 * S.length := by rw [hH, size_bytes, hexL_length]
    have CT := Lib.hid (fun (T : ByteArray) (b : Bool) (hz : T.size ≤ 1048576) (hb : rightB T.data.toList = b) d os => Calls.regrown_of (show Calls Tryd.prog 20 #[.string T] (grow (redrawn w3 d) os) (fun e w' => e = .returned (.bool b) ∧ Below (grow (redrawn w3 d) os).heap.size (grow (redrawn w3 d) os) w') by rw [← hb]; exact right_any T _ hz (HG3.out.keep (below_regrown w3 d os))))
    have q0 : ((R.size : Int) == 2 + 2 * (S.length : Int) + 1 + 64) = true := by rw [HRZ.out]; simp; omega
    have q1 : (2 + 2 * (S.length : Int)).toNat = 2 + 2 * S.length := by omega
    have q2 : R.extract 2 (2 + 2 * S.length) = H := by
      apply ByteArray.ext
      apply Array.toList_inj.1
      rw [Lib.extract_data, hH, HRL.out, rec_list r hr1 hr3]
      rw [show 2 + 2 * S.length - 2 = (hexL S).length by rw [hexL_length]; omega]
      show List.take (hexL S).length (hexL S ++ 58 :: hexL d) = hexL S
      exact List.take_left
    have s1 : ∀ W, (Instr.slice 9 (.string R) (some (.int .i64 2)) (some (.int .i64 (2 + 2 * (S.length : Int)))) none).run Tryd.prog W = .ok (.string H) W := fun W => by
      have h := run_slice_string (P := Tryd.prog) W 9 R .i64 .i64 2 (2 + 2 * (S.length : Int)) Tryd.underlying9 (by omega) (by omega) (by omega)
      rw [q1, show (2 : Int).toNat = 2 from rfl, q2] at h
      exact h
    obtain ⟨R2, hR2⟩ : ∃ R2, R2 = R.extract 0 (R.size - 2) := ⟨_, rfl⟩
    have q3 := hR2.symm
    have q4 : ((R.size : Int) - 2).toNat = R.size - 2 := by omega
    have s2 : ∀ W, (Instr.slice 9 (.string R) none (some (.int .i64 ((R.size : Int) - 2))) none).run Tryd.prog W = .ok (.string R2) W := fun W => by
      have h := run_slice_string_h (P := Tryd.prog) W 9 R Tryd.underlying9 .i64 ((R.size : Int) - 2) (by omega) (by omega)
      rw [q4, q3] at h
      exact h
    have hrr : 1 ≤ (r : Int) ∧ (r : Int) ≤ 64 := by omega
    have T1 := Lib.hid (CT.out R true (by omega) (by rw [HRL.out]; exact right_recL ⟨hrr.1, hrr.2, h32, hdl⟩))
    have T2 := Lib.hid (CT.out (⟨#[48]⟩ ++ R) false (by rw [ByteArray.size_append]; show 1 + R.size ≤ 1048576; omega) (by
      apply right_none
      rw [show (⟨#[48]⟩ ++ R : ByteArray).data.toList = 48 :: R.data.toList by simp, HRL.out]
      exact rec_nought))
    have T3 := Lib.hid (CT.out R2 false (by rw [hR2, ByteArray.size_extract]; omega) (by
      apply right_none
      rw [hR2, Lib.extract_from_zero, HRL.out]
      have := rec_cut hrr S d hdl
      have e : (recL (r : Int) S d).length = R.size := by rw [← HRL.out]; simp
      rwa [e] at this))
    have T4 := Lib.hid (CT.out (R ++ ⟨#[48, 48]⟩) false (by rw [ByteArray.size_append]; show R.size + 2 ≤ 1048576; omega) (by
      apply right_none
      rw [show (R ++ ⟨#[48, 48]⟩ : ByteArray).data.toList = R.data.toList ++ [48, 48] by simp, HRL.out]
      exact rec_more hrr S d hdl))
    clear hH hR2 CT HG3 q1 q2 q3 q4
    go_wp2_with fail
    refine wp_region_quiet_below (by kernel_rfl) (by kernel_rfl) ?_
    simp only [List.append_eq, List.cons_append, List.nil_append]
    repeat (any_goals (go_big_quiet_step (first | (go_at_call 23; with_reducible exact CH.out _ _) | (go_at_call 20; with_reducible exact T1.out _ _) | (go_at_call 20; with_reducible exact T2.out _ _) | (go_at_call 20; with_reducible exact T3.out _ _) | (go_at_call 20; with_reducible exact T4.out _ _))))
    refine wpQuiet_nil ?_
    intro _ hw'
    obtain ⟨⟨dq, osq⟩, hw''⟩ := hw'
    subst hw''
    replace hb := hb.trans ((below_regrown _ dq osq).mono hb.size)
    clear CH T1 T2 T3 T4
    go_wp2_with fail
    go_ret
    exact ⟨rfl, hb⟩
  · have CR := Lib.hid (record_salt PW p S.length cap (r : Int) w2 (by omega) (by omega))
    refine CR.out.mono ?_
    rintro e w3 ⟨rfl, hb3⟩
    have hb := HB2.out.trans (hb3.mono HB2.out.size)
    have d32 : decide ((S.length : Int) ≤ 32) = false := decide_eq_false (by omega)
    have d32b : decide (S.length ≤ 32) = false := decide_eq_false h32
    clear hb3 CR
    go_wp2_with fail
    go_ret
    exact ⟨rfl, hb⟩

end Go.Proofs.YtjcohlpjlifolaaDoor.macShapes
