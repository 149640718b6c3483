/-
  FrameGrows: what was a request stays the same one, whatever comes behind it; what was none stays none.
-/
import Derived.Test.YtadffjmpkeaikaaDoorFrameFit
import Derived.Deep.RegionLaw
namespace Go.Proofs.YtadffjmpkeaikaaDoor.frameGrows
open Go.RowKit Kit BytesIn ReplyMath ReplyT NumMath NumL FrameMath FrameT FrameM FrameL
set_option linter.unusedVariables false
set_option maxRecDepth 100000
-- ASKS: NumL.Gd
-- NIL

theorem ansS_slice {base : Nat} {w : World} {v : Value} {L : List (List UInt8)} (h : AnsS base w v L) (n : Nat) (hn : L.length = n) : ∃ q c, v = .slice q n c ∧ Ss w q L ∧ n ≤ c ∧ c ≤ 9223372036854775807 ∧ (q = none → c = 0) := by
  subst hn
  obtain ⟨q, c, hv, hS, -, h1⟩ := h
  exact ⟨q, c, hv, hS, h1⟩
theorem own_slice {base : Nat} {w : World} {v : Value} {l : List UInt8} (h : OwnG base w v l) (n : Nat) (hn : l.length = n) : ∃ p c, v = .slice p n c ∧ Bs w p l ∧ n ≤ c ∧ c ≤ 9223372036854775807 ∧ (p = none → c = 0) := by
  subst hn
  obtain ⟨p, c, hv, hB, -, h1⟩ := h.ans
  exact ⟨p, c, hv, hB, h1⟩
/-- What comes of the second call, by the first. -/
theorem grows {X Z : List UInt8} : (nextL X = .bad → nextL (X ++ Z) = .bad) ∧ ∀ ws k, nextL X = .is ws k → nextL (X ++ Z) = .is ws k := ⟨fun h => nextL_bad h Z, fun ws k h => (nextL_is h).2.2.2 Z⟩

set_option maxHeartbeats 4000000 in
theorem walk (p : Option Addr) (l : List UInt8) (n c : Nat) (q : Option Addr) (z : List UInt8) (m d : Nat) (w : World) (hn : l.length = n) (hb : Bs w p l) (hc : n ≤ c) (hcm : c ≤ 9223372036854775807) (hnil : p = none → c = 0)
    (hm : z.length = m) (hbz : Bs w q z) (hd : m ≤ d) (hdm : d ≤ 9223372036854775807) (hnilz : q = none → d = 0) (hg : Gd w) :
    Calls Tryd.prog 7 #[.slice p n c, .slice q m d] w fun e w' => e = .returned (.bool true) ∧ Below w.heap.size w w' := by
  have HG := Lib.hid hg
  have C0 := Lib.hid (shown_any w hg)
  have C1 := Lib.hid (fun W (hbw : Below w.heap.size w W) => short_any p l n c W hn (hb.keep hbw) hc hcm hnil)
  obtain ⟨X, hX⟩ : ∃ X, X = l.take 1500 := ⟨_, rfl⟩
  rw [← hX] at C1
  obtain ⟨M, hM⟩ : ∃ M, M = min m 300 := ⟨_, rfl⟩
  obtain ⟨Z, hZ⟩ : ∃ Z, Z = z.take M := ⟨_, rfl⟩
  have HZl := Lib.hid (show Z.length = M by rw [hZ, List.length_take]; omega)
  have HZb := Lib.hid (show Bs w (ReplyT.partAt q d 0) Z by
    have h := partAt_bs (c := d) hbz (by omega) 0 M (by omega)
    rwa [List.drop_zero, Nat.sub_zero, ← hZ] at h)
  have q1 : ∀ W, (Instr.slice 22 (.slice q m d) none (some (.int .i64 (min (m : Int) 300))) none).run Tryd.prog W = .ok (.slice (ReplyT.partAt q d 0) M d) W := fun W => by
    have h := sl_h q m d M (by omega) W
    rw [show (M : Int) = min (m : Int) 300 by omega] at h
    exact h
  have HPn := Lib.hid (show ReplyT.partAt q d 0 = none → d = 0 from fun h => by have := partAt_none hnilz h; omega)
  obtain ⟨P, hP⟩ : ∃ P, P = ReplyT.partAt q d 0 := ⟨_, rfl⟩
  rw [← hP] at HZb q1 HPn
  have hM3 : M ≤ 300 := by omega
  have hMd : M ≤ d := by omega
  clear hb hn hbz hm hX hM hZ hP hnil hnilz hg
  go_enter Tryd.func7, Tryd.ntmps7
  go_wp2_with fail
  with_reducible refine C0.out.mono ?_
  rintro e w1 ⟨rfl, hb1⟩
  go_wp2_with fail
  with_reducible refine (C1.out w1 hb1).mono ?_
  rintro e w2 ⟨hw2, pp, n1, rfl, hn1, hB1, h1500, hn1c, hnil1⟩
  subst hw2
  have HN1 := Lib.hid hn1
  have HX := Lib.hid hB1
  have HB2 := Lib.hid hb1
  have HNil1 := Lib.hid hnil1
  have CN := Lib.hid (next_any pp X n1 c w2 hn1 hB1 hn1c hcm (by omega) hnil1 (HG.out.keep hb1))
  have hgr := @grows X Z
  have HGr := Lib.hid hgr
  have HTk := Lib.hid (takenR_le X)
  have H32 := Lib.hid (wordsR_len X)
  have H32' := Lib.hid (wordsR_len (X ++ Z))
  clear hb1 hn1 hB1 hnil1 hgr
  go_wp2_with fail
  with_reducible refine CN.out.mono ?_
  rintro e w3 ⟨v3, rfl, ha3, hb3⟩
  obtain ⟨k3, hk3⟩ : ∃ k3, k3 = (wordsR (nextL X)).length := ⟨_, rfl⟩
  have HK3 := Lib.hid hk3
  obtain ⟨q3, c3, rfl, hS3, -⟩ := ansS_slice ha3 k3 hk3.symm
  have HS3 := Lib.hid hS3
  have HB3 := Lib.hid (HB2.out.trans (hb3.mono HB2.out.size))
  have HX3 := Lib.hid (HX.out.keep hb3)
  have HZ3 := Lib.hid (HZb.out.keep HB3.out)
  obtain ⟨T3, hT3⟩ : ∃ T3, T3 = takenR (nextL X) := ⟨_, rfl⟩
  obtain ⟨E3, hE3⟩ : ∃ E3, E3 = errR (nextL X) := ⟨_, rfl⟩
  rw [← hT3, ← hE3]
  have HT3 := Lib.hid hT3
  have HE3 := Lib.hid hE3
  have CN2 := Lib.hid (fun (W : World) (r : Option Addr) (cc N : Nat) (hN : (X ++ Z).length = N) (h : Below w3.heap.size w3 W) (hB : Bs W r (X ++ Z)) (h1 : N ≤ cc) (h2 : cc ≤ 9223372036854775807) (h3 : N ≤ 65536) (h4 : r = none → cc = 0) => next_any r (X ++ Z) N cc W hN hB h1 h2 h3 h4 (HG.out.keep (HB3.out.trans (h.mono HB3.out.size))))
  have hsz1 : n1 ≤ 70368744177664 := by omega
  have HXZ := Lib.hid (show (X ++ Z).length = n1 + M by rw [List.length_append, HN1.out, HZl.out])
  clear ha3 hk3 hS3 hb3 hT3 hE3
  go_wp2_with fail
  go_region_law (first
    | (refine step_append_g (w0 := w3) rfl (.tmp 23) (.tmp 24) rfl _ [] rfl ?o1 ?o2 pp X n1 c rfl HN1.out (HX3.out.keep ?o3) HNil1.out (by simp; omega) X rfl ?_
       case o1 => exact (Emp.own (emp_a _) (Nat.le_refl _)).gen
       case o2 => exact bel_a _ _
       case o3 => exact bel_a _ _
       intro v4 w4 ho4 hb4)
    | (refine step_append_g (w0 := w3) rfl (.tmp 25) (.tmp 30) rfl v4 X rfl ho4 hb4 P Z M d rfl HZl.out (HZ3.out.keep hb4) HPn.out (by rw [HN1.out]; omega) (X ++ Z) rfl ?_
       intro v5 w5 ho5 hb5
       obtain ⟨p5, c5, rfl, hB5, hc5, hcm5, hn5⟩ := own_slice ho5 (n1 + M) HXZ.out)
    | (go_simp; (with_reducible refine (CN2.out w5 p5 c5 (n1 + M) HXZ.out hb5 hB5 hc5 hcm5 (by omega) hn5).mono ?_); rintro e w6 ⟨v6, rfl, ha6, hb6⟩; dsimp only))
  all_goals
    have HB6 := Lib.hid (hb5.trans (hb6.mono hb5.size))
    have HS6 := Lib.hid (HS3.out.keep HB6.out)
    have HBw := Lib.hid (HB3.out.trans (HB6.out.mono HB3.out.size))
    obtain ⟨k6, hk6⟩ : ∃ k6, k6 = (wordsR (nextL (X ++ Z))).length := ⟨_, rfl⟩
    obtain ⟨q6, c6, rfl, hSx, -⟩ := ansS_slice ha6 k6 hk6.symm
    have HSx := Lib.hid hSx
    have HK6 := Lib.hid hk6
    obtain ⟨T6, hT6⟩ : ∃ T6, T6 = takenR (nextL (X ++ Z)) := ⟨_, rfl⟩
    obtain ⟨E6, hE6⟩ : ∃ E6, E6 = errR (nextL (X ++ Z)) := ⟨_, rfl⟩
    rw [← hT6, ← hE6]
    have HT6 := Lib.hid hT6
    have HE6 := Lib.hid hE6
    clear ha6 hk6 hSx hT6 hE6 hb4 hb5 hb6 ho4 ho5 hB5 hc5 hcm5 hn5 CN2
    rcases hcase : nextL X with _ | _ | ⟨ws, k0⟩
    · have h6 := HGr.out.1 hcase
      obtain rfl : T3 = 0 := by rw [HT3.out, hcase]; rfl
      obtain rfl : E3 = 10 := by rw [HE3.out, hcase]; rfl
      obtain rfl : k3 = 0 := by rw [HK3.out, hcase]; rfl
      obtain rfl : T6 = 0 := by rw [HT6.out, h6]; rfl
      obtain rfl : E6 = 10 := by rw [HE6.out, h6]; rfl
      clear h6 hcase
      go_wp2_with fail
      go_ret
      exact ⟨rfl, HBw.out⟩
    · have CT := Lib.hid (same_texts q3 q6 (wordsR (nextL X)) (wordsR (nextL (X ++ Z))) k3 k6 c3 c6 w6 HK3.out.symm HK6.out.symm HS6.out HSx.out (by have := H32.out; have := HK3.out; omega))
      obtain ⟨B, hB⟩ : ∃ B, B = decide (wordsR (nextL X) = wordsR (nextL (X ++ Z))) := ⟨_, rfl⟩
      rw [← hB] at CT
      obtain rfl : T3 = 0 := by rw [HT3.out, hcase]; rfl
      obtain rfl : E3 = 0 := by rw [HE3.out, hcase]; rfl
      obtain rfl : k3 = 0 := by rw [HK3.out, hcase]; rfl
      clear hcase hB
      go_wp2_with fail
      with_reducible refine CT.out.mono ?_
      rintro e w7 ⟨rfl, hb7⟩
      go_wp2_with fail
      go_ret
      exact ⟨rfl, HBw.out.trans (hb7.mono HBw.out.size)⟩
    · have h6 := HGr.out.2 ws k0 hcase
      have CT := Lib.hid (same_texts q3 q6 (wordsR (nextL X)) (wordsR (nextL (X ++ Z))) k3 k6 c3 c6 w6 HK3.out.symm HK6.out.symm HS6.out HSx.out (by have := H32.out; have := HK3.out; omega))
      rw [show decide (wordsR (nextL X) = wordsR (nextL (X ++ Z))) = true by rw [hcase, h6]; exact decide_eq_true rfl] at CT
      obtain ⟨-, g1, g2, -⟩ := nextL_is hcase
      rw [HN1.out] at g2
      obtain rfl : T3 = k0 := by rw [HT3.out, hcase]; rfl
      obtain rfl : E3 = 0 := by rw [HE3.out, hcase]; rfl
      obtain rfl : T6 = T3 := by rw [HT6.out, h6]; rfl
      obtain rfl : E6 = 0 := by rw [HE6.out, h6]; rfl
      have e1 : ((T6 : Int) == 0) = false := by rw [beq_eq_false_iff_ne]; omega
      have e2 : ¬ ((T6 : Int) < 0) := by omega
      have e3 : ¬ ((n1 : Int) < (T6 : Int)) := by omega
      have e4 : decide ((T6 : Int) < 0) = false := decide_eq_false e2
      have e5 : decide ((n1 : Int) < (T6 : Int)) = false := decide_eq_false e3
      clear hcase h6
      go_wp2_with fail
      with_reducible refine CT.out.mono ?_
      rintro e w7 ⟨rfl, hb7⟩
      go_wp2_with fail
      go_ret
      exact ⟨rfl, HBw.out.trans (hb7.mono HBw.out.size)⟩

end Go.Proofs.YtadffjmpkeaikaaDoor.frameGrows
